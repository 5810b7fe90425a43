/- Contracts of New, Free, Zero. -/
import Derived.Test.YtnklpccggbkknaaMRead2
namespace Go.Proofs.Ytnklpccggbkknaa
open Go.ChangeShapes Go.WideShapes Go.ChangeAt Go.RowKit Pl
set_option linter.unusedSimpArgs false
set_option linter.unusedVariables false

/-- Of what is not the memory's nothing has turned; only new blocks have come to it. -/
structure MFr (R R' : Nat → Option Role) (w w' : World) : Prop where
  os : w'.os = w.os
  tape : w'.tape = w.tape
  output : w'.output = w.output
  size : w.heap.size ≤ w'.heap.size
  block : ∀ b, b < w.heap.size → R b = none → w'.heap[b]? = w.heap[b]?
  role : ∀ b, b < w.heap.size → R' b = R b
theorem MFr.refl (R : Nat → Option Role) (w : World) : MFr R R w w := ⟨rfl, rfl, rfl, Nat.le_refl _, fun _ _ _ => rfl, fun _ _ => rfl⟩
theorem MFr.trans {R R' R'' : Nat → Option Role} {a b c : World} (h : MFr R R' a b) (k : MFr R' R'' b c) : MFr R R'' a c :=
  ⟨k.os.trans h.os, k.tape.trans h.tape, k.output.trans h.output, Nat.le_trans h.size k.size, fun i hi hr => (k.block i (Nat.lt_of_lt_of_le hi h.size) ((h.role i hi).trans hr)).trans (h.block i hi hr), fun i hi => (k.role i (Nat.lt_of_lt_of_le hi h.size)).trans (h.role i hi)⟩
theorem MFr.below {R R' : Nat → Option Role} {a w w' : World} (h : MFr R R' a w) (k : Below w.heap.size w w') : MFr R R' a w' :=
  h.trans (R'' := R') ⟨k.os, k.tape, k.output, k.size, fun i hi _ => k.block i hi, fun _ _ => rfl⟩
theorem MFr.of_below {R : Nat → Option Role} {w w' : World} (k : Below w.heap.size w w') : MFr R R w w' := (MFr.refl R w).below k
/-- A memory whose blocks all lie from B on: below B nothing has turned. -/
theorem MFr.toBelow {R R' : Nat → Option Role} {w w' : World} {B : Nat} (h : MFr R R' w w') (hB : B ≤ w.heap.size) (hR : ∀ b, R b ≠ none → B ≤ b) : Below B w w' :=
  ⟨h.os, h.tape, h.output, h.size, fun k hk => h.block k (by omega) (by
    cases hr : R k with
    | none => rfl
    | some r => have := hR k (by simp [hr]); omega)⟩
theorem MFr.keep {R R' : Nat → Option Role} {w w' : World} (h : MFr R R' w w') {b o : Nat} {v : Value} (hr : R b = none) (hc : w.cell? ⟨b, o, none⟩ = some v) : w'.cell? ⟨b, o, none⟩ = some v :=
  (World.cell?_of_block (h.block b (block_lt_of_cell hc) hr)).trans hc
theorem MFr.keepZ {R R' : Nat → Option Role} {w w' : World} (h : MFr R R' w w') {b o : Nat} {v : Value} (hr : R b = none) (hc : w.cell? ⟨b, o, none⟩ = some v) (hf : w.frozen? ⟨b, o, none⟩ = false) : w'.frozen? ⟨b, o, none⟩ = false :=
  (World.frozen?_of_block (h.block b (block_lt_of_cell hc) hr)).trans hf
/-- Another memory stays as it is. -/
theorem Mem.other {w w' : World} {base p base' p' : Nat} {R R' Q : Nat → Option Role} {M : List AB} (h : Mem w base p Q M) (hf : MFr R R' w w') (hd : ∀ b, Q b ≠ none → R b = none) : Mem w' base p Q M := by
  obtain ⟨a, cap, g, cur, h⟩ := h
  exact ⟨a, cap, g, cur, h.keep hf.size fun b hb => hf.block b (h.rng b hb).2 (hd b hb)⟩

set_option maxHeartbeats 400000 in
theorem new_any (w : World) : Calls Try.prog 7 #[] w fun e w' => e = .returned (.pointer (some ⟨w.heap.size, 0, none⟩)) ∧ w' = w.alloc (.cells #[.slice none 0 0, .int .i64 0] 64) := by
  go_enter Try.func7, Try.ntmps7
  go_wp2
  go_ret
  exact ⟨rfl, rfl⟩
def oneR (p : Nat) (r : Role) : Nat → Option Role := fun b => if b = p then some r else none
theorem new_mem (w : World) (base : Nat) (hb : base ≤ w.heap.size) : Mem (w.alloc (.cells #[.slice none 0 0, .int .i64 0] 64)) base w.heap.size (oneR w.heap.size .mem) [] := by
  refine ⟨none, 0, 0, #[], heap_alloc_new w _, by simp [oneR], .inl ⟨rfl, rfl, rfl⟩, fun k ab h => by simp at h, fun b h => ?_, fun ab h => by simp at h, by simp⟩
  have : b = w.heap.size := by
    rcases Nat.decEq b w.heap.size with h1 | h1
    · simp [oneR, h1] at h
    · exact h1
  subst this
  exact ⟨hb, by simp⟩
set_option maxHeartbeats 400000 in
theorem bfree_any (g o : Nat) (u1 u3 : Value) (w : World) (c1 : w.cell? ⟨g, o + 1, none⟩ = some u1) (c3 : w.cell? ⟨g, o + 3, none⟩ = some u3) (f1 : w.frozen? ⟨g, o + 1, none⟩ = false) (f3 : w.frozen? ⟨g, o + 3, none⟩ = false) :
    Calls Try.prog 32 #[.pointer (some ⟨g, o, none⟩)] w fun e w' => e = .returned (.tuple #[]) ∧ w' = (w.setCell ⟨g, o + 1, none⟩ (.bool true)).setCell ⟨g, o + 3, none⟩ (.slice none 0 0) := by
  go_enter Try.func32, Try.ntmps32
  go_wp2
  go_end0
  exact ⟨rfl, rfl⟩
set_option maxHeartbeats 400000 in
theorem bzero_any (g o : Nat) (u1 u3 : Value) (w : World) (c1 : w.cell? ⟨g, o + 2, none⟩ = some u1) (c3 : w.cell? ⟨g, o + 3, none⟩ = some u3) (f1 : w.frozen? ⟨g, o + 2, none⟩ = false) (f3 : w.frozen? ⟨g, o + 3, none⟩ = false) :
    Calls Try.prog 43 #[.pointer (some ⟨g, o, none⟩)] w fun e w' => e = .returned (.tuple #[]) ∧ w' = (w.setCell ⟨g, o + 2, none⟩ (.bool true)).setCell ⟨g, o + 3, none⟩ (.slice none 0 0) := by
  go_enter Try.func43, Try.ntmps43
  go_wp2
  go_end0
  exact ⟨rfl, rfl⟩
def freeB (ab : AB) : AB := ⟨ab.size, true, ab.zeroed, blankF ab.size ab.zeroed⟩
def zeroB (ab : AB) : AB := ⟨ab.size, ab.freed, true, blankF ab.size true⟩
def freeM (M : List AB) (x : Int) : List AB × Bool :=
  match findK M x with
  | none => (M, false)
  | some k => match M[k]? with
    | none => (M, false)
    | some ab => (M.set k (freeB ab), true)
def zeroM (M : List AB) (x : Int) : List AB × Bool :=
  match findK M x with
  | none => (M, false)
  | some k => match M[k]? with
    | none => (M, false)
    | some ab => (M.set k (zeroB ab), true)
set_option maxHeartbeats 1000000 in
theorem free_none (p : Nat) (x : Int) (w : World) (HF : Hid (Calls Try.prog 31 #[.pointer (some ⟨p, 0, none⟩), .int .i64 x] w fun e w' => e = .returned (.pointer none) ∧ w' = w)) :
    Calls Try.prog 11 #[.pointer (some ⟨p, 0, none⟩), .int .i64 x] w fun e w' => e = .returned (.bool false) ∧ w' = w := by
  go_enter Try.func11, Try.ntmps11
  go_wp2_with (go_at_call 31; refine HF.out.mono ?_; rintro e w' ⟨rfl, hw'⟩; replace hw' := hw'.symm; subst hw')
  go_ret
  exact ⟨rfl, rfl⟩
set_option maxHeartbeats 1000000 in
theorem zero_none (p : Nat) (x : Int) (w : World) (HF : Hid (Calls Try.prog 31 #[.pointer (some ⟨p, 0, none⟩), .int .i64 x] w fun e w' => e = .returned (.pointer none) ∧ w' = w)) :
    Calls Try.prog 17 #[.pointer (some ⟨p, 0, none⟩), .int .i64 x] w fun e w' => e = .returned (.bool false) ∧ w' = w := by
  go_enter Try.func17, Try.ntmps17
  go_wp2_with (go_at_call 31; refine HF.out.mono ?_; rintro e w' ⟨rfl, hw'⟩; replace hw' := hw'.symm; subst hw')
  go_ret
  exact ⟨rfl, rfl⟩
set_option maxHeartbeats 1000000 in
theorem free_some (p g o : Nat) (x L : Int) (u1 u3 : Value) (w : World) (HF : Hid (Calls Try.prog 31 #[.pointer (some ⟨p, 0, none⟩), .int .i64 x] w fun e w' => e = .returned (.pointer (some ⟨g, o, none⟩)) ∧ w' = w))
    (c1 : w.cell? ⟨g, o + 1, none⟩ = some u1) (c3 : w.cell? ⟨g, o + 3, none⟩ = some u3) (f1 : w.frozen? ⟨g, o + 1, none⟩ = false) (f3 : w.frozen? ⟨g, o + 3, none⟩ = false)
    (hne : p ≠ g) (cp : w.cell? ⟨p, 1, none⟩ = some (.int .i64 L)) (fp : w.frozen? ⟨p, 1, none⟩ = false) (L0 : 0 ≤ L) (L1 : L ≤ 100000) :
    Calls Try.prog 11 #[.pointer (some ⟨p, 0, none⟩), .int .i64 x] w fun e w' => e = .returned (.bool true) ∧ w' = ((w.setCell ⟨g, o + 1, none⟩ (.bool true)).setCell ⟨g, o + 3, none⟩ (.slice none 0 0)).setCell ⟨p, 1, none⟩ (.int .i64 (L - 1)) := by
  go_enter Try.func11, Try.ntmps11
  go_wp2_with (first
    | (go_at_call 31; refine HF.out.mono ?_; rintro e w' ⟨rfl, hw'⟩; replace hw' := hw'.symm; subst hw')
    | (go_at_call 32; refine (bfree_any g o u1 u3 _ c1 c3 f1 f3).mono ?_; rintro e w' ⟨rfl, rfl⟩))
  go_ret
  exact ⟨rfl, rfl⟩
set_option maxHeartbeats 1000000 in
theorem zero_some (p g o : Nat) (x : Int) (u1 u3 : Value) (w : World) (HF : Hid (Calls Try.prog 31 #[.pointer (some ⟨p, 0, none⟩), .int .i64 x] w fun e w' => e = .returned (.pointer (some ⟨g, o, none⟩)) ∧ w' = w))
    (c1 : w.cell? ⟨g, o + 2, none⟩ = some u1) (c3 : w.cell? ⟨g, o + 3, none⟩ = some u3) (f1 : w.frozen? ⟨g, o + 2, none⟩ = false) (f3 : w.frozen? ⟨g, o + 3, none⟩ = false) :
    Calls Try.prog 17 #[.pointer (some ⟨p, 0, none⟩), .int .i64 x] w fun e w' => e = .returned (.bool true) ∧ w' = (w.setCell ⟨g, o + 2, none⟩ (.bool true)).setCell ⟨g, o + 3, none⟩ (.slice none 0 0) := by
  go_enter Try.func17, Try.ntmps17
  go_wp2_with (first
    | (go_at_call 31; refine HF.out.mono ?_; rintro e w' ⟨rfl, hw'⟩; replace hw' := hw'.symm; subst hw')
    | (go_at_call 43; refine (bzero_any g o u1 u3 _ c1 c3 f1 f3).mono ?_; rintro e w' ⟨rfl, rfl⟩))
  go_ret
  exact ⟨rfl, rfl⟩

theorem live_set {M : List AB} : ∀ {k : Nat} {ab ab' : AB}, M[k]? = some ab → live (M.set k ab') + (if ab.freed = true then 0 else 1) = live M + (if ab'.freed = true then 0 else 1) := by
  induction M with
  | nil => intro k ab ab' h; simp at h
  | cons x M ih =>
    intro k ab ab' h
    cases k with
    | zero =>
      simp at h
      subst h
      simp only [live, List.set_cons_zero, List.filter_cons]
      cases hx : x.freed <;> cases hy : ab'.freed <;> simp
    | succ k =>
      have := ih (k := k) (ab := ab) (ab' := ab') (by simpa using h)
      simp only [live, List.set_cons_succ, List.filter_cons] at this ⊢
      cases hx : x.freed <;> simp at this ⊢ <;> omega
theorem live_bounds (M : List AB) : 0 ≤ live M ∧ live M ≤ M.length := by
  unfold live
  have := List.length_filter_le (fun a : AB => !a.freed) M
  omega
/-- The roles' blocks are not one another. -/
theorem MemIs.pg {w : World} {base p : Nat} {R : Nat → Option Role} {a : Option Addr} {cap g : Nat} {cur : Array Value} {M : List AB} (h : MemIs w base p R a cap g cur M) (hg : R g = some .rows) : p ≠ g := by
  intro e
  have := h.rp
  rw [e, hg] at this
  cases this
theorem heap_set_other {w : World} {b b' o : Nat} {v : Value} (h : b ≠ b') : (w.setCell ⟨b', o, none⟩ v).heap[b]? = w.heap[b]? := Below.heap_setCell w ⟨b', o, none⟩ v b h
theorem size_set (w : World) (p : Addr) (u : Value) : (w.setCell p u).heap.size = w.heap.size := by simp [World.setCell]
theorem sib_ne {c : Array Value} {i j : Nat} {v : Value} (h : i ≠ j) : (c.setIfInBounds i v)[j]? = c[j]? := by
  rw [Array.getElem?_setIfInBounds_ne h]
theorem sib_eq {c : Array Value} {i : Nat} {u v : Value} (h : c[i]? = some u) : (c.setIfInBounds i v)[i]? = some v := by
  rw [Array.getElem?_setIfInBounds_self, if_pos]
  rcases Nat.lt_or_ge i c.size with h1 | h1
  · exact h1
  · rw [Array.getElem?_eq_none h1] at h; cases h
theorem free_any {w : World} {base p : Nat} {R : Nat → Option Role} {M : List AB} (h : Mem w base p R M) (x : Int) :
    Calls Try.prog 11 #[.pointer (some ⟨p, 0, none⟩), .int .i64 x] w fun e w' => e = .returned (.bool (freeM M x).2) ∧ Mem w' base p R (freeM M x).1 ∧ MFr R R w w' := by
  obtain ⟨a, cap, g, cur, h⟩ := h
  have hF := find_any h x
  cases hf : findK M x with
  | none =>
    rw [hf] at hF
    have e : freeM M x = (M, false) := by simp [freeM, hf]
    rw [e]
    exact (free_none p x w hF).mono fun e w' ⟨h1, h2⟩ => ⟨h1, by rw [h2]; exact ⟨a, cap, g, cur, h⟩, by rw [h2]; exact MFr.refl _ _⟩
  | some k =>
    rw [hf] at hF
    obtain ⟨_, ab, hab, hfr⟩ := findK_some hf
    obtain ⟨_, hgR, hh, _⟩ := h.has hab
    have e : freeM M x = (M.set k (freeB ab), true) := by simp [freeM, hf, hab]
    rw [e]
    have hb := h.blk k ab hab
    obtain ⟨pv, hpv, hpo⟩ := hb.p
    have hpg := h.pg hgR
    have hlb := live_bounds M
    have hl := h.len
    refine (free_some p g (k * 4) x (live M) _ _ w hF (heap_cell hh hb.f) (heap_cell hh hpv) (heap_frozen hh) (heap_frozen hh) hpg h.c1 (heap_frozen h.hp) hlb.1 (by omega)).mono ?_
    rintro e w' ⟨rfl, rfl⟩
    refine ⟨rfl, ⟨a, cap, g, _, h.turn (w' := _) (R' := R) (cur' := (cur.setIfInBounds (k * 4 + 1) (.bool true)).setIfInBounds (k * 4 + 3) (.slice none 0 0)) hab ?_ ?_ (by simp) ?_ ?_ (fun _ _ h _ => h) (fun b hb => by simp only [size_set]; exact h.rng b hb) ?_ (h.sz ab (List.mem_of_getElem? hab))⟩, ?_⟩
    · have := heap_set_same (o := 1) (v := .int .i64 (live M - 1)) (((heap_set_other (w := w.setCell ⟨g, k * 4 + 1, none⟩ (.bool true)) (o := k * 4 + 3) (v := .slice none 0 0) hpg).trans (heap_set_other (o := k * 4 + 1) (v := .bool true) hpg)).trans h.hp)
      rw [this]
      have hL := live_set (ab' := freeB ab) hab
      simp only [hfr, freeB, if_true, Bool.false_eq_true, if_false] at hL
      have : live (M.set k (freeB ab)) = live M - 1 := by unfold freeB; omega
      rw [this]
      rfl
    · rw [heap_set_other hpg.symm]
      exact heap_set_same (heap_set_same hh _) _
    · intro o ho
      rw [sib_ne (by omega), sib_ne (by omega)]
    · refine ⟨?_, ?_, ?_, .slice none 0 0, ?_, .inl ⟨rfl, fun i => rfl⟩⟩
      · rw [sib_ne (by omega), sib_ne (by omega)]; exact hb.s
      · rw [sib_ne (by omega)]; exact sib_eq hb.f
      · rw [sib_ne (by omega), sib_ne (by omega)]; exact hb.z
      · exact sib_eq (u := pv) (by rw [sib_ne (by omega)]; exact hpv)
    · intro b r hr _ h1 h2
      have n1 : b ≠ p := fun e => by subst e; rw [h.rp] at hr; cases hr; exact h1 rfl
      have n2 : b ≠ g := fun e => by subst e; rw [hgR] at hr; cases hr; exact h2 rfl
      rw [heap_set_other n1, heap_set_other n2, heap_set_other n2]
    · refine ⟨rfl, rfl, rfl, by simp only [size_set]; exact Nat.le_refl _, fun b _ hr => ?_, fun _ _ => rfl⟩
      have n1 : b ≠ p := fun e => by subst e; rw [h.rp] at hr; cases hr
      have n2 : b ≠ g := fun e => by subst e; rw [hgR] at hr; cases hr
      rw [heap_set_other n1, heap_set_other n2, heap_set_other n2]
theorem zero_any {w : World} {base p : Nat} {R : Nat → Option Role} {M : List AB} (h : Mem w base p R M) (x : Int) :
    Calls Try.prog 17 #[.pointer (some ⟨p, 0, none⟩), .int .i64 x] w fun e w' => e = .returned (.bool (zeroM M x).2) ∧ Mem w' base p R (zeroM M x).1 ∧ MFr R R w w' := by
  obtain ⟨a, cap, g, cur, h⟩ := h
  have hF := find_any h x
  cases hf : findK M x with
  | none =>
    rw [hf] at hF
    have e : zeroM M x = (M, false) := by simp [zeroM, hf]
    rw [e]
    exact (zero_none p x w hF).mono fun e w' ⟨h1, h2⟩ => ⟨h1, by rw [h2]; exact ⟨a, cap, g, cur, h⟩, by rw [h2]; exact MFr.refl _ _⟩
  | some k =>
    rw [hf] at hF
    obtain ⟨_, ab, hab, hfr⟩ := findK_some hf
    obtain ⟨_, hgR, hh, _⟩ := h.has hab
    have e : zeroM M x = (M.set k (zeroB ab), true) := by simp [zeroM, hf, hab]
    rw [e]
    have hb := h.blk k ab hab
    obtain ⟨pv, hpv, hpo⟩ := hb.p
    have hpg := h.pg hgR
    refine (zero_some p g (k * 4) x _ _ w hF (heap_cell hh hb.z) (heap_cell hh hpv) (heap_frozen hh) (heap_frozen hh)).mono ?_
    rintro e w' ⟨rfl, rfl⟩
    refine ⟨rfl, ⟨a, cap, g, _, h.turn (w' := _) (R' := R) (cur' := (cur.setIfInBounds (k * 4 + 2) (.bool true)).setIfInBounds (k * 4 + 3) (.slice none 0 0)) hab ?_ ?_ (by simp) ?_ ?_ (fun _ _ h _ => h) (fun b hb => by simp only [size_set]; exact h.rng b hb) ?_ (h.sz ab (List.mem_of_getElem? hab))⟩, ?_⟩
    · rw [heap_set_other hpg, heap_set_other hpg, h.hp]
      have hL := live_set (ab' := zeroB ab) hab
      simp only [hfr, zeroB, if_true, Bool.false_eq_true, if_false] at hL
      have : live (M.set k (zeroB ab)) = live M := by unfold zeroB; simp only [hfr]; omega
      rw [this]
    · exact heap_set_same (heap_set_same hh _) _
    · intro o ho
      rw [sib_ne (by omega), sib_ne (by omega)]
    · refine ⟨?_, ?_, ?_, .slice none 0 0, ?_, .inl ⟨rfl, fun i => rfl⟩⟩
      · rw [sib_ne (by omega), sib_ne (by omega)]; exact hb.s
      · rw [sib_ne (by omega), sib_ne (by omega)]; exact hb.f
      · rw [sib_ne (by omega)]; exact sib_eq hb.z
      · exact sib_eq (u := pv) (by rw [sib_ne (by omega)]; exact hpv)
    · intro b r hr _ h1 h2
      have n2 : b ≠ g := fun e => by subst e; rw [hgR] at hr; cases hr; exact h2 rfl
      rw [heap_set_other n2, heap_set_other n2]
    · refine ⟨rfl, rfl, rfl, by simp only [size_set]; exact Nat.le_refl _, fun b _ hr => ?_, fun _ _ => rfl⟩
      have n2 : b ≠ g := fun e => by subst e; rw [hgR] at hr; cases hr
      rw [heap_set_other n2, heap_set_other n2]
end Go.Proofs.Ytnklpccggbkknaa
