/- Contracts of the document's own Free, Zero, Live. -/
import Derived.Test.YtnklpccggbkknaaNInv
namespace Go.Proofs.Ytnklpccggbkknaa
open Go.ChangeShapes Go.WideShapes Go.ChangeAt Go.RowKit Pl
set_option linter.unusedSimpArgs false
set_option linter.unusedVariables false

theorem isN_true {N : RM} {x : Int} (h : isN N x = true) : ∃ (k : Nat) (rb : RB), x = (k : Int) + 1 ∧ N.L[k]? = some rb ∧ rb.freed = false := by
  unfold isN at h
  split at h
  · cases h
  · split at h
    · cases h
    · rename_i rb hrb
      exact ⟨(x - 1).toNat, rb, by omega, hrb, by simpa using h⟩
def rfree (rb : RB) : RB := ⟨rb.bytes, true⟩
def rzero (rb : RB) : RB := ⟨List.replicate rb.bytes.length 0, rb.freed⟩
def freeN (N : RM) (x : Int) : RM × Bool := if isN N x = true then (match N.L[(x - 1).toNat]? with
    | none => (N, false)
    | some rb => (⟨N.L.set (x - 1).toNat (rfree rb), N.ptrs⟩, true)) else (N, false)
def zeroN (N : RM) (x : Int) : RM × Bool := if isN N x = true then (match N.L[(x - 1).toNat]? with
    | none => (N, false)
    | some rb => (⟨N.L.set (x - 1).toNat (rzero rb), N.ptrs⟩, true)) else (N, false)
set_option maxHeartbeats 400000 in
theorem rfree_no (p : Nat) (x : Int) (w : World) (HI : Hid (Calls Try.prog 20 #[.pointer (some ⟨p, 0, none⟩), .int .i64 x] w fun e w' => e = .returned (.bool false) ∧ w' = w)) :
    Calls Try.prog 12 #[.pointer (some ⟨p, 0, none⟩), .int .i64 x] w fun e w' => e = .returned (.bool false) ∧ w' = w := by
  go_enter Try.func12, Try.ntmps12
  go_wp2_with (go_at_call 20; refine HI.out.mono ?_; rintro e w' ⟨rfl, hw'⟩; replace hw' := hw'.symm; subst hw')
  go_ret
  exact ⟨rfl, rfl⟩
set_option maxHeartbeats 400000 in
theorem rfree_yes (p n cap g k : Nat) (x : Int) (u : Value) (w : World) (HI : Hid (Calls Try.prog 20 #[.pointer (some ⟨p, 0, none⟩), .int .i64 x] w fun e w' => e = .returned (.bool true) ∧ w' = w))
    (c0 : w.cell? ⟨p, 0, none⟩ = some (.slice (some ⟨g, 0, none⟩) n cap)) (hk : x - 1 = k) (hw : wrap64 (k : Int) = k) (k1 : (k : Int) < n) (cf : w.cell? ⟨g, k * 2 + 1, none⟩ = some u) (ff : w.frozen? ⟨g, k * 2 + 1, none⟩ = false) :
    Calls Try.prog 12 #[.pointer (some ⟨p, 0, none⟩), .int .i64 x] w fun e w' => e = .returned (.bool true) ∧ w' = w.setCell ⟨g, k * 2 + 1, none⟩ (.bool true) := by
  have k0 : (0 : Int) ≤ k := by omega
  go_enter Try.func12, Try.ntmps12
  go_wp2_with (go_at_call 20; refine HI.out.mono ?_; rintro e w' ⟨rfl, hw'⟩; replace hw' := hw'.symm; subst hw')
  go_ret
  exact ⟨rfl, rfl⟩
/-- What a call that may write the document's memory leaves. -/
def RWrote (base p : Nat) (R : Nat → Option Role) (N' : RM) (v : Value) (w : World) : Ending → World → Prop := fun e w' => e = .returned v ∧ ∃ R', RMem w' base p R' N' ∧ MFr R R' w w'
theorem rfree_any {w : World} {base p : Nat} {R : Nat → Option Role} {N : RM} (h : RMem w base p R N) (x : Int) :
    Calls Try.prog 12 #[.pointer (some ⟨p, 0, none⟩), .int .i64 x] w (RWrote base p R (freeN N x).1 (.bool (freeN N x).2) w) := by
  have hI := is_any h x
  have hN := h
  obtain ⟨a, cap, g, cur, a2, cap2, g2, cur2, h⟩ := h
  cases hi : isN N x with
  | false =>
    rw [hi] at hI
    have e : freeN N x = (N, false) := by simp [freeN, hi]
    rw [e]
    exact (rfree_no p x w hI).mono fun e w' ⟨h1, h2⟩ => ⟨h1, R, by rw [h2]; exact hN, by rw [h2]; exact MFr.refl _ _⟩
  | true =>
    rw [hi] at hI
    obtain ⟨k, rb, rfl, hrb, hfr⟩ := isN_true hi
    have ek : ((k : Int) + 1 - 1).toNat = k := by omega
    have e : freeN N ((k : Int) + 1) = (⟨N.L.set k (rfree rb), N.ptrs⟩, true) := by simp only [freeN, hi, if_true, ek, hrb]
    rw [e]
    obtain ⟨rfl, hgR, hh, _⟩ := h.has hrb
    obtain ⟨bb, hb1, hb2, hb3, hb4⟩ := h.blk k rb hrb
    have hl := h.len
    have hlt := lt_of_get hrb
    refine (rfree_yes p _ cap g k _ _ w hI h.c0 (by omega) (wrapN k (by omega)) (by omega) (heap_cell hh hb2) (heap_frozen hh)).mono ?_
    rintro e w' ⟨rfl, rfl⟩
    have hne : ∀ b r, R b = some r → r ≠ .rows → (w.setCell ⟨g, k * 2 + 1, none⟩ (.bool true)).heap[b]? = w.heap[b]? := fun b r hr hn => heap_set_other (Role.ne_of hr hgR hn)
    refine ⟨rfl, R, ⟨_, cap, g, cur.setIfInBounds (k * 2 + 1) (.bool true), a2, cap2, g2, cur2, h.turn hrb (size_set _ _ _) (heap_set_same hh _) (by simp) (fun o ho => sib_ne (by omega)) ⟨bb, by rw [sib_ne (by omega)]; exact hb1, sib_eq hb2, hb3, by rw [hne bb _ hb3 (by simp)]; exact hb4⟩ (fun b r hr _ h2 => hne b r hr h2) (h.sz rb (List.mem_of_getElem? hrb))⟩, rfl, rfl, rfl, by rw [size_set]; exact Nat.le_refl _, fun b _ hr => heap_set_other (fun e => by subst e; rw [hgR] at hr; cases hr), fun _ _ => rfl⟩
/-- The first i bytes are 0. -/
def zupto (l : List Int) (i : Nat) : List Int := List.replicate i 0 ++ l.drop i
theorem zupto_len (l : List Int) (i : Nat) (h : i ≤ l.length) : (zupto l i).length = l.length := by simp [zupto]; omega
theorem zupto_set (l : List Int) (i : Nat) (h : i < l.length) : (zupto l i).set i 0 = zupto l (i + 1) := by
  unfold zupto
  rw [List.set_append_right _ _ (by simp), List.length_replicate, Nat.sub_self]
  rw [List.drop_eq_getElem_cons h, List.set_cons_zero, List.replicate_succ', List.append_assoc]
  rfl
theorem intCells_get (l : List Int) (i : Nat) : (intCells l)[i]? = (l[i]?).map (Value.int .i64) := by simp [intCells]
theorem intCells_set (l : List Int) (i : Nat) (x : Int) : (intCells l).setIfInBounds i (.int .i64 x) = intCells (l.set i x) := by
  simp [intCells, List.setIfInBounds_toArray, List.map_set]
set_option maxHeartbeats 400000 in
theorem rzero_no (p : Nat) (x : Int) (w : World) (HI : Hid (Calls Try.prog 20 #[.pointer (some ⟨p, 0, none⟩), .int .i64 x] w fun e w' => e = .returned (.bool false) ∧ w' = w)) :
    Calls Try.prog 18 #[.pointer (some ⟨p, 0, none⟩), .int .i64 x] w fun e w' => e = .returned (.bool false) ∧ w' = w := by
  go_enter Try.func18, Try.ntmps18
  go_wp2_with (go_at_call 20; refine HI.out.mono ?_; rintro e w' ⟨rfl, hw'⟩; replace hw' := hw'.symm; subst hw')
  go_ret
  exact ⟨rfl, rfl⟩
/-- Of the world nothing has turned but the block b, which holds these ints. -/
structure IntsAt (w w' : World) (b : Nat) (l : List Int) : Prop where
  os : w'.os = w.os
  tape : w'.tape = w.tape
  output : w'.output = w.output
  size : w'.heap.size = w.heap.size
  block : ∀ k, k ≠ b → w'.heap[k]? = w.heap[k]?
  row : w'.heap[b]? = some (.cells (intCells l) 3 (0, 0))
set_option maxHeartbeats 1000000 in
theorem rzero_yes (p n cap g k bb : Nat) (x : Int) (l : List Int) (w : World) (HI : Hid (Calls Try.prog 20 #[.pointer (some ⟨p, 0, none⟩), .int .i64 x] w fun e w' => e = .returned (.bool true) ∧ w' = w))
    (c0 : w.cell? ⟨p, 0, none⟩ = some (.slice (some ⟨g, 0, none⟩) n cap)) (hk : x - 1 = k) (hw : wrap64 (k : Int) = k) (k1 : (k : Int) < n) (cb : w.cell? ⟨g, k * 2, none⟩ = some (.slice (some ⟨bb, 0, none⟩) l.length l.length)) (hl : l.length ≤ 65536) (hrow : w.heap[bb]? = some (.cells (intCells l) 3 (0, 0))) :
    Calls Try.prog 18 #[.pointer (some ⟨p, 0, none⟩), .int .i64 x] w fun e w' => e = .returned (.bool true) ∧ IntsAt w w' bb (List.replicate l.length 0) := by
  have k0 : (0 : Int) ≤ k := by omega
  have H0 : Hid (IntsAt w w bb (zupto l 0)) := ⟨rfl, rfl, rfl, rfl, fun _ _ => rfl, by simpa [zupto] using hrow⟩
  clear hrow
  obtain ⟨m, hm⟩ : ∃ m, m = l.length := ⟨_, rfl⟩
  have HM : Hid (m = l.length) := hm
  rw [← hm] at cb hl
  clear hm
  go_enter Try.func18, Try.ntmps18
  go_wp2_with (go_at_call 20; refine HI.out.mono ?_; rintro e w' ⟨rfl, hw'⟩; replace hw' := hw'.symm; subst hw')
  go_loopw [6] (fun v wr => ∃ i : Nat, i ≤ m ∧ v = .int .i64 i ∧ Hid (IntsAt w wr bb (zupto l i))) (fun v _ => m - (intOf v).toNat)
  case atStart => exact ⟨0, by omega, rfl, H0⟩
  case round =>
    obtain ⟨i, hi, rfl, HA⟩ := hrel
    by_cases him : i < m
    · have i0 : (0 : Int) ≤ i := by omega
      have i1 : (i : Int) < m := by omega
      obtain ⟨y, hy⟩ : ∃ y, (zupto l i)[i]? = some y := ⟨_, List.getElem?_eq_getElem (by rw [zupto_len l i (by rw [← HM.out]; omega), ← HM.out]; exact him)⟩
      have ci : wr.cell? ⟨bb, i, none⟩ = some (.int .i64 y) := heap_cell HA.out.row (by rw [intCells_get, hy]; rfl)
      have fi : wr.frozen? ⟨bb, i, none⟩ = false := heap_frozen HA.out.row
      clear hy
      go_wp2
      go_roundw
      case rel =>
        refine ⟨i + 1, by omega, by simp, ?_⟩
        have h := HA.out
        refine ⟨h.os, h.tape, h.output, (size_set _ _ _).trans h.size, fun q hq => (heap_set_other hq).trans (h.block q hq), ?_⟩
        rw [heap_set_same h.row, intCells_set, zupto_set l i (by rw [← HM.out]; exact him)]
      case measure => simp [intOf]; omega
    · have hie : i = m := by omega
      subst hie
      go_wp2
      go_ret
      refine ⟨rfl, ?_⟩
      have := HA.out
      rw [HM.out] at this
      simpa [zupto] using this
theorem rzero_any {w : World} {base p : Nat} {R : Nat → Option Role} {N : RM} (h : RMem w base p R N) (x : Int) :
    Calls Try.prog 18 #[.pointer (some ⟨p, 0, none⟩), .int .i64 x] w (RWrote base p R (zeroN N x).1 (.bool (zeroN N x).2) w) := by
  have hI := is_any h x
  have hN := h
  obtain ⟨a, cap, g, cur, a2, cap2, g2, cur2, h⟩ := h
  cases hi : isN N x with
  | false =>
    rw [hi] at hI
    have e : zeroN N x = (N, false) := by simp [zeroN, hi]
    rw [e]
    exact (rzero_no p x w hI).mono fun e w' ⟨h1, h2⟩ => ⟨h1, R, by rw [h2]; exact hN, by rw [h2]; exact MFr.refl _ _⟩
  | true =>
    rw [hi] at hI
    obtain ⟨k, rb, rfl, hrb, hfr⟩ := isN_true hi
    have ek : ((k : Int) + 1 - 1).toNat = k := by omega
    have e : zeroN N ((k : Int) + 1) = (⟨N.L.set k (rzero rb), N.ptrs⟩, true) := by simp only [zeroN, hi, if_true, ek, hrb]
    rw [e]
    obtain ⟨rfl, hgR, hh, _⟩ := h.has hrb
    obtain ⟨bb, hb1, hb2, hb3, hb4⟩ := h.blk k rb hrb
    have hl := h.len
    have hlt := lt_of_get hrb
    have hs := h.sz rb (List.mem_of_getElem? hrb)
    refine (rzero_yes p _ cap g k bb _ rb.bytes w hI h.c0 (by omega) (wrapN k (by omega)) (by omega) (heap_cell hh hb1) hs hb4).mono ?_
    rintro e w' ⟨rfl, hz⟩
    have hne : ∀ b r, R b = some r → r ≠ .pages k → w'.heap[b]? = w.heap[b]? := fun b r hr hn => hz.block b (Role.ne_of hr hb3 hn)
    refine ⟨rfl, R, ⟨_, cap, g, cur, a2, cap2, g2, cur2, h.turn hrb hz.size (by rw [hne g _ hgR (by simp)]; exact hh) rfl (fun _ _ => rfl) ⟨bb, by simpa [rzero] using hb1, hb2, hb3, hz.row⟩ (fun b r hr h1 _ => hne b r hr h1) (by simpa [rzero] using hs)⟩, hz.os, hz.tape, hz.output, by rw [hz.size]; exact Nat.le_refl _, fun b _ hr => hz.block b (fun e => by subst e; rw [hb3] at hr; cases hr), fun _ _ => rfl⟩
end Go.Proofs.Ytnklpccggbkknaa
