/- Contracts of Blocks, Live, Size, New, Load. -/
import Derived.Test.YtnklpccggbkknaaMRead
namespace Go.Proofs.Ytnklpccggbkknaa
open Go.ChangeShapes Go.WideShapes Go.ChangeAt Go.RowKit Pl
set_option linter.unusedSimpArgs false
set_option linter.unusedVariables false

set_option maxHeartbeats 1000000 in
theorem blocks_any (p n cap : Nat) (a : Option Addr) (w : World) (c0 : w.cell? ⟨p, 0, none⟩ = some (.slice a n cap)) :
    Calls Try.prog 21 #[.pointer (some ⟨p, 0, none⟩)] w fun e w' => e = .returned (.int .i64 n) ∧ w' = w := by
  go_enter Try.func21, Try.ntmps21
  go_wp2
  go_ret
  exact ⟨rfl, rfl⟩
set_option maxHeartbeats 1000000 in
theorem live_any (p : Nat) (n : Int) (w : World) (c0 : w.cell? ⟨p, 1, none⟩ = some (.int .i64 n)) :
    Calls Try.prog 22 #[.pointer (some ⟨p, 0, none⟩)] w fun e w' => e = .returned (.int .i64 n) ∧ w' = w := by
  go_enter Try.func22, Try.ntmps22
  go_wp2
  go_ret
  exact ⟨rfl, rfl⟩
def sizeM (M : List AB) (x : Int) : Int × Bool :=
  match findK M x with
  | none => (0, false)
  | some k => match M[k]? with
    | none => (0, false)
    | some ab => (ab.size, true)
set_option maxHeartbeats 1000000 in
theorem size_none (p : Nat) (x : Int) (w : World) (HF : Hid (Calls Try.prog 31 #[.pointer (some ⟨p, 0, none⟩), .int .i64 x] w fun e w' => e = .returned (.pointer none) ∧ w' = w)) :
    Calls Try.prog 19 #[.pointer (some ⟨p, 0, none⟩), .int .i64 x] w fun e w' => e = .returned (.tuple #[.int .i64 0, .bool false]) ∧ w' = w := by
  go_enter Try.func19, Try.ntmps19
  go_wp2_with (go_at_call 31; refine HF.out.mono ?_; rintro e w' ⟨rfl, hw'⟩; replace hw' := hw'.symm; subst hw')
  go_ret2
  exact ⟨rfl, rfl⟩
set_option maxHeartbeats 1000000 in
theorem size_some (p g o : Nat) (s x : Int) (w : World) (c0 : w.cell? ⟨g, o, none⟩ = some (.int .i64 s)) (HF : Hid (Calls Try.prog 31 #[.pointer (some ⟨p, 0, none⟩), .int .i64 x] w fun e w' => e = .returned (.pointer (some ⟨g, o, none⟩)) ∧ w' = w)) :
    Calls Try.prog 19 #[.pointer (some ⟨p, 0, none⟩), .int .i64 x] w fun e w' => e = .returned (.tuple #[.int .i64 s, .bool true]) ∧ w' = w := by
  go_enter Try.func19, Try.ntmps19
  go_wp2_with (go_at_call 31; refine HF.out.mono ?_; rintro e w' ⟨rfl, hw'⟩; replace hw' := hw'.symm; subst hw')
  go_ret2
  exact ⟨rfl, rfl⟩
theorem size_any {w : World} {base p : Nat} {R : Nat → Option Role} {M : List AB} (h : Mem w base p R M) (x : Int) :
    Calls Try.prog 19 #[.pointer (some ⟨p, 0, none⟩), .int .i64 x] w fun e w' => e = .returned (.tuple #[.int .i64 (sizeM M x).1, .bool (sizeM M x).2]) ∧ w' = w := by
  obtain ⟨a, cap, g, cur, h⟩ := h
  have hF := find_any h x
  cases hf : findK M x with
  | none =>
    rw [hf] at hF
    have e : sizeM M x = (0, false) := by simp [sizeM, hf]
    rw [e]
    exact size_none p x w hF
  | some k =>
    rw [hf] at hF
    obtain ⟨_, ab, hab, _⟩ := findK_some hf
    obtain ⟨_, _, hh, _⟩ := h.has hab
    have e : sizeM M x = ((ab.size : Int), true) := by simp [sizeM, hf, hab]
    rw [e]
    exact size_some p g (k * 4) ab.size x w ((h.blk k ab hab).cells hh).1 hF

def loadM (M : List AB) (c : Int) (v : V) : V × Bool :=
  match rightK M c v with
  | none => (noV, false)
  | some k => match M[k]? with
    | none => (noV, false)
    | some ab => (loadF (ab.wd (v.n / 8).toNat) (laneF c (v.n % 8)), true)
set_option maxHeartbeats 1000000 in
theorem load_none (p : Nat) (c vk vn vb : Int) (w : World)
    (HF : Hid (∀ W, Below w.heap.size w W → Calls Try.prog 33 #[.pointer (some ⟨p, 0, none⟩), .int .i64 c, .agg #[.int .i64 vk, .int .i64 vn, .int .i64 vb]] W (retP (.pointer none) W))) :
    Calls Try.prog 13 #[.pointer (some ⟨p, 0, none⟩), .int .i64 c, .agg #[.int .i64 vk, .int .i64 vn, .int .i64 vb]] w (retV noV false w) := by
  go_enter Try.func13, Try.ntmps13
  go_wp2_with (go_at_call 33; refine (HF.out _ (by repeat (first | with_reducible exact Below.refl _ _ | with_reducible refine bel_alloc ?_ _ | with_reducible refine bel_set ?_ (by first | exact Nat.le_refl _ | (simp; done) | (simp; omega)) _ | with_reducible refine Below.drew ?_ | refine bel_trans ?_ (by assumption)))).mono ?_; rintro e w1 ⟨rfl, hb1⟩; obtain ⟨hc1, hf1⟩ := bcell hb1; have hz1 := bsize hb1; try simp only [World.size_alloc, World.size_drew, World.cell?_drew, World.frozen?_drew] at hz1 hc1 hf1)
  exact end_V (by simp [results, Try.results13, go_sem, noV, hc1, hf1]) rfl (by repeat (first | with_reducible exact Below.refl _ _ | with_reducible refine bel_alloc ?_ _ | with_reducible refine bel_set ?_ (by first | exact Nat.le_refl _ | (simp; done) | (simp; omega)) _ | with_reducible refine Below.drew ?_ | refine bel_trans ?_ (by assumption)))
set_option maxHeartbeats 1000000 in
theorem load_some (p g o i : Nat) (c vk vn vb d : Int) (x : WD) (w : World) (hq : wrap64 (vn.tdiv 8) = i) (c0 : 0 ≤ c) (c8 : c ≤ 8) (hd : vn.tmod 8 = d) (d0 : 0 ≤ d) (d7 : d ≤ 7)
    (HF : Hid (∀ W, Below w.heap.size w W → Calls Try.prog 33 #[.pointer (some ⟨p, 0, none⟩), .int .i64 c, .agg #[.int .i64 vk, .int .i64 vn, .int .i64 vb]] W (retP (.pointer (some ⟨g, o, none⟩)) W)))
    (HW : Hid (∀ W, Below w.heap.size w W → Calls Try.prog 34 #[.pointer (some ⟨g, o, none⟩), .int .i64 i] W (retW x W))) :
    Calls Try.prog 13 #[.pointer (some ⟨p, 0, none⟩), .int .i64 c, .agg #[.int .i64 vk, .int .i64 vn, .int .i64 vb]] w (retV (loadF x (laneF c d)) true w) := by
  have hs : 0 ≤ (laneF c d).s := by simp only [laneF]; omega
  have LC : Hid (∀ W, Calls Try.prog 36 #[.int .i64 c, .int .i64 vn] W (retL (laneF c d) W)) := fun W => lanes_any c vn d c0 c8 hd d0 d7 W
  have LF : Hid (∀ W, Calls Try.prog 35 #[.agg #[.int .u8 x.kn, .int .u8 x.pt, .int .u64 x.bt, .int .i64 x.k, .int .i64 x.n, .int .i64 x.b], .agg #[.int .i64 (laneF c d).c, .int .i64 (laneF c d).s, .int .u8 (laneF c d).m, .int .u64 (laneF c d).w]] W (retA (loadF x (laneF c d)) W)) := fun W => load_any x _ hs W
  clear hs c0 c8 hd d0 d7
  generalize laneF c d = L at *
  generalize loadF x L = y at *
  go_enter Try.func13, Try.ntmps13
  go_wp2_with (first
    | (go_at_call 33; refine (HF.out _ (by repeat (first | with_reducible exact Below.refl _ _ | with_reducible refine bel_alloc ?_ _ | with_reducible refine bel_set ?_ (by first | exact Nat.le_refl _ | (simp; done) | (simp; omega)) _ | with_reducible refine Below.drew ?_ | refine bel_trans ?_ (by assumption)))).mono ?_; rintro e w1 ⟨rfl, hb1⟩; have hz1 := bsize hb1; (try simp only [World.size_alloc] at hz1); have d0 := keep_cell hb1 (p := ⟨w.heap.size, 0, none⟩) (v := .int .i64 vk) (by go_simp); have d1 := keep_cell hb1 (p := ⟨w.heap.size, 1, none⟩) (v := .int .i64 vn) (by go_simp); have d2 := keep_cell hb1 (p := ⟨w.heap.size, 2, none⟩) (v := .int .i64 vb) (by go_simp); have d3 := keep_cell hb1 (p := ⟨w.heap.size + 1, 0, none⟩) (v := .int .i64 0) (by go_simp); have d4 := keep_cell hb1 (p := ⟨w.heap.size + 1, 1, none⟩) (v := .int .i64 0) (by go_simp); have d5 := keep_cell hb1 (p := ⟨w.heap.size + 1, 2, none⟩) (v := .int .i64 0) (by go_simp); have z3 := keep_frozen hb1 (p := ⟨w.heap.size + 1, 0, none⟩) (v := .int .i64 0) (by go_simp) (by go_simp); have z4 := keep_frozen hb1 (p := ⟨w.heap.size + 1, 1, none⟩) (v := .int .i64 0) (by go_simp) (by go_simp); have z5 := keep_frozen hb1 (p := ⟨w.heap.size + 1, 2, none⟩) (v := .int .i64 0) (by go_simp) (by go_simp))
    | (go_at_call 34; refine (HW.out _ (by repeat (first | with_reducible exact Below.refl _ _ | with_reducible refine bel_alloc ?_ _ | with_reducible refine bel_set ?_ (by first | exact Nat.le_refl _ | (simp; done) | (simp; omega)) _ | with_reducible refine Below.drew ?_ | refine bel_trans ?_ (by assumption)))).mono ?_; rintro e w2 ⟨rfl, hb2⟩; replace z3 := keep_frozen hb2 d3 z3; replace z4 := keep_frozen hb2 d4 z4; replace z5 := keep_frozen hb2 d5 z5; replace d0 := keep_cell hb2 d0; replace d1 := keep_cell hb2 d1; replace d2 := keep_cell hb2 d2; replace d3 := keep_cell hb2 d3; replace d4 := keep_cell hb2 d4; replace d5 := keep_cell hb2 d5)
    | (go_at_call 36; refine (LC.out _).mono ?_; rintro e w3 ⟨rfl, hb3⟩; replace z3 := keep_frozen hb3 d3 z3; replace z4 := keep_frozen hb3 d4 z4; replace z5 := keep_frozen hb3 d5 z5; replace d0 := keep_cell hb3 d0; replace d1 := keep_cell hb3 d1; replace d2 := keep_cell hb3 d2; replace d3 := keep_cell hb3 d3; replace d4 := keep_cell hb3 d4; replace d5 := keep_cell hb3 d5)
    | (go_at_call 35; refine (LF.out _).mono ?_; rintro e w4 ⟨rfl, hb4⟩; replace z3 := keep_frozen hb4 d3 z3; replace z4 := keep_frozen hb4 d4 z4; replace z5 := keep_frozen hb4 d5 z5; replace d0 := keep_cell hb4 d0; replace d1 := keep_cell hb4 d1; replace d2 := keep_cell hb4 d2; replace d3 := keep_cell hb4 d3; replace d4 := keep_cell hb4 d4; replace d5 := keep_cell hb4 d5))
  exact end_V (by simp [results, Try.results13, go_sem, d3, d4, d5, z3, z4, z5]) rfl (by repeat (first | with_reducible exact Below.refl _ _ | with_reducible refine bel_alloc ?_ _ | with_reducible refine bel_set ?_ (by first | exact Nat.le_refl _ | (simp; done) | (simp; omega)) _ | with_reducible refine Below.drew ?_ | refine bel_trans ?_ (by assumption)))
theorem load_mem {w : World} {base p : Nat} {R : Nat → Option Role} {M : List AB} (h : Mem w base p R M) (c : Int) (v : V) :
    Calls Try.prog 13 #[.pointer (some ⟨p, 0, none⟩), .int .i64 c, .agg #[.int .i64 v.k, .int .i64 v.n, .int .i64 v.b]] w (retV (loadM M c v).1 (loadM M c v).2 w) := by
  obtain ⟨a, cap, g, cur, h⟩ := h
  cases hr : rightK M c v with
  | none =>
    have e : loadM M c v = (noV, false) := by simp [loadM, hr]
    rw [e]
    exact load_none p c v.k v.n v.b w (fun W hW => by have := right_any (h.below hW) c v; rw [hr] at this; exact this)
  | some k =>
    obtain ⟨hc, _, _, hf, ab, hab, _, n0, n1, n2⟩ := rightK_some hr
    obtain ⟨_, _, hh, _⟩ := h.has hab
    have hs := h.sz ab (List.mem_of_getElem? hab)
    have e : loadM M c v = (loadF (ab.wd (v.n / 8).toNat) (laneF c (v.n % 8)), true) := by simp [loadM, hr, hab]
    rw [e]
    have hnp : (v.n / 8).toNat / 64 < ab.np := by unfold AB.np AB.nw; omega
    refine load_some p g (k * 4) (v.n / 8).toNat c v.k v.n v.b (v.n % 8) _ w ?_ (by omega) (by omega) ?_ (by omega) (by omega) (fun W hW => by have := right_any (h.below hW) c v; rw [hr] at this; exact this) (fun W hW => ?_)
    · rw [Int.tdiv_eq_ediv_of_nonneg n0]; unfold wrap64; omega
    · rw [Int.tmod_eq_emod_of_nonneg n0]
    · have h' := h.below hW
      obtain ⟨_, _, hh', _⟩ := h'.has hab
      exact word_blk (h'.blk k ab hab) hh' hs _ hnp (by omega)
end Go.Proofs.Ytnklpccggbkknaa
