/- The words of a block: contracts of low, lowWide, zeros, lanesOf, number, load, forget, store. -/
import Derived.Test.YtnklpccggbkknaaMLeaf
namespace Go.Proofs.Ytnklpccggbkknaa
open Go.ChangeShapes Go.WideShapes Go.ChangeAt Go.RowKit Pl
set_option linter.unusedSimpArgs false
set_option linter.unusedVariables false

/-- Eight bytes: which are numbers, which are parts of a pointer, the numbers, the pointer. -/
structure WD where
  kn : Int
  pt : Int
  bt : Int
  k : Int
  n : Int
  b : Int
/-- The bytes of a word that an access is of. -/
structure LN where
  c : Int
  s : Int
  m : Int
  w : Int
def lowF (c : Int) : Int := (2 ^ min c.toNat 8 % 256 - 1) % 256
def lowWF (c : Int) : Int := IntKind.u64.wrap (IntKind.u64.wrap (2 ^ (8 * c).toNat) - 1)
def numF (c u : Int) : V := if c = 1 then ofF (wrap64 (IntKind.i8.wrap u)) else if c = 4 then ofF (wrap64 (wrap32 u)) else ofF (wrap64 u)
def zeroW (z : Int) : WD := ⟨lowF (if 8 < z then 8 else if 0 < z then z else 0), 0, 0, 0, 0, 0⟩
/-- The lanes of c bytes behind d bytes. -/
def laneF (c d : Int) : LN := ⟨c, 8 * d, IntKind.u8.wrap (lowF c * 2 ^ d.toNat), IntKind.u64.wrap (lowWF c * 2 ^ (8 * d).toNat)⟩
def retL (x : LN) (w : World) : Ending → World → Prop := fun e w' =>
  e = .returned (.agg #[.int .i64 x.c, .int .i64 x.s, .int .u8 x.m, .int .u64 x.w]) ∧ Below w.heap.size w w'
def retW (x : WD) (w : World) : Ending → World → Prop := fun e w' =>
  e = .returned (.agg #[.int .u8 x.kn, .int .u8 x.pt, .int .u64 x.bt, .int .i64 x.k, .int .i64 x.n, .int .i64 x.b]) ∧ Below w.heap.size w w'

set_option maxHeartbeats 400000 in
theorem low_any (c : Int) (h0 : 0 ≤ c) (w : World) : Calls Try.prog 50 #[.int .i64 c] w fun e w' => e = .returned (.int .u8 (lowF c)) ∧ w' = w := by
  go_enter Try.func50, Try.ntmps50
  go_wp2
  go_ret
  exact ⟨rfl, rfl⟩
set_option maxHeartbeats 400000 in
theorem lowW_any (c : Int) (h0 : 0 ≤ c) (h1 : c ≤ 8) (w : World) : Calls Try.prog 51 #[.int .i64 c] w fun e w' => e = .returned (.int .u64 (lowWF c)) ∧ w' = w := by
  go_enter Try.func51, Try.ntmps51
  go_wp2
  go_ret
  exact ⟨rfl, rfl⟩
set_option maxHeartbeats 400000 in
theorem number_any (c u : Int) (w : World) : Calls Try.prog 49 #[.int .i64 c, .int .u64 u] w (retA (numF c u) w) := by
  by_cases h1 : c = 1
  · subst h1
    go_enter Try.func49, Try.ntmps49
    go_wp2_with (go_at_call 57; refine (of_any _ _).mono ?_; rintro e w1 ⟨rfl, hb1⟩; obtain ⟨hc1, hf1⟩ := bcell hb1; have hz1 := bsize hb1; try simp only [World.size_alloc, World.size_drew, World.cell?_drew, World.frozen?_drew] at hz1 hc1 hf1)
    exact end_A (by simp [results, Try.results49, go_sem, numF, ofF, hc1, hf1]) rfl (by repeat (first | with_reducible exact Below.refl _ _ | with_reducible refine bel_alloc ?_ _ | with_reducible refine bel_set ?_ (by first | exact Nat.le_refl _ | (simp; done) | (simp; omega)) _ | with_reducible refine Below.drew ?_ | refine bel_trans ?_ (by assumption)))
  by_cases h4 : c = 4
  · subst h4
    go_enter Try.func49, Try.ntmps49
    go_wp2_with (go_at_call 57; refine (of_any _ _).mono ?_; rintro e w1 ⟨rfl, hb1⟩; obtain ⟨hc1, hf1⟩ := bcell hb1; have hz1 := bsize hb1; try simp only [World.size_alloc, World.size_drew, World.cell?_drew, World.frozen?_drew] at hz1 hc1 hf1)
    exact end_A (by simp [results, Try.results49, go_sem, numF, ofF, hc1, hf1]) rfl (by repeat (first | with_reducible exact Below.refl _ _ | with_reducible refine bel_alloc ?_ _ | with_reducible refine bel_set ?_ (by first | exact Nat.le_refl _ | (simp; done) | (simp; omega)) _ | with_reducible refine Below.drew ?_ | refine bel_trans ?_ (by assumption)))
  have g1 : (c == 1) = false := by simp [h1]
  have g4 : (c == 4) = false := by simp [h4]
  go_enter Try.func49, Try.ntmps49
  go_wp2_with (go_at_call 57; refine (of_any _ _).mono ?_; rintro e w1 ⟨rfl, hb1⟩; obtain ⟨hc1, hf1⟩ := bcell hb1; have hz1 := bsize hb1; try simp only [World.size_alloc, World.size_drew, World.cell?_drew, World.frozen?_drew] at hz1 hc1 hf1)
  exact end_A (by simp [results, Try.results49, go_sem, numF, ofF, hc1, hf1, h1, h4]) rfl (by repeat (first | with_reducible exact Below.refl _ _ | with_reducible refine bel_alloc ?_ _ | with_reducible refine bel_set ?_ (by first | exact Nat.le_refl _ | (simp; done) | (simp; omega)) _ | with_reducible refine Below.drew ?_ | refine bel_trans ?_ (by assumption)))
set_option maxHeartbeats 400000 in
theorem zeros_any (z : Int) (w : World) : Calls Try.prog 56 #[.int .i64 z] w (retW (zeroW z) w) := by
  go_enter Try.func56, Try.ntmps56
  go_wp2_with (go_at_call 50; refine (low_any _ (by omega) _).mono ?_; rintro e w' ⟨rfl, hw'⟩; replace hw' := hw'.symm; subst hw')
  · exact bodyPost_ret (by simp [results, Try.results56, go_sem]; rfl) rfl ⟨by simp [zeroW, h], (by repeat (first | with_reducible exact Below.refl _ _ | with_reducible refine bel_alloc ?_ _ | with_reducible refine bel_set ?_ (by first | exact Nat.le_refl _ | (simp; done) | (simp; omega)) _ | with_reducible refine Below.drew ?_ | refine bel_trans ?_ (by assumption)))⟩
  · exact bodyPost_ret (by simp [results, Try.results56, go_sem]; rfl) rfl ⟨by simp [zeroW, h, show ¬ 8 < z by omega], (by repeat (first | with_reducible exact Below.refl _ _ | with_reducible refine bel_alloc ?_ _ | with_reducible refine bel_set ?_ (by first | exact Nat.le_refl _ | (simp; done) | (simp; omega)) _ | with_reducible refine Below.drew ?_ | refine bel_trans ?_ (by assumption)))⟩
  · exact bodyPost_ret (by simp [results, Try.results56, go_sem]; rfl) rfl ⟨by simp [zeroW, h, show ¬ 8 < z by omega, show ¬ 0 < z by omega], (by repeat (first | with_reducible exact Below.refl _ _ | with_reducible refine bel_alloc ?_ _ | with_reducible refine bel_set ?_ (by first | exact Nat.le_refl _ | (simp; done) | (simp; omega)) _ | with_reducible refine Below.drew ?_ | refine bel_trans ?_ (by assumption)))⟩
set_option maxHeartbeats 1000000 in
theorem lanes_any (c a d : Int) (h0 : 0 ≤ c) (h8 : c ≤ 8) (hd : a.tmod 8 = d) (d0 : 0 ≤ d) (d7 : d ≤ 7) (w : World) : Calls Try.prog 36 #[.int .i64 c, .int .i64 a] w (retL (laneF c d) w) := by
  obtain ⟨e8, he8⟩ : ∃ e8, 8 * d = e8 := ⟨_, rfl⟩
  have e0 : 0 ≤ e8 := by omega
  have ew : IntKind.i64.wrap e8 = e8 := by rw [i64w]; unfold wrap64; omega
  have hL : laneF c d = ⟨c, e8, IntKind.u8.wrap (lowF c * 2 ^ d.toNat), IntKind.u64.wrap (lowWF c * 2 ^ e8.toNat)⟩ := by unfold laneF; rw [he8]
  rw [hL]
  clear hL
  go_enter Try.func36, Try.ntmps36
  go_wp2
  go_region_with (first | (go_at_call 50; refine (low_any _ (by omega) _).mono ?_; rintro e w' ⟨rfl, hw'⟩; replace hw' := hw'.symm; subst hw') | (go_at_call 51; refine (lowW_any _ (by omega) (by omega) _).mono ?_; rintro e w' ⟨rfl, hw'⟩; replace hw' := hw'.symm; subst hw'))
  all_goals
    go_wp2
    exact bodyPost_ret (by simp [results, Try.results36, go_sem]) rfl ⟨rfl, (by repeat (first | with_reducible exact Below.refl _ _ | assumption | with_reducible refine bel_alloc ?_ _ | with_reducible refine Below.drew ?_ | with_reducible refine bel_drewN ?_ _ | with_reducible refine bel_set ?_ (by go_light; first | (simp; done) | (simp; omega) | omega) _ | refine bel_trans ?_ (by assumption)))⟩
theorem u64bd (x : Int) : 0 ≤ IntKind.u64.wrap x := by rw [u64w]; omega
def wcell (x : WD) : List Value := [.int .u8 x.kn, .int .u8 x.pt, .int .u64 x.bt, .int .i64 x.k, .int .i64 x.n, .int .i64 x.b]
def loadF (x : WD) (l : LN) : V :=
  if bits .and .u8 x.kn l.m = l.m then numF l.c (x.bt / 2 ^ min l.s.toNat 64)
  else if bits .and .u8 x.pt l.m = l.m ∧ l.c = 8 then ⟨x.k, x.n, x.b⟩ else noV
set_option maxHeartbeats 1000000 in
theorem load_any (x : WD) (l : LN) (hs : 0 ≤ l.s) (w : World) : Calls Try.prog 35 #[.agg #[.int .u8 x.kn, .int .u8 x.pt, .int .u64 x.bt, .int .i64 x.k, .int .i64 x.n, .int .i64 x.b], .agg #[.int .i64 l.c, .int .i64 l.s, .int .u8 l.m, .int .u64 l.w]] w (retA (loadF x l) w) := by
  obtain ⟨kn, pt, bt, k, n, b⟩ := x
  obtain ⟨c, s, m, wd⟩ := l
  simp only at hs
  simp only []
  by_cases h1 : bits .and .u8 kn m = m
  · have hF : loadF ⟨kn, pt, bt, k, n, b⟩ ⟨c, s, m, wd⟩ = numF c (bt / 2 ^ min s.toNat 64) := by unfold loadF; rw [if_pos h1]
    rw [hF]; clear hF
    go_enter Try.func35, Try.ntmps35
    go_wp2
    go_region_held3 (fun w' => w'.cell? ⟨w.heap.size + 1, 0, none⟩ = some (.int .i64 c) ∧ w'.cell? ⟨w.heap.size, 2, none⟩ = some (.int .u64 bt) ∧ w'.cell? ⟨w.heap.size + 1, 1, none⟩ = some (.int .i64 s))
      ((go_simp; done)) (first | (go_at_call 49; refine (number_any _ _ _).mono ?_; rintro e w1 ⟨rfl, hb1⟩; obtain ⟨hc1, hf1⟩ := bcell hb1; have hz1 := bsize hb1; try simp only [World.size_alloc, World.size_drew, World.cell?_drew, World.frozen?_drew] at hz1 hc1 hf1))
    all_goals
      go_wp2
      exact end_A (by simp [results, Try.results35, go_sem, hc1, hf1]) rfl (by repeat (first | with_reducible exact Below.refl _ _ | assumption | with_reducible refine bel_alloc ?_ _ | with_reducible refine Below.drew ?_ | with_reducible refine bel_drewN ?_ _ | with_reducible refine bel_set ?_ (by go_light; first | (simp; done) | (simp; omega) | omega) _ | refine bel_trans ?_ (by assumption)))
  by_cases h2 : bits .and .u8 pt m = m
  · by_cases h3 : c = 8
    · subst h3
      have hF : loadF ⟨kn, pt, bt, k, n, b⟩ ⟨8, s, m, wd⟩ = ⟨k, n, b⟩ := by unfold loadF; rw [if_neg h1, if_pos ⟨h2, rfl⟩]
      rw [hF]; clear hF
      have g1 : (bits .and .u8 kn m == m) = false := by simp [h1]
      go_enter Try.func35, Try.ntmps35
      go_wp2
      exact end_A (by simp [results, Try.results35, go_sem]) rfl (by repeat (first | with_reducible exact Below.refl _ _ | with_reducible refine bel_alloc ?_ _ | with_reducible refine bel_set ?_ (by first | exact Nat.le_refl _ | (simp; done) | (simp; omega)) _ | with_reducible refine Below.drew ?_ | refine bel_trans ?_ (by assumption)))
    · have hF : loadF ⟨kn, pt, bt, k, n, b⟩ ⟨c, s, m, wd⟩ = noV := by unfold loadF; rw [if_neg h1, if_neg (fun h => h3 h.2)]
      rw [hF]; clear hF
      have g1 : (bits .and .u8 kn m == m) = false := by simp [h1]
      have g3 : (c == 8) = false := by simp [h3]
      go_enter Try.func35, Try.ntmps35
      go_wp2
      exact end_A (by simp [results, Try.results35, go_sem, noV]) rfl (by repeat (first | with_reducible exact Below.refl _ _ | with_reducible refine bel_alloc ?_ _ | with_reducible refine bel_set ?_ (by first | exact Nat.le_refl _ | (simp; done) | (simp; omega)) _ | with_reducible refine Below.drew ?_ | refine bel_trans ?_ (by assumption)))
  · have hF : loadF ⟨kn, pt, bt, k, n, b⟩ ⟨c, s, m, wd⟩ = noV := by unfold loadF; rw [if_neg h1, if_neg (fun h => h2 h.1)]
    rw [hF]; clear hF
    have g1 : (bits .and .u8 kn m == m) = false := by simp [h1]
    have g2 : (bits .and .u8 pt m == m) = false := by simp [h2]
    go_enter Try.func35, Try.ntmps35
    go_wp2
    exact end_A (by simp [results, Try.results35, go_sem, noV]) rfl (by repeat (first | with_reducible exact Below.refl _ _ | with_reducible refine bel_alloc ?_ _ | with_reducible refine bel_set ?_ (by first | exact Nat.le_refl _ | (simp; done) | (simp; omega)) _ | with_reducible refine Below.drew ?_ | refine bel_trans ?_ (by assumption)))

/-- Of the world w nothing has turned but six cells of one block. -/
structure WFr (w w' : World) (q e : Nat) : Prop where
  os : w'.os = w.os
  tape : w'.tape = w.tape
  output : w'.output = w.output
  size : w.heap.size ≤ w'.heap.size
  block : ∀ k, k < w.heap.size → k ≠ q → w'.heap[k]? = w.heap[k]?
  fz : ∀ o, w'.frozen? ⟨q, o, none⟩ = w.frozen? ⟨q, o, none⟩
  old : ∀ o, (o < e ∨ e + 6 ≤ o) → w'.cell? ⟨q, o, none⟩ = w.cell? ⟨q, o, none⟩
structure WIs (w : World) (q e : Nat) (x : WD) : Prop where
  c0 : w.cell? ⟨q, e, none⟩ = some (.int .u8 x.kn)
  c1 : w.cell? ⟨q, e + 1, none⟩ = some (.int .u8 x.pt)
  c2 : w.cell? ⟨q, e + 2, none⟩ = some (.int .u64 x.bt)
  c3 : w.cell? ⟨q, e + 3, none⟩ = some (.int .i64 x.k)
  c4 : w.cell? ⟨q, e + 4, none⟩ = some (.int .i64 x.n)
  c5 : w.cell? ⟨q, e + 5, none⟩ = some (.int .i64 x.b)
theorem WFr.refl (w : World) (q e : Nat) : WFr w w q e := ⟨rfl, rfl, rfl, Nat.le_refl _, fun _ _ _ => rfl, fun _ => rfl, fun _ _ => rfl⟩
theorem WFr.trans {a b c : World} {q e : Nat} (h : WFr a b q e) (k : WFr b c q e) : WFr a c q e :=
  ⟨k.os.trans h.os, k.tape.trans h.tape, k.output.trans h.output, Nat.le_trans h.size k.size, fun i hi hn => (k.block i (Nat.lt_of_lt_of_le hi h.size) hn).trans (h.block i hi hn), fun o => (k.fz o).trans (h.fz o), fun o ho => (k.old o ho).trans (h.old o ho)⟩
theorem WFr.below {a w w' : World} {q e : Nat} (h : WFr a w q e) (hq : q < w.heap.size) (k : Below w.heap.size w w') : WFr a w' q e :=
  h.trans ⟨k.os, k.tape, k.output, k.size, fun i hi _ => k.block i hi, fun o => k.frozen (p := ⟨q, o, none⟩) hq, fun o _ => k.cell (p := ⟨q, o, none⟩) hq⟩
theorem WFr.alloc {a w : World} {q e : Nat} (h : WFr a w q e) (hq : q < a.heap.size) (o : Obj) : WFr a (w.alloc o) q e :=
  h.below (Nat.lt_of_lt_of_le hq h.size) ((Below.refl _ w).alloc (Nat.le_refl _) o)
theorem WFr.drew {a w : World} {q e : Nat} (h : WFr a w q e) : WFr a w.drew q e := ⟨h.os, h.tape, h.output, h.size, h.block, h.fz, h.old⟩
theorem WFr.set {a w : World} {q e : Nat} (h : WFr a w q e) (o : Nat) (ho : e ≤ o ∧ o < e + 6) (u : Value) : WFr a (w.setCell ⟨q, o, none⟩ u) q e :=
  h.trans ⟨rfl, rfl, rfl, by simp [World.setCell], fun k hk hn => Below.heap_setCell _ _ _ _ hn, fun o' => World.frozen?_setCell _ _ _ _, fun o' h' => World.cell?_setCell_other _ _ _ _ (fun h => by have := congrArg Addr.off h; simp only at this; omega)⟩
theorem WFr.keep {w w' : World} {q e : Nat} (h : WFr w w' q e) {k o : Nat} {v : Value} (hne : k ≠ q) (hc : w.cell? ⟨k, o, none⟩ = some v) : w'.cell? ⟨k, o, none⟩ = some v :=
  (World.cell?_of_block (h.block k (block_lt_of_cell hc) hne)).trans hc
theorem World.frozen?_alloc2 (w : World) (o1 o2 : Obj) (p : Addr) (h : p.block < w.heap.size) : ((w.alloc o1).alloc o2).frozen? p = w.frozen? p := by
  have hb := ((Below.refl _ w).alloc (Nat.le_refl _) o1).alloc (by simp) o2
  exact hb.frozen h
def fgW (x : WD) (m wd : Int) : WD :=
  if bits .andNot .u8 x.pt m = 0 then ⟨bits .andNot .u8 x.kn m, 0, bits .andNot .u64 x.bt wd, 0, 0, 0⟩
  else ⟨bits .andNot .u8 x.kn m, bits .andNot .u8 x.pt m, bits .andNot .u64 x.bt wd, x.k, x.n, x.b⟩
set_option maxHeartbeats 1000000 in
theorem forget_any (q e : Nat) (x : WD) (l : LN) (w : World) (hx : WIs w q e x) (hf : ∀ o, w.frozen? ⟨q, o, none⟩ = false) :
    Calls Try.prog 54 #[.pointer (some ⟨q, e, none⟩), .agg #[.int .i64 l.c, .int .i64 l.s, .int .u8 l.m, .int .u64 l.w]] w
      fun en w' => en = .returned (.tuple #[]) ∧ WFr w w' q e ∧ WIs w' q e (fgW x l.m l.w) := by
  obtain ⟨kn, pt, bt, k, n, b⟩ := x
  obtain ⟨c, s, m, wd⟩ := l
  obtain ⟨c0, c1, c2, c3, c4, c5⟩ := hx
  simp only at c0 c1 c2 c3 c4 c5
  have hq : q < w.heap.size := block_lt_of_cell c0
  have f0 := hf e; have f1 := hf (e + 1); have f2 := hf (e + 2); have f3 := hf (e + 3); have f4 := hf (e + 4); have f5 := hf (e + 5)
  have HF : Hid (∀ o, w.frozen? ⟨q, o, none⟩ = false) := hf
  clear hf
  simp only []
  obtain ⟨kn', hkn⟩ : ∃ y, bits .andNot .u8 kn m = y := ⟨_, rfl⟩
  obtain ⟨pt', hpt⟩ : ∃ y, bits .andNot .u8 pt m = y := ⟨_, rfl⟩
  obtain ⟨bt', hbt⟩ : ∃ y, bits .andNot .u64 bt wd = y := ⟨_, rfl⟩
  unfold fgW
  simp only [hkn, hpt, hbt]
  by_cases h0 : pt' = 0
  · subst h0
    simp only [if_true]
    go_enter Try.func54, Try.ntmps54
    go_wp2
    go_region
    all_goals go_wp2
    all_goals go_region
    all_goals go_wp2
    all_goals go_region
    all_goals go_wp2
    all_goals go_end0
    all_goals exact ⟨rfl, (by repeat (first | with_reducible exact WFr.refl _ _ _ | with_reducible refine WFr.set ?_ _ (by omega) _ | with_reducible refine WFr.drew ?_ | with_reducible refine WFr.alloc ?_ (by assumption) _)), ⟨by go_simp, by go_simp, by go_simp, by go_simp, by go_simp, by go_simp⟩⟩
  · have g0 : (pt' == 0) = false := by simp [h0]
    simp only [if_neg h0]
    go_enter Try.func54, Try.ntmps54
    go_wp2
    go_region
    all_goals go_wp2
    all_goals go_region
    all_goals go_wp2
    all_goals go_region
    all_goals go_wp2
    all_goals go_end0
    all_goals exact ⟨rfl, (by repeat (first | with_reducible exact WFr.refl _ _ _ | with_reducible refine WFr.set ?_ _ (by omega) _ | with_reducible refine WFr.drew ?_ | with_reducible refine WFr.alloc ?_ (by assumption) _)), ⟨by go_simp, by go_simp, by go_simp, by go_simp, by go_simp, by go_simp⟩⟩

def shF (n s : Int) : Int := IntKind.u64.wrap (IntKind.u64.wrap n * 2 ^ min s.toNat 64)
def stW (x : WD) (l : LN) (v : V) : WD :=
  if v.k = 1 then { fgW x l.m l.w with kn := bits .or .u8 (fgW x l.m l.w).kn l.m, bt := bits .or .u64 (fgW x l.m l.w).bt (bits .and .u64 (shF v.n l.s) l.w) }
  else if v.k = 2 then { fgW x l.m l.w with pt := l.m, k := v.k, n := v.n, b := v.b }
  else fgW x l.m l.w
set_option maxHeartbeats 1000000 in
theorem store_any (q e : Nat) (x : WD) (l : LN) (v : V) (w : World) (hs : 0 ≤ l.s) (hx : WIs w q e x) (hf : ∀ o, w.frozen? ⟨q, o, none⟩ = false) :
    Calls Try.prog 41 #[.pointer (some ⟨q, e, none⟩), .agg #[.int .i64 l.c, .int .i64 l.s, .int .u8 l.m, .int .u64 l.w], .agg #[.int .i64 v.k, .int .i64 v.n, .int .i64 v.b]] w
      fun en w' => en = .returned (.tuple #[]) ∧ WFr w w' q e ∧ WIs w' q e (stW x l v) := by
  obtain ⟨c, s, m, wd⟩ := l
  obtain ⟨vk, vn, vb⟩ := v
  have hq : q < w.heap.size := block_lt_of_cell hx.c0
  simp only at hs
  simp only []
  unfold stW
  simp only []
  generalize hy : fgW x m wd = y
  obtain ⟨kn, pt, bt, k, n, b⟩ := y
  simp only []
  have HY : Hid (fgW x m wd = ⟨kn, pt, bt, k, n, b⟩) := hy
  have HX : Hid (WIs w q e x) := hx
  have HF : Hid (∀ o, w.frozen? ⟨q, o, none⟩ = false) := hf
  clear hy hx hf
  have fcon : ∀ W, Below w.heap.size w W → Calls Try.prog 54 #[.pointer (some ⟨q, e, none⟩), .agg #[.int .i64 c, .int .i64 s, .int .u8 m, .int .u64 wd]] W
      fun en w' => en = .returned (.tuple #[]) ∧ WFr W w' q e ∧ WIs w' q e ⟨kn, pt, bt, k, n, b⟩ := fun W hW => by
    have hcl : ∀ o, W.cell? ⟨q, o, none⟩ = w.cell? ⟨q, o, none⟩ := fun o => hW.cell (p := ⟨q, o, none⟩) hq
    have h := HX.out
    have hy := forget_any q e x ⟨c, s, m, wd⟩ W ⟨(hcl _).trans h.c0, (hcl _).trans h.c1, (hcl _).trans h.c2, (hcl _).trans h.c3, (hcl _).trans h.c4, (hcl _).trans h.c5⟩ (fun o => (hW.frozen (p := ⟨q, o, none⟩) hq).trans (HF.out o))
    rw [HY.out] at hy
    exact hy
  have FC : Hid _ := fcon
  clear fcon
  by_cases h1 : vk = 1
  · subst h1
    simp only [if_true]
    obtain ⟨sh, hsh⟩ : ∃ y, shF vn s = y := ⟨_, rfl⟩
    rw [hsh]
    unfold shF at hsh
    go_enter Try.func41, Try.ntmps41
    go_wp2_with (go_at_call 54; refine (FC.out _ (by repeat (first | with_reducible exact Below.refl _ _ | with_reducible refine bel_alloc ?_ _ | with_reducible refine bel_set ?_ (by first | exact Nat.le_refl _ | (simp; done) | (simp; omega)) _ | with_reducible refine Below.drew ?_ | refine bel_trans ?_ (by assumption)))).mono ?_; rintro e' w1 ⟨rfl, hfr, ⟨c0, c1, c2, c3, c4, c5⟩⟩; simp only at c0 c1 c2 c3 c4 c5; have hz1 := hfr.size; simp only [World.size_alloc] at hz1; have d0 := hfr.keep (k := w.heap.size) (o := 0) (v := .int .i64 c) (by omega) (by go_simp); have d1 := hfr.keep (k := w.heap.size) (o := 1) (v := .int .i64 s) (by omega) (by go_simp); have d2 := hfr.keep (k := w.heap.size) (o := 2) (v := .int .u8 m) (by omega) (by go_simp); have d3 := hfr.keep (k := w.heap.size) (o := 3) (v := .int .u64 wd) (by omega) (by go_simp); have d4 := hfr.keep (k := w.heap.size + 1) (o := 0) (v := .int .i64 1) (by omega) (by go_simp); have d5 := hfr.keep (k := w.heap.size + 1) (o := 1) (v := .int .i64 vn) (by omega) (by go_simp); have d6 := hfr.keep (k := w.heap.size + 1) (o := 2) (v := .int .i64 vb) (by omega) (by go_simp); have f0 : w1.frozen? ⟨q, e, none⟩ = false := (hfr.fz _).trans (by rw [World.frozen?_alloc2 _ _ _ _ hq]; exact HF.out _); have f1 : w1.frozen? ⟨q, e + 1, none⟩ = false := (hfr.fz _).trans (by rw [World.frozen?_alloc2 _ _ _ _ hq]; exact HF.out _); have f2 : w1.frozen? ⟨q, e + 2, none⟩ = false := (hfr.fz _).trans (by rw [World.frozen?_alloc2 _ _ _ _ hq]; exact HF.out _); have f3 : w1.frozen? ⟨q, e + 3, none⟩ = false := (hfr.fz _).trans (by rw [World.frozen?_alloc2 _ _ _ _ hq]; exact HF.out _); have f4 : w1.frozen? ⟨q, e + 4, none⟩ = false := (hfr.fz _).trans (by rw [World.frozen?_alloc2 _ _ _ _ hq]; exact HF.out _); have f5 : w1.frozen? ⟨q, e + 5, none⟩ = false := (hfr.fz _).trans (by rw [World.frozen?_alloc2 _ _ _ _ hq]; exact HF.out _); have HW : Hid (WFr _ _ _ _) := hfr; clear hfr)
    go_region
    all_goals go_wp2
    all_goals go_region
    all_goals go_wp2
    all_goals go_end0
    all_goals exact ⟨rfl, by
      refine WFr.trans (b := w1) ?_ ?_
      · exact (((WFr.refl _ _ _).alloc hq _).alloc hq _).trans HW.out
      · have hq : q < w1.heap.size := by omega
        exact (by repeat (first | with_reducible exact WFr.refl _ _ _ | with_reducible refine WFr.set ?_ _ (by omega) _ | with_reducible refine WFr.drew ?_ | with_reducible refine WFr.alloc ?_ (by assumption) _)), ⟨by go_simp, by go_simp, by go_simp, by go_simp, by go_simp, by go_simp⟩⟩

  by_cases h2 : vk = 2
  · subst h2
    simp only [if_neg h1, if_true]
    go_enter Try.func41, Try.ntmps41
    go_wp2_with (go_at_call 54; refine (FC.out _ (by repeat (first | with_reducible exact Below.refl _ _ | with_reducible refine bel_alloc ?_ _ | with_reducible refine bel_set ?_ (by first | exact Nat.le_refl _ | (simp; done) | (simp; omega)) _ | with_reducible refine Below.drew ?_ | refine bel_trans ?_ (by assumption)))).mono ?_; rintro e' w1 ⟨rfl, hfr, ⟨c0, c1, c2, c3, c4, c5⟩⟩; simp only at c0 c1 c2 c3 c4 c5; have hz1 := hfr.size; simp only [World.size_alloc] at hz1; have d0 := hfr.keep (k := w.heap.size) (o := 0) (v := .int .i64 c) (by omega) (by go_simp); have d1 := hfr.keep (k := w.heap.size) (o := 1) (v := .int .i64 s) (by omega) (by go_simp); have d2 := hfr.keep (k := w.heap.size) (o := 2) (v := .int .u8 m) (by omega) (by go_simp); have d3 := hfr.keep (k := w.heap.size) (o := 3) (v := .int .u64 wd) (by omega) (by go_simp); have d4 := hfr.keep (k := w.heap.size + 1) (o := 0) (v := .int .i64 2) (by omega) (by go_simp); have d5 := hfr.keep (k := w.heap.size + 1) (o := 1) (v := .int .i64 vn) (by omega) (by go_simp); have d6 := hfr.keep (k := w.heap.size + 1) (o := 2) (v := .int .i64 vb) (by omega) (by go_simp); have f0 : w1.frozen? ⟨q, e, none⟩ = false := (hfr.fz _).trans (by rw [World.frozen?_alloc2 _ _ _ _ hq]; exact HF.out _); have f1 : w1.frozen? ⟨q, e + 1, none⟩ = false := (hfr.fz _).trans (by rw [World.frozen?_alloc2 _ _ _ _ hq]; exact HF.out _); have f2 : w1.frozen? ⟨q, e + 2, none⟩ = false := (hfr.fz _).trans (by rw [World.frozen?_alloc2 _ _ _ _ hq]; exact HF.out _); have f3 : w1.frozen? ⟨q, e + 3, none⟩ = false := (hfr.fz _).trans (by rw [World.frozen?_alloc2 _ _ _ _ hq]; exact HF.out _); have f4 : w1.frozen? ⟨q, e + 4, none⟩ = false := (hfr.fz _).trans (by rw [World.frozen?_alloc2 _ _ _ _ hq]; exact HF.out _); have f5 : w1.frozen? ⟨q, e + 5, none⟩ = false := (hfr.fz _).trans (by rw [World.frozen?_alloc2 _ _ _ _ hq]; exact HF.out _); have HW : Hid (WFr _ _ _ _) := hfr; clear hfr)
    all_goals go_end0
    all_goals exact ⟨rfl, by
      refine WFr.trans (b := w1) ?_ ?_
      · exact (((WFr.refl _ _ _).alloc hq _).alloc hq _).trans HW.out
      · have hq : q < w1.heap.size := by omega
        exact (by repeat (first | with_reducible exact WFr.refl _ _ _ | with_reducible refine WFr.set ?_ _ (by omega) _ | with_reducible refine WFr.drew ?_ | with_reducible refine WFr.alloc ?_ (by assumption) _)), ⟨by go_simp, by go_simp, by go_simp, by go_simp, by go_simp, by go_simp⟩⟩

  · have g1 : (vk == 1) = false := by simp [h1]
    have g2 : (vk == 2) = false := by simp [h2]
    simp only [if_neg h1, if_neg h2]
    go_enter Try.func41, Try.ntmps41
    go_wp2_with (go_at_call 54; refine (FC.out _ (by repeat (first | with_reducible exact Below.refl _ _ | with_reducible refine bel_alloc ?_ _ | with_reducible refine bel_set ?_ (by first | exact Nat.le_refl _ | (simp; done) | (simp; omega)) _ | with_reducible refine Below.drew ?_ | refine bel_trans ?_ (by assumption)))).mono ?_; rintro e' w1 ⟨rfl, hfr, ⟨c0, c1, c2, c3, c4, c5⟩⟩; simp only at c0 c1 c2 c3 c4 c5; have hz1 := hfr.size; simp only [World.size_alloc] at hz1; have d0 := hfr.keep (k := w.heap.size) (o := 0) (v := .int .i64 c) (by omega) (by go_simp); have d1 := hfr.keep (k := w.heap.size) (o := 1) (v := .int .i64 s) (by omega) (by go_simp); have d2 := hfr.keep (k := w.heap.size) (o := 2) (v := .int .u8 m) (by omega) (by go_simp); have d3 := hfr.keep (k := w.heap.size) (o := 3) (v := .int .u64 wd) (by omega) (by go_simp); have d4 := hfr.keep (k := w.heap.size + 1) (o := 0) (v := .int .i64 vk) (by omega) (by go_simp); have d5 := hfr.keep (k := w.heap.size + 1) (o := 1) (v := .int .i64 vn) (by omega) (by go_simp); have d6 := hfr.keep (k := w.heap.size + 1) (o := 2) (v := .int .i64 vb) (by omega) (by go_simp); have f0 : w1.frozen? ⟨q, e, none⟩ = false := (hfr.fz _).trans (by rw [World.frozen?_alloc2 _ _ _ _ hq]; exact HF.out _); have f1 : w1.frozen? ⟨q, e + 1, none⟩ = false := (hfr.fz _).trans (by rw [World.frozen?_alloc2 _ _ _ _ hq]; exact HF.out _); have f2 : w1.frozen? ⟨q, e + 2, none⟩ = false := (hfr.fz _).trans (by rw [World.frozen?_alloc2 _ _ _ _ hq]; exact HF.out _); have f3 : w1.frozen? ⟨q, e + 3, none⟩ = false := (hfr.fz _).trans (by rw [World.frozen?_alloc2 _ _ _ _ hq]; exact HF.out _); have f4 : w1.frozen? ⟨q, e + 4, none⟩ = false := (hfr.fz _).trans (by rw [World.frozen?_alloc2 _ _ _ _ hq]; exact HF.out _); have f5 : w1.frozen? ⟨q, e + 5, none⟩ = false := (hfr.fz _).trans (by rw [World.frozen?_alloc2 _ _ _ _ hq]; exact HF.out _); have HW : Hid (WFr _ _ _ _) := hfr; clear hfr)
    all_goals go_end0
    all_goals exact ⟨rfl, by
      refine WFr.trans (b := w1) ?_ ?_
      · exact (((WFr.refl _ _ _).alloc hq _).alloc hq _).trans HW.out
      · have hq : q < w1.heap.size := by omega
        exact (by repeat (first | with_reducible exact WFr.refl _ _ _ | with_reducible refine WFr.set ?_ _ (by omega) _ | with_reducible refine WFr.drew ?_ | with_reducible refine WFr.alloc ?_ (by assumption) _)), ⟨by go_simp, by go_simp, by go_simp, by go_simp, by go_simp, by go_simp⟩⟩

end Go.Proofs.Ytnklpccggbkknaa
