/- Package types: contracts of Size, Scalar, Elem. -/
import Derived.Test.YtpedfnfangaelaaDoorYSize
namespace Go.Proofs.YtpedfnfangaelaaDoor
open Go.ChangeShapes Go.WideShapes Go.ChangeAt Go.RowKit
set_option linter.unusedSimpArgs false
set_option linter.unusedVariables false

/-- A type's size and alignment, and the error. -/
def szF (T : Tab) (t : ByteArray) : Int × Int × Int :=
  if (parseS t).2 = true then
    (if (sgF T (parseS t).1).2.2 = true then
      (if (parseS t).1.isArray = true then
        (if 65536 / (sgF T (parseS t).1).1 < (parseS t).1.count then (0, 0, 2) else ((parseS t).1.count * (sgF T (parseS t).1).1, (sgF T (parseS t).1).2.1, 0))
      else ((sgF T (parseS t).1).1, (sgF T (parseS t).1).2.1, 0))
    else (0, 0, 5))
  else (0, 0, 5)
/-- Each struct of the table has a size and an alignment. -/
def GoodT (T : Tab) : Prop := ∀ x ∈ T.shapes, 1 ≤ x.size ∧ x.size ≤ 65536 ∧ 1 ≤ x.align ∧ x.align ≤ 8 ∧ x.places.length ≤ 65536
theorem shF_good {T : Tab} (h : GoodT T) {s : ByteArray} (hok : (shF T s).2 = true) : 1 ≤ (shF T s).1.size ∧ (shF T s).1.size ≤ 65536 ∧ 1 ≤ (shF T s).1.align ∧ (shF T s).1.align ≤ 8 := by
  unfold shF at *
  cases hi : ixOf T.names s with
  | none => rw [hi] at hok; simp at hok
  | some j =>
    rw [hi] at hok
    dsimp only at hok ⊢
    cases hx : T.shapes[j]? with
    | none => rw [hx] at hok; simp at hok
    | some x =>
      dsimp only
      have := h x (List.mem_of_getElem? hx)
      exact ⟨this.1, this.2.1, this.2.2.1, this.2.2.2.1⟩
theorem sgF_good {T : Tab} (h : GoodT T) {f : Fm} (hok : (sgF T f).2.2 = true) : 1 ≤ (sgF T f).1 ∧ (sgF T f).1 ≤ 65536 ∧ 1 ≤ (sgF T f).2.1 ∧ (sgF T f).2.1 ≤ 8 := by
  unfold sgF at *
  split
  · rename_i h1
    rw [if_pos h1] at hok
    exact shF_good h hok
  · rename_i h1
    rw [if_neg h1] at hok
    split
    · rename_i h2
      rw [if_pos h2] at hok
      unfold ptF at *
      split
      · rename_i h3; rw [if_pos h3] at hok; simp at hok
      · simp
    · rename_i h2
      rw [if_neg h2] at hok
      split
      · simp
      · rename_i h3
        rw [if_neg h3] at hok
        split
        · simp
        · rename_i h4
          rw [if_neg h4] at hok
          split
          · simp
          · rename_i h5; rw [if_neg h5] at hok; simp at hok
theorem parse_name (t : ByteArray) : (parseS t).1.name.size ≤ t.size := by
  unfold parseS
  split
  · simp only [formS]
    exact Nat.le_trans (size_cut1 _ 32).2 (Nat.le_trans (size_baseS _) (size_cutC t))
  · exact Nat.zero_le _
theorem cnt_le (d : ByteArray) : ∀ i, cnt d i ≤ 65537
  | 0 => by simp [cnt]
  | i + 1 => by unfold cnt; omega
theorem parse_count (t : ByteArray) : (parseS t).1.count ≤ 65537 := by
  unfold parseS
  split
  · simp only [formS]
    unfold cutC
    split
    · split
      · exact cnt_le _ _
      · show (0 : Int) ≤ 65537; omega
    · show (0 : Int) ≤ 65537; omega
  · show (0 : Int) ≤ 65537; omega

set_option maxHeartbeats 4000000 in
theorem size_any (tb : Nat) (T : Tab) (t : ByteArray) (ht : (t.size : Int) ≤ 4611686018427387904) (w : World) (h : TabAt w tb T) (hg : GoodT T) :
    Calls Tryd.prog 10 #[.pointer (some ⟨tb, 0, none⟩), .string t] w (retP (.tuple #[.int .i64 (szF T t).1, .int .i64 (szF T t).2.1, .int .i64 (szF T t).2.2]) w) := by
  have HT : Hid (TabAt w tb T) := h
  have HP : Hid (∀ w, Calls Tryd.prog 25 #[.string t] w (retP (.tuple #[(parseS t).1.v, .bool (parseS t).2]) w)) := fun w => parse_any t ht w
  have hn : (parseS t).1.name.size ≤ maxLen := by have := parse_name t; unfold maxLen; omega
  have hc := parse_count t
  have HG : Hid (∀ w', TabAt w' tb T → Calls Tryd.prog 26 #[.pointer (some ⟨tb, 0, none⟩), (parseS t).1.v] w' (retP (.tuple #[.int .i64 (sgF T (parseS t).1).1, .int .i64 (sgF T (parseS t).1).2.1, .bool (sgF T (parseS t).1).2.2]) w')) := fun w' h' => single_any tb T _ hn w' h'
  have HA : Hid (∀ w, Calls Tryd.prog 27 #[(parseS t).1.v] w (retP (.bool (parseS t).1.isArray) w)) := fun w => isArray_any _ w
  have hgs : (sgF T (parseS t).1).2.2 = true → 1 ≤ (sgF T (parseS t).1).1 ∧ (sgF T (parseS t).1).1 ≤ 65536 := fun h => ⟨(sgF_good hg h).1, (sgF_good hg h).2.1⟩
  have hca : (parseS t).1.isArray = true → 0 < (parseS t).1.count := fun h => by simpa [Fm.isArray] using h
  clear h hg hn ht
  unfold szF
  generalize (parseS t).1 = f at *
  generalize (parseS t).2 = ok at *
  generalize sgF T f = sg at *
  generalize f.isArray = ar at *
  obtain ⟨wd, nm, st, ct⟩ := f
  obtain ⟨s0, s1, s2⟩ := sg
  simp only [Fm.v] at *
  cases ok
  · simp only [Bool.false_eq_true, if_false]
    clear HG HA hgs hca hc
    go_enter Tryd.func10, Tryd.ntmps10
    go_wp2_with fail
    refine (HP.out _).mono ?_
    rintro e w1 ⟨rfl, hb1⟩
    dsimp only
    go_wp2_with fail
    go_ret3
    exact ⟨rfl, (by repeat (first | with_reducible exact Below.refl _ _ | assumption | with_reducible refine bel_alloc ?_ _ | with_reducible refine Below.drew ?_ | with_reducible refine bel_drewN ?_ _ | with_reducible refine bel_set ?_ (by go_light; first | (simp; done) | (simp; omega) | omega) _ | refine bel_trans ?_ (by assumption)))⟩
  simp only [if_true]
  cases s2
  · simp only [Bool.false_eq_true, if_false]
    clear hgs hca HA hc
    go_enter Tryd.func10, Tryd.ntmps10
    go_wp2_with fail
    refine (HP.out _).mono ?_
    rintro e w1 ⟨rfl, hb1⟩
    dsimp only
    go_wp2_with fail
    refine (HG.out _ (HT.out.keep (by repeat (first | with_reducible exact Below.refl _ _ | assumption | with_reducible refine bel_alloc ?_ _ | with_reducible refine Below.drew ?_ | with_reducible refine bel_drewN ?_ _ | with_reducible refine bel_set ?_ (by go_light; first | (simp; done) | (simp; omega) | omega) _ | refine bel_trans ?_ (by assumption))))).mono ?_
    rintro e w2 ⟨rfl, hb2⟩
    dsimp only
    have hB2 := new_heap hb2
    have f0 := heap_cell (o := 0) (v := .string wd) hB2 (by rfl)
    have fz0 := heap_frozen (o := 0) hB2
    have f1 := heap_cell (o := 1) (v := .string nm) hB2 (by rfl)
    have fz1 := heap_frozen (o := 1) hB2
    have f2 := heap_cell (o := 2) (v := .int .i64 st) hB2 (by rfl)
    have fz2 := heap_frozen (o := 2) hB2
    have f3 := heap_cell (o := 3) (v := .int .i64 ct) hB2 (by rfl)
    have fz3 := heap_frozen (o := 3) hB2
    go_wp2_with fail
    go_ret3
    exact ⟨rfl, (by repeat (first | with_reducible exact Below.refl _ _ | assumption | with_reducible refine bel_alloc ?_ _ | with_reducible refine Below.drew ?_ | with_reducible refine bel_drewN ?_ _ | with_reducible refine bel_set ?_ (by go_light; first | (simp; done) | (simp; omega) | omega) _ | refine bel_trans ?_ (by assumption)))⟩
  simp only [if_true]
  obtain ⟨hs1, hs2⟩ := hgs rfl
  cases ar
  · simp only [Bool.false_eq_true, if_false]
    clear hca hc hs1 hs2
    go_enter Tryd.func10, Tryd.ntmps10
    go_wp2_with fail
    refine (HP.out _).mono ?_
    rintro e w1 ⟨rfl, hb1⟩
    dsimp only
    go_wp2_with fail
    refine (HG.out _ (HT.out.keep (by repeat (first | with_reducible exact Below.refl _ _ | assumption | with_reducible refine bel_alloc ?_ _ | with_reducible refine Below.drew ?_ | with_reducible refine bel_drewN ?_ _ | with_reducible refine bel_set ?_ (by go_light; first | (simp; done) | (simp; omega) | omega) _ | refine bel_trans ?_ (by assumption))))).mono ?_
    rintro e w2 ⟨rfl, hb2⟩
    dsimp only
    have hB2 := new_heap hb2
    have f0 := heap_cell (o := 0) (v := .string wd) hB2 (by rfl)
    have fz0 := heap_frozen (o := 0) hB2
    have f1 := heap_cell (o := 1) (v := .string nm) hB2 (by rfl)
    have fz1 := heap_frozen (o := 1) hB2
    have f2 := heap_cell (o := 2) (v := .int .i64 st) hB2 (by rfl)
    have fz2 := heap_frozen (o := 2) hB2
    have f3 := heap_cell (o := 3) (v := .int .i64 ct) hB2 (by rfl)
    have fz3 := heap_frozen (o := 3) hB2
    go_wp2_with fail
    refine (HA.out _).mono ?_
    rintro e w3 ⟨rfl, hb3⟩
    dsimp only
    have hB3 := keep_heap hb3 hB2
    have g0 := heap_cell (o := 0) (v := .string wd) hB3 (by rfl)
    have gz0 := heap_frozen (o := 0) hB3
    have g1 := heap_cell (o := 1) (v := .string nm) hB3 (by rfl)
    have gz1 := heap_frozen (o := 1) hB3
    have g2 := heap_cell (o := 2) (v := .int .i64 st) hB3 (by rfl)
    have gz2 := heap_frozen (o := 2) hB3
    have g3 := heap_cell (o := 3) (v := .int .i64 ct) hB3 (by rfl)
    have gz3 := heap_frozen (o := 3) hB3
    go_wp2_with fail
    go_ret3
    exact ⟨rfl, (by repeat (first | with_reducible exact Below.refl _ _ | assumption | with_reducible refine bel_alloc ?_ _ | with_reducible refine Below.drew ?_ | with_reducible refine bel_drewN ?_ _ | with_reducible refine bel_set ?_ (by go_light; first | (simp; done) | (simp; omega) | omega) _ | refine bel_trans ?_ (by assumption)))⟩
  simp only [if_true]
  replace hca := hca rfl
  have e1 : (65536 : Int).tdiv s0 = 65536 / s0 := Int.tdiv_eq_ediv_of_nonneg (by omega)
  have hne : ¬ s0 = 0 := by omega
  have hq : 65536 / s0 ≤ 65536 := Int.ediv_le_self _ (by omega)
  have hq0 : 0 ≤ 65536 / s0 := Int.ediv_nonneg (by omega) (by omega)
  have hqw : wrap64 (65536 / s0) = 65536 / s0 := by unfold wrap64; omega
  by_cases hlt : 65536 / s0 < ct
  · rw [if_pos hlt]
    have q1 : decide (65536 / s0 < ct) = true := by simpa using hlt
    have HX : Hid (1 ≤ s0) := hs1
    generalize 65536 / s0 = qq at *
    clear hs1 hs2 hc hca hlt
    go_enter Tryd.func10, Tryd.ntmps10
    go_wp2_with fail
    refine (HP.out _).mono ?_
    rintro e w1 ⟨rfl, hb1⟩
    dsimp only
    go_wp2_with fail
    refine (HG.out _ (HT.out.keep (by repeat (first | with_reducible exact Below.refl _ _ | assumption | with_reducible refine bel_alloc ?_ _ | with_reducible refine Below.drew ?_ | with_reducible refine bel_drewN ?_ _ | with_reducible refine bel_set ?_ (by go_light; first | (simp; done) | (simp; omega) | omega) _ | refine bel_trans ?_ (by assumption))))).mono ?_
    rintro e w2 ⟨rfl, hb2⟩
    dsimp only
    have hB2 := new_heap hb2
    have f0 := heap_cell (o := 0) (v := .string wd) hB2 (by rfl)
    have fz0 := heap_frozen (o := 0) hB2
    have f1 := heap_cell (o := 1) (v := .string nm) hB2 (by rfl)
    have fz1 := heap_frozen (o := 1) hB2
    have f2 := heap_cell (o := 2) (v := .int .i64 st) hB2 (by rfl)
    have fz2 := heap_frozen (o := 2) hB2
    have f3 := heap_cell (o := 3) (v := .int .i64 ct) hB2 (by rfl)
    have fz3 := heap_frozen (o := 3) hB2
    go_wp2_with fail
    refine (HA.out _).mono ?_
    rintro e w3 ⟨rfl, hb3⟩
    dsimp only
    have hB3 := keep_heap hb3 hB2
    have g0 := heap_cell (o := 0) (v := .string wd) hB3 (by rfl)
    have gz0 := heap_frozen (o := 0) hB3
    have g1 := heap_cell (o := 1) (v := .string nm) hB3 (by rfl)
    have gz1 := heap_frozen (o := 1) hB3
    have g2 := heap_cell (o := 2) (v := .int .i64 st) hB3 (by rfl)
    have gz2 := heap_frozen (o := 2) hB3
    have g3 := heap_cell (o := 3) (v := .int .i64 ct) hB3 (by rfl)
    have gz3 := heap_frozen (o := 3) hB3
    go_wp2_with fail
    go_quiet (fail)
    go_wp2
    go_ret3
    exact ⟨rfl, (by repeat (first | with_reducible exact Below.refl _ _ | assumption | with_reducible refine bel_alloc ?_ _ | with_reducible refine Below.drew ?_ | with_reducible refine bel_drewN ?_ _ | with_reducible refine bel_set ?_ (by go_light; first | (simp; done) | (simp; omega) | omega) _ | refine bel_trans ?_ (by assumption)))⟩
  · rw [if_neg hlt]
    have q1 : decide (65536 / s0 < ct) = false := by simpa using hlt
    have hm : ct * s0 ≤ 65536 := by
      have h1 : ct ≤ 65536 / s0 := by omega
      have h2 : 65536 / s0 * s0 ≤ 65536 := Int.ediv_mul_le _ (by omega)
      exact Int.le_trans (Int.mul_le_mul_of_nonneg_right h1 (by omega)) h2
    have hm0 : 0 ≤ ct * s0 := Int.mul_nonneg (by omega) (by omega)
    have hmw : wrap64 (ct * s0) = ct * s0 := by unfold wrap64; omega
    have HX : Hid (1 ≤ s0) := hs1
    generalize 65536 / s0 = qq at *
    clear hs1 hs2 hc hca hlt
    go_enter Tryd.func10, Tryd.ntmps10
    go_wp2_with fail
    refine (HP.out _).mono ?_
    rintro e w1 ⟨rfl, hb1⟩
    dsimp only
    go_wp2_with fail
    refine (HG.out _ (HT.out.keep (by repeat (first | with_reducible exact Below.refl _ _ | assumption | with_reducible refine bel_alloc ?_ _ | with_reducible refine Below.drew ?_ | with_reducible refine bel_drewN ?_ _ | with_reducible refine bel_set ?_ (by go_light; first | (simp; done) | (simp; omega) | omega) _ | refine bel_trans ?_ (by assumption))))).mono ?_
    rintro e w2 ⟨rfl, hb2⟩
    dsimp only
    have hB2 := new_heap hb2
    have f0 := heap_cell (o := 0) (v := .string wd) hB2 (by rfl)
    have fz0 := heap_frozen (o := 0) hB2
    have f1 := heap_cell (o := 1) (v := .string nm) hB2 (by rfl)
    have fz1 := heap_frozen (o := 1) hB2
    have f2 := heap_cell (o := 2) (v := .int .i64 st) hB2 (by rfl)
    have fz2 := heap_frozen (o := 2) hB2
    have f3 := heap_cell (o := 3) (v := .int .i64 ct) hB2 (by rfl)
    have fz3 := heap_frozen (o := 3) hB2
    go_wp2_with fail
    refine (HA.out _).mono ?_
    rintro e w3 ⟨rfl, hb3⟩
    dsimp only
    have hB3 := keep_heap hb3 hB2
    have g0 := heap_cell (o := 0) (v := .string wd) hB3 (by rfl)
    have gz0 := heap_frozen (o := 0) hB3
    have g1 := heap_cell (o := 1) (v := .string nm) hB3 (by rfl)
    have gz1 := heap_frozen (o := 1) hB3
    have g2 := heap_cell (o := 2) (v := .int .i64 st) hB3 (by rfl)
    have gz2 := heap_frozen (o := 2) hB3
    have g3 := heap_cell (o := 3) (v := .int .i64 ct) hB3 (by rfl)
    have gz3 := heap_frozen (o := 3) hB3
    go_wp2_with fail
    go_quiet (fail)
    go_wp2
    go_ret3
    exact ⟨rfl, (by repeat (first | with_reducible exact Below.refl _ _ | assumption | with_reducible refine bel_alloc ?_ _ | with_reducible refine Below.drew ?_ | with_reducible refine bel_drewN ?_ _ | with_reducible refine bel_set ?_ (by go_light; first | (simp; done) | (simp; omega) | omega) _ | refine bel_trans ?_ (by assumption)))⟩

end Go.Proofs.YtpedfnfangaelaaDoor
