/- The contract of package val's Text. -/
import Derived.Test.YtokdnjnkgflbcaaDoorTLeaf
import Derived.Deep.RegionHeld3
import Derived.Test.YtokdnjnkgflbcaaDoorShelf
import Derived.Lib.ItoaLen
namespace Go.Proofs.YtokdnjnkgflbcaaDoor
open Go.ChangeShapes Go.WideShapes Go.ChangeAt Go.RowKit Pl
set_option linter.unusedSimpArgs false
set_option linter.unusedVariables false

/-- The library's table of powers of ten lies as its initialiser lays it. -/
def Tab (w : World) : Prop := Lib.TabIs Tryd.prog w "internal/strconv.uint64pow10" .u64 Lib.pow10Tab
theorem tab_keep {w w' : World} (h : Tab w) (hb : Below w.heap.size w w') : Tab w' := by
  have hg : Tryd.prog.globalNamed "internal/strconv.uint64pow10" = some 0 := by kernel_rfl
  unfold Tab Lib.TabIs World.var? at h ⊢
  rw [hg] at h ⊢
  simp only [Option.bind_some] at h ⊢
  have hlt : 0 < w.heap.size := by
    rcases Nat.lt_or_ge 0 w.heap.size with h' | h'
    · exact h'
    · rw [Array.getElem?_eq_none h'] at h; cases h
  rw [hb.block 0 hlt]
  exact h
theorem tabH {A B C D : Prop} {w : World} (h : A ∧ B ∧ C ∧ Tab w ∧ D) : Tab w := h.2.2.2.1
theorem bel_grow (w : World) (k : Nat) (os : Array Obj) : Below w.heap.size w (Sort.grow (w.drewN k) os) :=
  ⟨rfl, rfl, rfl, by show w.heap.size ≤ (w.heap ++ os).size; rw [Array.size_append]; omega, fun j hj => by show (w.heap ++ os)[j]? = w.heap[j]?; rw [Array.getElem?_append, if_pos hj]⟩

theorem fmt_to (n : Int) (w : World) (h0 : -9223372036854775808 ≤ n) (h1 : n ≤ 9223372036854775807) (ht : Tab w) :
    Calls Tryd.prog 41 #[.int .i64 n, .int .i64 10] w (retP (.string ⟨(Lib.itoa n).toArray⟩) w) :=
  (Tryd.strconv_FormatInt_10 n h0 h1 w ht).mono fun e w' ⟨he, k, os, hw⟩ => ⟨he, hw ▸ bel_grow w k os⟩
theorem itoa_to (n : Int) (w : World) (h0 : -9223372036854775808 ≤ n) (h1 : n ≤ 9223372036854775807) (ht : Tab w) :
    Calls Tryd.prog 42 #[.int .i64 n] w (retP (.string ⟨(Lib.itoa n).toArray⟩) w) :=
  (Tryd.strconv_Itoa n h0 h1 w ht).mono fun e w' ⟨he, k, os, hw⟩ => ⟨he, hw ▸ bel_grow w k os⟩


theorem fmt_as (n : Int) (w : World) (s : ByteArray) (hs : Hid (s = ⟨(Lib.itoa n).toArray⟩)) (h0 : -9223372036854775808 ≤ n) (h1 : n ≤ 9223372036854775807) (ht : Tab w) :
    Calls Tryd.prog 41 #[.int .i64 n, .int .i64 10] w (retP (.string s) w) := by rw [hs.out]; exact fmt_to n w h0 h1 ht
theorem itoa_as (n : Int) (w : World) (s : ByteArray) (hs : Hid (s = ⟨(Lib.itoa n).toArray⟩)) (h0 : -9223372036854775808 ≤ n) (h1 : n ≤ 9223372036854775807) (ht : Tab w) :
    Calls Tryd.prog 42 #[.int .i64 n] w (retP (.string s) w) := by rw [hs.out]; exact itoa_to n w h0 h1 ht


def textF (a : V) : List UInt8 := if kindF a = 1 then Lib.itoa a.n else if kindF a = 2 then 38 :: (Lib.itoa a.b ++ (43 :: Lib.itoa a.n)) else [117, 110, 100, 101, 102]
set_option maxHeartbeats 1000000 in
theorem text_any (ak an ab : Int) (w : World) (ht : Tab w) (hn0 : -9223372036854775808 ≤ an) (hn1 : an ≤ 9223372036854775807) (hb0 : -9223372036854775808 ≤ ab) (hb1' : ab ≤ 9223372036854775807) :
    Calls Tryd.prog 37 #[.agg #[.int .i64 ak, .int .i64 an, .int .i64 ab]] w (retP (.string ⟨(textF ⟨ak, an, ab⟩).toArray⟩) w) := by
  by_cases hA1 : kindF ⟨ak, an, ab⟩ = 1
  · have e : textF ⟨ak, an, ab⟩ = Lib.itoa an := by simp [textF, hA1]
    rw [e]; clear e
    go_enter Tryd.func37, Tryd.ntmps37
    go_wp2_with (first | (go_at_call 40; refine (kind_any _ _ _ _).mono ?_; rintro e w1 ⟨rfl, hb1⟩; have c0 := keep_cell hb1 (p := ⟨w.heap.size, 0, none⟩) (v := .int .i64 ak) (by go_simp); have c1 := keep_cell hb1 (p := ⟨w.heap.size, 1, none⟩) (v := .int .i64 an) (by go_simp); have c2 := keep_cell hb1 (p := ⟨w.heap.size, 2, none⟩) (v := .int .i64 ab) (by go_simp); have ht1 := tab_keep (tab_keep ht (bel_alloc (Below.refl _ _) _)) hb1) | (go_at_call 41; refine (fmt_to _ _ hn0 hn1 ht1).mono ?_; rintro e w2 ⟨rfl, hb2⟩))
    go_ret
    exact ⟨rfl, (by repeat (first | with_reducible exact Below.refl _ _ | with_reducible refine bel_alloc ?_ _ | with_reducible refine bel_set ?_ (by first | exact Nat.le_refl _ | (simp; done) | (simp; omega)) _ | with_reducible refine Below.drew ?_ | refine bel_trans ?_ (by assumption)))⟩
  have g1 : (kindF ⟨ak, an, ab⟩ == 1) = false := by simp [hA1]
  by_cases hA2 : kindF ⟨ak, an, ab⟩ = 2
  · have e : textF ⟨ak, an, ab⟩ = 38 :: (Lib.itoa ab ++ (43 :: Lib.itoa an)) := by simp [textF, hA2]
    rw [e]; clear e
    obtain ⟨s, hs⟩ : ∃ s : ByteArray, s = ⟨(Lib.itoa ab).toArray⟩ := ⟨_, rfl⟩
    obtain ⟨t, ht'⟩ : ∃ t : ByteArray, t = ⟨(Lib.itoa an).toArray⟩ := ⟨_, rfl⟩
    have ls : s.size ≤ 21 := by rw [hs]; exact Lib.itoa_length_le ab hb0 hb1'
    have lt : t.size ≤ 21 := by rw [ht']; exact Lib.itoa_length_le an hn0 hn1
    have q1 : ¬ 9223372036854775807 < 1 + s.size := by omega
    have q2 : ¬ 9223372036854775807 < 1 + s.size + 1 := by omega
    have q3 : ¬ 9223372036854775807 < 1 + s.size + 1 + t.size := by omega
    have HS : Hid (s = ⟨(Lib.itoa ab).toArray⟩) := hs
    have HT : Hid (t = ⟨(Lib.itoa an).toArray⟩) := ht'
    have hfin : (⟨(38 :: (Lib.itoa ab ++ (43 :: Lib.itoa an))).toArray⟩ : ByteArray) = (⟨#[38]⟩ ++ s ++ ⟨#[43]⟩ ++ t) := by
      rw [hs, ht']; apply ByteArray.ext; simp
    rw [hfin]; clear hfin hs ht' ls lt
    go_enter Tryd.func37, Tryd.ntmps37
    go_wp2_with (first | (go_at_call 40; refine (kind_any _ _ _ _).mono ?_; rintro e w1 ⟨rfl, hb1⟩; have c0 := keep_cell hb1 (p := ⟨w.heap.size, 0, none⟩) (v := .int .i64 ak) (by go_simp); have c1 := keep_cell hb1 (p := ⟨w.heap.size, 1, none⟩) (v := .int .i64 an) (by go_simp); have c2 := keep_cell hb1 (p := ⟨w.heap.size, 2, none⟩) (v := .int .i64 ab) (by go_simp); have ht1 := tab_keep (tab_keep ht (bel_alloc (Below.refl _ _) _)) hb1))
    go_region_held3 (fun w' => w'.cell? ⟨w.heap.size, 0, none⟩ = some (.int .i64 ak) ∧ w'.cell? ⟨w.heap.size, 1, none⟩ = some (.int .i64 an) ∧ w'.cell? ⟨w.heap.size, 2, none⟩ = some (.int .i64 ab) ∧ Tab w' ∧ Below w.heap.size w w')
      (refine ⟨?_, ?_, ?_, ?_, ?_⟩ <;> first | assumption | exact keep_cell hb2 (by go_simp) | (go_simp; done) | exact tab_keep (tabH (by assumption)) hb2 | exact tab_keep ht1 (Below.drew (Below.refl _ _)) | exact (by repeat (first | with_reducible exact Below.refl _ _ | with_reducible refine bel_alloc ?_ _ | with_reducible refine bel_set ?_ (by first | exact Nat.le_refl _ | (simp; done) | (simp; omega)) _ | with_reducible refine Below.drew ?_ | refine bel_trans ?_ (by assumption))))
      (first | (go_at_call 41; refine (fmt_as _ _ t HT hn0 hn1 (tabH (by assumption))).mono ?_; rintro e w2 ⟨rfl, hb2⟩) | (go_at_call 42; refine (itoa_as _ _ s HS hb0 hb1' (tabH (by assumption))).mono ?_; rintro e w2 ⟨rfl, hb2⟩))
    rename_i hH
    obtain ⟨_, _, _, _, hw⟩ := hH
    go_wp2
    go_ret
    exact ⟨rfl, (by repeat (first | with_reducible exact Below.refl _ _ | with_reducible refine bel_alloc ?_ _ | with_reducible refine bel_set ?_ (by first | exact Nat.le_refl _ | (simp; done) | (simp; omega)) _ | with_reducible refine Below.drew ?_ | refine bel_trans ?_ (by assumption)))⟩
  · have g2 : (kindF ⟨ak, an, ab⟩ == 2) = false := by simp [hA2]
    have e : textF ⟨ak, an, ab⟩ = [117, 110, 100, 101, 102] := by simp [textF, hA1, hA2]
    rw [e]; clear e
    go_enter Tryd.func37, Tryd.ntmps37
    go_wp2_with (first | (go_at_call 40; refine (kind_any _ _ _ _).mono ?_; rintro e w1 ⟨rfl, hb1⟩; have c0 := keep_cell hb1 (p := ⟨w.heap.size, 0, none⟩) (v := .int .i64 ak) (by go_simp); have c1 := keep_cell hb1 (p := ⟨w.heap.size, 1, none⟩) (v := .int .i64 an) (by go_simp); have c2 := keep_cell hb1 (p := ⟨w.heap.size, 2, none⟩) (v := .int .i64 ab) (by go_simp); have ht1 := tab_keep (tab_keep ht (bel_alloc (Below.refl _ _) _)) hb1))
    go_ret
    exact ⟨rfl, (by repeat (first | with_reducible exact Below.refl _ _ | with_reducible refine bel_alloc ?_ _ | with_reducible refine bel_set ?_ (by first | exact Nat.le_refl _ | (simp; done) | (simp; omega)) _ | with_reducible refine Below.drew ?_ | refine bel_trans ?_ (by assumption)))⟩

end Go.Proofs.YtokdnjnkgflbcaaDoor
