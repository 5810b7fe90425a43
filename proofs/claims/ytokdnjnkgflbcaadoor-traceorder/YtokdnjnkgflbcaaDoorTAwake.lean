/- The contract of the statements' own first step: what the document tells of a few runs holds. -/
import Derived.Test.YtokdnjnkgflbcaaDoorTOuts
namespace Go.Proofs.YtokdnjnkgflbcaaDoor
open Go.ChangeShapes Go.WideShapes Go.ChangeAt Go.RowKit Go.Deep Pl
set_option linter.unusedSimpArgs false
set_option linter.unusedVariables false

theorem dec1 (u : Nat) (h : u < 10) : Lib.decDigits u = [UInt8.ofNat (48 + u)] := by rw [Lib.decDigits, dif_pos h]
theorem tab_step {w w' : World} (h : Hid (Tab w)) (hb : Below w.heap.size w w') : Hid (Tab w') := tab_keep h.out hb
theorem text_to (r : RD) (s : ByteArray) (w : World) (hs : (⟨(textR r).toArray⟩ : ByteArray) = s) (h : RunAt w r) (hn : r.es.length ≤ 1000) (ho : EvOk r.es) (x0 : -9223372036854775808 ≤ r.x) (x1 : r.x ≤ 9223372036854775807) (ht : Tab w) : Calls Tryd.prog 10 #[r.v] w (retP (.string s) w) := by
  rw [← hs]; exact text_run r w h hn ho x0 x1 ht
theorem refines_to (a b : RD) (w : World) (ha : RunAt w a) (hb : RunAt w b) (r : Bool) (H : Hid (refR a b = r)) : Calls Tryd.prog 11 #[a.v, b.v] w (retP (.bool r) w) := by
  have := refines_any a b w ha hb; rw [H.out] at this; exact this
theorem next_to {B p : Nat} {w : World} {l : List Int} {u : Nat} (x u' : Int) (h : WorldAt B w p l u) (hu : u ≤ 1000000) (hl : l.length ≤ 1000000) (hx : l.getD u 0 = x) (hu' : ((u + 1 : Nat) : Int) = u') : Calls Tryd.prog 16 #[.pointer (some ⟨p, 0, none⟩)] w fun e w' => e = .returned (.int .i64 x) ∧ WorldAt B w' p l u' ∧ Below B w w' := by
  refine (next_any h hu hl).mono ?_
  rintro e w' ⟨rfl, h1, rfl⟩
  rw [hx]
  rw [hu'] at h1
  exact ⟨rfl, h1, (Below.refl B w).setCell (p := ⟨p, 1, none⟩) h.1 _⟩
theorem used_to {B p : Nat} {w : World} {l : List Int} {u : Int} (h : WorldAt B w p l u) : Calls Tryd.prog 15 #[.pointer (some ⟨p, 0, none⟩)] w (retP (.int .i64 u) w) :=
  (used_any h).mono fun e w' ⟨h1, h2⟩ => ⟨h1, h2 ▸ Below.refl _ _⟩
theorem nil_ev (w : World) : EvAt w (.slice none 0 0) [] := ⟨none, 0, rfl, by simp, by simp, fun h => absurd rfl h⟩
theorem nil_lk (w : World) : LkAt w (.slice none 0 0) [] := ⟨none, 0, rfl, by simp, by simp, fun h => absurd rfl h⟩
theorem ok7 (n : Int) (h0 : -9223372036854775808 ≤ n) (h1 : n ≤ 9223372036854775807) : EvOk [(2, n)] := fun x hx => by simp at hx; subst hx; exact ⟨h0, h1⟩
theorem txt37 (ev lk : Value) : (⟨(textR ⟨1, 3, ev, lk, 0, [(2, 7)], [(1, 1, 0)]⟩).toArray⟩ : ByteArray) = ⟨#[111, 117, 116, 32, 55, 10, 104, 97, 108, 116, 32, 51, 10]⟩ := by
  simp [textR, textL, lineL, wordL, endL, Lib.itoa, dec1]
theorem same_l (x x' : Int) {ev lk ev' lk' : Value} {w : World} (ha : RunAt w ⟨1, x, ev, lk, 0, [(2, 7)], [(1, 1, 0)]⟩) (hb : RunAt w ⟨1, x', ev', lk', 0, [(2, 7)], [(1, 1, 0)]⟩) : Calls Tryd.prog 17 #[.agg #[.int .i64 1, .int .i64 x, ev, lk, .int .i64 0], .agg #[.int .i64 1, .int .i64 x', ev', lk', .int .i64 0]] w (retP (.bool (decide (x = x'))) w) :=
  same_to ⟨1, x, ev, lk, 0, [(2, 7)], [(1, 1, 0)]⟩ ⟨1, x', ev', lk', 0, [(2, 7)], [(1, 1, 0)]⟩ w ha hb _ (by show _ = _; simp [sameR, evEq])
theorem leaks_l (x x' : Int) {ev lk ev' lk' : Value} {w : World} (ha : RunAt w ⟨1, x, ev, lk, 0, [(2, 7)], [(1, 1, 0)]⟩) (hb : RunAt w ⟨1, x', ev', lk', 0, [(2, 7)], [(1, 1, 0)]⟩) : Calls Tryd.prog 19 #[.agg #[.int .i64 1, .int .i64 x, ev, lk, .int .i64 0], .agg #[.int .i64 1, .int .i64 x', ev', lk', .int .i64 0]] w (retP (.bool true) w) :=
  leaks_to ⟨1, x, ev, lk, 0, [(2, 7)], [(1, 1, 0)]⟩ ⟨1, x', ev', lk', 0, [(2, 7)], [(1, 1, 0)]⟩ w ha hb _ (by show _ = _; simp [leaksR, lkEq])
def refL (k x : Int) : Bool := decide (k = 1 ∧ x = 3) || decide (k = 2 ∨ k = 4)
theorem refL4 : refL 1 4 = false := by decide
theorem refL2 : refL 2 0 = true := by decide
theorem refines_l (k x : Int) {ev lk ev' lk' : Value} {w : World} (ha : RunAt w ⟨k, x, ev, lk, 0, [(2, 7)], [(1, 1, 0)]⟩) (hb : RunAt w ⟨1, 3, ev', lk', 0, [(2, 7)], [(1, 1, 0)]⟩) : Calls Tryd.prog 11 #[.agg #[.int .i64 k, .int .i64 x, ev, lk, .int .i64 0], .agg #[.int .i64 1, .int .i64 3, ev', lk', .int .i64 0]] w (retP (.bool (refL k x)) w) :=
  refines_to ⟨k, x, ev, lk, 0, [(2, 7)], [(1, 1, 0)]⟩ ⟨1, 3, ev', lk', 0, [(2, 7)], [(1, 1, 0)]⟩ w ha hb _ (by show _ = _; simp [refR, sameR, evEq, cutR, evPre, refL])
theorem d33 : decide ((3 : Int) = 3) = true := by decide
theorem d34 : decide ((3 : Int) = 4) = false := by decide
set_option maxHeartbeats 8000000 in
theorem awake_any (w : World) (ht : Tab w) : Calls Tryd.prog 9 #[] w (retP (.bool true) w) := by
  have HT : Hid (Tab w) := ht
  clear ht
  go_enter Tryd.func9, Tryd.ntmps9
  go_wp2_with fail
  refine (new_any (l := [5]) ⟨some ⟨w.heap.size, 0, none⟩, 1, rfl, by simp, by simp, fun _ => ⟨_, _, rfl, fun i x hx => ?_⟩⟩ (by simp) (by simp)).mono ?_
  · match i, hx with
    | 0, hx => simp at hx; subst hx; simp
    | (j + 1), hx => simp at hx
  rintro e w1 ⟨p, rfl, hw1, hb1⟩
  have HB1 : Hid (Below w.heap.size w w1) := (by repeat (first | with_reducible exact Below.refl _ _ | with_reducible refine bel_alloc ?_ _ | with_reducible refine bel_set ?_ (by first | exact Nat.le_refl _ | (simp; done) | (simp; omega)) _ | with_reducible refine Below.drew ?_ | refine bel_trans ?_ (by assumption)))
  simp only [World.size_alloc] at hw1
  have HW1 : Hid (WorldAt (w.heap.size + 1) w1 p [5] 0) := hw1
  clear hb1 hw1
  go_wp2_with fail
  refine (next_to (u := 0) 5 1 HW1.out (by simp) (by simp) rfl rfl).mono ?_
  rintro e w2 ⟨rfl, hw2, hb2⟩
  have HB2 : Hid (Below w.heap.size w w2) := HB1.out.trans (hb2.mono (by omega))
  have HW2 : Hid (WorldAt (w.heap.size + 1) w2 p [5] 1) := hw2
  clear HB1 HW1 hb2 hw2
  go_wp2_with fail
  refine (next_to (u := 1) 0 2 HW2.out (by simp) (by simp) rfl rfl).mono ?_
  rintro e w3 ⟨rfl, hw3, hb3⟩
  have HB3 : Hid (Below w.heap.size w w3) := HB2.out.trans (hb3.mono (by omega))
  have HW3 : Hid (WorldAt (w.heap.size + 1) w3 p [5] 2) := hw3
  clear HB2 HW2 hb3 hw3
  go_wp2_with fail
  refine (run_any _ _ _).mono ?_
  rintro e w4 ⟨ev, lk, rfl, hr4, hb4⟩
  have HB4 : Hid (Below w.heap.size w w4) := bel_trans HB3.out hb4
  have HW4 : Hid (WorldAt (w.heap.size + 1) w4 p [5] 2) := HW3.out.keep hb4
  have HR4 : Hid (RunAt w4 ⟨2, 0, ev, lk, 0, [(2, 7)], [(1, 1, 0)]⟩) := hr4
  obtain ⟨⟨ea, ec, hea, _⟩, ⟨la, lc, hla, _⟩⟩ := hr4
  simp only [] at hea hla
  subst hea hla
  clear HB3 HW3 hb4
  go_wp2_with fail
  refine (run_any _ _ _).mono ?_
  rintro e w5 ⟨ev5, lk5, rfl, hr5, hb5⟩
  have HB5 : Hid (Below w4.heap.size w4 w5) := (by repeat (first | with_reducible exact Below.refl _ _ | with_reducible refine bel_alloc ?_ _ | with_reducible refine bel_set ?_ (by first | exact Nat.le_refl _ | (simp; done) | (simp; omega)) _ | with_reducible refine Below.drew ?_ | refine bel_trans ?_ (by assumption)))
  have f0 : w5.cell? ⟨w4.heap.size, 0, none⟩ = some (.int .i64 2) := keep_cell hb5 (by go_simp)
  have f1 : w5.cell? ⟨w4.heap.size, 1, none⟩ = some (.int .i64 0) := keep_cell hb5 (by go_simp)
  have f2 : w5.cell? ⟨w4.heap.size, 2, none⟩ = some (.slice ea 1 ec) := keep_cell hb5 (by go_simp)
  have f3 : w5.cell? ⟨w4.heap.size, 3, none⟩ = some (.slice la 1 lc) := keep_cell hb5 (by go_simp)
  have f4 : w5.cell? ⟨w4.heap.size, 4, none⟩ = some (.int .i64 0) := keep_cell hb5 (by go_simp)
  clear hb5
  go_wp2_with fail
  refine (outs_run ⟨1, 3, ev5, lk5, 0, [(2, 7)], [(1, 1, 0)]⟩ _ hr5 (by simp)).mono ?_
  rintro e w6 ⟨o, rfl, ho6, hb6⟩
  clear hr5
  obtain ⟨oa, oc, ho, _, _, hol⟩ := ho6
  obtain ⟨og, oo, hoa, hoc⟩ := hol (by simp [outsL])
  subst ho
  subst hoa
  have o0 := hoc 0 7 (by simp [outsL])
  rw [Nat.add_zero] at o0
  have HB6 : Hid (Below w4.heap.size w4 w6) := bel_trans HB5.out hb6
  replace f0 := keep_cell hb6 f0
  replace f1 := keep_cell hb6 f1
  replace f2 := keep_cell hb6 f2
  replace f3 := keep_cell hb6 f3
  replace f4 := keep_cell hb6 f4
  have HR6 : Hid (RunAt w6 ⟨2, 0, .slice ea 1 ec, .slice la 1 lc, 0, [(2, 7)], [(1, 1, 0)]⟩) := RunAt.keep HR4.out HB6.out
  have HW6 : Hid (WorldAt (w.heap.size + 1) w6 p [5] 2) := HW4.out.keep HB6.out
  have HBw : Hid (Below w.heap.size w w6) := bel_trans HB4.out HB6.out
  have HT6 : Hid (Tab w6) := tab_keep HT.out HBw.out
  have hol1 : (outsL [((2 : Int), (7 : Int))]).length = 1 := rfl
  clear hb6 hol hoc HR4 HW4 HB4 HB5 HB6 HT
  simp only [hol1]
  have hdB : ∀ {A1 A2 A3 A4 A5 A6 : Prop} {v : World}, A1 ∧ A2 ∧ A3 ∧ A4 ∧ A5 ∧ A6 ∧ Below w6.heap.size w6 v → Below w6.heap.size w6 v := fun h => h.2.2.2.2.2.2
  have hdS : ∀ {v : World}, Below w6.heap.size w6 v → (v.cell? ⟨w4.heap.size, 0, none⟩ = some (.int .i64 2) ∧ v.cell? ⟨w4.heap.size, 1, none⟩ = some (.int .i64 0) ∧ v.cell? ⟨w4.heap.size, 2, none⟩ = some (.slice ea 1 ec) ∧ v.cell? ⟨w4.heap.size, 3, none⟩ = some (.slice la 1 lc) ∧ v.cell? ⟨w4.heap.size, 4, none⟩ = some (.int .i64 0) ∧ v.cell? ⟨og, oo, none⟩ = some (.int .i64 7) ∧ Below w6.heap.size w6 v) := fun h => ⟨keep_cell h f0, keep_cell h f1, keep_cell h f2, keep_cell h f3, keep_cell h f4, keep_cell h o0, h⟩
  go_wp2_with fail
  go_region_held3 (fun w' => w'.cell? ⟨w4.heap.size, 0, none⟩ = some (.int .i64 2) ∧ w'.cell? ⟨w4.heap.size, 1, none⟩ = some (.int .i64 0) ∧ w'.cell? ⟨w4.heap.size, 2, none⟩ = some (.slice ea 1 ec) ∧ w'.cell? ⟨w4.heap.size, 3, none⟩ = some (.slice la 1 lc) ∧ w'.cell? ⟨w4.heap.size, 4, none⟩ = some (.int .i64 0) ∧ w'.cell? ⟨og, oo, none⟩ = some (.int .i64 7) ∧ Below w6.heap.size w6 w')
    (first | with_reducible exact hdS (Below.drew (Below.refl _ _)) | with_reducible exact hdS (bel_trans (hdB (by assumption)) (by assumption)))
    (first | (go_at_call 15; refine (used_to (HW6.out.keep (hdB (by assumption)))).mono ?_; rintro e v1 ⟨rfl, hv1⟩) | (go_at_call 12; refine (run_any _ _ _).mono ?_; rintro e v1 ⟨ev, lk, rfl, hr, hv1⟩) | (go_at_call 10; refine (text_to ⟨1, 3, _, _, 0, [(2, 7)], [(1, 1, 0)]⟩ _ _ (txt37 _ _) (by assumption) (by simp) (ok7 7 (by decide) (by decide)) (by simp) (by simp) (tab_keep HT6.out (hdB (by assumption)))).mono ?_; rintro e v1 ⟨rfl, hv1⟩) | (go_at_call 17; refine (same_l _ _ (by first | exact RunAt.keep (by assumption) (by assumption) | exact HR6.out.keep (hdB (by assumption))) (by assumption)).mono ?_; rintro e v1 ⟨rfl, hv1⟩; simp only [d33, d34]) | (go_at_call 19; refine (leaks_l _ _ (by first | exact RunAt.keep (by assumption) (by assumption) | exact HR6.out.keep (hdB (by assumption))) (by assumption)).mono ?_; rintro e v1 ⟨rfl, hv1⟩) | (go_at_call 11; refine (refines_l _ _ (by first | exact RunAt.keep (by assumption) (by assumption) | exact HR6.out.keep (hdB (by assumption))) (by assumption)).mono ?_; rintro e v1 ⟨rfl, hv1⟩; simp only [refL4, refL2]) | (go_at_call 13; refine (prefix_to (nil_ev _) (HR6.out.keep (hdB (by assumption))).1 (r := true) (show true = evPre _ _ by simp [evPre])).mono ?_; rintro e v1 ⟨rfl, hv1⟩))
  all_goals
    have hfin := bel_trans HBw.out (hdB (by assumption))
    go_wp2
    go_ret
    exact ⟨rfl, hfin⟩
end Go.Proofs.YtokdnjnkgflbcaaDoor
