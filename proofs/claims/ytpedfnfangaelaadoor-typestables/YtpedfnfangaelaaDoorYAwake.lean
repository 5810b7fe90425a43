/- The sample; what the chapter tells of it. -/
import Derived.Test.YtpedfnfangaelaaDoorYNew2
import Derived.Laws.StructEq
namespace Go.Proofs.YtpedfnfangaelaaDoor
open Go.ChangeShapes Go.WideShapes Go.ChangeAt Go.RowKit
set_option linter.unusedSimpArgs false
set_option linter.unusedVariables false

def sampleL : List St := [⟨⟨#[112]⟩, [⟨⟨#[99]⟩, ⟨#[99, 104, 97, 114]⟩⟩, ⟨⟨#[105]⟩, ⟨#[105, 110, 116]⟩⟩, ⟨⟨#[100]⟩, ⟨#[99, 104, 97, 114]⟩⟩, ⟨⟨#[108]⟩, ⟨#[108, 111, 110, 103]⟩⟩]⟩]
def shpP : Shp := ⟨[⟨⟨#[99]⟩, ⟨#[99, 104, 97, 114]⟩, 0⟩, ⟨⟨#[105]⟩, ⟨#[105, 110, 116]⟩, 4⟩, ⟨⟨#[100]⟩, ⟨#[99, 104, 97, 114]⟩, 8⟩, ⟨⟨#[108]⟩, ⟨#[108, 111, 110, 103]⟩, 16⟩], 24, 8⟩
def tabP : Tab := ⟨[⟨#[112]⟩], [shpP]⟩
theorem new_sample : newF sampleL = (0, 0, [shpP]) := by kernel_rfl
theorem size_p : szF tabP ⟨#[115, 116, 114, 117, 99, 116, 32, 112]⟩ = (24, 8, 0) := by kernel_rfl
theorem shape_p : shF tabP ⟨#[112]⟩ = (shpP, true) := by kernel_rfl
theorem size_5 : szF tabP ⟨#[105, 110, 116, 91, 53, 93]⟩ = (20, 4, 0) := by kernel_rfl
theorem elem_c : elF ⟨#[99, 104, 97, 114, 42, 91, 50, 93]⟩ = (⟨#[99, 104, 97, 114, 42]⟩, true) := by kernel_rfl
theorem join_cc : joinS ⟨#[99, 104, 97, 114]⟩ ⟨#[99, 104, 97, 114]⟩ = (⟨#[105, 110, 116]⟩, true) := by kernel_rfl
theorem scalar_pp : scF tabP ⟨#[115, 116, 114, 117, 99, 116, 32, 112, 42]⟩ = true := by kernel_rfl
theorem scalar_p : scF tabP ⟨#[115, 116, 114, 117, 99, 116, 32, 112]⟩ = false := by kernel_rfl
theorem sample_st (w w' : World) (f g : Nat) (h1 : w'.heap[f]? = some (.cells #[.string ⟨#[99]⟩, .string ⟨#[99, 104, 97, 114]⟩, .string ⟨#[105]⟩, .string ⟨#[105, 110, 116]⟩, .string ⟨#[100]⟩, .string ⟨#[99, 104, 97, 114]⟩, .string ⟨#[108]⟩, .string ⟨#[108, 111, 110, 103]⟩] 51 (0, 0))) (h2 : w'.heap[g]? = some (.cells #[.string ⟨#[112]⟩, .slice (some ⟨f, 0, none⟩) 4 4] 40 (0, 0))) : StAt w' (.slice (some ⟨g, 0, none⟩) 1 1) sampleL := by
  refine ⟨some ⟨g, 0, none⟩, 1, rfl, by decide, fun _ => ⟨g, 0, rfl, fun i x hx => ?_⟩⟩
  match i, hx with
  | 0, hx =>
    simp only [sampleL, List.getElem?_cons_zero, Option.some.injEq] at hx
    subst hx
    refine ⟨heap_cell h2 (by rfl), .slice (some ⟨f, 0, none⟩) 4 4, heap_cell h2 (by rfl), some ⟨f, 0, none⟩, 4, rfl, by decide, fun _ => ⟨f, 0, rfl, fun j y hy => ?_⟩⟩
    match j, hy with
    | 0, hy => simp only [List.getElem?_cons_zero, Option.some.injEq] at hy; subst hy; exact ⟨heap_cell h1 (by rfl), heap_cell h1 (by rfl)⟩
    | 1, hy => simp only [List.getElem?_cons_succ, List.getElem?_cons_zero, Option.some.injEq] at hy; subst hy; exact ⟨heap_cell h1 (by rfl), heap_cell h1 (by rfl)⟩
    | 2, hy => simp only [List.getElem?_cons_succ, List.getElem?_cons_zero, Option.some.injEq] at hy; subst hy; exact ⟨heap_cell h1 (by rfl), heap_cell h1 (by rfl)⟩
    | 3, hy => simp only [List.getElem?_cons_succ, List.getElem?_cons_zero, Option.some.injEq] at hy; subst hy; exact ⟨heap_cell h1 (by rfl), heap_cell h1 (by rfl)⟩
    | j + 4, hy => simp at hy
  | i + 1, hx => simp [sampleL] at hx
theorem sample_s : StS sampleL := by
  intro x hx
  simp only [sampleL, List.mem_singleton] at hx
  subst hx
  refine ⟨by decide, fun f hf => ?_⟩
  simp only [List.mem_cons, List.not_mem_nil, or_false] at hf
  rcases hf with rfl | rfl | rfl | rfl <;> exact ⟨by decide, by decide⟩
/-- The sample's two blocks. -/
def SampleAt (w : World) (f g : Nat) : Prop := w.heap[f]? = some (.cells #[.string ⟨#[99]⟩, .string ⟨#[99, 104, 97, 114]⟩, .string ⟨#[105]⟩, .string ⟨#[105, 110, 116]⟩, .string ⟨#[100]⟩, .string ⟨#[99, 104, 97, 114]⟩, .string ⟨#[108]⟩, .string ⟨#[108, 111, 110, 103]⟩] 51 (0, 0)) ∧ w.heap[g]? = some (.cells #[.string ⟨#[112]⟩, .slice (some ⟨f, 0, none⟩) 4 4] 40 (0, 0))
set_option maxHeartbeats 1000000 in
theorem sample_any (w : World) : Calls Tryd.prog 9 #[] w fun e w' => e = .returned (.slice (some ⟨w.heap.size + 1, 0, none⟩) 1 1) ∧ w' = (w.alloc (.cells #[.string ⟨#[99]⟩, .string ⟨#[99, 104, 97, 114]⟩, .string ⟨#[105]⟩, .string ⟨#[105, 110, 116]⟩, .string ⟨#[100]⟩, .string ⟨#[99, 104, 97, 114]⟩, .string ⟨#[108]⟩, .string ⟨#[108, 111, 110, 103]⟩] 51)).alloc (.cells #[.string ⟨#[112]⟩, .slice (some ⟨w.heap.size, 0, none⟩) 4 4] 40) := by
  go_enter Tryd.func9, Tryd.ntmps9
  go_wp2
  go_ret
  exact ⟨by simp, rfl⟩
theorem sample_to (w : World) : Calls Tryd.prog 9 #[] w fun e w' => e = .returned (.slice (some ⟨w.heap.size + 1, 0, none⟩) 1 1) ∧ SampleAt w' w.heap.size (w.heap.size + 1) ∧ Below w.heap.size w w' := by
  refine (sample_any w).mono ?_
  rintro e w' ⟨rfl, rfl⟩
  refine ⟨rfl, ⟨?_, ?_⟩, bel_alloc (bel_new w _) _⟩
  · rw [Below.heap_alloc _ _ _ (by simp)]; exact heap_new w _
  · have := heap_new (w.alloc (.cells #[.string ⟨#[99]⟩, .string ⟨#[99, 104, 97, 114]⟩, .string ⟨#[105]⟩, .string ⟨#[105, 110, 116]⟩, .string ⟨#[100]⟩, .string ⟨#[99, 104, 97, 114]⟩, .string ⟨#[108]⟩, .string ⟨#[108, 111, 110, 103]⟩] 51)) (.cells #[.string ⟨#[112]⟩, .slice (some ⟨w.heap.size, 0, none⟩) 4 4] 40)
    rw [World.size_alloc] at this
    exact this
theorem good_p : GoodT tabP := by
  intro x hx
  simp only [tabP, List.mem_singleton] at hx
  subst hx
  decide
set_option maxRecDepth 100000 in
set_option maxHeartbeats 4000000 in
theorem awake_any (w : World) : Calls Tryd.prog 7 #[] w (retP (.bool true) w) := by
  have HS : Hid (∀ w, Calls Tryd.prog 9 #[] w fun e w' => e = .returned (.slice (some ⟨w.heap.size + 1, 0, none⟩) 1 1) ∧ SampleAt w' w.heap.size (w.heap.size + 1) ∧ Below w.heap.size w w') := sample_to
  have HN : Hid (∀ w' f g, SampleAt w' f g → Calls Tryd.prog 8 #[.slice (some ⟨g, 0, none⟩) 1 1] w' fun e w2 => Below w'.heap.size w' w2 ∧ ∃ tb, e = .returned (.tuple #[.pointer (some ⟨tb, 0, none⟩), .int .i64 0, .int .i64 0]) ∧ TabAt w2 tb tabP) := fun w' f g h => (new_any _ sampleL w' (sample_st w' w' f g h.1 h.2) sample_s).mono (fun e w2 h2 => by
    rw [new_sample] at h2
    obtain ⟨tb, h3, h4, _⟩ := h2.2.2 rfl
    exact ⟨h2.1, tb, h3, h4⟩)
  have HZ1 : Hid (∀ w' tb, TabAt w' tb tabP → Calls Tryd.prog 10 #[.pointer (some ⟨tb, 0, none⟩), .string ⟨#[115, 116, 114, 117, 99, 116, 32, 112]⟩] w' (retP (.tuple #[.int .i64 24, .int .i64 8, .int .i64 0]) w')) := fun w' tb h => by
    have := size_any tb tabP ⟨#[115, 116, 114, 117, 99, 116, 32, 112]⟩ (by decide) w' h good_p
    rw [size_p] at this
    exact this
  have HZ2 : Hid (∀ w' tb, TabAt w' tb tabP → Calls Tryd.prog 10 #[.pointer (some ⟨tb, 0, none⟩), .string ⟨#[105, 110, 116, 91, 53, 93]⟩] w' (retP (.tuple #[.int .i64 20, .int .i64 4, .int .i64 0]) w')) := fun w' tb h => by
    have := size_any tb tabP ⟨#[105, 110, 116, 91, 53, 93]⟩ (by decide) w' h good_p
    rw [size_5] at this
    exact this
  have HL : Hid (∀ w' tb, TabAt w' tb tabP → Calls Tryd.prog 11 #[.pointer (some ⟨tb, 0, none⟩), .string ⟨#[112]⟩] w' (retLy shpP.places true w')) := fun w' tb h => by
    have := layout_any tb tabP ⟨#[112]⟩ (by decide) w' h (by rw [shape_p]; intro _; exact ⟨by simp [shpP], by decide⟩)
    rw [shape_p] at this
    exact this
  have HE : Hid (∀ w', Calls Tryd.prog 13 #[.string ⟨#[99, 104, 97, 114, 42, 91, 50, 93]⟩] w' (retP (.tuple #[.string ⟨#[99, 104, 97, 114, 42]⟩, .bool true]) w')) := fun w' => by
    have := elem_any ⟨#[99, 104, 97, 114, 42, 91, 50, 93]⟩ (by decide) w'
    rw [elem_c] at this
    exact this
  have HJ : Hid (∀ w', Calls Tryd.prog 12 #[.string ⟨#[99, 104, 97, 114]⟩, .string ⟨#[99, 104, 97, 114]⟩] w' fun e w2 => e = .returned (.tuple #[.string ⟨#[105, 110, 116]⟩, .bool true]) ∧ w2 = w') := fun w' => by
    have := join_any ⟨#[99, 104, 97, 114]⟩ ⟨#[99, 104, 97, 114]⟩ w'
    rw [join_cc] at this
    exact this
  have HC1 : Hid (∀ w' tb, TabAt w' tb tabP → Calls Tryd.prog 19 #[.pointer (some ⟨tb, 0, none⟩), .string ⟨#[115, 116, 114, 117, 99, 116, 32, 112, 42]⟩] w' (retP (.bool true) w')) := fun w' tb h => by
    have := scalar_any tb tabP ⟨#[115, 116, 114, 117, 99, 116, 32, 112, 42]⟩ (by decide) w' h
    rw [scalar_pp] at this
    exact this
  have HC2 : Hid (∀ w' tb, TabAt w' tb tabP → Calls Tryd.prog 19 #[.pointer (some ⟨tb, 0, none⟩), .string ⟨#[115, 116, 114, 117, 99, 116, 32, 112]⟩] w' (retP (.bool false) w')) := fun w' tb h => by
    have := scalar_any tb tabP ⟨#[115, 116, 114, 117, 99, 116, 32, 112]⟩ (by decide) w' h
    rw [scalar_p] at this
    exact this
  go_enter Tryd.func7, Tryd.ntmps7
  go_wp2_with fail
  refine (HS.out _).mono ?_
  rintro e w1 ⟨rfl, hs1, hb1⟩
  dsimp only
  have H1 : Hid (SampleAt w1 w.heap.size (w.heap.size + 1) ∧ Below w.heap.size w w1) := ⟨hs1, hb1⟩
  clear hs1 hb1
  go_wp2_with fail
  refine (HN.out _ _ _ H1.out.1).mono ?_
  rintro e w2 ⟨hb2, tb, rfl, ht2⟩
  dsimp only
  have H2 : Hid (TabAt w2 tb tabP ∧ Below w.heap.size w w2) := ⟨ht2, bel_trans H1.out.2 hb2⟩
  clear hb2 ht2 H1
  go_wp2_with fail
  refine (HZ1.out _ _ H2.out.1).mono ?_
  rintro e w3 ⟨rfl, hb3⟩
  dsimp only
  have H3 : Hid (TabAt w3 tb tabP ∧ Below w.heap.size w w3) := ⟨H2.out.1.keep hb3, bel_trans H2.out.2 hb3⟩
  clear hb3 H2
  go_wp2_with fail
  refine (HL.out _ _ H3.out.1).mono ?_
  rintro e w4 ⟨lv, rfl, hp4, hb4⟩
  have H4 : Hid (TabAt w4 tb tabP ∧ Below w.heap.size w w4) := ⟨H3.out.1.keep hb4, bel_trans H3.out.2 hb4⟩
  obtain ⟨la, lc, rfl, -, -, hpl⟩ := hp4
  obtain ⟨lb, lo, rfl, hcell⟩ := hpl (by simp [shpP])
  obtain ⟨e0, e1, e2⟩ := hcell 3 ⟨⟨#[108]⟩, ⟨#[108, 111, 110, 103]⟩, 16⟩ rfl
  have e3 : shpP.places.length = 4 := rfl
  rw [e3]
  clear hb4 H3 hcell hpl e3
  simp only [if_true]
  go_wp2_with fail
  refine (HZ2.out _ _ H4.out.1).mono ?_
  rintro e w5 ⟨rfl, hb5⟩
  dsimp only
  have H5 : Hid (TabAt w5 tb tabP ∧ Below w.heap.size w w5) := ⟨H4.out.1.keep hb5, bel_trans H4.out.2 hb5⟩
  replace e0 := keep_cell hb5 e0
  replace e1 := keep_cell hb5 e1
  replace e2 := keep_cell hb5 e2
  clear hb5 H4
  go_wp2_with fail
  refine (HE.out _).mono ?_
  rintro e w6 ⟨rfl, hb6⟩
  dsimp only
  have H6 : Hid (TabAt w6 tb tabP ∧ Below w.heap.size w w6) := ⟨H5.out.1.keep hb6, bel_trans H5.out.2 hb6⟩
  replace e0 := keep_cell hb6 e0
  replace e1 := keep_cell hb6 e1
  replace e2 := keep_cell hb6 e2
  clear hb6 H5
  go_wp2_with fail
  refine (HJ.out _).mono ?_
  rintro e w7 ⟨rfl, hw⟩
  replace hw := hw.symm
  subst hw
  dsimp only
  simp only [Nat.reduceMul, Nat.reduceAdd, Nat.add_assoc] at e0 e1 e2
  go_wp2_with fail
  refine (HC1.out _ _ H6.out.1).mono ?_
  rintro e w8 ⟨rfl, hb8⟩
  dsimp only
  have H8 : Hid (TabAt w8 tb tabP ∧ Below w.heap.size w w8) := ⟨H6.out.1.keep hb8, bel_trans H6.out.2 hb8⟩
  clear hb8 H6
  go_wp2_with fail
  refine (HC2.out _ _ H8.out.1).mono ?_
  rintro e w9 ⟨rfl, hb9⟩
  go_wp2
  go_ret
  exact ⟨rfl, bel_trans H8.out.2 hb9⟩

end Go.Proofs.YtpedfnfangaelaaDoor
