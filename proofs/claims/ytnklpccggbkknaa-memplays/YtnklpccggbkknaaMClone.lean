/- Contracts of slices.Clone at the blocks and at the pages; own. -/
import Derived.Test.YtnklpccggbkknaaMAlloc
namespace Go.Proofs.Ytnklpccggbkknaa
open Go.ChangeShapes Go.WideShapes Go.ChangeAt Go.RowKit Pl
set_option linter.unusedSimpArgs false
set_option linter.unusedVariables false

/-- What a clone is: a row of the call's own, with the same cells. -/
structure Cloned (w w' : World) (e size n : Nat) (cells : Nat → Option Value) (g cap : Nat) (cur : Array Value) : Prop where
  bel : Below w.heap.size w w'
  ge : w.heap.size ≤ g
  lt : g < w'.heap.size
  row : w'.heap[g]? = some (.cells cur e (0, 0))
  le : n ≤ cap
  max : cap ≤ maxLen
  sz : cur.size = cap * size
  same : ∀ o, o < n * size → cur[o]? = cells o

theorem nilC_blocks (w : World) (a : Option Addr) (n c n' c' : Nat) : (binOp .eql 62 (.slice a n c) (.slice none n' c')).run Try.prog w = .ok (.bool a.isNone) w :=
  Lib.run_eql_slice_nil w _ _ a n c n' c' Try.underlying62
set_option maxHeartbeats 1000000 in
theorem clone_blocks_nil (w : World) : Calls Try.prog 29 #[.slice none 0 0] w fun e w' => e = .returned (.slice none 0 0) ∧ w' = w := by
  have q := nilC_blocks
  go_enter Try.func29, Try.ntmps29
  go_wp2
  go_ret
  exact ⟨rfl, rfl⟩
set_option maxHeartbeats 1000000 in
theorem clone_blocks (b n c : Nat) (cur : Array Value) (fr : Nat × Nat) (w : World) (HW : Hid (w.heap[b]? = some (.cells cur 68 fr))) (hn : 0 < n) (hN : n ≤ 1000000) (HS : Hid (n * 4 ≤ cur.size)) (H1 : Hid (∀ o u, o < n * 4 → cur[o]? = some u → u.oneCell' = true)) :
    Calls Try.prog 29 #[.slice (some ⟨b, 0, none⟩) n c] w fun e w' => ∃ g cap cur', e = .returned (.slice (some ⟨g, 0, none⟩) n cap) ∧ Cloned w w' 68 4 n (fun o => cur[o]?) g cap cur' := by
  obtain ⟨i0, hi, hz0, hz1, hz2⟩ := info_parts info73
  have HI : Hid (Try.prog.info? 68 = some i0 ∧ i0.zero = some (.agg #[.int .i64 0, .bool false, .bool false, .slice none 0 0]) ∧ i0.size = 4 ∧ i0.bytes = 40) := ⟨hi, hz0, hz1, hz2⟩
  clear hi hz0 hz1 hz2
  have HL : Hid ((cur.toList.take (n * 4)).length = n * 4) := by
    show _ = _
    have h := HS.out
    have : cur.toList.length = cur.size := rfl
    rw [List.length_take, this]
    omega
  have HC : Hid (∀ j u, (cur.toList.take (n * 4))[j]? = some u → (w.alloc (.cells #[] 68)).cell? ((⟨b, 0, none⟩ : Addr).add j) = some u) := fun j u hj => by
    refine keep_alloc ?_ _
    refine World.news_of_block HW.out j u ?_
    rw [List.getElem?_take] at hj
    split at hj
    · exact hj
    · cases hj
  have H2 : Hid (∀ u ∈ cur.toList.take (n * 4), u.oneCell' = true) := fun u hu => by
    obtain ⟨j, hj⟩ := List.mem_iff_getElem?.1 hu
    rw [List.getElem?_take] at hj
    split at hj
    · rename_i hlt
      exact H1.out j u hlt (by simpa using hj)
    · cases hj
  have HO : Hid ((w.alloc (.cells #[] 68)).ownsRow w.heap.size 68 4 (.slice (some ⟨w.heap.size, 0, none⟩) 0 0) 0 []) := World.ownsRow_made w #[] 0 (Nat.le_refl _) (Nat.zero_le _) rfl
  have q := nilC_blocks
  go_enter Try.func29, Try.ntmps29
  go_wp2_with (at_builtin; refine wpList_append_lies _ (by rfl) _ _ 62 (by rfl) w.heap.size 68 i0 (.agg #[.int .i64 0, .bool false, .bool false, .slice none 0 0]) 4 40 Try.underlying62 HI.out.1 HI.out.2.1 HI.out.2.2.1 HI.out.2.2.2 rfl (by omega) (.slice (some ⟨w.heap.size, 0, none⟩) 0 0) 0 [] (by rfl) HO.out ⟨b, 0, none⟩ n c (cur.toList.take (n * 4)) (by rfl) HL.out HC.out H2.out hn ?c3 ?c4 (by simp) (w.heap.size + 1) (by simp) ?_)
  case c3 => unfold maxLen; omega
  case c4 => omega
  intro g cap w1 hown hgrow hat hlt
  have HG : Hid (Cloned w w1 68 4 n (fun o => cur[o]?) g cap (match w1.heap[g]? with | some (.cells c _ _) => c | _ => #[])) := by
    obtain ⟨hxl, ⟨e, _⟩ | ⟨g2, cp2, cur2, e, hb, hh, h4, h5, h6, h7⟩⟩ := hown
    · cases e
    · cases e
      have hs := hgrow.size
      rw [World.size_alloc] at hs
      have hbel : Below w.heap.size w w1 := ((Below.refl _ w).alloc (Nat.le_refl _) _).grown hgrow (by simp) (by intro k hk; simp [Value.ownBlock] at hk; omega)
      refine ⟨hbel, hb, hlt, by rw [hh], by simpa using h4, h5, by rw [hh]; exact h6, fun o ho => ?_⟩
      rw [hh]
      have := take_get h7 (o := o) (by omega)
      rw [List.getElem?_take, if_pos (by omega)] at this
      simpa using this
  clear hown hgrow hat hlt
  go_wp2
  go_ret
  exact ⟨g, cap, _, by simp, HG.out⟩

theorem nilC_pages (w : World) (a : Option Addr) (n c n' c' : Nat) : (binOp .eql 66 (.slice a n c) (.slice none n' c')).run Try.prog w = .ok (.bool a.isNone) w :=
  Lib.run_eql_slice_nil w _ _ a n c n' c' Try.underlying66
set_option maxHeartbeats 1000000 in
theorem clone_pages_nil (w : World) : Calls Try.prog 46 #[.slice none 0 0] w fun e w' => e = .returned (.slice none 0 0) ∧ w' = w := by
  have q := nilC_pages
  go_enter Try.func46, Try.ntmps46
  go_wp2
  go_ret
  exact ⟨rfl, rfl⟩
set_option maxHeartbeats 1000000 in
theorem clone_pages (b n c : Nat) (cur : Array Value) (fr : Nat × Nat) (w : World) (HW : Hid (w.heap[b]? = some (.cells cur 91 fr))) (hn : 0 < n) (hN : n ≤ 1000000) (HS : Hid (n * 1 ≤ cur.size)) (H1 : Hid (∀ o u, o < n * 1 → cur[o]? = some u → u.oneCell' = true)) :
    Calls Try.prog 46 #[.slice (some ⟨b, 0, none⟩) n c] w fun e w' => ∃ g cap cur', e = .returned (.slice (some ⟨g, 0, none⟩) n cap) ∧ Cloned w w' 91 1 n (fun o => cur[o]?) g cap cur' := by
  obtain ⟨i0, hi, hz0, hz1, hz2⟩ := info_parts info93
  have HI : Hid (Try.prog.info? 91 = some i0 ∧ i0.zero = some (.pointer none) ∧ i0.size = 1 ∧ i0.bytes = 8) := ⟨hi, hz0, hz1, hz2⟩
  clear hi hz0 hz1 hz2
  have HL : Hid ((cur.toList.take (n * 1)).length = n * 1) := by
    show _ = _
    have h := HS.out
    have : cur.toList.length = cur.size := rfl
    rw [List.length_take, this]
    omega
  have HC : Hid (∀ j u, (cur.toList.take (n * 1))[j]? = some u → (w.alloc (.cells #[] 91)).cell? ((⟨b, 0, none⟩ : Addr).add j) = some u) := fun j u hj => by
    refine keep_alloc ?_ _
    refine World.news_of_block HW.out j u ?_
    rw [List.getElem?_take] at hj
    split at hj
    · exact hj
    · cases hj
  have H2 : Hid (∀ u ∈ cur.toList.take (n * 1), u.oneCell' = true) := fun u hu => by
    obtain ⟨j, hj⟩ := List.mem_iff_getElem?.1 hu
    rw [List.getElem?_take] at hj
    split at hj
    · rename_i hlt
      exact H1.out j u hlt (by simpa using hj)
    · cases hj
  have HO : Hid ((w.alloc (.cells #[] 91)).ownsRow w.heap.size 91 1 (.slice (some ⟨w.heap.size, 0, none⟩) 0 0) 0 []) := World.ownsRow_made w #[] 0 (Nat.le_refl _) (Nat.zero_le _) rfl
  have q := nilC_pages
  go_enter Try.func46, Try.ntmps46
  go_wp2_with (at_builtin; refine wpList_append_lies _ (by rfl) _ _ 66 (by rfl) w.heap.size 91 i0 (.pointer none) 1 8 Try.underlying66 HI.out.1 HI.out.2.1 HI.out.2.2.1 HI.out.2.2.2 rfl (by omega) (.slice (some ⟨w.heap.size, 0, none⟩) 0 0) 0 [] (by rfl) HO.out ⟨b, 0, none⟩ n c (cur.toList.take (n * 1)) (by rfl) HL.out HC.out H2.out hn ?c3 ?c4 (by simp) (w.heap.size + 1) (by simp) ?_)
  case c3 => unfold maxLen; omega
  case c4 => omega
  intro g cap w1 hown hgrow hat hlt
  have HG : Hid (Cloned w w1 91 1 n (fun o => cur[o]?) g cap (match w1.heap[g]? with | some (.cells c _ _) => c | _ => #[])) := by
    obtain ⟨hxl, ⟨e, _⟩ | ⟨g2, cp2, cur2, e, hb, hh, h4, h5, h6, h7⟩⟩ := hown
    · cases e
    · cases e
      have hs := hgrow.size
      rw [World.size_alloc] at hs
      have hbel : Below w.heap.size w w1 := ((Below.refl _ w).alloc (Nat.le_refl _) _).grown hgrow (by simp) (by intro k hk; simp [Value.ownBlock] at hk; omega)
      refine ⟨hbel, hb, hlt, by rw [hh], by simpa using h4, h5, by rw [hh]; exact h6, fun o ho => ?_⟩
      rw [hh]
      have := take_get h7 (o := o) (by omega)
      rw [List.getElem?_take, if_pos (by omega)] at this
      simpa using this
  clear hown hgrow hat hlt
  go_wp2
  go_ret
  exact ⟨g, cap, _, by simp, HG.out⟩

end Go.Proofs.Ytnklpccggbkknaa
