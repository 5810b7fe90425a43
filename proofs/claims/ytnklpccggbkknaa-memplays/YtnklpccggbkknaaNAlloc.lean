/- Contract of the document's own Alloc. -/
import Derived.Test.YtnklpccggbkknaaNPart
import Derived.Laws.MakeOwn
namespace Go.Proofs.Ytnklpccggbkknaa
open Go.ChangeShapes Go.WideShapes Go.ChangeAt Go.RowKit Pl
set_option linter.unusedSimpArgs false
set_option linter.unusedVariables false

theorem infoInt : (Try.prog.info? 3).map (fun i => (i.zero, i.size, i.bytes)) = some (some (.int .i64 0), 1, 8) := by kernel_rfl
theorem infoRB : (Try.prog.info? 51).map (fun i => (i.zero, i.size, i.bytes)) = some (some (.agg #[.slice none 0 0, .bool false]), 2, 32) := by kernel_rfl
theorem made_ints (n : Nat) : madeCells #[.int .i64 0] n = intCells (List.replicate n 0) := by
  apply Array.ext
  · have : (madeCells #[.int .i64 0] n).size = n := size_madeCells _ _
    rw [this]
    simp [intCells]
  · intro i h1 h2
    simp [madeCells, intCells, Nat.mod_one]
theorem make_ints (n : Nat) (hn : n ≤ 65536) (w : World) : (Instr.makeSlice 49 (.int .i64 n) (.int .i64 n)).run Try.prog w = .ok (.slice (some ⟨w.heap.size, 0, none⟩) n n) (w.alloc (.cells (intCells (List.replicate n 0)) 3)) := by
  obtain ⟨i0, hi, hz0, hz1, hz2⟩ := info_parts infoInt
  have := run_make (P := Try.prog) w 49 3 i0 (.int .i64 0) Try.underlying49 hi hz0 .i64 .i64 n n (by omega) (by omega) (by rw [hz2]; omega) (by omega)
  rw [this, hz1, ← made_ints]
  simp [Value.cells]
def mupto (s i : Nat) : List Int := List.replicate i (-1) ++ List.replicate (s - i) 0
theorem mupto_len (s i : Nat) (h : i ≤ s) : (mupto s i).length = s := by simp [mupto]; omega
theorem mupto_set (s i : Nat) (h : i < s) : (mupto s i).set i (-1) = mupto s (i + 1) := by
  unfold mupto
  rw [List.set_append_right _ _ (by simp), List.length_replicate, Nat.sub_self]
  obtain ⟨d, hd⟩ : ∃ d, s - i = d + 1 := ⟨s - i - 1, by omega⟩
  rw [hd, show s - (i + 1) = d by omega, List.replicate_succ, List.set_cons_zero, List.replicate_succ', List.append_assoc]
  rfl
def rnewCells (b s : Nat) : List Value := [.slice (some ⟨b, 0, none⟩) s s, .bool false]
set_option maxHeartbeats 1000000 in
theorem ralloc_arg (p : Nat) (x : Int) (w : World) (hx : x < 0 ∨ 65536 < x) :
    Calls Try.prog 10 #[.pointer (some ⟨p, 0, none⟩), .int .i64 x] w fun e w' => e = .returned (.tuple #[.int .i64 0, .int .i64 1]) ∧ w' = w := by
  by_cases h0 : x < 0
  · go_enter Try.func10, Try.ntmps10
    go_wp2
    go_ret2
    exact ⟨rfl, rfl⟩
  · have h1 : 65536 < x := by omega
    go_enter Try.func10, Try.ntmps10
    go_wp2
    go_ret2
    exact ⟨rfl, rfl⟩
set_option maxHeartbeats 1000000 in
theorem ralloc_limit (p n cap : Nat) (a : Option Addr) (x : Int) (w : World) (h0 : 0 ≤ x) (h1 : x ≤ 65536) (c0 : w.cell? ⟨p, 0, none⟩ = some (.slice a n cap)) (hn : (100000 : Int) ≤ (n : Int)) :
    Calls Try.prog 10 #[.pointer (some ⟨p, 0, none⟩), .int .i64 x] w fun e w' => e = .returned (.tuple #[.int .i64 0, .int .i64 2]) ∧ w' = w := by
  go_enter Try.func10, Try.ntmps10
  go_wp2
  go_ret2
  exact ⟨rfl, rfl⟩
theorem owns_of_heap {w w' : World} {B e k n : Nat} {v : Value} {xs : List Value} (h : w.ownsRow B e k v n xs) (hk : ∀ b, v.ownBlock = some b → w'.heap[b]? = w.heap[b]?) : w'.ownsRow B e k v n xs := by
  obtain ⟨h0, h1 | ⟨g, cap, cur, hv, h2, h3, h4⟩⟩ := h
  · exact ⟨h0, .inl h1⟩
  · refine ⟨h0, .inr ⟨g, cap, cur, hv, h2, ?_, h4⟩⟩
    rw [hk g (by rw [hv]; rfl)]
    exact h3
set_option maxHeartbeats 2000000 in
theorem ralloc_new (p n cap s : Nat) (a : Option Addr) (xs : List Value) (w : World) (h1 : (s : Int) ≤ 65536) (c0 : w.cell? ⟨p, 0, none⟩ = some (.slice a n cap)) (z0 : w.frozen? ⟨p, 0, none⟩ = false)
    (hn : (n : Int) < 100000) (HO : Hid (w.ownsRow 0 51 2 (.slice a n cap) n xs)) (hne : (Value.slice a n cap).ownBlock ≠ some p) (hbl : ∀ b, (Value.slice a n cap).ownBlock = some b → b < w.heap.size) :
    Calls Try.prog 10 #[.pointer (some ⟨p, 0, none⟩), .int .i64 s] w fun e w' => e = .returned (.tuple #[.int .i64 ((n : Int) + 1), .int .i64 0]) ∧
      ∃ g cap' wr w1, IntsAt (w.alloc (.cells (intCells (List.replicate s 0)) 3)) wr w.heap.size (List.replicate s (-1)) ∧ (wr.alloc (.cells (rnewCells w.heap.size s).toArray 51)).grownBy w1 (Value.slice a n cap).ownBlock ∧ w1.ownsRow 0 51 2 (.slice (some ⟨g, 0, none⟩) (n + 1) cap') (n + 1) (xs ++ rnewCells w.heap.size s) ∧
        ((Value.slice a n cap).ownBlock = some g ∨ g = wr.heap.size + 1) ∧ g < w1.heap.size ∧ w' = w1.setCell ⟨p, 0, none⟩ (.slice (some ⟨g, 0, none⟩) (n + 1) cap') := by
  obtain ⟨i0, hi, hz0, hz1, hz2⟩ := info_parts infoRB
  have pl : p < w.heap.size := block_lt_of_cell c0
  have HI : Hid (Try.prog.info? 51 = some i0 ∧ i0.zero = some (.agg #[.slice none 0 0, .bool false]) ∧ i0.size = 2 ∧ i0.bytes = 32) := ⟨hi, hz0, hz1, hz2⟩
  have HN : Hid ((Value.slice a n cap).ownBlock ≠ some p ∧ ∀ b, (Value.slice a n cap).ownBlock = some b → b < w.heap.size) := ⟨hne, hbl⟩
  have HB : Hid (n < 100000) := by show n < 100000; omega
  have hdec : decide ((100000 : Int) ≤ (n : Int)) = false := by simp; omega
  have mk := make_ints s (by omega)
  clear hi hz0 hz1 hz2 hne hn hbl
  have s0 : (0 : Int) ≤ s := by omega
  go_enter Try.func10, Try.ntmps10
  go_wp2
  go_loopw [7] (fun v wr => ∃ i : Nat, i ≤ s ∧ v = .int .i64 i ∧ Hid (IntsAt (w.alloc (.cells (intCells (List.replicate s 0)) 3)) wr w.heap.size (mupto s i))) (fun v _ => s - (intOf v).toNat)
  case atStart =>
    refine ⟨0, by omega, rfl, ?_⟩
    refine ⟨rfl, rfl, rfl, rfl, fun _ _ => rfl, ?_⟩
    simpa [mupto] using heap_alloc_new w (.cells (intCells (List.replicate s 0)) 3)
  case round =>
    obtain ⟨i, hi, rfl, HA⟩ := hrel
    by_cases him : i < s
    · have i0' : (0 : Int) ≤ i := by omega
      have i1 : (i : Int) < s := by omega
      obtain ⟨y, hy⟩ : ∃ y, (mupto s i)[i]? = some y := ⟨_, List.getElem?_eq_getElem (by rw [mupto_len s i (by omega)]; exact him)⟩
      have ci : wr.cell? ⟨w.heap.size, i, none⟩ = some (.int .i64 y) := heap_cell HA.out.row (by rw [intCells_get, hy]; rfl)
      have fi : wr.frozen? ⟨w.heap.size, i, none⟩ = false := heap_frozen HA.out.row
      clear hy
      go_wp2
      go_roundw
      case rel =>
        refine ⟨i + 1, by omega, by simp, ?_⟩
        have h := HA.out
        refine ⟨h.os, h.tape, h.output, (size_set _ _ _).trans h.size, fun q hq => (heap_set_other hq).trans (h.block q hq), ?_⟩
        rw [heap_set_same h.row, intCells_set, mupto_set s i him]
      case measure => simp [intOf]; omega
    · have hie : i = s := by omega
      subst hie
      have HA2 : Hid (IntsAt (w.alloc (.cells (intCells (List.replicate i 0)) 3)) wr w.heap.size (List.replicate i (-1))) := by
        have h0 := HA.out
        have h1 : IntsAt (w.alloc (.cells (intCells (List.replicate i 0)) 3)) wr w.heap.size (List.replicate i (-1)) := by simpa [mupto] using h0
        exact h1
      clear HA him hi mk
      have hsz : wr.heap.size = w.heap.size + 1 := by rw [HA2.out.size, World.size_alloc]
      have hblk : ∀ b, b < w.heap.size → wr.heap[b]? = w.heap[b]? := fun b hb => (HA2.out.block b (by omega)).trans (Below.heap_alloc w _ b hb)
      have d0 : wr.cell? ⟨p, 0, none⟩ = some (.slice a n cap) := (World.cell?_of_block (hblk p pl)).trans c0
      have HO2 : Hid (wr.ownsRow 0 51 2 (.slice a n cap) n xs) := owns_of_heap HO.out (fun b hb => hblk b (HN.out.2 b hb))
      have HBL : Hid (∀ b, b < w.heap.size → wr.heap[b]? = w.heap[b]?) := hblk
      have zr : wr.frozen? ⟨p, 0, none⟩ = false := (World.frozen?_of_block (hblk p pl)).trans z0
      have HSZ : Hid (wr.heap.size = w.heap.size + 1) := hsz
      have plr : p < wr.heap.size := by omega
      clear hblk c0 z0 hsz
      go_wp2_with (at_builtin; refine wpList_append_lies _ (by rfl) _ _ 27 (by rfl) 0 51 i0 (.agg #[.slice none 0 0, .bool false]) 2 32 Try.underlying27 HI.out.1 HI.out.2.1 HI.out.2.2.1 HI.out.2.2.2 rfl (by omega) (.slice a n cap) n xs (by rfl) (HO2.out.alloc _) ⟨wr.heap.size, 0, none⟩ 1 1 (rnewCells w.heap.size i) (by rfl) (by rfl) ?c1 ?c2 (by omega) ?c3 ?c4 (Nat.zero_le _) (wr.heap.size + 1) (by simp) ?_)
      case c1 => exact World.news_of_block (heap_alloc_new wr (.cells (rnewCells w.heap.size i).toArray 51))
      case c2 => intro u hu; simp [rnewCells] at hu; rcases hu with rfl | rfl <;> rfl
      case c3 => have := HB.out; unfold maxLen; omega
      case c4 => have := HB.out; omega
      intro g cap' w1 hown hgrow hat hlt
      have d1 : w1.cell? ⟨p, 0, none⟩ = some (.slice a n cap) := (hgrow.cell_far ⟨p, 0, none⟩ (by simp; omega) (Ne.symm HN.out.1)).trans (keep_alloc d0 _)
      have y0 : w1.frozen? ⟨p, 0, none⟩ = false := (hgrow.frozen_far ⟨p, 0, none⟩ (by simp; omega) (Ne.symm HN.out.1)).trans (by rw [((Below.refl _ wr).alloc (Nat.le_refl _) _).frozen (p := ⟨p, 0, none⟩) plr]; exact zr)
      have HG : Hid ((wr.alloc (.cells (rnewCells w.heap.size i).toArray 51)).grownBy w1 (Value.slice a n cap).ownBlock ∧ w1.ownsRow 0 51 2 (.slice (some ⟨g, 0, none⟩) (n + 1) cap') (n + 1) (xs ++ rnewCells w.heap.size i) ∧ ((Value.slice a n cap).ownBlock = some g ∨ g = wr.heap.size + 1) ∧ g < w1.heap.size) := ⟨hgrow, hown, hat, hlt⟩
      clear hown hgrow hat hlt
      go_wp2
      go_ret2
      exact ⟨by simp, g, cap', wr, w1, HA2.out, HG.out.1, HG.out.2.1, HG.out.2.2.1, HG.out.2.2.2, rfl⟩
end Go.Proofs.Ytnklpccggbkknaa
