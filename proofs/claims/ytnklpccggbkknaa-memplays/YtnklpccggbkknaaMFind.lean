/- Contracts of find, right, Size, Blocks, Live, New, and of a block's words, page, blank, word. -/
import Derived.Test.YtnklpccggbkknaaMInv
import Derived.Lib.SliceRun
namespace Go.Proofs.Ytnklpccggbkknaa
open Go.ChangeShapes Go.WideShapes Go.ChangeAt Go.RowKit Pl
set_option linter.unusedSimpArgs false
set_option linter.unusedVariables false

set_option maxHeartbeats 400000 in
theorem find_low (p n cap : Nat) (a : Option Addr) (x : Int) (w : World) (c0 : w.cell? ⟨p, 0, none⟩ = some (.slice a n cap)) (hx : x < 1) :
    Calls Try.prog 31 #[.pointer (some ⟨p, 0, none⟩), .int .i64 x] w fun e w' => e = .returned (.pointer none) ∧ w' = w := by
  go_enter Try.func31, Try.ntmps31
  go_wp2
  go_ret
  exact ⟨rfl, rfl⟩
set_option maxHeartbeats 400000 in
theorem find_high (p n cap : Nat) (a : Option Addr) (x : Int) (w : World) (c0 : w.cell? ⟨p, 0, none⟩ = some (.slice a n cap)) (hx : ¬ x < 1) (hn : (n : Int) < x) :
    Calls Try.prog 31 #[.pointer (some ⟨p, 0, none⟩), .int .i64 x] w fun e w' => e = .returned (.pointer none) ∧ w' = w := by
  go_enter Try.func31, Try.ntmps31
  go_wp2
  go_ret
  exact ⟨rfl, rfl⟩
set_option maxHeartbeats 400000 in
theorem find_in (p n cap g k : Nat) (x : Int) (fr : Bool) (w : World) (c0 : w.cell? ⟨p, 0, none⟩ = some (.slice (some ⟨g, 0, none⟩) n cap)) (hx : ¬ x < 1) (hn : ¬ (n : Int) < x) (hk : x - 1 = k) (hw : wrap64 (k : Int) = k)
    (cf : w.cell? ⟨g, k * 4 + 1, none⟩ = some (.bool fr)) :
    Calls Try.prog 31 #[.pointer (some ⟨p, 0, none⟩), .int .i64 x] w fun e w' => e = .returned (if fr = true then .pointer none else .pointer (some ⟨g, k * 4, none⟩)) ∧ w' = w := by
  have k0 : (0 : Int) ≤ k := by omega
  have k1 : (k : Int) < n := by omega
  cases fr
  all_goals
    go_enter Try.func31, Try.ntmps31
    go_wp2
    go_ret
    exact ⟨by simp, rfl⟩
set_option maxHeartbeats 400000 in
theorem words_any (g o : Nat) (s : Nat) (w : World) (c0 : w.cell? ⟨g, o, none⟩ = some (.int .i64 s)) (hs : s ≤ 65536) :
    Calls Try.prog 52 #[.pointer (some ⟨g, o, none⟩)] w fun e w' => e = .returned (.int .i64 (((s + 7) / 8 : Nat) : Int)) ∧ w' = w := by
  go_enter Try.func52, Try.ntmps52
  go_wp2
  go_ret
  exact ⟨by simp; omega, rfl⟩
set_option maxHeartbeats 400000 in
theorem nil71 (w : World) (a : Option Addr) (n c n' c' : Nat) : (binOp .eql 66 (.slice a n c) (.slice none n' c')).run Try.prog w = .ok (.bool a.isNone) w :=
  Lib.run_eql_slice_nil w _ _ a n c n' c' Try.underlying66
set_option maxHeartbeats 400000 in
theorem page_nil (g o : Nat) (x : Int) (w : World) (c0 : w.cell? ⟨g, o + 3, none⟩ = some (.slice none 0 0)) :
    Calls Try.prog 47 #[.pointer (some ⟨g, o, none⟩), .int .i64 x] w fun e w' => e = .returned (.pointer none) ∧ w' = w := by
  have q71 := nil71
  go_enter Try.func47, Try.ntmps47
  go_wp2
  go_ret
  exact ⟨rfl, rfl⟩
set_option maxHeartbeats 400000 in
theorem page_in (g o b n cap j : Nat) (x : Int) (v : Value) (w : World) (c0 : w.cell? ⟨g, o + 3, none⟩ = some (.slice (some ⟨b, 0, none⟩) n cap)) (hj : wrap64 (x.tdiv 64) = j) (hn : j < n) (cv : w.cell? ⟨b, j, none⟩ = some v) :
    Calls Try.prog 47 #[.pointer (some ⟨g, o, none⟩), .int .i64 x] w fun e w' => e = .returned v ∧ w' = w := by
  have k0 : (0 : Int) ≤ j := by omega
  have k1 : (j : Int) < n := by omega
  have q71 := nil71
  go_enter Try.func47, Try.ntmps47
  go_wp2
  go_ret
  exact ⟨rfl, rfl⟩
theorem quo64 (i : Nat) (h : i ≤ 1000000) : wrap64 ((i : Int).tdiv 64) = ((i / 64 : Nat) : Int) := by
  rw [show ((i : Int).tdiv 64) = ((i / 64 : Nat) : Int) from Int.ofNat_tdiv i 64 |>.symm]; unfold wrap64; omega
theorem rem64 (i : Nat) : (i : Int).tmod 64 = ((i % 64 : Nat) : Int) := (Int.ofNat_tmod i 64).symm
theorem end_W {P : Program} {fn : Func} {a : Act} {w w' : World} {x : WD} (hr : (results fn a.tmps).run P w' = .ok (.agg #[.int .u8 x.kn, .int .u8 x.pt, .int .u64 x.bt, .int .i64 x.k, .int .i64 x.n, .int .i64 x.b]) w') (hd : a.defers = []) (hb : Below w.heap.size w w') :
    bodyPost P fn (retW x w) .ret a w' := bodyPost_ret hr hd ⟨rfl, hb⟩
set_option maxHeartbeats 400000 in
theorem blank_any (g o s i : Nat) (z : Bool) (w : World) (c0 : w.cell? ⟨g, o, none⟩ = some (.int .i64 s)) (c2 : w.cell? ⟨g, o + 2, none⟩ = some (.bool z)) (hs : s ≤ 65536) (hi : i ≤ 1000000) :
    Calls Try.prog 48 #[.pointer (some ⟨g, o, none⟩), .int .i64 i] w (retW (blankF s z i) w) := by
  have gl : g < w.heap.size := block_lt_of_cell c0
  cases z
  · go_enter Try.func48, Try.ntmps48
    go_wp2
    exact end_W (by simp [results, Try.results48, go_sem, blankF, noW]) rfl (by repeat (first | with_reducible exact Below.refl _ _ | with_reducible refine bel_alloc ?_ _ | with_reducible refine bel_set ?_ (by first | exact Nat.le_refl _ | (simp; done) | (simp; omega)) _ | with_reducible refine Below.drew ?_ | refine bel_trans ?_ (by assumption)))
  · unfold blankF
    simp only [if_true]
    go_enter Try.func48, Try.ntmps48
    go_wp2_with (go_at_call 56; refine (zeros_any _ _).mono ?_; rintro e w1 ⟨rfl, hb1⟩; obtain ⟨hc1, hf1⟩ := bcell hb1; have hz1 := bsize hb1; try simp only [World.size_alloc, World.size_drew, World.cell?_drew, World.frozen?_drew] at hz1 hc1 hf1)
    exact end_W (by simp [results, Try.results48, go_sem, hc1, hf1]) rfl (by repeat (first | with_reducible exact Below.refl _ _ | with_reducible refine bel_alloc ?_ _ | with_reducible refine bel_set ?_ (by first | exact Nat.le_refl _ | (simp; done) | (simp; omega)) _ | with_reducible refine Below.drew ?_ | refine bel_trans ?_ (by assumption)))
set_option maxHeartbeats 400000 in
theorem word_nil (g o s i : Nat) (z : Bool) (v : Value) (w : World) (c0 : w.cell? ⟨g, o, none⟩ = some (.int .i64 s)) (c2 : w.cell? ⟨g, o + 2, none⟩ = some (.bool z)) (hs : s ≤ 65536) (hi : i ≤ 1000000)
    (hP : ∀ W, Below w.heap.size w W → Calls Try.prog 47 #[.pointer (some ⟨g, o, none⟩), .int .i64 i] W fun e w' => e = .returned (.pointer none) ∧ w' = W) :
    Calls Try.prog 34 #[.pointer (some ⟨g, o, none⟩), .int .i64 i] w (retW (blankF s z i) w) := by
  have HP : Hid _ := hP
  clear hP
  have gl : g < w.heap.size := block_lt_of_cell c0
  go_enter Try.func34, Try.ntmps34
  go_wp2_with (first | (go_at_call 47; refine (HP.out _ (by repeat (first | with_reducible exact Below.refl _ _ | with_reducible refine bel_alloc ?_ _ | with_reducible refine bel_set ?_ (by first | exact Nat.le_refl _ | (simp; done) | (simp; omega)) _ | with_reducible refine Below.drew ?_ | refine bel_trans ?_ (by assumption)))).mono ?_; rintro e w' ⟨rfl, hw'⟩; replace hw' := hw'.symm; subst hw') | (go_at_call 48; refine (blank_any g o s i z _ (keep_alloc c0 _) (keep_alloc c2 _) hs hi).mono ?_; rintro e w1 ⟨rfl, hb1⟩; obtain ⟨hc1, hf1⟩ := bcell hb1; have hz1 := bsize hb1; try simp only [World.size_alloc, World.size_drew, World.cell?_drew, World.frozen?_drew] at hz1 hc1 hf1))
  exact end_W (by simp [results, Try.results34, go_sem, hc1, hf1]) rfl (by repeat (first | with_reducible exact Below.refl _ _ | with_reducible refine bel_alloc ?_ _ | with_reducible refine bel_set ?_ (by first | exact Nat.le_refl _ | (simp; done) | (simp; omega)) _ | with_reducible refine Below.drew ?_ | refine bel_trans ?_ (by assumption)))
set_option maxHeartbeats 400000 in
theorem word_in (g o q i r : Nat) (x : WD) (w : World) (hr : (i : Int).tmod 64 = r) (r64 : r < 64) (hx : WIs w q (r * 6) x)
    (hP : ∀ W, Below w.heap.size w W → Calls Try.prog 47 #[.pointer (some ⟨g, o, none⟩), .int .i64 i] W fun e w' => e = .returned (.pointer (some ⟨q, 0, none⟩)) ∧ w' = W) :
    Calls Try.prog 34 #[.pointer (some ⟨g, o, none⟩), .int .i64 i] w (retW x w) := by
  have HP : Hid _ := hP
  clear hP
  obtain ⟨c0, c1, c2, c3, c4, c5⟩ := hx
  have k0 : (0 : Int) ≤ r := by omega
  have k1 : (r : Int) < 64 := by omega
  have ql : q < w.heap.size := block_lt_of_cell c0
  go_enter Try.func34, Try.ntmps34
  go_wp2_with (first | (go_at_call 47; refine (HP.out _ (by repeat (first | with_reducible exact Below.refl _ _ | with_reducible refine bel_alloc ?_ _ | with_reducible refine bel_set ?_ (by first | exact Nat.le_refl _ | (simp; done) | (simp; omega)) _ | with_reducible refine Below.drew ?_ | refine bel_trans ?_ (by assumption)))).mono ?_; rintro e w' ⟨rfl, hw'⟩; replace hw' := hw'.symm; subst hw'))
  exact end_W (by simp [results, Try.results34, go_sem]) rfl (by repeat (first | with_reducible exact Below.refl _ _ | with_reducible refine bel_alloc ?_ _ | with_reducible refine bel_set ?_ (by first | exact Nat.le_refl _ | (simp; done) | (simp; omega)) _ | with_reducible refine Below.drew ?_ | refine bel_trans ?_ (by assumption)))
end Go.Proofs.Ytnklpccggbkknaa
