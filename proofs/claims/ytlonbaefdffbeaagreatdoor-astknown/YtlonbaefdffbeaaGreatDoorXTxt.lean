import Derived.Test.YtlonbaefdffbeaaGreatDoorXTellB
import Derived.Shelf.Strings.Builder2
import Derived.Test.YtlonbaefdffbeaaGreatDoorShelf
import Derived.Lib.Builder
import Derived.Lib.AppendStr
import Derived.Lib.UnsafeStr
import Derived.Laws.Externs
import Derived.OwnWalk
import Derived.Lib.OthersKept
namespace Go.Proofs.YtlonbaefdffbeaaGreatDoor
open Go.ChangeShapes Go.WideShapes Go.ChangeAt Go.RowKit Go.Proofs.Tryz
set_option linter.unusedSimpArgs false
set_option linter.unusedVariables false
set_option maxRecDepth 100000
set_option maxHeartbeats 4000000
open nodeT okT kdT

theorem sizeB : ∃ j, prog.info? 125 = some j ∧ j.size = 2 := Option.map_eq_some_iff.1 (show (prog.info? 125).map (·.size) = some 2 by kernel_rfl)
theorem copyCheck_used (b : Nat) (w : World) (h0 : w.cell? ⟨b, 0, none⟩ = some (.pointer (some ⟨b, 0, none⟩))) :
  Calls prog 109 #[.pointer (some ⟨b, 0, none⟩)] w fun e w' => e = .returned (.tuple #[]) ∧ w' = w := by
 obtain ⟨j, hj, _⟩ := sizeB
 go_enter func109, ntmps109
 go_wp2;rw [Lib.run_neq_ptr_same w _ underlying122 hj];go_wp2;go_end0;exact ⟨rfl, rfl⟩
theorem copyCheck_fresh (b : Nat) (w : World) (h0 : w.cell? ⟨b, 0, none⟩ = some (.pointer none)) (hsh : w.shape? b = some (125, 2)) (hfz : w.frozen? ⟨b, 0, none⟩ = false) :
  Calls prog 109 #[.pointer (some ⟨b, 0, none⟩)] w fun e w' => e = .returned (.tuple #[]) ∧ w' = w.setCell ⟨b, 0, none⟩ (.pointer (some ⟨b, 0, none⟩)) := by
 obtain ⟨j, hj, hjs⟩ := sizeB
 go_enter func109, ntmps109
 go_wp2;rw [Lib.run_to_unsafe w ⟨b, 0, none⟩ underlying122 underlying149 hj (by rw [hjs]; decide) hsh (Nat.zero_lt_succ 1)];simp only [Result.andThen];rw [Oper.upon_value];go_wp2;rw [run_callFunc_extern func127 (by kernel_rfl) (by kernel_rfl) (by kernel_rfl) (e := Extern.AbiNoEscape.same) (by kernel_rfl)];rw [Lib.run_noEscape];simp only [Result.andThen];rw [Oper.upon_value];go_wp2;rw [Lib.run_from_unsafe w ⟨b, 0, none⟩ underlying149 underlying122 hj hsh (by kernel_rfl)];simp only [Result.andThen];rw [Oper.upon_value];go_wp2;go_end0;exact ⟨rfl, rfl⟩
theorem copyCheck_any (B b : Nat) (bs : List Value) (w : World) (h : Lib.IsBuilder 125 5 B b bs w) :
  Calls prog 109 #[.pointer (some ⟨b, 0, none⟩)] w fun e w' => e = .returned (.tuple #[]) ∧ (Lib.BuilderAt 125 5 B b (.pointer (some ⟨b, 0, none⟩)) bs w' ∧ Below B w w' ∧ Lib.OthersKept 5 (some b) w w') := by
 rcases h with h | h
 ·refine (copyCheck_fresh b w h.cell0 h.shape h.frozen0).mono ?_
  rintro e w' ⟨rfl, rfl⟩;exact ⟨rfl, h.used _, (Below.refl B w).setCell (p := ⟨b, 0, none⟩) h.1 _, (Lib.OthersKept.refl _ _ w).setCell ⟨b, 0, none⟩ rfl _⟩
 ·refine (copyCheck_used b w h.cell0).mono ?_
  rintro e w' ⟨rfl, rfl⟩;exact ⟨rfl, h, Below.refl B _, Lib.OthersKept.refl _ _ _⟩
theorem writeString_any (B b : Nat) (bs : List Value) (s : ByteArray) (w : World) (h : Lib.IsBuilder 125 5 B b bs w) (hlen : bs.length + s.size ≤ 140737488355328) (hBw : B ≤ w.heap.size) :
  Calls prog 73 #[.pointer (some ⟨b, 0, none⟩), .string s] w fun e w' => e = .returned (.tuple #[.int .i64 s.size, .nilIface]) ∧ (Lib.IsBuilder 125 5 B b (bs ++ Lib.strCells s) w' ∧ Below B w w' ∧ Lib.OthersKept 5 (some b) w w') := by
 obtain ⟨i0, hi, hz0, hz1, hz2⟩ : ∃ i0, prog.info? 5 = some i0 ∧ i0.zero = some (.int .u8 0) ∧ i0.size = 1 ∧ i0.bytes = 1 := info_parts (by kernel_rfl)
 go_enter func73, ntmps73
 go_wp2_with (go_at_call 109; refine (copyCheck_any B b bs _ h).mono ?_)
 rintro e w1 ⟨rfl, h1, hb1, hk1⟩;obtain ⟨hB, v, hbk, hown, hne⟩ := h1;have c0 : w1.cell? ⟨b, 0, none⟩ = some (.pointer (some ⟨b, 0, none⟩)) := by rw [Lib.cell_of_heap hbk]; rfl
 have c1 : w1.cell? ⟨b, 1, none⟩ = some v := by rw [Lib.cell_of_heap hbk]; rfl
 go_wp2_with (at_builtin; refine Lib.wpList_append_own_string _ rfl _ _ 123 9 rfl B 5 i0 underlying123 underlying9 hi hz0 hz1 hz2 _ _ _ rfl hown s rfl ?c3 ?c4 ?c5 ?_)
 case c3 => unfold maxLen; omega
 case c4 => omega
 case c5 => have := hb1.size; omega
 intro v' w2 hown' hgrow _
 have hlt : b < w1.heap.size := by
  rcases Nat.lt_or_ge b w1.heap.size with h' | h'
  ·exact h'
  ·simp [Array.getElem?_eq_none h'] at hbk
 have hb2 : w2.heap[b]? = some (.cells #[.pointer (some ⟨b, 0, none⟩), v] 125 (0, 0)) := by
  rw [hgrow.block b hlt (fun e => hne e.symm)];exact hbk
 have d0 : w2.cell? ⟨b, 0, none⟩ = some (.pointer (some ⟨b, 0, none⟩)) := by rw [Lib.cell_of_heap hb2]; rfl
 have d1 : w2.cell? ⟨b, 1, none⟩ = some v := by rw [Lib.cell_of_heap hb2]; rfl
 have f1 : w2.frozen? ⟨b, 1, none⟩ = false := Lib.frozen_of_heap hb2 1
 obtain ⟨ao, n', cap, rfl⟩ : ∃ ao n' cap, v' = .slice ao n' cap := by
  rcases hown'.2 with ⟨hv, _⟩ | ⟨g, cap, cur, hv, _⟩
  ·exact ⟨_, _, _, hv⟩
  ·exact ⟨_, _, _, hv⟩
 go_wp2
 go_ret2
 refine ⟨rfl, Or.inr ?_, ?_, (hk1.grown hgrow (Lib.ownsRowF_kind (World.ownsRowF_of hown))).setCell ⟨b, 1, none⟩ rfl _⟩
 ·exact Lib.BuilderAt.put (T := 125) (e := 5) hB hb2 (bs' := bs ++ Lib.strCells s) (by simpa [Lib.strCells_length] using hown') (by decide)
 ·exact (hb1.grown hgrow (by have := hb1.size; omega) (fun k hk => (hown.lt k hk).1)).setCell (p := ⟨b, 1, none⟩) hB _
def grow241_ren : Go.Shelf.Ren := ⟨fun | 241 => 110 | 277 => 128 | n => n, fun | 37 => 123 | 70 => 122 | 72 => 125 | n => n, fun | n => n⟩
theorem grow241 : Go.Proofs.Lays.n241 prog grow241_ren := {
 mixed := by kernel_rfl
 f241 := func110.trans (congrArg some (by kernel_rfl))
 f277 := func128.trans (congrArg some (by kernel_rfl))
 t0 := underlying0
 a0 := Tryz.isAgg0
 z0 := Tryz.sizeOf0
 v0 := Tryz.zeroValue0
 t3 := underlying3
 a3 := Tryz.isAgg3
 z3 := Tryz.sizeOf3
 v3 := Tryz.zeroValue3
 t37 := underlying123
 a37 := Tryz.isAgg123
 z37 := Tryz.sizeOf123
 v37 := Tryz.zeroValue123
 t70 := underlying122
 a70 := Tryz.isAgg122
 z70 := Tryz.sizeOf122
 v70 := Tryz.zeroValue122
 t72 := underlying125
 a72 := Tryz.isAgg125
 z72 := Tryz.sizeOf125
 v72 := Tryz.zeroValue125 }
theorem growX : Builder.Extra prog grow241_ren := {
 sizeBuilder := by kernel_rfl
 liesBuilder := by kernel_rfl
 t5 := underlying5
 a5 := Tryz.isAgg5
 z5 := Tryz.sizeOf5
 v5 := Tryz.zeroValue5
 infoByte := by kernel_rfl
 cellsByte := by kernel_rfl
 sizeByte := by kernel_rfl
 neB5 := by decide }
theorem grow_fresh (B b n : Nat) (w : World) (hB : B ≤ b) (hbk : w.heap[b]? = some (.cells #[.pointer (some ⟨b, 0, none⟩), .slice none 0 0] 125 (0, 0))) (hBw : B ≤ w.heap.size) (hn : n ≤ 281474976710656) :
  Calls prog 110 #[.pointer (some ⟨b, 0, none⟩), .int .i64 n] w fun e w' => e = .returned (.tuple #[]) ∧ (Lib.BuilderAt 125 5 B b (.pointer (some ⟨b, 0, none⟩)) [] w' ∧ Below B w w') := Any.Builder_grow_fresh grow241 growX B b n w hB hbk hBw hn
theorem Grow_any (b n : Nat) (w : World) (hbk : w.heap[b]? = some (.cells #[.pointer none, .slice none 0 0] 125 (0, 0))) (hn : n ≤ 281474976710656) :
  Calls prog 72 #[.pointer (some ⟨b, 0, none⟩), .int .i64 n] w fun e w' => e = .returned (.tuple #[]) ∧ (Lib.IsBuilder 125 5 b b [] w' ∧ Below b w w') := by
 have lb : b < w.heap.size := (zge hbk).1;have hbk1 : (w.setCell ⟨b, 0, none⟩ (.pointer (some ⟨b, 0, none⟩))).heap[b]? = some (.cells #[.pointer (some ⟨b, 0, none⟩), .slice none 0 0] 125 (0, 0)) := Eq.trans (heap_set_same (o := 0) hbk _) (by simp);have c1 : (w.setCell ⟨b, 0, none⟩ (.pointer (some ⟨b, 0, none⟩))).cell? ⟨b, 1, none⟩ = some (.slice none 0 0) := heap_cell hbk1 (by simp);have hb1 : Below b w (w.setCell ⟨b, 0, none⟩ (.pointer (some ⟨b, 0, none⟩))) := (Below.refl b w).setCell (p := ⟨b, 0, none⟩) (Nat.le_refl _) _;have HCF : Hid (Calls prog 109 #[.pointer (some ⟨b, 0, none⟩)] w fun e w' => e = .returned (.tuple #[]) ∧ w' = w.setCell ⟨b, 0, none⟩ (.pointer (some ⟨b, 0, none⟩))) := copyCheck_fresh b w (heap_cell hbk (by simp)) (by simp [World.shape?, hbk]) (heap_frozen hbk);have HU : Hid (Lib.BuilderAt 125 5 b b (.pointer (some ⟨b, 0, none⟩)) [] (w.setCell ⟨b, 0, none⟩ (.pointer (some ⟨b, 0, none⟩)))) := ⟨Nat.le_refl _, .slice none 0 0, hbk1, World.ownsRow_nil _ _ _ _, by simp [Value.ownBlock]⟩;have HGF : Hid (Calls prog 110 #[.pointer (some ⟨b, 0, none⟩), .int .i64 n] (w.setCell ⟨b, 0, none⟩ (.pointer (some ⟨b, 0, none⟩))).drew fun e w' => e = .returned (.tuple #[]) ∧ (Lib.BuilderAt 125 5 b b (.pointer (some ⟨b, 0, none⟩)) [] w' ∧ Below b (w.setCell ⟨b, 0, none⟩ (.pointer (some ⟨b, 0, none⟩))).drew w')) := grow_fresh b b n _ (Nat.le_refl _) hbk1 (by show b ≤ (w.setCell _ _).heap.size; rw [size_set]; omega) hn;have HB1 : Hid (Below b w (w.setCell ⟨b, 0, none⟩ (.pointer (some ⟨b, 0, none⟩)))) := hb1;have n0 : (0 : Int) ≤ (n : Int) := by omega
 have n9 : (n : Int) ≤ 281474976710656 := by omega
 clear hbk hbk1 hb1
 go_enter func72, ntmps72
 go_wp2_with fail
 refine HCF.out.mono ?_;rintro e w1 ⟨rfl, rfl⟩;dsimp only
 by_cases hz : 0 < n
 ·have hz1 : (0 : Int) < (n : Int) := by omega
  go_wp2_with (go_region)
  refine HGF.out.mono ?_;rintro e w2 ⟨rfl, h2, hb2⟩;have HZ : Hid (Lib.BuilderAt 125 5 b b (.pointer (some ⟨b, 0, none⟩)) [] w2 ∧ Below b w w2) := ⟨h2, HB1.out.drew.trans hb2⟩;clear h2 hb2;dsimp only;go_wp2;go_end0;exact ⟨rfl, .inr HZ.out.1, HZ.out.2⟩
 ·have hz1 : ¬ (0 : Int) < (n : Int) := by omega
  go_wp2_with (go_region)
  all_goals go_end0
  all_goals exact ⟨rfl, .inr (HU.out.drew), HB1.out.drew⟩
open nodeT okT kdT

def jR : List ByteArray → List UInt8
 | [] => []
 | x :: r => 32 :: (x.data.toList ++ jR r)
def jB : List ByteArray → List UInt8
 | [] => []
 | x :: r => x.data.toList ++ jR r
def joinS (l : List ByteArray) : ByteArray := ⟨(jB l).toArray⟩
def sizes : List ByteArray → Nat
 | [] => 0
 | x :: r => x.size + sizes r
theorem sizes_app : ∀ l m : List ByteArray, sizes (l ++ m) = sizes l + sizes m
 | [], m => by simp [sizes]
 | x :: r, m => by rw [List.cons_append, sizes, sizes, sizes_app r m]; omega
theorem jR_app : ∀ l m : List ByteArray, jR (l ++ m) = jR l ++ jR m
 | [], m => rfl
 | x :: r, m => by rw [List.cons_append, jR, jR, jR_app r m]; simp
theorem sizes_take_le (l : List ByteArray) (i : Nat) : sizes (l.take i) ≤ sizes l := by
 have h := sizes_app (l.take i) (l.drop i);rw [List.take_append_drop] at h
 omega
theorem jR_len : ∀ l : List ByteArray, (jR l).length = l.length + sizes l
 | [] => rfl
 | x :: r => by
  have h : x.data.toList.length = x.size := Array.length_toList;rw [jR, List.length_cons, List.length_append, jR_len r, sizes, List.length_cons, h]
  omega
theorem join_many (ws : List ByteArray) (g cap : Nat) (w : World) (hc : ws.length ≤ cap) (hn2 : 2 ≤ ws.length) (hn9 : ws.length ≤ 2000000000) (hs : sizes ws ≤ 100000000000000) (hr : ∀ i x, ws[i]? = some x → w.cell? ⟨g, i, none⟩ = some (.string x)) (hg : g < w.heap.size) :
  Calls prog 41 #[.slice (some ⟨g, 0, none⟩) ws.length cap, .string ⟨#[32]⟩] w (fun e W => e = .returned (.string (joinS ws)) ∧ Below w.heap.size w W) := by
 have n0 : (2 : Int) ≤ (ws.length : Int) := by omega
 have n9 : (ws.length : Int) ≤ 2000000000 := by omega
 have q0 : ((ws.length : Int) == 0) = false := by simpa using (show ¬ (ws.length : Int) = 0 by omega)
 have q1 : ((ws.length : Int) == 1) = false := by simpa using (show ¬ (ws.length : Int) = 1 by omega)
 have r0 : ¬ ws.length = 0 := by omega
 have r1 : ¬ ws.length = 1 := by omega
 have wm : IntKind.i64.wrap ((ws.length : Int) - 1) = (ws.length : Int) - 1 := by rw [IntKind.wrap_i64]; omega
 have hd2 : (2 : Int) ≤ 9223372036854775807 / ((ws.length : Int) - 1) := Int.le_ediv_of_mul_le (by omega) (by omega);have hd : ¬ 9223372036854775807 / ((ws.length : Int) - 1) ≤ 1 := by omega
 have HR : Hid (∀ i x, ws[i]? = some x → w.cell? ⟨g, i, none⟩ = some (.string x)) := hr;obtain ⟨x0, hx0⟩ : ∃ x, ws[0]? = some x := ⟨_, List.getElem?_eq_getElem (by omega)⟩
 have HX0 : Hid (ws = x0 :: ws.drop 1) := by
  show ws = _
  cases ws with
  | nil => simp at hx0
  | cons y r => simp at hx0; subst hx0; rfl
 have hs0 := hr 0 x0 hx0;clear hr hx0 hd2
 go_enter func41, ntmps41
 go_wp2
 go_loopw [41, 5] (fun v41 v5 wr => ∃ i : Nat, i ≤ ws.length ∧ v41 = .int .i64 (i : Int) ∧ v5 = .int .i64 (((ws.length - 1 + sizes (ws.take i) : Nat)) : Int) ∧ wr = w) (fun v41 _ _ => ws.length - (intOf v41).toNat)
 case atStart => exact ⟨0, Nat.zero_le _, rfl, by rw [List.take_zero, sizes]; simp; omega, rfl⟩
 case round =>
  obtain ⟨i, hi, rfl, rfl, hw⟩ := hrel;have hw' : w = wr := hw.symm;clear hw;subst hw';have i0 : (0 : Int) ≤ (i : Int) := by omega
  have htl := sizes_take_le ws i;obtain ⟨m, hm⟩ : ∃ m, ws.length - 1 + sizes (ws.take i) = m := ⟨_, rfl⟩;have HM : Hid (ws.length - 1 + sizes (ws.take i) = m) := hm;have m9 : m ≤ 200002000000000 := by omega
  have m9i : (m : Int) ≤ 200002000000000 := by omega
  have m0 : (0 : Int) ≤ (m : Int) := by omega
  rw [hm];clear hm htl;have wmm : IntKind.i64.wrap (9223372036854775807 - (m : Int)) = 9223372036854775807 - (m : Int) := by rw [IntKind.wrap_i64]; omega
  by_cases hin : i < ws.length
  ·have i1 : (i : Int) < (ws.length : Int) := by omega
   obtain ⟨y, hy⟩ : ∃ y, ws[i]? = some y := ⟨_, List.getElem?_eq_getElem hin⟩;have cy := HR.out i y hy
   have HT : Hid (sizes (ws.take (i + 1)) = sizes (ws.take i) + y.size ∧ y.size ≤ 200000000000000) := by
    have e : sizes (ws.take (i + 1)) = sizes (ws.take i) + y.size := by
     rw [List.take_add_one, hy]
     show sizes (ws.take i ++ [y]) = _
     rw [sizes_app, sizes, sizes]
     omega
    have := sizes_take_le ws (i + 1);exact ⟨e, by omega⟩
   have y9 : (y.size : Int) ≤ 200000000000000 := by have := HT.out.2; omega
   have y0 : (0 : Int) ≤ (y.size : Int) := by omega
   have hno : ¬ 9223372036854775807 - (m : Int) < (y.size : Int) := by omega
   have wmy : IntKind.i64.wrap ((m : Int) + (y.size : Int)) = (m : Int) + (y.size : Int) := by rw [IntKind.wrap_i64]; omega
   clear hy;go_wp2
   go_roundw
   case rel => exact ⟨i + 1, by omega, by simp, by have h1 := HT.out.1; have h2 := HM.out; rw [h1, ← h2]; congr 1; omega, by first | rfl | trivial⟩
   case measure => simp [intOf]; omega
  ·have hi1 : ¬ (i : Int) < (ws.length : Int) := by omega
   clear wmm;have hA : Below w.heap.size w (w.alloc (.cells #[.pointer none, .slice none 0 0] 125)) := bel_alloc (Below.refl _ _) _;have HGR : Hid (Calls prog 72 #[.pointer (some ⟨w.heap.size, 0, none⟩), .int .i64 m] (w.alloc (.cells #[.pointer none, .slice none 0 0] 125)) fun e w' => e = .returned (.tuple #[]) ∧ (Lib.IsBuilder 125 5 w.heap.size w.heap.size [] w' ∧ Below w.heap.size (w.alloc (.cells #[.pointer none, .slice none 0 0] 125)) w')) := Grow_any w.heap.size m _ (World.alloc_heap_new w _) (by omega);have HA : Hid (Below w.heap.size w (w.alloc (.cells #[.pointer none, .slice none 0 0] 125))) := hA
   have HSZ : Hid (m = ws.length - 1 + sizes ws) := by
    show m = _
    have h := HM.out;rw [List.take_of_length_le (by omega)] at h
    omega
   have HJL : Hid (∀ k, (x0.data.toList ++ jR ((ws.drop 1).take k)).length ≤ 120000000000000) := fun k => by
    have e1 := jR_len ((ws.drop 1).take k);have e2 := sizes_take_le (ws.drop 1) k
    have e3 : sizes ws = x0.size + sizes (ws.drop 1) := by
     have := congrArg sizes HX0.out;rw [sizes] at this;exact this
    have e4 : x0.data.toList.length = x0.size := Array.length_toList;have e5 : ((ws.drop 1).take k).length ≤ ws.length := by simp; omega
    rw [List.length_append]
    omega
   clear hA;go_wp2_with fail
   refine HGR.out.mono ?_;rintro e w1 ⟨rfl, h1, hb1⟩;have HX1 : Hid (Lib.IsBuilder 125 5 w.heap.size w.heap.size [] w1 ∧ Below w.heap.size w w1) := ⟨h1, HA.out.trans hb1⟩;have s1 : w1.cell? ⟨g, 0, none⟩ = some (.string x0) := (World.cell?_of_block (HX1.out.2.block g hg)).trans hs0;clear h1 hb1;dsimp only;go_wp2_with fail
   refine (writeString_any w.heap.size w.heap.size [] x0 w1 HX1.out.1 (by have := HJL.out 0; simp at this ⊢; omega) HX1.out.2.size).mono ?_;rintro e w2 ⟨rfl, h2, hb2, _⟩;have HX2 : Hid (Lib.IsBuilder 125 5 w.heap.size w.heap.size (Lib.byteCells (x0.data.toList ++ jR ((ws.drop 1).take 0))) w2 ∧ Below w.heap.size w w2) := ⟨by simpa [jR, Lib.strCells_eq] using h2, HX1.out.2.trans hb2⟩;clear h2 hb2 s1;dsimp only;go_wp2
   go_loopw [65] (fun v wr => ∃ k : Nat, k ≤ ws.length - 1 ∧ v = .int .i64 (k : Int) ∧ Hid (Lib.IsBuilder 125 5 w.heap.size w.heap.size (Lib.byteCells (x0.data.toList ++ jR ((ws.drop 1).take k))) wr ∧ Below w.heap.size w wr)) (fun v _ => ws.length - 1 - (intOf v).toNat)
   case atStart => exact ⟨0, Nat.zero_le _, rfl, HX2⟩
   case round =>
    obtain ⟨k, hk, rfl, HI⟩ := hrel;have k0 : (0 : Int) ≤ (k : Int) := by omega
    by_cases hin : k < ws.length - 1
    ·have k1 : (k : Int) < ((ws.length - 1 : Nat) : Int) := by omega
     have k2 : (k : Int) < (ws.length : Int) - 1 := by omega
     obtain ⟨y, hy⟩ : ∃ y, ws[k + 1]? = some y := ⟨_, List.getElem?_eq_getElem (by omega)⟩;have cy : wr.cell? ⟨g, k + 1, none⟩ = some (.string y) := (World.cell?_of_block (HI.out.2.block g hg)).trans (HR.out (k + 1) y hy);have cy2 : wr.cell? ⟨g, 1 + k, none⟩ = some (.string y) := by rw [Nat.add_comm 1 k]; exact cy
     have HEQ : Hid (jR ((ws.drop 1).take (k + 1)) = jR ((ws.drop 1).take k) ++ (32 :: y.data.toList)) := by
      show jR _ = _
      rw [List.take_add_one, List.getElem?_drop, Nat.add_comm 1 k, hy]
      show jR ((ws.drop 1).take k ++ [y]) = _
      rw [jR_app, jR, jR, List.append_nil]
     have HL1 : Hid ((x0.data.toList ++ jR ((ws.drop 1).take k)).length + 1 + y.size ≤ 120000000000000) := by
      have h := HJL.out (k + 1);rw [HEQ.out] at h;have e4 : y.data.toList.length = y.size := Array.length_toList
      show _ ≤ _
      simp only [List.length_append, List.length_cons, e4] at h ⊢
      omega
     clear hy;go_wp2_with fail
     refine (writeString_any w.heap.size w.heap.size _ ⟨#[32]⟩ wr HI.out.1 (by have := HL1.out; rw [Lib.byteCells_length]; show _ + 1 ≤ _; omega) HI.out.2.size).mono ?_;rintro e w3 ⟨rfl, h3, hb3, _⟩;have HX3 : Hid (Lib.IsBuilder 125 5 w.heap.size w.heap.size (Lib.byteCells (x0.data.toList ++ jR ((ws.drop 1).take k) ++ [32])) w3 ∧ Below w.heap.size w w3) := ⟨by simpa [Lib.byteCells, Lib.strCells] using h3, HI.out.2.trans hb3⟩;clear h3 hb3 cy cy2;dsimp only;go_wp2_with fail
     refine (writeString_any w.heap.size w.heap.size _ y w3 HX3.out.1 (by have := HL1.out; rw [Lib.byteCells_length, List.length_append]; show _ + 1 + _ ≤ _; omega) HX3.out.2.size).mono ?_;rintro e w4 ⟨rfl, h4, hb4, _⟩;have HX4 : Hid (Lib.IsBuilder 125 5 w.heap.size w.heap.size (Lib.byteCells (x0.data.toList ++ jR ((ws.drop 1).take (k + 1)))) w4 ∧ Below w.heap.size w w4) := ⟨by rw [HEQ.out]; simpa [Lib.byteCells, Lib.strCells] using h4, HX3.out.2.trans hb4⟩;clear h4 hb4;dsimp only;go_wp2
     go_roundw
     case rel => exact ⟨k + 1, by omega, by simp, HX4⟩
     case measure => simp [intOf]; omega
    ·have hke : k = ws.length - 1 := by omega
     have k1 : ¬ (k : Int) < ((ws.length - 1 : Nat) : Int) := by omega
     have k2 : ¬ (k : Int) < (ws.length : Int) - 1 := by omega
     have HZ : Hid (Lib.IsBuilder 125 5 w.heap.size w.heap.size (Lib.byteCells (jB ws)) wr ∧ Below w.heap.size w wr) := by
      refine ⟨?_, HI.out.2⟩;have h := HI.out.1;rw [List.take_of_length_le (by simp; omega)] at h
      have e : jB ws = x0.data.toList ++ jR (ws.drop 1) := by
       have := congrArg jB HX0.out;rw [jB] at this;exact this
      rw [e];exact h
     clear hke;go_wp2_with fail
     refine (Tryz.Builder_String_any w.heap.size w.heap.size (jB ws) wr HZ.out.1 HZ.out.2.size).mono ?_;rintro e w5 ⟨rfl, hb5⟩;have HX5 : Hid (Below w.heap.size w w5) := HZ.out.2.trans hb5;clear hb5;dsimp only;go_wp2;go_ret;exact ⟨rfl, HX5.out⟩
open nodeT okT kdT

theorem row_str {W : World} {base n : Nat} {a : Option Addr} {cap : Nat} {l : List ByteArray} (h : W.ownsRow base 9 1 (.slice a n cap) n (l.map Value.string)) (hn : n = l.length) (hne : l ≠ []) : ∃ g, a = some ⟨g, 0, none⟩ ∧ base ≤ g ∧ g < W.heap.size ∧ n ≤ cap ∧ ∀ i x, l[i]? = some x → W.cell? ⟨g, i, none⟩ = some (.string x) := by
 rcases h.2 with ⟨_, h2⟩ | ⟨g, cap', cur, h1, h2, h3, h4, h5, h6, h7⟩
 ·rw [hn] at h2
  exact absurd (List.length_eq_zero_iff.1 h2) hne
 ·injection h1 with e1 e2 e3
  subst e1 e3;refine ⟨g, rfl, h2, (zge h3).1, h4, fun i x hx => heap_cell h3 ?_⟩;have hi := (List.getElem?_eq_some_iff.1 hx).1;have e : (l.map Value.string)[i]? = some (.string x) := by rw [List.getElem?_map, hx]; rfl
  rw [← h7, List.getElem?_take, if_pos (by omega)] at e;simpa using e
theorem join_any (l : List ByteArray) (base cap : Nat) (a : Option Addr) (w : World) (h : w.ownsRow base 9 1 (.slice a l.length cap) l.length (l.map Value.string)) (hl : l.length ≤ 2000000000) (hs : sizes l ≤ 100000000000000) :
  Calls prog 41 #[.slice a l.length cap, .string ⟨#[32]⟩] w (fun e W => e = .returned (.string (joinS l)) ∧ Below w.heap.size w W) := by
 by_cases h2 : 2 ≤ l.length
 ·obtain ⟨g, rfl, h3, h4, h5, h6⟩ := row_str h rfl (by intro hz; rw [hz] at h2; simp at h2)
  exact join_many l g cap w h5 h2 (by omega) hs h6 h4
 ·match l, h, h2 with
  | [], h, _ =>
   clear h
   go_enter func41, ntmps41
   go_wp2;go_ret;exact ⟨rfl, Below.refl _ _⟩
  | [x], h, _ =>
   obtain ⟨g, rfl, h3, h4, h5, h6⟩ := row_str h rfl (by simp);have c0 := h6 0 x rfl;have e0 : joinS [x] = x := by unfold joinS; rw [jB, jR, List.append_nil]
   rw [e0];clear h h6
   go_enter func41, ntmps41
   go_wp2;go_ret;exact ⟨rfl, Below.refl _ _⟩
  | x :: y :: r, _, h2 => exact absurd (by simp) h2
theorem text_any (bt : Nat) (l : List ByteArray) (w : World) (h : SayAt w bt l) (hl : l.length ≤ 2000000000) (hs : sizes l ≤ 100000000000000) : Calls prog 23 #[.pointer (some ⟨bt, 0, none⟩)] w (fun e W => e = .returned (.string (joinS l)) ∧ Below w.heap.size w W) := by
 obtain ⟨a, cap, h1, h2⟩ := h.ex;have c0 : w.cell? ⟨bt, 0, none⟩ = some (.slice a l.length cap) := heap_cell h1 (by simp);have HJ : Hid (Calls prog 41 #[.slice a l.length cap, .string ⟨#[32]⟩] w (fun e W => e = .returned (.string (joinS l)) ∧ Below w.heap.size w W)) := join_any l _ cap a w h2 hl hs;clear h h1 h2
 go_enter func23, ntmps23
 go_wp2_with fail
 refine HJ.out.mono ?_;rintro e w1 ⟨rfl, hb1⟩;have HX : Hid (Below w.heap.size w w1) := hb1;clear hb1;dsimp only;go_wp2;go_ret;exact ⟨rfl, HX.out⟩
def textT (ts : List Tr) : List ByteArray := joinT (kidsT ts)
theorem ProgAt.keep {w W : World} {lo b : Nat} {ts : List Tr} {n : Int} (h : ProgAt w lo b ts n) (hb : Below w.heap.size w W) : ProgAt W lo b ts n := by
 obtain ⟨⟨a, cap, bs, h1, h2⟩, h3⟩ := h;exact ⟨⟨a, cap, bs, (hb.block _ (zge h1).1).trans h1, h2.keep hb.size (fun k _ k2 => hb.block k k2)⟩, h3⟩
theorem Text_any (lo b : Nat) (ts : List Tr) (n : Int) (w : World) (h : ProgAt w lo b ts n) (ht : Tab10 w) (hk : oksT ts = true) (hd : kdsT ts = true) (hn : ts.length ≤ 100000) (hl : (textT ts).length ≤ 2000000000) (hs : sizes (textT ts) ≤ 100000000000000) : Calls prog 11 #[.pointer (some ⟨b, 0, none⟩)] w (fun e W => e = .returned (.string (joinS (textT ts))) ∧ Below w.heap.size w W) := by
 obtain ⟨⟨a, cap, bs, h1, h2⟩, h3⟩ := h;have lb := (zge h1).1;obtain ⟨a', cap', e1, hr⟩ := h2.row
 injection e1 with e11 e12 e13
 subst e11 e13;have c0 : w.cell? ⟨b, 0, none⟩ = some (.slice a ts.length cap) := heap_cell h1 (by simp);have hA : Below w.heap.size w (w.alloc (.cells #[.slice none 0 0] 66)) := bel_alloc (Below.refl _ _) _;have hsA : SayAt (w.alloc (.cells #[.slice none 0 0] 66)) w.heap.size [] := ⟨none, 0, World.alloc_heap_new w _, World.ownsRow_nil _ _ _ _⟩
 have hT : 4 < w.heap.size := by
  have hg : prog.globalNamed "internal/strconv.uint64pow10" = some 4 := by kernel_rfl
  have h := ht;unfold Tab10 Lib.TabIs World.var? at h;rw [hg] at h;simp only [Option.bind_some] at h
  rcases Nat.lt_or_ge 4 w.heap.size with h' | h'
  ·exact h'
  ·rw [Array.getElem?_eq_none h'] at h; cases h
 have hTG : TG w.heap.size (w.alloc (.cells #[.slice none 0 0] 66)) := ⟨tab10_keep ht (hA.block _ hT), hT⟩;have HEA : Hid (Calls prog 22 #[.pointer (some ⟨w.heap.size, 0, none⟩), .slice a ts.length cap] (w.alloc (.cells #[.slice none 0 0] 66)) (sayR w.heap.size ([] ++ joinT (kidsT ts)) (w.alloc (.cells #[.slice none 0 0] 66)))) := each_any w.heap.size lo w.heap.size cap a ts bs [] _ hsA hTG (hr.keep (fun k _ k2 => hA.block k k2)) (Nat.le_refl _) (fun i t hti => nok t (oks_get ts i t hk hti) (kds_get ts i t hd hti)) hn (by rw [List.nil_append]; exact hl);rw [List.nil_append] at HEA;have HA : Hid (Below w.heap.size w (w.alloc (.cells #[.slice none 0 0] 66))) := hA;clear h1 h2 hr hA hsA hTG ht e12
 go_enter func11, ntmps11
 go_wp2_with fail
 refine HEA.out.mono ?_;rintro e w1 ⟨rfl, hs1, hb1⟩;have HX1 : Hid (SayAt w1 w.heap.size (textT ts) ∧ Below w.heap.size w w1) := ⟨hs1, HA.out.trans hb1.bel⟩;clear hs1 hb1;dsimp only;go_wp2_with fail
 refine (text_any w.heap.size (textT ts) w1 HX1.out.1 hl hs).mono ?_;rintro e w2 ⟨rfl, hb2⟩;have HX2 : Hid (Below w.heap.size w w2) := bel_trans HX1.out.2 hb2;clear hb2;dsimp only;go_wp2;go_ret;exact ⟨rfl, HX2.out⟩
theorem Nodes_any (lo b : Nat) (ts : List Tr) (n : Int) (w : World) (h : ProgAt w lo b ts n) : Calls prog 17 #[.pointer (some ⟨b, 0, none⟩)] w (fun e W => e = .returned (.int .i64 n) ∧ W = w) := by
 obtain ⟨⟨a, cap, bs, h1, h2⟩, h3⟩ := h;have c1 : w.cell? ⟨b, 1, none⟩ = some (.int .i64 n) := heap_cell h1 (by simp);clear h1 h2
 go_enter func17, ntmps17
 go_wp2;go_ret;exact ⟨rfl, rfl⟩
def funN : List Tr → List ByteArray
 | [] => []
 | t :: r => (if t.d.k = 4 then [t.d.name] else []) ++ funN r
theorem funN_app : ∀ l m, funN (l ++ m) = funN l ++ funN m
 | [], m => rfl
 | t :: r, m => by rw [List.cons_append, funN, funN, funN_app r m, List.append_assoc]
theorem funN_len : ∀ l, (funN l).length ≤ l.length
 | [] => Nat.le_refl _
 | t :: r => by
  have := funN_len r;rw [funN, List.length_append, List.length_cons]
  split <;> simp <;> omega
theorem Functions_any (lo b : Nat) (ts : List Tr) (n : Int) (w : World) (h : ProgAt w lo b ts n) (hn : ts.length ≤ 100000) : Calls prog 16 #[.pointer (some ⟨b, 0, none⟩)] w (fun e W => ∃ a cap, e = .returned (.slice a (funN ts).length cap) ∧ W.ownsRow w.heap.size 9 1 (.slice a (funN ts).length cap) (funN ts).length ((funN ts).map Value.string) ∧ Below w.heap.size w W) := by
 obtain ⟨i0', hinf, hz0, hz1, hz2⟩ := info_parts infoStr;obtain ⟨⟨a, cap, bs, h1, h2⟩, h3⟩ := h;have lb := (zge h1).1;obtain ⟨a', cap', e1, hr⟩ := h2.row
 injection e1 with e11 e12 e13
 subst e11 e13;have c0 : w.cell? ⟨b, 0, none⟩ = some (.slice a ts.length cap) := heap_cell h1 (by simp);have HR : Hid (RowAt w lo w.heap.size a cap ts bs) := hr;have n0 : (0 : Int) ≤ (ts.length : Int) := by omega
 have n9 : (ts.length : Int) ≤ 100000 := by omega
 clear h1 h2 hr e12
 go_enter func16, ntmps16
 go_wp2;clear c0
 go_loopw [11, 3] (fun v11 v3 wr => ∃ (i : Nat) (a2 : Option Addr) (cap2 : Nat), i ≤ ts.length ∧ v11 = .int .i64 (i : Int) ∧ v3 = .slice a2 (funN (ts.take i)).length cap2 ∧ Hid (wr.ownsRow w.heap.size 9 1 (.slice a2 (funN (ts.take i)).length cap2) (funN (ts.take i)).length ((funN (ts.take i)).map Value.string) ∧ Below w.heap.size w wr)) (fun v11 _ _ => ts.length - (intOf v11).toNat)
 case atStart => exact ⟨0, none, 0, Nat.zero_le _, rfl, rfl, ⟨by rw [List.take_zero]; exact World.ownsRow_nil _ _ _ _, Below.refl _ _⟩⟩
 case round =>
  obtain ⟨i, a2, cap2, hi, rfl, rfl, HI⟩ := hrel;have i0 : (0 : Int) ≤ (i : Int) := by omega
  by_cases hin : i < ts.length
  ·have i1 : (i : Int) < (ts.length : Int) := by omega
   obtain ⟨t, hti⟩ : ∃ t, ts[i]? = some t := ⟨_, List.getElem?_eq_getElem hin⟩;obtain ⟨x, hxi⟩ : ∃ x, bs[i]? = some x := ⟨_, List.getElem?_eq_getElem (by have := HR.out.hl; omega)⟩;have hrw := HR.out.keep (W' := wr) (fun k _ k2 => HI.out.2.block k k2);obtain ⟨g, hga, hg1, hg2, hcl⟩ := hrw.hrow (by intro h; rw [h] at hin; simp at hin);have cx := hcl i x hxi;have hcap := hrw.hcap;obtain ⟨a3, cap3, bs3, hblk, _, _, hx9⟩ := (hrw.sub i t x hti hxi).row;have t0 : wr.cell? ⟨x, 0, none⟩ = some (.int .i64 t.d.k) := heap_cell hblk (by simp [nodeCells]);have t3 : wr.cell? ⟨x, 3, none⟩ = some (.string t.d.name) := heap_cell hblk (by simp [nodeCells])
   have HT : Hid (funN (ts.take (i + 1)) = funN (ts.take i) ++ (if t.d.k = 4 then [t.d.name] else [])) := by
    show funN _ = _
    rw [List.take_add_one, hti]
    show funN (ts.take i ++ [t]) = _
    rw [funN_app, funN, funN, List.append_nil]
   have hl9 : (funN (ts.take i)).length ≤ 100000 := by have := funN_len (ts.take i); rw [List.length_take] at this; omega
   have hxw : x < wr.heap.size := (zge hblk).1;subst hga;clear hti hxi hcl hblk hrw
   by_cases hk : t.d.k = 4
   ·have q0 : (t.d.k == 4) = true := by simpa using hk
    rw [hk] at t0;obtain ⟨m, hm⟩ : ∃ m, (funN (ts.take i)).length = m := ⟨_, rfl⟩;have HM : Hid ((funN (ts.take i)).length = m) := hm;have HO : Hid (wr.ownsRow w.heap.size 9 1 (.slice a2 m cap2) m ((funN (ts.take i)).map Value.string)) := by rw [← hm]; exact HI.out.1
    rw [hm] at hl9 ⊢;clear hm;have hwr := HI.out.2.size
    go_wp2_with (at_builtin; refine wpList_append_own_at _ rfl _ _ 38 rfl w.heap.size 9 i0' (.string ⟨#[]⟩) 1 16 underlying38 hinf hz0 hz1 hz2 rfl (by decide) (.slice a2 m cap2) m ((funN (ts.take i)).map Value.string) (by rfl) (HO.out.alloc _) ⟨wr.heap.size, 0, none⟩ 1 1 [.string t.d.name] (by rfl) (by rfl) ?c1 ?c2 ?c3 ?c4 ?c5 ?_)
    case c1 => exact World.news_of_block (World.alloc_heap_new wr (.cells #[.string t.d.name] 9))
    case c2 => intro u hu; simp at hu; subst hu; rfl
    case c3 => unfold maxLen; omega
    case c4 => omega
    case c5 => simp; omega
    intro v' W2 hown' hgrow _ hat;have HK2 : Hid (Below w.heap.size w W2) := HI.out.2.trans ⟨hgrow.os, hgrow.tape, hgrow.output, by have := hgrow.size; simp at this; omega, fun k hk => (hgrow.block _ (by simp; omega) (fun he => by have := (own_lt HO.out he.symm).1; omega)).trans (Below.heap_alloc wr _ k (by omega))⟩;have HO2 : Hid (W2.ownsRow w.heap.size 9 1 v' (m + 1) ((funN (ts.take i)).map Value.string ++ [.string t.d.name])) := hown'
    obtain ⟨a4, n4, cap4, rfl⟩ : ∃ a4 n4 cap4, v' = .slice a4 n4 cap4 := by
     rcases hown'.2 with ⟨hv, _⟩ | ⟨g, cap, cur, hv, _⟩
     ·exact ⟨_, _, _, hv⟩
     ·exact ⟨_, _, _, hv⟩
    have hn4 : n4 = m + 1 := by
     rcases hown'.2 with ⟨hv, hz⟩ | ⟨g, cap, cur, hv, _⟩
     ·injection hv with _ hv2 _; omega
     ·injection hv with _ hv2 _
    subst hn4;clear hown' hgrow hat;go_wp2
    go_roundw
    case rel =>
     have e : funN (ts.take (i + 1)) = funN (ts.take i) ++ [t.d.name] := by rw [HT.out, if_pos hk]
     have e2 : (funN (ts.take (i + 1))).length = m + 1 := by rw [e, List.length_append, HM.out]; rfl
     refine ⟨i + 1, a4, cap4, by omega, by simp, by rw [e2], ⟨?_, HK2.out⟩⟩;rw [e2, e, List.map_append];exact HO2.out
    case measure => simp [intOf]; omega
   ·have q0 : (t.d.k == 4) = false := by simpa using hk
    go_wp2
    go_roundw
    case rel =>
     have e : funN (ts.take (i + 1)) = funN (ts.take i) := by rw [HT.out, if_neg hk, List.append_nil]
     refine ⟨i + 1, a2, cap2, by omega, by simp, by rw [e], ?_⟩;rw [e];exact HI
    case measure => simp [intOf]; omega
  ·have hie : i = ts.length := by omega
   subst hie;have hi1 : ¬ (ts.length : Int) < (ts.length : Int) := by omega
   have HZ : Hid (wr.ownsRow w.heap.size 9 1 (.slice a2 (funN ts).length cap2) (funN ts).length ((funN ts).map Value.string) ∧ Below w.heap.size w wr) := by have h := HI; rw [List.take_length] at h; exact h
   rw [List.take_length];go_wp2;go_ret;exact ⟨a2, cap2, rfl, HZ.out.1, HZ.out.2⟩
open nodeT okT kdT
def kwD (s : ByteArray) : Bool := kwList.any (fun k => k.data.toList == s.data.toList)
theorem isKw_eq (s : ByteArray) : isKw s = kwD s := by
 unfold isKw kwD
 congr 1
 funext k
 simp [ByteArray.toList_eq]
def nameD (s : ByteArray) : WW × Bool := if 40 < s.size then (noWW, false) else (⟨if kwD s = true then 3 else 1, s, 0⟩, true)
theorem nameW_eq (s : ByteArray) : nameW s = nameD s := by unfold nameW nameD; rw [isKw_eq]
def wordD (t : ByteArray) : WW × Bool :=
 if nameB (byteAt t 0) = true then (if digitB (byteAt t 0) = true then numW (runOf t) else nameD (runOf t)) else markW t
theorem wordW_eq (t : ByteArray) : wordW t = wordD t := by unfold wordW wordD; rw [nameW_eq]
def nextD (t : ByteArray) (i : Nat) : Nat × Option WW :=
 let G := gaps t (t.size + 1 - i) i
 (G.1, if G.2 = true ∧ G.1 < t.size ∧ (wordD (t.extract G.1 t.size)).2 = true then some (wordD (t.extract G.1 t.size)).1 else none)
theorem nextW_eq (t : ByteArray) (i : Nat) : nextW t i = nextD t i := by unfold nextW nextD; simp only [wordW_eq]
def lexFD (t : ByteArray) : Nat → Nat → List (WW × Nat) × Nat
 | 0, i => ([], i)
 | f + 1, i => match nextD t i with
  | (j, none) => ([], j)
  | (j, some x) => ((x, j) :: (lexFD t f (j + x.s.size)).1, (lexFD t f (j + x.s.size)).2)
theorem lexF_eq (t : ByteArray) : ∀ f i, lexF t f i = lexFD t f i
 | 0, i => rfl
 | f + 1, i => by
  rw [lexF, lexFD, nextW_eq]
  cases nextD t i with
  | mk j o =>
   cases o with
   | none => rfl
   | some x => simp only [lexF_eq t f]
def lexD (t : ByteArray) : List (WW × Nat) × Nat := lexFD t (t.size + 1) 0
theorem lexAll_eq (t : ByteArray) : lexAll t = lexD t := lexF_eq t _ _
def tx1 : ByteArray := ⟨#[105, 110, 116, 32, 102, 40, 105, 110, 116, 32, 97, 41, 123, 114, 101, 116, 117, 114, 110, 32, 97, 43, 50, 42, 51, 59, 125]⟩
def tw1 : List Wd := [⟨3, ⟨#[105, 110, 116]⟩, 0, 1, 1⟩, ⟨1, ⟨#[102]⟩, 0, 1, 5⟩, ⟨4, ⟨#[40]⟩, 0, 1, 6⟩, ⟨3, ⟨#[105, 110, 116]⟩, 0, 1, 7⟩, ⟨1, ⟨#[97]⟩, 0, 1, 11⟩, ⟨4, ⟨#[41]⟩, 0, 1, 12⟩, ⟨4, ⟨#[123]⟩, 0, 1, 13⟩, ⟨3, ⟨#[114, 101, 116, 117, 114, 110]⟩, 0, 1, 14⟩, ⟨1, ⟨#[97]⟩, 0, 1, 21⟩, ⟨4, ⟨#[43]⟩, 0, 1, 22⟩, ⟨2, ⟨#[50]⟩, 2, 1, 23⟩, ⟨4, ⟨#[42]⟩, 0, 1, 24⟩, ⟨2, ⟨#[51]⟩, 3, 1, 25⟩, ⟨4, ⟨#[59]⟩, 0, 1, 26⟩, ⟨4, ⟨#[125]⟩, 0, 1, 27⟩]
theorem lx1 : wdsOf tx1 = tw1 := by
 unfold wdsOf;rw [lexAll_eq]
 kernel_rfl
theorem le1 : (lexAll tx1).2 = tx1.size := by
 rw [lexAll_eq]
 kernel_rfl
theorem pc1 (PB g cap : Nat) (a : Option Addr) : parseC tx1 PB g cap a = ⟨PB, g, cap, a, 1, 28, tw1⟩ := by
 unfold parseC;rw [lx1];have h1 : endL tx1 = 1 := by kernel_rfl
 have h2 : endC tx1 = 28 := by kernel_rfl
 rw [h1, h2]
def pr1 (PB g cap : Nat) (a : Option Addr) : List Tr × PSt := programOf ⟨PB, g, cap, a, 1, 28, tw1⟩ [] st0
def tx2 : ByteArray := ⟨#[105, 110, 116, 32, 102, 40]⟩
def tw2 : List Wd := [⟨3, ⟨#[105, 110, 116]⟩, 0, 1, 1⟩, ⟨1, ⟨#[102]⟩, 0, 1, 5⟩, ⟨4, ⟨#[40]⟩, 0, 1, 6⟩]
theorem lx2 : wdsOf tx2 = tw2 := by
 unfold wdsOf;rw [lexAll_eq]
 kernel_rfl
theorem le2 : (lexAll tx2).2 = tx2.size := by
 rw [lexAll_eq]
 kernel_rfl
theorem pc2 (PB g cap : Nat) (a : Option Addr) : parseC tx2 PB g cap a = ⟨PB, g, cap, a, 1, 7, tw2⟩ := by
 unfold parseC;rw [lx2];have h1 : endL tx2 = 1 := by kernel_rfl
 have h2 : endC tx2 = 7 := by kernel_rfl
 rw [h1, h2]
def pr2 (PB g cap : Nat) (a : Option Addr) : List Tr × PSt := programOf ⟨PB, g, cap, a, 1, 7, tw2⟩ [] st0
def tx4 : ByteArray := ⟨#[115, 116, 114, 117, 99, 116, 32, 115, 123, 99, 104, 97, 114, 42, 97, 91, 51, 93, 59, 125, 59, 105, 110, 116, 32, 120, 59, 118, 111, 105, 100, 32, 102, 40, 112, 117, 98, 108, 105, 99, 32, 108, 111, 110, 103, 32, 98, 41, 123, 105, 102, 40, 120, 41, 105, 102, 40, 98, 41, 120, 61, 49, 59, 101, 108, 115, 101, 59, 125]⟩
def tw4 : List Wd := [⟨3, ⟨#[115, 116, 114, 117, 99, 116]⟩, 0, 1, 1⟩, ⟨1, ⟨#[115]⟩, 0, 1, 8⟩, ⟨4, ⟨#[123]⟩, 0, 1, 9⟩, ⟨3, ⟨#[99, 104, 97, 114]⟩, 0, 1, 10⟩, ⟨4, ⟨#[42]⟩, 0, 1, 14⟩, ⟨1, ⟨#[97]⟩, 0, 1, 15⟩, ⟨4, ⟨#[91]⟩, 0, 1, 16⟩, ⟨2, ⟨#[51]⟩, 3, 1, 17⟩, ⟨4, ⟨#[93]⟩, 0, 1, 18⟩, ⟨4, ⟨#[59]⟩, 0, 1, 19⟩, ⟨4, ⟨#[125]⟩, 0, 1, 20⟩, ⟨4, ⟨#[59]⟩, 0, 1, 21⟩, ⟨3, ⟨#[105, 110, 116]⟩, 0, 1, 22⟩, ⟨1, ⟨#[120]⟩, 0, 1, 26⟩, ⟨4, ⟨#[59]⟩, 0, 1, 27⟩, ⟨3, ⟨#[118, 111, 105, 100]⟩, 0, 1, 28⟩, ⟨1, ⟨#[102]⟩, 0, 1, 33⟩, ⟨4, ⟨#[40]⟩, 0, 1, 34⟩, ⟨3, ⟨#[112, 117, 98, 108, 105, 99]⟩, 0, 1, 35⟩, ⟨3, ⟨#[108, 111, 110, 103]⟩, 0, 1, 42⟩, ⟨1, ⟨#[98]⟩, 0, 1, 47⟩, ⟨4, ⟨#[41]⟩, 0, 1, 48⟩, ⟨4, ⟨#[123]⟩, 0, 1, 49⟩, ⟨3, ⟨#[105, 102]⟩, 0, 1, 50⟩, ⟨4, ⟨#[40]⟩, 0, 1, 52⟩, ⟨1, ⟨#[120]⟩, 0, 1, 53⟩, ⟨4, ⟨#[41]⟩, 0, 1, 54⟩, ⟨3, ⟨#[105, 102]⟩, 0, 1, 55⟩, ⟨4, ⟨#[40]⟩, 0, 1, 57⟩, ⟨1, ⟨#[98]⟩, 0, 1, 58⟩, ⟨4, ⟨#[41]⟩, 0, 1, 59⟩, ⟨1, ⟨#[120]⟩, 0, 1, 60⟩, ⟨4, ⟨#[61]⟩, 0, 1, 61⟩, ⟨2, ⟨#[49]⟩, 1, 1, 62⟩, ⟨4, ⟨#[59]⟩, 0, 1, 63⟩, ⟨3, ⟨#[101, 108, 115, 101]⟩, 0, 1, 64⟩, ⟨4, ⟨#[59]⟩, 0, 1, 68⟩, ⟨4, ⟨#[125]⟩, 0, 1, 69⟩]
theorem lx4 : wdsOf tx4 = tw4 := by
 unfold wdsOf;rw [lexAll_eq]
 kernel_rfl
theorem le4 : (lexAll tx4).2 = tx4.size := by
 rw [lexAll_eq]
 kernel_rfl
theorem pc4 (PB g cap : Nat) (a : Option Addr) : parseC tx4 PB g cap a = ⟨PB, g, cap, a, 1, 70, tw4⟩ := by
 unfold parseC;rw [lx4];have h1 : endL tx4 = 1 := by kernel_rfl
 have h2 : endC tx4 = 70 := by kernel_rfl
 rw [h1, h2]
def pr4 (PB g cap : Nat) (a : Option Addr) : List Tr × PSt := programOf ⟨PB, g, cap, a, 1, 70, tw4⟩ [] st0
def tx3 : ByteArray := ⟨#[105, 110, 116, 32, 120, 32, 64]⟩
theorem le3 : (lexAll tx3).2 = 6 := by
 rw [lexAll_eq]
 kernel_rfl
theorem po3 : posOf tx3 6 = (1, 7) := by kernel_rfl
def ex1 : ByteArray := ⟨#[105, 110, 116, 32, 102, 32, 40, 32, 105, 110, 116, 32, 97, 32, 41, 32, 123, 32, 114, 101, 116, 117, 114, 110, 32, 40, 32, 97, 32, 43, 32, 40, 32, 50, 32, 42, 32, 51, 32, 41, 32, 41, 32, 59, 32, 125]⟩
theorem e1_ok (PB g cap : Nat) (a : Option Addr) : (pr1 PB g cap a).2.e = 0 := by kernel_rfl
theorem e1_txt (PB g cap : Nat) (a : Option Addr) : joinS (textT (pr1 PB g cap a).1) = ex1 := by kernel_rfl
theorem e1_oks (PB g cap : Nat) (a : Option Addr) : oksT (pr1 PB g cap a).1 = true := by kernel_rfl
theorem e1_kds (PB g cap : Nat) (a : Option Addr) : kdsT (pr1 PB g cap a).1 = true := by kernel_rfl
theorem e1_lim (PB g cap : Nat) (a : Option Addr) : (decide ((pr1 PB g cap a).1.length ≤ 100000) && decide ((textT (pr1 PB g cap a).1).length ≤ 2000000000) && decide (sizes (textT (pr1 PB g cap a).1) ≤ 100000000000000)) = true := by kernel_rfl
def ex4 : ByteArray := ⟨#[115, 116, 114, 117, 99, 116, 32, 115, 32, 123, 32, 99, 104, 97, 114, 32, 42, 32, 97, 32, 91, 32, 51, 32, 93, 32, 59, 32, 125, 32, 59, 32, 105, 110, 116, 32, 120, 32, 59, 32, 118, 111, 105, 100, 32, 102, 32, 40, 32, 112, 117, 98, 108, 105, 99, 32, 108, 111, 110, 103, 32, 98, 32, 41, 32, 123, 32, 105, 102, 32, 40, 32, 120, 32, 41, 32, 123, 32, 105, 102, 32, 40, 32, 98, 32, 41, 32, 123, 32, 120, 32, 61, 32, 49, 32, 59, 32, 125, 32, 101, 108, 115, 101, 32, 123, 32, 59, 32, 125, 32, 125, 32, 125]⟩
theorem e4_ok (PB g cap : Nat) (a : Option Addr) : (pr4 PB g cap a).2.e = 0 := by kernel_rfl
theorem e4_txt (PB g cap : Nat) (a : Option Addr) : joinS (textT (pr4 PB g cap a).1) = ex4 := by kernel_rfl
theorem e4_oks (PB g cap : Nat) (a : Option Addr) : oksT (pr4 PB g cap a).1 = true := by kernel_rfl
theorem e4_kds (PB g cap : Nat) (a : Option Addr) : kdsT (pr4 PB g cap a).1 = true := by kernel_rfl
theorem e4_lim (PB g cap : Nat) (a : Option Addr) : (decide ((pr4 PB g cap a).1.length ≤ 100000) && decide ((textT (pr4 PB g cap a).1).length ≤ 2000000000) && decide (sizes (textT (pr4 PB g cap a).1) ≤ 100000000000000)) = true := by kernel_rfl
theorem e1_fun (PB g cap : Nat) (a : Option Addr) : funN (pr1 PB g cap a).1 = [⟨#[102]⟩] := by kernel_rfl
theorem e1_nod (PB g cap : Nat) (a : Option Addr) : decide (3 < (pr1 PB g cap a).2.nodes ∧ (pr1 PB g cap a).2.nodes ≤ 100) = true := by kernel_rfl
theorem e2_bad (PB g cap : Nat) (a : Option Addr) : ((pr2 PB g cap a).2.e, (pr2 PB g cap a).2.fl, (pr2 PB g cap a).2.fc) = ((4, 1, 7) : Int × Int × Int) := by kernel_rfl
end Go.Proofs.YtlonbaefdffbeaaGreatDoor

