import Derived.Test.YtlonbaefdffbeaaGreatDoorLIter3
import Derived.RangeFuncBox
import Derived.Maps.AppendAt
import Derived.Deep.AppendLies
namespace Go.Proofs.YtlonbaefdffbeaaGreatDoor
open Go.ChangeShapes Go.WideShapes Go.ChangeAt Go.RowKit Go.Proofs.Tryz
set_option linter.unusedSimpArgs false
set_option linter.unusedVariables false
set_option maxRecDepth 100000
set_option maxHeartbeats 2000000

attribute [local go_sem] Oper.semAt_some
theorem lwords_any (v : Option Addr) (w : World) : Calls prog 35 #[.pointer v] w fun e w' => e = .returned (.func (.func 52) #[] #[.pointer (some ⟨w.heap.size, 0, none⟩)]) ∧ w' = w.alloc (.cells #[.pointer v] 88) := by
 go_enter func35, ntmps35
 go_wp2;go_ret;exact ⟨rfl, rfl⟩
def rangeOf : Code → Option (Array Tmp × Code × Code)
 | .rangeFunc _ ps a b => some (ps, a, b)
 | .seq a b => match rangeOf a with
  | some c => some c
  | none => rangeOf b
 | .block _ c => rangeOf c
 | .scope c => rangeOf c
 | .loop c => rangeOf c
 | .cond _ a b => match rangeOf a with
  | some c => some c
  | none => rangeOf b
 | _ => none
noncomputable def wAssign : Code := ((Tryz.f19.body.bind rangeOf).map (·.2.1)).getD .skip
noncomputable def wBody : Code := ((Tryz.f19.body.bind rangeOf).map (·.2.2)).getD .skip
structure Grew (base vb : Nat) (w w' : World) : Prop where
 os : w'.os = w.os
 tape : w'.tape = w.tape
 output : w'.output = w.output
 size : w.heap.size ≤ w'.heap.size
 block : ∀ k, k < base → k ≠ vb → w'.heap[k]? = w.heap[k]?
theorem infoW : (prog.info? 93).map (fun i => (i.zero, i.size, i.bytes)) = some (some (.agg #[.int .i64 0, .string ⟨#[]⟩, .int .i64 0, .int .i64 0, .int .i64 0]), 5, 48) := by kernel_rfl
def wcells (k : Int) (s : ByteArray) (n pl pc : Int) : List Value := [.int .i64 k, .string s, .int .i64 n, .int .i64 pl, .int .i64 pc]

theorem ownsRow_same {w w' : World} {base : Nat} {e : TypeId} {size : Nat} {v : Value} {n : Nat} {xs : List Value} (h : w.ownsRow base e size v n xs) (hb : ∀ k, base ≤ k → k < w.heap.size → w'.heap[k]? = w.heap[k]?) : w'.ownsRow base e size v n xs := by
 refine ⟨h.1, ?_⟩
 rcases h.2 with h | ⟨g, cap, cur, h1, h2, h3, h4⟩
 ·exact .inl h
 ·exact .inr ⟨g, cap, cur, h1, h2, (hb g h2 (zge h3).1).trans h3, h4⟩
theorem own_ne {w : World} {base : Nat} {e : TypeId} {size : Nat} {v : Value} {n b : Nat} {xs : List Value} (h : w.ownsRow base e size v n xs) (hb : b < base) : some b ≠ v.ownBlock := by
 rcases h.2 with ⟨rfl, _⟩ | ⟨g, cap, cur, rfl, h2, _⟩
 ·simp [Value.ownBlock]
 ·simp [Value.ownBlock]; omega
theorem words_round (l vb base d c q : Nat) (fn : FuncId) (k n pl pc : Int) (s : ByteArray) (v : Value) (xs : List Value) (z0z z1z z2z z3z z4z z5z z7z z8z z9z z10z z11z z12z z13z z14z z15z z16z z17z z18z z19z z20z z21z z22z z23z z24z z25z z26z z27z z28z z29z z30z : Value) (W : World) (R : Ending → World → Prop)
  (hl : W.heap[l]? = some (.loop (loopRec fn #[z0z, z1z, z2z, z3z, z4z, z5z, .pointer (some ⟨vb, 0, none⟩), z7z, z8z, z9z, z10z, z11z, z12z, z13z, z14z, z15z, z16z, z17z, z18z, z19z, z20z, z21z, z22z, z23z, z24z, z25z, z26z, z27z, z28z, z29z, z30z] #[17, 18] wAssign wBody d))) (hv : Boxed W vb 54 v) (HO : Hid (W.ownsRow base 93 5 v c xs))
  (hb1 : l < base) (hb2 : vb < base) (hb3 : base ≤ W.heap.size) (hlv : l ≠ vb) (hc : c ≤ 65536)
  (HK : Hid (∀ g cap W', Boxed W' vb 54 (.slice (some ⟨g, 0, none⟩) (c + 1) cap) → W'.ownsRow base 93 5 (.slice (some ⟨g, 0, none⟩) (c + 1) cap) (c + 1) (xs ++ wcells k s n pl pc) → Grew base vb W W' → R (.returned (.bool true)) W')) :
  YieldAt Fence.wide 0 prog l #[.int .i64 q, .agg #[.int .i64 k, .string s, .int .i64 n, .int .i64 pl, .int .i64 pc]] W R := by
 obtain ⟨i0, hi, hz0, hz1, hz2⟩ := info_parts infoW;refine yield_round hl rfl rfl trivial ?_;simp only [loopRec]
 conv => arg 4; whnf
 have cv := hv.cell
 gi_wp2
 refine ⟨(Below.heap_alloc W _ l (zge hl).1).trans hl, ?_⟩
 conv => arg 4; whnf
 obtain ⟨W1, hW1⟩ : ∃ W1, (W.alloc (.cells #[.int .i64 k, .string s, .int .i64 n, .int .i64 pl, .int .i64 pc] 93)).putObj l (.loop { state := .busy, pending := none, fn := fn, tmps := #[z0z, z1z, z2z, z3z, z4z, z5z, .pointer (some ⟨vb, 0, none⟩), z7z, z8z, z9z, z10z, z11z, z12z, z13z, z14z, z15z, z16z, z17z, z18z, z19z, z20z, z21z, z22z, z23z, z24z, z25z, z26z, z27z, z28z, z29z, z30z], params := #[17, 18], assign := wAssign, body := wBody, defers := d }) = W1 := ⟨_, rfl⟩;have ll : l < W.heap.size := (zge hl).1
 have HB1 : Hid (∀ k, k < W.heap.size → k ≠ l → W1.heap[k]? = W.heap[k]?) := fun k hk hn => by
  rw [← hW1, World.putObj_heap_other hn];exact Below.heap_alloc W _ k hk
 have s1 : W1.heap.size = W.heap.size + 1 := by rw [← hW1]; simp
 have n1 : W1.heap[W.heap.size]? = some (.cells #[.int .i64 k, .string s, .int .i64 n, .int .i64 pl, .int .i64 pc] 93 (0, 0)) := by
  rw [← hW1, World.putObj_heap_other (by omega)];exact World.alloc_heap_new W _
 have l1 : W1.heap[l]? = some (.loop { state := .busy, pending := none, fn := fn, tmps := #[z0z, z1z, z2z, z3z, z4z, z5z, .pointer (some ⟨vb, 0, none⟩), z7z, z8z, z9z, z10z, z11z, z12z, z13z, z14z, z15z, z16z, z17z, z18z, z19z, z20z, z21z, z22z, z23z, z24z, z25z, z26z, z27z, z28z, z29z, z30z], params := #[17, 18], assign := wAssign, body := wBody, defers := d }) := by
  rw [← hW1];exact World.putObj_heap_same (by simp; omega)
 have v1 : Boxed W1 vb 54 v := (HB1.out vb hv.lt (Ne.symm hlv)).trans hv;have HO1 : Hid (W1.ownsRow base 93 5 v c xs) := ownsRow_same HO.out (fun k h1 h2 => HB1.out k h2 (by omega));have HS1 : Hid (W1.os = W.os ∧ W1.tape = W.tape ∧ W1.output = W.output) := by rw [← hW1]; exact ⟨rfl, rfl, rfl⟩
 rw [hW1];clear hW1 cv;have hno : some vb ≠ v.ownBlock := own_ne HO.out hb2;have hnl : some l ≠ v.ownBlock := own_ne HO.out hb1;have cv := v1.cell;have a0 : W1.cell? ⟨W.heap.size, 0, none⟩ = some (.int .i64 k) := heap_cell n1 (by simp);have a1 : W1.cell? ⟨W.heap.size, 1, none⟩ = some (.string s) := heap_cell n1 (by simp);have a2 : W1.cell? ⟨W.heap.size, 2, none⟩ = some (.int .i64 n) := heap_cell n1 (by simp);have a3 : W1.cell? ⟨W.heap.size, 3, none⟩ = some (.int .i64 pl) := heap_cell n1 (by simp);have a4 : W1.cell? ⟨W.heap.size, 4, none⟩ = some (.int .i64 pc) := heap_cell n1 (by simp)
 gi_wp2_with (gi_at_builtin; go_loud (refine wpListIn_append_own _ rfl _ _ 54 rfl base 93 i0 (.agg #[.int .i64 0, .string ⟨#[]⟩, .int .i64 0, .int .i64 0, .int .i64 0]) 5 48 underlying54 hi hz0 hz1 hz2 rfl (by decide) v c xs (by rfl) (HO1.out.alloc _) ⟨W.heap.size + 1, 0, none⟩ 1 1 (wcells k s n pl pc) (by rfl) (by rfl) ?c1 ?c2 ?c3 ?c4 ?c5 ?_))
 case c1 => exact s1 ▸ World.news_of_block (World.alloc_heap_new W1 (.cells (wcells k s n pl pc).toArray 93))
 case c2 => intro u hu; simp [wcells] at hu; rcases hu with rfl | rfl | rfl | rfl | rfl <;> rfl
 case c3 => unfold maxLen; omega
 case c4 => omega
 case c5 => simp; omega
 intro v' W2 hown' hgrow _;obtain ⟨g', cap', rfl⟩ := ownsRow_succ hown';have v2 : Boxed W2 vb 54 v := (v1.alloc _).kept hgrow hno;have cv2 := v2.cell;have fv2 := v2.frozen;have hgs := hgrow.size
 have HB2 : Hid (∀ k, k < base → k ≠ l → W2.heap[k]? = W.heap[k]?) := fun k hk hn => by
  rw [hgrow.block k (by simp; omega) (own_ne HO.out hk), Below.heap_alloc W1 _ k (by omega)];exact HB1.out k (by omega) hn
 have l2 : W2.heap[l]? = some (.loop { state := .busy, pending := none, fn := fn, tmps := #[z0z, z1z, z2z, z3z, z4z, z5z, .pointer (some ⟨vb, 0, none⟩), z7z, z8z, z9z, z10z, z11z, z12z, z13z, z14z, z15z, z16z, z17z, z18z, z19z, z20z, z21z, z22z, z23z, z24z, z25z, z26z, z27z, z28z, z29z, z30z], params := #[17, 18], assign := wAssign, body := wBody, defers := d }) := by
  rw [hgrow.block l (by simp; omega) hnl, Below.heap_alloc W1 _ l (by omega)];exact l1
 have HS2 : Hid (W2.os = W.os ∧ W2.tape = W.tape ∧ W2.output = W.output ∧ W.heap.size ≤ W2.heap.size) := ⟨hgrow.os.trans HS1.out.1, hgrow.tape.trans HS1.out.2.1, hgrow.output.trans HS1.out.2.2, by simp at hgs; omega⟩;have HO2 : Hid (W2.ownsRow base 93 5 (.slice (some ⟨g', 0, none⟩) (c + 1) cap') (c + 1) (xs ++ wcells k s n pl pc)) := hown';clear hown' hgrow cv a0 a1 a2 a3 a4
 gi_wp2
 refine ⟨(heap_set_other hlv).trans l2, ?_⟩;refine HK.out g' cap' _ ?_ ?_ ⟨HS2.out.1, HS2.out.2.1, HS2.out.2.2.1, ?_, ?_⟩
 ·exact (World.putObj_heap_other (Ne.symm hlv)).trans (v2.set _)
 ·refine ownsRow_same HO2.out (fun k h1 h2 => ?_)
  rw [World.putObj_heap_other (by omega)];exact heap_set_other (by omega)
 ·rw [World.putObj_size, size_set]; exact HS2.out.2.2.2
 ·intro k hk hn
  by_cases hkl : k = l
  ·subst hkl
   rw [World.putObj_heap_same (by rw [size_set]; have := HS2.out.2.2.2; omega)];exact hl.symm
  ·rw [World.putObj_heap_other hkl, heap_set_other hn]
   exact HB2.out k hk hkl
end Go.Proofs.YtlonbaefdffbeaaGreatDoor

