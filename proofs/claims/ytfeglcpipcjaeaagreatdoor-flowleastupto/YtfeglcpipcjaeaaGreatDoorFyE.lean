import Derived.Test.YtfeglcpipcjaeaaGreatDoorFyC
import Derived.Test.YtfeglcpipcjaeaaGreatDoorRRight2
namespace Go.Proofs.YtfeglcpipcjaeaaGreatDoor
open Go.ChangeShapes Go.WideShapes Go.ChangeAt Go.RowKit Go.Proofs.Tryz
set_option linter.unusedSimpArgs false
set_option linter.unusedVariables false
set_option maxRecDepth 100000
set_option maxHeartbeats 16000000

theorem infoBRow : (prog.info? 34).map (fun i => (i.zero, i.size, i.bytes)) = some (some (.slice none 0 0), 1, 24) := by kernel_rfl
theorem mk_brows (n : Nat) (hn : n ≤ 1000000) (w : World) : (Instr.makeSlice 32 (.int .i64 n) (.int .i64 n)).run prog w = .ok (.slice (some ⟨w.heap.size, 0, none⟩) n n) (w.alloc (.cells (madeCells #[.slice none 0 0] n) 34)) := by
 obtain ⟨i0, hi, hz0, hz1, hz2⟩ := info_parts infoBRow;have := run_make (P := prog) w 32 34 i0 (.slice none 0 0) underlying32 hi hz0 .i64 .i64 n n (by omega) (by omega) (by rw [hz2]; omega) (by omega);rw [this, hz1];simp [Value.cells]
structure TB (B LB N R : Nat) (rb : Nat → Nat) (t : Nat → Nat → Bool) (W : World) : Prop where
 c : ∀ i, i < N → W.cell? ⟨LB, i, none⟩ = some (.slice (some ⟨rb i, 0, none⟩) R R)
 v : ∀ i, i < N → MetAt W (rb i) R (t i)
 ne : ∀ i, i < N → rb i ≠ LB
 inj : ∀ i j, i < N → j < N → i ≠ j → rb i ≠ rb j
 lo : ∀ i, i < N → B ≤ rb i ∧ rb i < W.heap.size
 ll : B ≤ LB
theorem TB.of {B LB N R : Nat} {rb : Nat → Nat} {t : Nat → Nat → Bool} {W W' : World} (h : TB B LB N R rb t W) (hk : ∀ k, k < W.heap.size → (k = LB ∨ ∃ i, i < N ∧ rb i = k) → W'.heap[k]? = W.heap[k]?) (hs : W.heap.size ≤ W'.heap.size) : TB B LB N R rb t W' :=
 ⟨fun i hi => cell_of (h.c i hi) (fun hl => hk _ hl (.inl rfl)), fun i hi => (h.v i hi).of (hk _ (h.lo i hi).2 (.inr ⟨i, hi, rfl⟩)), h.ne, h.inj, fun i hi => ⟨(h.lo i hi).1, Nat.lt_of_lt_of_le (h.lo i hi).2 hs⟩, h.ll⟩
theorem TB.below {B LB N R : Nat} {rb : Nat → Nat} {t : Nat → Nat → Bool} {W W' : World} (h : TB B LB N R rb t W) (hb : Below W.heap.size W W') : TB B LB N R rb t W' := h.of (fun k hk _ => hb.block k hk) hb.size
theorem MetAt.ext {W : World} {mb n : Nat} {m m' : Nat → Bool} (h : MetAt W mb n m) (e : ∀ i, i < n → m i = m' i) : MetAt W mb n m' := fun i hi => by rw [← e i hi]; exact h i hi
def AllB (W : World) (b : Nat) : Prop := ∀ j v, W.cell? ⟨b, j, none⟩ = some v → ∃ c, v = .bool c
theorem AllB.set {W : World} {b o : Nat} {c : Bool} (h : AllB W b) (hc : ∃ v, W.cell? ⟨b, o, none⟩ = some v) : AllB (W.setCell ⟨b, o, none⟩ (.bool c)) b := fun j v hv => by
 by_cases e : j = o
 ·subst e
  obtain ⟨u, hu⟩ := hc;rw [World.cell?_setCell_same _ _ _ hu] at hv
  injection hv with hv
  exact ⟨c, hv.symm⟩
 ·rw [World.cell?_setCell_other _ _ _ _ (fun e2 => e (by cases e2; rfl))] at hv
  exact h j v hv
theorem AllB.of {W W' : World} {b : Nat} (h : AllB W b) (hk : W'.heap[b]? = W.heap[b]?) : AllB W' b := fun j v hv => h j v (by rw [← World.cell?_of_block (w := W) hk]; exact hv)
def retM (R : Nat) (m : Nat → Bool) (w : World) : Ending → World → Prop := fun e W => ∃ b, e = .returned (.slice (some ⟨b, 0, none⟩) R R) ∧ w.heap.size ≤ b ∧ b < W.heap.size ∧ MetAt W b R m ∧ AllB W b ∧ Below w.heap.size w W
def anyF (t : Nat → Nat → Bool) (l : List Int) (r : Nat) : Bool := l.any fun s => t s.toNat r
theorem anyF_snoc (t : Nat → Nat → Bool) (l : List Int) (s : Int) (r : Nat) : anyF t (l ++ [s]) r = (anyF t l r || t s.toNat r) := by simp [anyF]
def midM (a b : Nat → Bool) (r : Nat) : Nat → Bool := fun j => if j < r then a j else b j
theorem midM_succ (a b : Nat → Bool) (r j : Nat) : midM a b (r + 1) j = if j = r then a r else midM a b r j := by
 unfold midM
 by_cases h : j = r
 ·subst h; simp
 ·by_cases h2 : j < r
  ·rw [if_pos (by omega), if_neg h, if_pos h2]
  ·rw [if_neg (by omega), if_neg h, if_neg h2]
theorem new_blk (w : World) (o : Obj) (k : Nat) (hk : w.heap.size = k) : (w.alloc o).heap[k]? = some o := by
 rw [← hk]
 show (w.heap.push _)[w.heap.size]? = _
 simp
theorem made_some {x v : Value} {n j : Nat} (h : (madeCells #[x] n)[j]? = some v) : v = x := by
 by_cases hj : j < n
 ·rw [made_get x n j hj] at h
  injection h with h
  exact h.symm
 ·rw [Array.getElem?_eq_none (by rw [size_madeCells]; simpa using hj)] at h
  cases h
theorem behind_walk (w : World) (fname : ByteArray) (pa : Option Addr) (pn pc : Nat) (frm ent : Int) (R N cap cb co LB B n : Nat) (ca : Option Addr) (x : Ins) (rb : Nat → Nat) (t : Nat → Nat → Bool) (hR : R ≤ 1000000) (hN : N ≤ 100000) (hn : n < N) (HCA : Hid (ca = some ⟨cb, co, none⟩)) (HIN : Hid (InsAt w cb (co + n * 9) x)) (HT : Hid (TB B LB N R rb t w)) (HLB : Hid (LB < w.heap.size)) (HSX : Hid (∀ y ∈ sxF x, 0 ≤ y ∧ y < N)) :
  Calls prog 27 #[.agg #[.string fname, .slice pa pn pc, .int .i64 (R : Int), .int .i64 frm, .int .i64 ent, .slice ca N cap], .slice (some ⟨LB, 0, none⟩) N N, .int .i64 (n : Int)] w (retM R (anyF t (sxF x)) w) := by
 obtain rfl := HCA.out;obtain ⟨v, hil, e0, e1, e2, e3, e4, e5, e6, e7, e8⟩ := HIN.out;obtain ⟨va, vc, rfl, _⟩ := hil.partsF
 generalize x.args.length = vn at *
 have mk1 := mk_bools R (by omega);have j0 : (0 : Int) ≤ n := by omega
 have j1 : (n : Int) < N := by omega
 have hcb : cb < w.heap.size := block_lt_of_cell e0
 go_enter func27, ntmps27
 go_upto_region 3 with (go_at_call 32; refine (rSuccs_any x.op x.sub x.a x.b x.d x.k (.slice va vn vc) x.s x.t _).mono ?_; rintro e W3 ⟨sv, rfl, hsl, hb3⟩)
 obtain ⟨sa, sc, sb, so, rfl, hs8, hsa, hsc⟩ := hsl.parts;have hb4 : Below w.heap.size w W3 := bel_trans (bel_alloc (bel_alloc (Below.refl _ _) _) _) hb3;have hbz : W3.heap[w.heap.size + 1]? = some (.cells (madeCells #[.bool false] R) 4 (0, 0)) := (hb3.block _ (by simp)).trans (new_blk _ _ _ (World.size_alloc _ _));have c2 : W3.cell? ⟨w.heap.size, 2, none⟩ = some (.int .i64 (R : Int)) := keep_cell hb3 (keep_alloc (by simp) _)
 have HM3 : Hid (MetAt W3 (w.heap.size + 1) R (fun _ => false)) := fun i hi => by
  have := made_at (w.alloc (.cells #[.string fname, .slice pa pn pc, .int .i64 (R : Int), .int .i64 frm, .int .i64 ent, .slice (some ⟨cb, co, none⟩) N cap] 25)) (.bool false) R 4 i hi;rw [World.size_alloc] at this;exact ⟨keep_cell hb3 this.1, keep_frozen hb3 this.1 this.2⟩
 have HA3 : Hid (AllB W3 (w.heap.size + 1)) := fun j v hv => by
  unfold World.cell? at hv;rw [hbz] at hv;exact ⟨false, made_some (by simpa using hv)⟩
 have HT3 : Hid (TB B LB N R rb t W3 ∧ ∀ i, i < N → rb i < w.heap.size) := ⟨HT.out.below hb4, fun i hi => (HT.out.lo i hi).2⟩;have HB4 := hidF hb4;have hs3 : w.heap.size + 2 ≤ W3.heap.size := by have := hb3.size; simp at this; omega
 obtain ⟨sl, hsq⟩ : ∃ sl, sxF x = sl := ⟨_, rfl⟩;have hsq2 : succsF x.op x.s x.t = sl := hsq;have HSQ := hidF hsq;rw [hsq2] at hsa hsc hs8;rw [hsq] at HSX;rw [hsq2];obtain ⟨ns, hns⟩ : ∃ ns, sl.length = ns := ⟨_, rfl⟩;rw [hns] at hsa hs8;rw [hns]
 have HSB : Hid (0 < ns → sb ≠ w.heap.size + 1) := fun h0 e => by
  have hg := List.getElem?_eq_getElem (l := sl) (show 0 < sl.length by omega);have := hsc 0 _ hg;rw [e] at this;unfold World.cell? at this;rw [hbz] at this;have := made_some (by simpa using this)
  cases this
 have HSA := hidF hsa;have HSC := hidF hsc;have HNS := hidF hns;have hLB : LB < w.heap.size := HLB.out;clear hsl hb3 hb4 hbz hsa hsc hns hsq hsq2 HT HIN e0 e1 e2 e3 e4 e5 e6 e7 e8;go_wp2
 go_loopw [9] (fun v9 wz => ∃ k : Nat, k ≤ ns ∧ v9 = .int .i64 k ∧ Hid (MetAt wz (w.heap.size + 1) R (anyF t (sl.take k)) ∧ AllB wz (w.heap.size + 1)) ∧ Hid (Only (w.heap.size + 1) W3 wz)) (fun v9 _ => ns - (intOf v9).toNat)
 case atStart => exact ⟨0, by omega, rfl, hidF ⟨HM3.out.ext (fun i _ => by simp [anyF]), HA3.out⟩, hidF (Only.refl _ _)⟩
 case round =>
  obtain ⟨k, hk, rfl, HM, HO⟩ := hrel
  rename World => wz
  have c2z := HO.out.cell (show w.heap.size ≠ w.heap.size + 1 by omega) c2
  by_cases hin : k < ns
  ·have k0 : (0 : Int) ≤ k := by omega
   have k1 : (k : Int) < ns := by omega
   have hget := List.getElem?_eq_getElem (l := sl) (show k < sl.length by rw [HNS.out]; exact hin)
   generalize sl[k]'(by rw [HNS.out]; exact hin) = y at hget
   have hy := HSX.out y (List.mem_of_getElem? hget);obtain ⟨z, rfl⟩ : ∃ z : Nat, y = z := ⟨y.toNat, by omega⟩;obtain rfl := HSA.out (by omega);have cs := HO.out.cell (HSB.out (by omega)) (HSC.out k z hget)
   have HTK : Hid (∀ j, anyF t (sl.take (k + 1)) j = (anyF t (sl.take k) j || t z j)) := fun j => by
    rw [List.take_add_one, hget];exact anyF_snoc t (sl.take k) (z : Int) j
   have hzN : z < N := by omega
   have HCS := hidF (HSC.out k z hget);clear hget;go_wp2
   go_loopw [10] (fun v10 wq => ∃ r : Nat, r ≤ R ∧ v10 = .int .i64 r ∧ Hid (MetAt wq (w.heap.size + 1) R (midM (anyF t (sl.take (k + 1))) (anyF t (sl.take k)) r) ∧ AllB wq (w.heap.size + 1)) ∧ Hid (Only (w.heap.size + 1) W3 wq)) (fun v10 _ => R - (intOf v10).toNat)
   case atStart => exact ⟨0, by omega, rfl, hidF ⟨HM.out.1.ext (fun i _ => by simp [midM]), HM.out.2⟩, HO⟩
   case round =>
    obtain ⟨r, hr, rfl, HMq, HOq⟩ := hrel
    rename World => wq
    have c2q := HOq.out.cell (show w.heap.size ≠ w.heap.size + 1 by omega) c2;have csq := HOq.out.cell (HSB.out (by omega)) HCS.out
    by_cases hrn : r < R
    ·have r0 : (0 : Int) ≤ r := by omega
     have r1 : (r : Int) < R := by omega
     obtain ⟨hm1, hf1⟩ := HMq.out.1 r hrn;have HEX : Hid (∃ v, wq.cell? ⟨w.heap.size + 1, r, none⟩ = some v) := ⟨_, hm1⟩;have hmid : midM (anyF t (sl.take (k + 1))) (anyF t (sl.take k)) r r = anyF t (sl.take k) r := by simp [midM]
     rw [hmid] at hm1
     have hTq := HT3.out.1.of (W' := wq) (fun q _ hq => HOq.out.block q (by
      rcases hq with e | ⟨i, hi, e⟩
      ·omega
      ·have := HT3.out.2 i hi; omega)) (by rw [HOq.out.size]; exact Nat.le_refl _)
     have cl := hTq.c z hzN;have cv := (hTq.v z hzN r hrn).1;clear hTq hmid
     cases hq : anyF t (sl.take k) r with
     | true =>
      rw [hq] at hm1;have HNX : Hid (∀ j, midM (anyF t (sl.take (k + 1))) (anyF t (sl.take k)) (r + 1) j = if j = r then true else midM (anyF t (sl.take (k + 1))) (anyF t (sl.take k)) r j) := fun j => by rw [midM_succ, HTK.out r, hq]; rfl
      clear hq;go_wp2
      go_roundw
      case rel => exact ⟨r + 1, by omega, by simp, hidF ⟨HMq.out.1.setB HNX.out, HMq.out.2.set HEX.out⟩, hidF (HOq.out.set _ _)⟩
      case measure => simp [intOf]; omega
     | false =>
      rw [hq] at hm1;have HNX : Hid (∀ j, midM (anyF t (sl.take (k + 1))) (anyF t (sl.take k)) (r + 1) j = if j = r then t z r else midM (anyF t (sl.take (k + 1))) (anyF t (sl.take k)) r j) := fun j => by rw [midM_succ, HTK.out r, hq]; rfl
      clear hq
      generalize t z r = bv at *
      go_wp2
      go_roundw
      case rel => exact ⟨r + 1, by omega, by simp, hidF ⟨HMq.out.1.setB HNX.out, HMq.out.2.set HEX.out⟩, hidF (HOq.out.set _ _)⟩
      case measure => simp [intOf]; omega
    ·obtain rfl : R = r := by omega
     have HMZ : Hid (MetAt wq (w.heap.size + 1) R (anyF t (sl.take (k + 1))) ∧ AllB wq (w.heap.size + 1)) := hidF ⟨HMq.out.1.ext (fun i hi => by simp [midM, hi]), HMq.out.2⟩;go_wp2
     go_roundw
     case rel => exact ⟨k + 1, by omega, by simp, HMZ, HOq⟩
     case measure => simp [intOf]; omega
  ·obtain rfl : ns = k := by omega
   have HMZ : Hid (MetAt wz (w.heap.size + 1) R (anyF t sl)) := hidF (HM.out.1.ext (fun i hi => by rw [← HNS.out, List.take_length]));go_wp2;go_ret;have ho := HO.out;have hb := HB4.out;exact ⟨_, rfl, by omega, by rw [ho.size]; omega, by rw [HSQ.out]; exact HMZ.out, HM.out.2, ⟨ho.os.trans hb.os, ho.tape.trans hb.tape, ho.output.trans hb.output, by rw [ho.size]; exact hb.size, fun q hq => (ho.block q (by omega)).trans (hb.block q hq)⟩⟩
end Go.Proofs.YtfeglcpipcjaeaaGreatDoor
namespace Go.Proofs.YtfeglcpipcjaeaaGreatDoor
open Go.ChangeShapes Go.WideShapes Go.ChangeAt Go.RowKit
set_option linter.unusedSimpArgs false
set_option linter.unusedVariables false

def usR (x : Ins) : List Int := usesF x.op x.a x.b x.args
def wrR (x : Ins) : List Int := if 0 ≤ writesF x.op x.d then [writesF x.op x.d] else []
theorem TB.set {B LB N R n r : Nat} {rb : Nat → Nat} {t t' : Nat → Nat → Bool} {W : World} (h : TB B LB N R rb t W) (hn : n < N) (hr : r < R) (ht : ∀ i j, t' i j = if i = n ∧ j = r then true else t i j) : TB B LB N R rb t' (W.setCell ⟨rb n, r, none⟩ (.bool true)) where
 c := fun i hi => by
  rw [World.cell?_setCell_other _ _ _ _ (fun e => by injection e with e; exact h.ne n hn e)];exact h.c i hi
 v := fun i hi => by
  by_cases e : i = n
  ·subst e
   exact (h.v i hi).setB (fun j => by rw [ht]; simp)
  ·exact ((h.v i hi).of (gset_otherF (h.inj i n hi hn e))).ext (fun j _ => by rw [ht, if_neg (by simp [e])])
 ne := h.ne
 inj := h.inj
 lo := fun i hi => by rw [gsize_setF]; exact h.lo i hi
 ll := h.ll
theorem TB.ext {B LB N R : Nat} {rb : Nat → Nat} {t t' : Nat → Nat → Bool} {W : World} (h : TB B LB N R rb t W) (e : ∀ i j, t' i j = t i j) : TB B LB N R rb t' W := by
 have : t' = t := by funext i j; exact e i j
 rw [this]; exact h
end Go.Proofs.YtfeglcpipcjaeaaGreatDoor
