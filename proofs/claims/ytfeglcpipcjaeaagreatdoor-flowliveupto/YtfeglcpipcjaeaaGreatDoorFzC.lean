import Derived.Test.YtfeglcpipcjaeaaGreatDoorFzA
import Derived.Test.YtfeglcpipcjaeaaGreatDoorRRight2
/- The document's own answer: what is live behind a node. -/
namespace Go.Proofs.YtfeglcpipcjaeaaGreatDoor
open Go.ChangeShapes Go.WideShapes Go.ChangeAt Go.RowKit
set_option linter.unusedSimpArgs false
set_option linter.unusedVariables false

theorem infoBRow : (Tryz.prog.info? 34).map (fun i => (i.zero, i.size, i.bytes)) = some (some (.slice none 0 0), 1, 24) := by kernel_rfl
theorem mk_brows (n : Nat) (hn : n ≤ 1000000) (w : World) : (Instr.makeSlice 32 (.int .i64 n) (.int .i64 n)).run Tryz.prog w = .ok (.slice (some ⟨w.heap.size, 0, none⟩) n n) (w.alloc (.cells (madeCells #[.slice none 0 0] n) 34)) := by
  obtain ⟨i0, hi, hz0, hz1, hz2⟩ := info_parts infoBRow
  have := run_make (P := Tryz.prog) w 32 34 i0 (.slice none 0 0) Tryz.underlying32 hi hz0 .i64 .i64 n n (by omega) (by omega) (by rw [hz2]; omega) (by omega)
  rw [this, hz1]
  simp [Value.cells]
/-- A table of answers, each row in a block of its own. -/
structure TB (B LB N R : Nat) (rb : Nat → Nat) (t : Nat → Nat → Bool) (W : World) : Prop where
  c : ∀ i, i < N → W.cell? ⟨LB, i, none⟩ = some (.slice (some ⟨rb i, 0, none⟩) R R)
  v : ∀ i, i < N → MetAt W (rb i) R (t i)
  ne : ∀ i, i < N → rb i ≠ LB
  inj : ∀ i j, i < N → j < N → i ≠ j → rb i ≠ rb j
  lo : ∀ i, i < N → B ≤ rb i ∧ rb i < W.heap.size
  ll : B ≤ LB
theorem TB.of {B LB N R : Nat} {rb : Nat → Nat} {t : Nat → Nat → Bool} {W W' : World} (h : TB B LB N R rb t W) (hk : ∀ k, k < W.heap.size → (k = LB ∨ ∃ i, i < N ∧ rb i = k) → W'.heap[k]? = W.heap[k]?) (hs : W.heap.size ≤ W'.heap.size) : TB B LB N R rb t W' :=
  ⟨fun i hi => cell_of (h.c i hi) (fun hl => hk _ hl (.inl rfl)), fun i hi => (h.v i hi).of (hk _ (h.lo i hi).2 (.inr ⟨i, hi, rfl⟩)), h.ne, h.inj, fun i hi => ⟨(h.lo i hi).1, Nat.lt_of_lt_of_le (h.lo i hi).2 hs⟩, h.ll⟩
theorem TB.below {B LB N R : Nat} {rb : Nat → Nat} {t : Nat → Nat → Bool} {W W' : World} (h : TB B LB N R rb t W) (hb : Below W.heap.size W W') : TB B LB N R rb t W' := h.of (fun k hk _ => hb.block k hk) hb.size
theorem MetAt.ext {W : World} {mb n : Nat} {m m' : Nat → Bool} (h : MetAt W mb n m) (e : ∀ i, i < n → m i = m' i) : MetAt W mb n m' := fun i hi => by rw [← e i hi]; exact h i hi
/-- A block of answers. -/
def AllB (W : World) (b : Nat) : Prop := ∀ j v, W.cell? ⟨b, j, none⟩ = some v → ∃ c, v = .bool c
theorem AllB.set {W : World} {b o : Nat} {c : Bool} (h : AllB W b) (hc : ∃ v, W.cell? ⟨b, o, none⟩ = some v) : AllB (W.setCell ⟨b, o, none⟩ (.bool c)) b := fun j v hv => by
  by_cases e : j = o
  · subst e
    obtain ⟨u, hu⟩ := hc
    rw [World.cell?_setCell_same _ _ _ hu] at hv
    injection hv with hv
    exact ⟨c, hv.symm⟩
  · rw [World.cell?_setCell_other _ _ _ _ (fun e2 => e (by cases e2; rfl))] at hv
    exact h j v hv
theorem AllB.of {W W' : World} {b : Nat} (h : AllB W b) (hk : W'.heap[b]? = W.heap[b]?) : AllB W' b := fun j v hv => h j v (by rw [← World.cell?_of_block (w := W) hk]; exact hv)
/-- A row of answers, a new one. -/
def retM (R : Nat) (m : Nat → Bool) (w : World) : Ending → World → Prop := fun e W => ∃ b, e = .returned (.slice (some ⟨b, 0, none⟩) R R) ∧ w.heap.size ≤ b ∧ b < W.heap.size ∧ MetAt W b R m ∧ AllB W b ∧ Below w.heap.size w W
def anyF (t : Nat → Nat → Bool) (l : List Int) (r : Nat) : Bool := l.any fun s => t s.toNat r
theorem anyF_snoc (t : Nat → Nat → Bool) (l : List Int) (s : Int) (r : Nat) : anyF t (l ++ [s]) r = (anyF t l r || t s.toNat r) := by simp [anyF]
/-- One more place of a row. -/
def midM (a b : Nat → Bool) (r : Nat) : Nat → Bool := fun j => if j < r then a j else b j
theorem midM_succ (a b : Nat → Bool) (r j : Nat) : midM a b (r + 1) j = if j = r then a r else midM a b r j := by
  unfold midM
  by_cases h : j = r
  · subst h; simp
  · by_cases h2 : j < r
    · rw [if_pos (by omega), if_neg h, if_pos h2]
    · rw [if_neg (by omega), if_neg h, if_neg h2]
theorem new_blk (w : World) (o : Obj) (k : Nat) (hk : w.heap.size = k) : (w.alloc o).heap[k]? = some o := by
  rw [← hk]
  show (w.heap.push _)[w.heap.size]? = _
  simp
theorem made_some {x v : Value} {n j : Nat} (h : (madeCells #[x] n)[j]? = some v) : v = x := by
  by_cases hj : j < n
  · rw [made_get x n j hj] at h
    injection h with h
    exact h.symm
  · rw [Array.getElem?_eq_none (by rw [size_madeCells]; simpa using hj)] at h
    cases h
set_option maxRecDepth 100000 in
set_option maxHeartbeats 16000000 in
theorem behind_walk (w : World) (fname : ByteArray) (pa : Option Addr) (pn pc : Nat) (frm ent : Int) (R N cap cb co LB B n : Nat) (ca : Option Addr) (x : Ins) (rb : Nat → Nat) (t : Nat → Nat → Bool) (hR : R ≤ 1000000) (hN : N ≤ 100000) (hn : n < N) (HCA : Hid (ca = some ⟨cb, co, none⟩)) (HIN : Hid (InsAt w cb (co + n * 9) x)) (HT : Hid (TB B LB N R rb t w)) (HLB : Hid (LB < w.heap.size)) (HSX : Hid (∀ y ∈ sxF x, 0 ≤ y ∧ y < N)) :
    Calls Tryz.prog 27 #[.agg #[.string fname, .slice pa pn pc, .int .i64 (R : Int), .int .i64 frm, .int .i64 ent, .slice ca N cap], .slice (some ⟨LB, 0, none⟩) N N, .int .i64 (n : Int)] w (retM R (anyF t (sxF x)) w) := by
  obtain rfl := HCA.out
  obtain ⟨v, hil, e0, e1, e2, e3, e4, e5, e6, e7, e8⟩ := HIN.out
  obtain ⟨va, vc, rfl, _⟩ := hil.partsF
  generalize x.args.length = vn at *
  have mk1 := mk_bools R (by omega)
  have j0 : (0 : Int) ≤ n := by omega
  have j1 : (n : Int) < N := by omega
  have hcb : cb < w.heap.size := block_lt_of_cell e0
  go_enter Tryz.func27, Tryz.ntmps27
  go_upto_region 3 with (go_at_call 32; refine (rSuccs_any x.op x.sub x.a x.b x.d x.k (.slice va vn vc) x.s x.t _).mono ?_; rintro e W3 ⟨sv, rfl, hsl, hb3⟩)
  obtain ⟨sa, sc, sb, so, rfl, hs8, hsa, hsc⟩ := hsl.parts
  have hb4 : Below w.heap.size w W3 := bel_trans (bel_alloc (bel_alloc (Below.refl _ _) _) _) hb3
  have hbz : W3.heap[w.heap.size + 1]? = some (.cells (madeCells #[.bool false] R) 4 (0, 0)) := (hb3.block _ (by simp)).trans (new_blk _ _ _ (World.size_alloc _ _))
  have c2 : W3.cell? ⟨w.heap.size, 2, none⟩ = some (.int .i64 (R : Int)) := keep_cell hb3 (keep_alloc (by simp) _)
  have HM3 : Hid (MetAt W3 (w.heap.size + 1) R (fun _ => false)) := fun i hi => by
    have := made_at (w.alloc (.cells #[.string fname, .slice pa pn pc, .int .i64 (R : Int), .int .i64 frm, .int .i64 ent, .slice (some ⟨cb, co, none⟩) N cap] 25)) (.bool false) R 4 i hi
    rw [World.size_alloc] at this
    exact ⟨keep_cell hb3 this.1, keep_frozen hb3 this.1 this.2⟩
  have HA3 : Hid (AllB W3 (w.heap.size + 1)) := fun j v hv => by
    unfold World.cell? at hv
    rw [hbz] at hv
    exact ⟨false, made_some (by simpa using hv)⟩
  have HT3 : Hid (TB B LB N R rb t W3 ∧ ∀ i, i < N → rb i < w.heap.size) := ⟨HT.out.below hb4, fun i hi => (HT.out.lo i hi).2⟩
  have HB4 := hidF hb4
  have hs3 : w.heap.size + 2 ≤ W3.heap.size := by have := hb3.size; simp at this; omega
  obtain ⟨sl, hsq⟩ : ∃ sl, sxF x = sl := ⟨_, rfl⟩
  have hsq2 : succsF x.op x.s x.t = sl := hsq
  have HSQ := hidF hsq
  rw [hsq2] at hsa hsc hs8
  rw [hsq] at HSX
  rw [hsq2]
  obtain ⟨ns, hns⟩ : ∃ ns, sl.length = ns := ⟨_, rfl⟩
  rw [hns] at hsa hs8
  rw [hns]
  have HSB : Hid (0 < ns → sb ≠ w.heap.size + 1) := fun h0 e => by
    have hg := List.getElem?_eq_getElem (l := sl) (show 0 < sl.length by omega)
    have := hsc 0 _ hg
    rw [e] at this
    unfold World.cell? at this
    rw [hbz] at this
    have := made_some (by simpa using this)
    cases this
  have HSA := hidF hsa
  have HSC := hidF hsc
  have HNS := hidF hns
  have hLB : LB < w.heap.size := HLB.out
  clear hsl hb3 hb4 hbz hsa hsc hns hsq hsq2 HT HIN e0 e1 e2 e3 e4 e5 e6 e7 e8
  go_wp2
  go_loopw [9] (fun v9 wz => ∃ k : Nat, k ≤ ns ∧ v9 = .int .i64 k ∧ Hid (MetAt wz (w.heap.size + 1) R (anyF t (sl.take k)) ∧ AllB wz (w.heap.size + 1)) ∧ Hid (Only (w.heap.size + 1) W3 wz)) (fun v9 _ => ns - (intOf v9).toNat)
  case atStart => exact ⟨0, by omega, rfl, hidF ⟨HM3.out.ext (fun i _ => by simp [anyF]), HA3.out⟩, hidF (Only.refl _ _)⟩
  case round =>
    obtain ⟨k, hk, rfl, HM, HO⟩ := hrel
    rename World => wz
    have c2z := HO.out.cell (show w.heap.size ≠ w.heap.size + 1 by omega) c2
    by_cases hin : k < ns
    · have k0 : (0 : Int) ≤ k := by omega
      have k1 : (k : Int) < ns := by omega
      have hget := List.getElem?_eq_getElem (l := sl) (show k < sl.length by rw [HNS.out]; exact hin)
      generalize sl[k]'(by rw [HNS.out]; exact hin) = y at hget
      have hy := HSX.out y (List.mem_of_getElem? hget)
      obtain ⟨z, rfl⟩ : ∃ z : Nat, y = z := ⟨y.toNat, by omega⟩
      obtain rfl := HSA.out (by omega)
      have cs := HO.out.cell (HSB.out (by omega)) (HSC.out k z hget)
      have HTK : Hid (∀ j, anyF t (sl.take (k + 1)) j = (anyF t (sl.take k) j || t z j)) := fun j => by
        rw [List.take_add_one, hget]
        exact anyF_snoc t (sl.take k) (z : Int) j
      have hzN : z < N := by omega
      have HCS := hidF (HSC.out k z hget)
      clear hget
      go_wp2
      go_loopw [10] (fun v10 wq => ∃ r : Nat, r ≤ R ∧ v10 = .int .i64 r ∧ Hid (MetAt wq (w.heap.size + 1) R (midM (anyF t (sl.take (k + 1))) (anyF t (sl.take k)) r) ∧ AllB wq (w.heap.size + 1)) ∧ Hid (Only (w.heap.size + 1) W3 wq)) (fun v10 _ => R - (intOf v10).toNat)
      case atStart => exact ⟨0, by omega, rfl, hidF ⟨HM.out.1.ext (fun i _ => by simp [midM]), HM.out.2⟩, HO⟩
      case round =>
        obtain ⟨r, hr, rfl, HMq, HOq⟩ := hrel
        rename World => wq
        have c2q := HOq.out.cell (show w.heap.size ≠ w.heap.size + 1 by omega) c2
        have csq := HOq.out.cell (HSB.out (by omega)) HCS.out
        by_cases hrn : r < R
        · have r0 : (0 : Int) ≤ r := by omega
          have r1 : (r : Int) < R := by omega
          obtain ⟨hm1, hf1⟩ := HMq.out.1 r hrn
          have HEX : Hid (∃ v, wq.cell? ⟨w.heap.size + 1, r, none⟩ = some v) := ⟨_, hm1⟩
          have hmid : midM (anyF t (sl.take (k + 1))) (anyF t (sl.take k)) r r = anyF t (sl.take k) r := by simp [midM]
          rw [hmid] at hm1
          have hTq := HT3.out.1.of (W' := wq) (fun q _ hq => HOq.out.block q (by
            rcases hq with e | ⟨i, hi, e⟩
            · omega
            · have := HT3.out.2 i hi; omega)) (by rw [HOq.out.size]; exact Nat.le_refl _)
          have cl := hTq.c z hzN
          have cv := (hTq.v z hzN r hrn).1
          clear hTq hmid
          cases hq : anyF t (sl.take k) r with
          | true =>
            rw [hq] at hm1
            have HNX : Hid (∀ j, midM (anyF t (sl.take (k + 1))) (anyF t (sl.take k)) (r + 1) j = if j = r then true else midM (anyF t (sl.take (k + 1))) (anyF t (sl.take k)) r j) := fun j => by rw [midM_succ, HTK.out r, hq]; rfl
            clear hq
            go_wp2
            go_roundw
            case rel => exact ⟨r + 1, by omega, by simp, hidF ⟨HMq.out.1.setB HNX.out, HMq.out.2.set HEX.out⟩, hidF (HOq.out.set _ _)⟩
            case measure => simp [intOf]; omega
          | false =>
            rw [hq] at hm1
            have HNX : Hid (∀ j, midM (anyF t (sl.take (k + 1))) (anyF t (sl.take k)) (r + 1) j = if j = r then t z r else midM (anyF t (sl.take (k + 1))) (anyF t (sl.take k)) r j) := fun j => by rw [midM_succ, HTK.out r, hq]; rfl
            clear hq
            generalize t z r = bv at *
            go_wp2
            go_roundw
            case rel => exact ⟨r + 1, by omega, by simp, hidF ⟨HMq.out.1.setB HNX.out, HMq.out.2.set HEX.out⟩, hidF (HOq.out.set _ _)⟩
            case measure => simp [intOf]; omega
        · obtain rfl : R = r := by omega
          have HMZ : Hid (MetAt wq (w.heap.size + 1) R (anyF t (sl.take (k + 1))) ∧ AllB wq (w.heap.size + 1)) := hidF ⟨HMq.out.1.ext (fun i hi => by simp [midM, hi]), HMq.out.2⟩
          go_wp2
          go_roundw
          case rel => exact ⟨k + 1, by omega, by simp, HMZ, HOq⟩
          case measure => simp [intOf]; omega
    · obtain rfl : ns = k := by omega
      have HMZ : Hid (MetAt wz (w.heap.size + 1) R (anyF t sl)) := hidF (HM.out.1.ext (fun i hi => by rw [← HNS.out, List.take_length]))
      go_wp2
      go_ret
      have ho := HO.out
      have hb := HB4.out
      exact ⟨_, rfl, by omega, by rw [ho.size]; omega, by rw [HSQ.out]; exact HMZ.out, HM.out.2, ⟨ho.os.trans hb.os, ho.tape.trans hb.tape, ho.output.trans hb.output, by rw [ho.size]; exact hb.size, fun q hq => (ho.block q (by omega)).trans (hb.block q hq)⟩⟩
end Go.Proofs.YtfeglcpipcjaeaaGreatDoor
/- The document's own answer on what is live, as mathematics: a table that grows till nothing changes. -/
namespace Go.Proofs.YtfeglcpipcjaeaaGreatDoor
open Go.ChangeShapes Go.WideShapes Go.ChangeAt Go.RowKit
set_option linter.unusedSimpArgs false
set_option linter.unusedVariables false

def usR (x : Ins) : List Int := usesF x.op x.a x.b x.args
def wrR (x : Ins) : List Int := if 0 ≤ writesF x.op x.d then [writesF x.op x.d] else []
/-- What is live at a node, by a table. -/
def nowR (t : Nat → Nat → Bool) (x : Ins) (r : Nat) : Bool := (usR x).contains (r : Int) || (!(wrR x).contains (r : Int) && anyF t (sxF x) r)
abbrev LvR (code : List Ins) := LvP usR wrR sxF code
def SoundT (code : List Ins) (N R : Nat) (t : Nat → Nat → Bool) : Prop := ∀ n r, n < N → r < R → t n r = true → LvR code r n
def ClosedT (code : List Ins) (R : Nat) (t : Nat → Nat → Bool) (n : Nat) : Prop := ∀ x r, code[n]? = some x → r < R → nowR t x r = true → t n r = true
theorem now_sound {code : List Ins} {N R n r : Nat} {t : Nat → Nat → Bool} {x : Ins} (h : SoundT code N R t) (hx : code[n]? = some x) (hr : r < R) (hs : ∀ y ∈ sxF x, 0 ≤ y ∧ y < N) (hn : nowR t x r = true) : LvR code r n := by
  unfold nowR at hn
  rw [Bool.or_eq_true, Bool.and_eq_true] at hn
  rcases hn with h1 | ⟨h1, h2⟩
  · exact .use hx (by simpa using h1)
  · unfold anyF at h2
    obtain ⟨y, hy, ht⟩ := List.any_eq_true.1 h2
    obtain ⟨q1, q2⟩ := hs y hy
    obtain ⟨z, rfl⟩ : ∃ z : Nat, y = z := ⟨y.toNat, by omega⟩
    exact .pass hx (by simpa using h1) hy (h z r (by omega) hr (by simpa using ht))
theorem closed_live {code : List Ins} {N R r n : Nat} {t : Nat → Nat → Bool} (hN : code.length = N) (hs : ∀ x ∈ code, ∀ y ∈ sxF x, 0 ≤ y ∧ y < N) (h : ∀ n, n < N → ClosedT code R t n) (hr : r < R) (hl : LvR code r n) : t n r = true := by
  have hlt : ∀ {n : Nat} {x : Ins}, code[n]? = some x → n < N := fun hx => by have := (List.getElem?_eq_some_iff.1 hx).1; omega
  induction hl with
  | @use n x hx hu => exact h n (hlt hx) x r hx hr (by unfold nowR; rw [show (usR x).contains (r : Int) = true by simpa using hu]; rfl)
  | @pass n s x hx hw hsx hl ih =>
    refine h n (hlt hx) x r hx hr ?_
    unfold nowR anyF
    rw [Bool.or_eq_true, Bool.and_eq_true]
    right
    refine ⟨by simpa using hw, List.any_eq_true.2 ⟨(s : Int), hsx, by simpa using ih⟩⟩
/-- How many answers are no. -/
def cntT (R : Nat) (t : Nat → Nat → Bool) : Nat → Nat
  | 0 => 0
  | n + 1 => cntT R t n + unm (t n) R
theorem unm_mono {m m' : Nat → Bool} : ∀ {n : Nat}, (∀ i, i < n → m i = true → m' i = true) → unm m' n ≤ unm m n
  | 0, _ => Nat.le_refl _
  | n + 1, h => by
    simp only [unm]
    have h1 := unm_mono (n := n) (fun i hi => h i (by omega))
    have h2 := h n (by omega)
    cases hm : m n with
    | true => rw [h2 hm]; simpa using h1
    | false => split <;> simp <;> omega
theorem unm_lt {m m' : Nat → Bool} : ∀ {n : Nat}, (∀ i, i < n → m i = true → m' i = true) → (∃ i, i < n ∧ m i = false ∧ m' i = true) → unm m' n < unm m n
  | 0, _, ⟨i, hi, _⟩ => by omega
  | n + 1, h, ⟨i, hi, h1, h2⟩ => by
    simp only [unm]
    have hm := unm_mono (n := n) (fun i hi => h i (by omega))
    by_cases e : i = n
    · subst e
      rw [h1, h2]
      simp
      omega
    · have := unm_lt (n := n) (fun i hi => h i (by omega)) ⟨i, by omega, h1, h2⟩
      have h3 := h n (by omega)
      cases hq : m n with
      | true => rw [h3 hq]; simpa using this
      | false => split <;> simp <;> omega
theorem cntT_mono {R : Nat} {t t' : Nat → Nat → Bool} : ∀ {N : Nat}, (∀ i j, i < N → j < R → t i j = true → t' i j = true) → cntT R t' N ≤ cntT R t N
  | 0, _ => Nat.le_refl _
  | N + 1, h => by
    simp only [cntT]
    have h1 := cntT_mono (N := N) (fun i j hi => h i j (by omega))
    have h2 := unm_mono (n := R) (fun j hj => h N j (by omega) hj)
    omega
theorem cntT_lt {R : Nat} {t t' : Nat → Nat → Bool} : ∀ {N : Nat}, (∀ i j, i < N → j < R → t i j = true → t' i j = true) → (∃ i j, i < N ∧ j < R ∧ t i j = false ∧ t' i j = true) → cntT R t' N < cntT R t N
  | 0, _, ⟨i, j, hi, _⟩ => by omega
  | N + 1, h, ⟨i, j, hi, hj, h1, h2⟩ => by
    simp only [cntT]
    have h3 := cntT_mono (N := N) (fun i j hi => h i j (by omega))
    have h4 := unm_mono (n := R) (fun j hj => h N j (by omega) hj)
    by_cases e : i = N
    · subst e
      have := unm_lt (n := R) (fun j hj => h i j (by omega) hj) ⟨j, hj, h1, h2⟩
      omega
    · have := cntT_lt (N := N) (fun i j hi => h i j (by omega)) ⟨i, j, by omega, hj, h1, h2⟩
      omega
/-- A row of the table grown by what is live now, as far as r. -/
def upT (t : Nat → Nat → Bool) (n : Nat) (now : Nat → Bool) (r : Nat) : Nat → Nat → Bool := fun i j => if i = n ∧ j < r then (t i j || now j) else t i j
theorem upT_zero (t : Nat → Nat → Bool) (n : Nat) (now : Nat → Bool) : upT t n now 0 = t := by
  funext i j
  simp [upT]
theorem upT_yes {t : Nat → Nat → Bool} {n r : Nat} {now : Nat → Bool} (h : (t n r || now r) = true) (i j : Nat) : upT t n now (r + 1) i j = if i = n ∧ j = r then true else upT t n now r i j := by
  unfold upT
  by_cases h1 : i = n
  · subst h1
    by_cases h2 : j = r
    · subst h2; simp [h]
    · by_cases h3 : j < r
      · rw [if_pos ⟨rfl, by omega⟩, if_neg (by simp [h2]), if_pos ⟨rfl, h3⟩]
      · rw [if_neg (by simp; omega), if_neg (by simp [h2]), if_neg (by simp; omega)]
  · simp [h1]
theorem upT_no {t : Nat → Nat → Bool} {n r : Nat} {now : Nat → Bool} (h : (t n r || now r) = t n r) (i j : Nat) : upT t n now (r + 1) i j = upT t n now r i j := by
  unfold upT
  by_cases h1 : i = n
  · subst h1
    by_cases h2 : j = r
    · subst h2
      rw [if_pos ⟨rfl, by omega⟩, if_neg (by simp), h]
    · by_cases h3 : j < r
      · rw [if_pos ⟨rfl, by omega⟩, if_pos ⟨rfl, h3⟩]
      · rw [if_neg (by simp; omega), if_neg (by simp; omega)]
  · simp [h1]
theorem upT_at (t : Nat → Nat → Bool) (n r : Nat) (now : Nat → Bool) : upT t n now r n r = t n r := by simp [upT]
/-- Has something changed? -/
def agF (ag : Bool) (t : Nat → Nat → Bool) (n : Nat) (now : Nat → Bool) (r : Nat) : Bool := ag || (List.range r).any fun j => now j && !t n j
theorem agF_succ (ag : Bool) (t : Nat → Nat → Bool) (n : Nat) (now : Nat → Bool) (r : Nat) : agF ag t n now (r + 1) = (agF ag t n now r || (now r && !t n r)) := by
  unfold agF
  rw [List.range_succ, List.any_append]
  simp [Bool.or_assoc]
/-- A pass over the nodes, as far as c from the end. -/
structure PassT (code : List Ins) (N R : Nat) (t0 : Nat → Nat → Bool) (c : Nat) (ag : Bool) (t : Nat → Nat → Bool) : Prop where
  so : SoundT code N R t
  no : ag = false → (∀ i j, i < N → j < R → t i j = t0 i j) ∧ ∀ m, c ≤ m → m < N → ClosedT code R t0 m
  le : cntT R t N ≤ cntT R t0 N
  lt : ag = true → cntT R t N < cntT R t0 N
theorem nowR_ext {t t' : Nat → Nat → Bool} {x : Ins} {N R r : Nat} (hs : ∀ y ∈ sxF x, 0 ≤ y ∧ y < N) (hr : r < R) (h : ∀ i j, i < N → j < R → t i j = t' i j) : nowR t x r = nowR t' x r := by
  have : anyF t (sxF x) r = anyF t' (sxF x) r := by
    unfold anyF
    rw [Bool.eq_iff_iff, List.any_eq_true, List.any_eq_true]
    constructor
    · rintro ⟨y, hy, q⟩
      exact ⟨y, hy, by rw [← h y.toNat r (by have := hs y hy; omega) hr]; exact q⟩
    · rintro ⟨y, hy, q⟩
      exact ⟨y, hy, by rw [h y.toNat r (by have := hs y hy; omega) hr]; exact q⟩
  unfold nowR
  rw [this]
theorem PassT.step {code : List Ins} {N R c : Nat} {t0 t : Nat → Nat → Bool} {ag : Bool} {x : Ins} {now : Nat → Bool} (h : PassT code N R t0 (c + 1) ag t) (hc : c < N) (hx : code[c]? = some x) (hs : ∀ y ∈ sxF x, 0 ≤ y ∧ y < N) (hnow : ∀ r, r < R → now r = nowR t x r) :
    PassT code N R t0 c (agF ag t c now R) (upT t c now R) := by
  have hge : ∀ i j, i < N → j < R → t i j = true → upT t c now R i j = true := fun i j _ _ q => by unfold upT; split <;> simp [q]
  refine ⟨fun n r hn hr q => ?_, fun q => ?_, Nat.le_trans (cntT_mono hge) h.le, fun q => ?_⟩
  · unfold upT at q
    split at q
    · rename_i hq
      obtain ⟨rfl, _⟩ := hq
      rw [Bool.or_eq_true] at q
      rcases q with q | q
      · exact h.so n r hn hr q
      · exact now_sound h.so hx hr hs (by rw [← hnow r hr]; exact q)
    · exact h.so n r hn hr q
  · unfold agF at q
    rw [Bool.or_eq_false_iff] at q
    obtain ⟨h1, h2⟩ := h.no q.1
    have h3 : ∀ j, j < R → now j = true → t c j = true := fun j hj hq => by
      have := List.any_eq_false.1 q.2 j (List.mem_range.2 hj)
      rw [hq] at this
      simpa using this
    refine ⟨fun i j hi hj => ?_, fun m hm hmN => ?_⟩
    · rw [← h1 i j hi hj]
      unfold upT
      split
      · rename_i hq
        obtain ⟨rfl, _⟩ := hq
        cases hj2 : now j with
        | true => rw [h3 j hj hj2]; rfl
        | false => simp
      · rfl
    · by_cases e : m = c
      · subst e
        intro x2 r hx2 hr q2
        rw [hx] at hx2
        cases hx2
        rw [← h1 m r hmN hr]
        refine h3 r hr ?_
        rw [hnow r hr, nowR_ext hs hr h1]
        exact q2
      · exact h2 m (by omega) hmN
  · unfold agF at q
    rw [Bool.or_eq_true] at q
    rcases q with q | q
    · exact Nat.lt_of_le_of_lt (cntT_mono hge) (h.lt q)
    · obtain ⟨j, hj, hq⟩ := List.any_eq_true.1 q
      rw [Bool.and_eq_true] at hq
      have hjR := List.mem_range.1 hj
      refine Nat.lt_of_lt_of_le (cntT_lt hge ⟨c, j, hc, hjR, by simpa using hq.2, ?_⟩) h.le
      unfold upT
      rw [if_pos ⟨rfl, hjR⟩, hq.1]
      simp
theorem TB.set {B LB N R n r : Nat} {rb : Nat → Nat} {t t' : Nat → Nat → Bool} {W : World} (h : TB B LB N R rb t W) (hn : n < N) (hr : r < R) (ht : ∀ i j, t' i j = if i = n ∧ j = r then true else t i j) : TB B LB N R rb t' (W.setCell ⟨rb n, r, none⟩ (.bool true)) where
  c := fun i hi => by
    rw [World.cell?_setCell_other _ _ _ _ (fun e => by injection e with e; exact h.ne n hn e)]
    exact h.c i hi
  v := fun i hi => by
    by_cases e : i = n
    · subst e
      exact (h.v i hi).setB (fun j => by rw [ht]; simp)
    · exact ((h.v i hi).of (gset_otherF (h.inj i n hi hn e))).ext (fun j _ => by rw [ht, if_neg (by simp [e])])
  ne := h.ne
  inj := h.inj
  lo := fun i hi => by rw [gsize_setF]; exact h.lo i hi
  ll := h.ll
theorem TB.ext {B LB N R : Nat} {rb : Nat → Nat} {t t' : Nat → Nat → Bool} {W : World} (h : TB B LB N R rb t W) (e : ∀ i j, t' i j = t i j) : TB B LB N R rb t' W := by
  have : t' = t := by funext i j; exact e i j
  rw [this]; exact h
/-- The same count, by the memory. -/
def rowOf (W : World) (LB i : Nat) : Nat := match W.cell? ⟨LB, i, none⟩ with
  | some (.slice (some a) _ _) => a.block
  | _ => 0
def cntTW (LB R : Nat) (W : World) : Nat → Nat
  | 0 => 0
  | n + 1 => cntTW LB R W n + cntW (rowOf W LB n) R W
theorem cntTW_eq {B LB N R : Nat} {rb : Nat → Nat} {t : Nat → Nat → Bool} {W : World} (h : TB B LB N R rb t W) : ∀ n, n ≤ N → cntTW LB R W n = cntT R t n
  | 0, _ => rfl
  | n + 1, hn => by
    have h1 : rowOf W LB n = rb n := by unfold rowOf; rw [h.c n (by omega)]
    rw [cntTW, cntT, cntTW_eq h n (by omega), h1, cntW_eq (h.v n (by omega))]
/-- What the document reckons at a node. -/
def clrM (m : Nat → Bool) (l : List Int) : Nat → Bool := fun i => if (i : Int) ∈ l then false else m i
def setI (m : Nat → Bool) (l : List Int) : Nat → Bool := fun i => if (i : Int) ∈ l then true else m i
theorem now_eq (t : Nat → Nat → Bool) (x : Ins) (r : Nat) : setI (clrM (anyF t (sxF x)) (wrR x)) (usR x) r = nowR t x r := by
  unfold setI clrM nowR
  by_cases h1 : (r : Int) ∈ usR x
  · simp [h1]
  · by_cases h2 : (r : Int) ∈ wrR x <;> simp [h1, h2]
theorem setI_snoc (m : Nat → Bool) (l : List Int) (y i : Nat) : setI m (l ++ [(y : Int)]) i = if i = y then true else setI m l i := by
  unfold setI
  by_cases e : i = y
  · simp [e]
  · have : (i : Int) ≠ y := by omega
    simp [e, this]
end Go.Proofs.YtfeglcpipcjaeaaGreatDoor
/- The document's own answer: what is live. -/
namespace Go.Proofs.YtfeglcpipcjaeaaGreatDoor
open Go.ChangeShapes Go.WideShapes Go.ChangeAt Go.RowKit
set_option linter.unusedSimpArgs false
set_option linter.unusedVariables false

/-- A table, a new one, that says what is live. -/
def retT (N R : Nat) (p : Nat → Nat → Prop) (w : World) : Ending → World → Prop := fun e W => ∃ LB rb t, e = .returned (.slice (some ⟨LB, 0, none⟩) N N) ∧ TB w.heap.size LB N R rb t W ∧ (∀ n r, n < N → r < R → (t n r = true ↔ p r n)) ∧ Below w.heap.size w W
def boolOf : Value → Nat
  | .bool true => 1
  | _ => 0
/-- The table's rows, as far as i. -/
structure L1 (w1 : World) (LB N R i : Nat) (rb : Nat → Nat) (W : World) : Prop where
  bel : Below w1.heap.size w1 W
  sz : W.heap.size = LB + 1 + i
  c : ∀ j, j < N → W.cell? ⟨LB, j, none⟩ = some (if j < i then .slice (some ⟨rb j, 0, none⟩) R R else .slice none 0 0) ∧ W.frozen? ⟨LB, j, none⟩ = false
  v : ∀ j, j < i → MetAt W (rb j) R (fun _ => false)
theorem L1.next {w1 : World} {LB N R i : Nat} {rb : Nat → Nat} {W : World} (h : L1 w1 LB N R i rb W) (hrb : ∀ j, rb j = LB + 1 + j) (hl : w1.heap.size = LB) (hi : i < N) : L1 w1 LB N R (i + 1) rb ((W.setCell ⟨LB, i, none⟩ (.slice (some ⟨W.heap.size, 0, none⟩) R R)).alloc (.cells (madeCells #[.bool false] R) 4)) := by
  have hri : rb i = W.heap.size := by rw [hrb, h.sz]
  obtain ⟨V, hV⟩ : ∃ V, W.setCell ⟨LB, i, none⟩ (.slice (some ⟨W.heap.size, 0, none⟩) R R) = V := ⟨_, rfl⟩
  have hs : V.heap.size = W.heap.size := by rw [← hV]; exact gsize_setF _ _ _
  have hm := made_at V (.bool false) R 4
  rw [hs] at hm
  have hsz := h.sz
  have hbo : ∀ k, k ≠ LB → V.heap[k]? = W.heap[k]? := fun k hk => by rw [← hV]; exact gset_otherF hk
  rw [hV]
  refine ⟨⟨by rw [show (V.alloc _).os = V.os from rfl, ← hV]; exact h.bel.os, by rw [show (V.alloc _).tape = V.tape from rfl, ← hV]; exact h.bel.tape, by rw [show (V.alloc _).output = V.output from rfl, ← hV]; exact h.bel.output, by rw [World.size_alloc, hs]; have := h.bel.size; omega, fun k hk => ?_⟩, by rw [World.size_alloc, hs, hsz]; omega, fun j hj => ?_, fun j hj => ?_⟩
  · rw [Below.heap_alloc _ _ _ (by rw [hs]; have := h.bel.size; omega), hbo k (by omega)]
    exact h.bel.block k hk
  · obtain ⟨q1, q2⟩ := h.c j hj
    have hc : V.cell? ⟨LB, j, none⟩ = some (if j < i + 1 then .slice (some ⟨rb j, 0, none⟩) R R else .slice none 0 0) := by
      rw [← hV]
      by_cases e : j = i
      · subst e
        rw [World.cell?_setCell_same _ _ _ q1, if_pos (by omega), hri]
      · rw [World.cell?_setCell_other _ _ _ _ (fun e2 => e (by cases e2; rfl)), q1]
        by_cases e2 : j < i
        · rw [if_pos e2, if_pos (by omega)]
        · rw [if_neg e2, if_neg (by omega)]
    have hf : V.frozen? ⟨LB, j, none⟩ = false := by rw [← hV, World.frozen?_setCell]; exact q2
    refine ⟨keep_alloc hc _, keep_frozen (bel_alloc (Below.refl _ _) _) hc hf⟩
  · by_cases e : j = i
    · subst e
      rw [hri]
      exact hm
    · refine ((h.v j (by omega)).of (hbo _ (by rw [hrb]; omega))).of ?_
      exact Below.heap_alloc _ _ _ (by rw [hs, hrb, hsz]; omega)
theorem L1.tb {w1 : World} {LB N R : Nat} {rb : Nat → Nat} {W : World} (h : L1 w1 LB N R N rb W) (hrb : ∀ j, rb j = LB + 1 + j) (hl : w1.heap.size = LB) : TB w1.heap.size LB N R rb (fun _ _ => false) W :=
  ⟨fun i hi => by rw [(h.c i hi).1, if_pos hi], fun i hi => h.v i hi, fun i hi => by rw [hrb]; omega, fun i j _ _ e => by rw [hrb, hrb]; omega, fun i hi => by rw [hrb, h.sz]; omega, by omega⟩
/-- What holds at the head of the document's passes. -/
structure L2 (w1 : World) (LB N R : Nat) (rb : Nat → Nat) (code : List Ins) (ag : Bool) (t : Nat → Nat → Bool) (W : World) : Prop where
  tb : TB w1.heap.size LB N R rb t W
  bel : Below w1.heap.size w1 W
  so : SoundT code N R t
  cl : ag = false → ∀ n, n < N → ClosedT code R t n
/-- Within a pass. -/
structure L3r (w1 : World) (LB N R : Nat) (rb : Nat → Nat) (code : List Ins) (t0 : Nat → Nat → Bool) (c : Nat) (ag : Bool) (t : Nat → Nat → Bool) (W : World) : Prop where
  tb : TB w1.heap.size LB N R rb t W
  bel : Below w1.heap.size w1 W
  ps : PassT code N R t0 c ag t
/-- A row of answers beside all that was. -/
structure N4 (Wb : World) (b R : Nat) (m : Nat → Bool) (W : World) : Prop where
  bel : Below Wb.heap.size Wb W
  met : MetAt W b R m
  all : AllB W b
  lo : Wb.heap.size ≤ b
  hi : b < W.heap.size
theorem N4.keep {Wb : World} {b R : Nat} {m : Nat → Bool} {W W' : World} (h : N4 Wb b R m W) (hb : Below W.heap.size W W') : N4 Wb b R m W' :=
  ⟨bel_trans h.bel hb, h.met.of (hb.block b h.hi), h.all.of (hb.block b h.hi), h.lo, Nat.lt_of_lt_of_le h.hi hb.size⟩
theorem N4.set {Wb : World} {b R z : Nat} {m m' : Nat → Bool} {W : World} {c : Bool} (h : N4 Wb b R m W) (hz : z < R) (hm : ∀ i, m' i = if i = z then c else m i) : N4 Wb b R m' (W.setCell ⟨b, z, none⟩ (.bool c)) :=
  ⟨⟨h.bel.os, h.bel.tape, h.bel.output, by rw [gsize_setF]; exact h.bel.size, fun k hk => (gset_otherF (by have := h.lo; omega)).trans (h.bel.block k hk)⟩, h.met.setB hm, h.all.set ⟨_, (h.met z hz).1⟩, h.lo, by rw [gsize_setF]; exact h.hi⟩
theorem N4.only {Wb : World} {b R : Nat} {m m' : Nat → Bool} {W W' : World} (h : N4 Wb b R m W) (ho : Only b W W') (hm : MetAt W' b R m') : Below Wb.heap.size Wb W' :=
  ⟨ho.os.trans h.bel.os, ho.tape.trans h.bel.tape, ho.output.trans h.bel.output, by rw [ho.size]; exact h.bel.size, fun k hk => (ho.block k (by have := h.lo; omega)).trans (h.bel.block k hk)⟩
theorem clrM_one (m : Nat → Bool) (z i : Nat) : clrM m [(z : Int)] i = if i = z then false else m i := by
  unfold clrM
  by_cases e : i = z
  · simp [e]
  · have : (i : Int) ≠ z := by omega
    simp [e, this]
theorem clrM_nil (m : Nat → Bool) : clrM m [] = m := by
  funext i
  simp [clrM]
theorem agF_zero (ag : Bool) (t : Nat → Nat → Bool) (n : Nat) (now : Nat → Bool) : agF ag t n now 0 = ag := by simp [agF]
/-- While a row of the table grows. -/
structure T5 (w1 : World) (LB N R : Nat) (rb : Nat → Nat) (t : Nat → Nat → Bool) (b : Nat) (now : Nat → Bool) (W : World) : Prop where
  tb : TB w1.heap.size LB N R rb t W
  bel : Below w1.heap.size w1 W
  met : MetAt W b R now
  lo : w1.heap.size ≤ b ∧ ∀ i, i < N → rb i ≠ b
theorem T5.set {w1 : World} {LB N R n r b : Nat} {rb : Nat → Nat} {t t' : Nat → Nat → Bool} {now : Nat → Bool} {W : World} (h : T5 w1 LB N R rb t b now W) (hn : n < N) (hr : r < R) (ht : ∀ i j, t' i j = if i = n ∧ j = r then true else t i j) : T5 w1 LB N R rb t' b now (W.setCell ⟨rb n, r, none⟩ (.bool true)) :=
  ⟨h.tb.set hn hr ht, ⟨h.bel.os, h.bel.tape, h.bel.output, by rw [gsize_setF]; exact h.bel.size, fun k hk => (gset_otherF (by have := (h.tb.lo n hn).1; omega)).trans (h.bel.block k hk)⟩, h.met.of (gset_otherF (Ne.symm (h.lo.2 n hn))), h.lo⟩
theorem T5.ext {w1 : World} {LB N R b : Nat} {rb : Nat → Nat} {t t' : Nat → Nat → Bool} {now : Nat → Bool} {W : World} (h : T5 w1 LB N R rb t b now W) (e : ∀ i j, t' i j = t i j) : T5 w1 LB N R rb t' b now W := ⟨h.tb.ext e, h.bel, h.met, h.lo⟩
set_option maxRecDepth 100000 in
set_option maxHeartbeats 16000000 in
theorem rlive_walk (w : World) (fname : ByteArray) (pa : Option Addr) (pn pc : Nat) (frm ent : Int) (R N cap cb co : Nat) (ca : Option Addr) (code : List Ins) (hR : R ≤ 1000000) (hN : N ≤ 100000) (HCL : Hid (code.length = N)) (HCA : Hid (0 < N → ca = some ⟨cb, co, none⟩)) (HIN : Hid (∀ (i : Nat) x, code[i]? = some x → InsAt w cb (co + i * 9) x)) (HUS : Hid (∀ x ∈ code, ∀ y ∈ usR x, 0 ≤ y ∧ y < R)) (HWS : Hid (∀ x ∈ code, ∀ y ∈ wrR x, 0 ≤ y ∧ y < R)) (HSX : Hid (∀ x ∈ code, ∀ y ∈ sxF x, 0 ≤ y ∧ y < N)) :
    Calls Tryz.prog 11 #[.agg #[.string fname, .slice pa pn pc, .int .i64 (R : Int), .int .i64 frm, .int .i64 ent, .slice ca N cap]] w (retT N R (LvR code) w) := by
  have mk1 := mk_bools R (by omega)
  have mk2 := mk_brows N (by omega)
  obtain ⟨w1, hw1⟩ : ∃ w1, w.alloc (.cells #[.string fname, .slice pa pn pc, .int .i64 (R : Int), .int .i64 frm, .int .i64 ent, .slice ca N cap] 25) = w1 := ⟨_, rfl⟩
  have s1 : w1.heap.size = w.heap.size + 1 := by rw [← hw1]; exact World.size_alloc _ _
  have HB1 : Hid (Below w.heap.size w w1) := by rw [← hw1]; exact bel_alloc (Below.refl _ _) _
  have f0 : w1.cell? ⟨w.heap.size, 0, none⟩ = some (.string fname) := by rw [← hw1]; simp
  have f1 : w1.cell? ⟨w.heap.size, 1, none⟩ = some (.slice pa pn pc) := by rw [← hw1]; simp
  have f2 : w1.cell? ⟨w.heap.size, 2, none⟩ = some (.int .i64 (R : Int)) := by rw [← hw1]; simp
  have f3 : w1.cell? ⟨w.heap.size, 3, none⟩ = some (.int .i64 frm) := by rw [← hw1]; simp
  have f4 : w1.cell? ⟨w.heap.size, 4, none⟩ = some (.int .i64 ent) := by rw [← hw1]; simp
  have f5 : w1.cell? ⟨w.heap.size, 5, none⟩ = some (.slice ca N cap) := by rw [← hw1]; simp
  go_enter Tryz.func11, Tryz.ntmps11
  go_upto_region 2 with fail
  obtain ⟨LB, hLB⟩ : ∃ LB, w.heap.size + 1 = LB := ⟨_, rfl⟩
  rw [hLB] at s1
  rw [hLB]
  obtain ⟨rb, hrb⟩ : ∃ rb : Nat → Nat, rb = fun j => LB + 1 + j := ⟨_, rfl⟩
  have HRB : Hid (∀ j, rb j = LB + 1 + j) := fun j => by rw [hrb]
  have HL1 : Hid (L1 w1 LB N R 0 rb (w1.alloc (.cells (madeCells #[.slice none 0 0] N) 34))) := by
    refine ⟨bel_alloc (Below.refl _ _) _, by rw [World.size_alloc, s1], fun j hj => ?_, fun j hj => by omega⟩
    have := made_at w1 (.slice none 0 0) N 34 j hj
    rw [s1] at this
    simpa using this
  have HF : Hid (w1.cell? ⟨w.heap.size, 0, none⟩ = some (.string fname) ∧ w1.cell? ⟨w.heap.size, 1, none⟩ = some (.slice pa pn pc) ∧ w1.cell? ⟨w.heap.size, 2, none⟩ = some (.int .i64 (R : Int)) ∧ w1.cell? ⟨w.heap.size, 3, none⟩ = some (.int .i64 frm) ∧ w1.cell? ⟨w.heap.size, 4, none⟩ = some (.int .i64 ent) ∧ w1.cell? ⟨w.heap.size, 5, none⟩ = some (.slice ca N cap)) := ⟨f0, f1, f2, f3, f4, f5⟩
  have HLE := hidF hLB
  have hwl : w.heap.size < LB := by omega
  have HS1 := hidF s1
  clear hw1 hrb f0 f1 f2 f3 f4 f5 hLB s1
  generalize w1.alloc (.cells (madeCells #[.slice none 0 0] N) 34) = wa at *
  go_wp2
  go_loopw [4] (fun v4 wz => ∃ i : Nat, i ≤ N ∧ v4 = .int .i64 i ∧ Hid (L1 w1 LB N R i rb wz)) (fun v4 _ => N - (intOf v4).toNat)
  case atStart => exact ⟨0, by omega, rfl, HL1⟩
  case round =>
    clear HL1
    obtain ⟨i, hi, rfl, HL⟩ := hrel
    rename World => wz
    by_cases hin : i < N
    · have j0 : (0 : Int) ≤ i := by omega
      have j1 : (i : Int) < N := by omega
      have c2 := keep_cell HL.out.bel HF.out.2.2.1
      obtain ⟨cl, fl⟩ := HL.out.c i hin
      rw [if_neg (by omega)] at cl
      have hLz : LB < wz.heap.size := block_lt_of_cell cl
      have HL2 := hidF (HL.out.next HRB.out HS1.out hin)
      go_wp2
      go_roundw
      case rel => exact ⟨i + 1, by omega, by simp, HL2⟩
      case measure => simp [intOf]; omega
    · obtain rfl : N = i := by omega
      have HT0 : Hid (L2 w1 LB N R rb code true (fun _ _ => false) wz) := ⟨HL.out.tb HRB.out HS1.out, HL.out.bel, (fun n r _ _ h => by cases h), fun h => by cases h⟩
      clear HL
      go_wp2
      go_loopw [5] (fun v5 wy => ∃ (ag : Bool) (t : Nat → Nat → Bool), v5 = .bool ag ∧ Hid (L2 w1 LB N R rb code ag t wy)) (fun v5 wy => 2 * cntTW LB R wy N + boolOf v5)
      case atStart => exact ⟨true, _, rfl, HT0⟩
      case round =>
        clear HT0
        obtain ⟨ag, t0, rfl, HL⟩ := hrel
        rename World => wy
        cases ag with
        | false =>
          have HEND : Hid (retT N R (LvR code) w (.returned (.slice (some ⟨LB, 0, none⟩) N N)) wy) := by
            have h := HL.out
            refine ⟨LB, rb, t0, rfl, ⟨h.tb.c, h.tb.v, h.tb.ne, h.tb.inj, fun i hi => ⟨by have := (h.tb.lo i hi).1; have := HS1.out; omega, (h.tb.lo i hi).2⟩, by omega⟩, fun n r hn hr => ⟨h.so n r hn hr, fun hl => closed_live HCL.out HSX.out (h.cl rfl) hr hl⟩, bel_trans HB1.out h.bel⟩
          clear HL
          go_wp2
          go_ret
          exact HEND.out
        | true =>
          have HP0 : Hid (L3r w1 LB N R rb code t0 N false t0 wy) := ⟨HL.out.tb, HL.out.bel, HL.out.so, fun _ => ⟨fun _ _ _ _ => rfl, fun m h1 h2 => by omega⟩, Nat.le_refl _, fun h => by cases h⟩
          have HC0 : Hid (cntTW LB R wy N = cntT R t0 N) := cntTW_eq HL.out.tb N (Nat.le_refl _)
          clear HL
          go_wp2
          go_loopw [5, 6] (fun v5 v6 wx => ∃ (ag : Bool) (c : Nat) (t : Nat → Nat → Bool), v5 = .bool ag ∧ c ≤ N ∧ v6 = .int .i64 ((c : Int) - 1) ∧ Hid (L3r w1 LB N R rb code t0 c ag t wx)) (fun _ v6 _ => (intOf v6 + 1).toNat)
          case atStart => exact ⟨false, N, t0, rfl, by omega, rfl, HP0⟩
          case round =>
            clear HP0
            obtain ⟨ag, c, t, rfl, hc, rfl, HL⟩ := hrel
            rename World => wx
            rcases c with _ | c
            · have HX : Hid (L2 w1 LB N R rb code ag t wx ∧ 2 * cntTW LB R wx N + boolOf (.bool ag) < 2 * cntTW LB R wy N + 1) := by
                have h := HL.out
                refine ⟨⟨h.tb, h.bel, h.ps.so, fun e n hn x r hx hr hq => ?_⟩, ?_⟩
                · obtain ⟨h1, h2⟩ := h.ps.no e
                  rw [h1 n r hn hr]
                  refine h2 n (Nat.zero_le _) hn x r hx hr ?_
                  rw [← nowR_ext (fun y hy => HSX.out x (List.mem_of_getElem? hx) y hy) hr h1]
                  exact hq
                · rw [HC0.out, cntTW_eq h.tb N (Nat.le_refl _)]
                  have := h.ps.le
                  cases ag with
                  | false => simp [boolOf]; omega
                  | true => have := h.ps.lt rfl; simp [boolOf]; omega
              have hm1 : ((((0 : Nat) : Int)) - 1) = -1 := rfl
              rw [hm1]
              go_wp2
              go_roundw
              case rel => exact ⟨ag, t, rfl, HX.out.1⟩
              case measure => exact HX.out.2
            · have hcc : (((c + 1 : Nat) : Int) - 1) = (c : Int) := by omega
              rw [hcc]
              have j0 : (0 : Int) ≤ c := by omega
              have j1 : (c : Int) < N := by omega
              have hget := List.getElem?_eq_getElem (l := code) (show c < code.length by rw [HCL.out]; omega)
              generalize code[c]'(by rw [HCL.out]; omega) = x at hget
              have HGET := hidF hget
              have hXm := List.mem_of_getElem? hget
              have HSXX : Hid (∀ y ∈ sxF x, 0 ≤ y ∧ y < N) := HSX.out x hXm
              have HUSX : Hid (∀ y ∈ usR x, 0 ≤ y ∧ y < R) := HUS.out x hXm
              have HWSX : Hid (∀ y ∈ wrR x, 0 ≤ y ∧ y < R) := HWS.out x hXm
              obtain rfl := HCA.out (by omega)
              have hins := (HIN.out c x hget).keep (bel_trans HB1.out HL.out.bel)
              have HINX := hidF hins
              obtain ⟨v, hil, e0, e1, e2, e3, e4, e5, e6, e7, e8⟩ := hins
              obtain ⟨va, vc, rfl, _⟩ := hil.partsF
              obtain ⟨vn, hvn⟩ : ∃ vn, x.args.length = vn := ⟨_, rfl⟩
              rw [hvn] at hil e6
              have HIL := hidF hil
              have g0 := keep_cell HL.out.bel HF.out.1
              have g1 := keep_cell HL.out.bel HF.out.2.1
              have g2 := keep_cell HL.out.bel HF.out.2.2.1
              have g3 := keep_cell HL.out.bel HF.out.2.2.2.1
              have g4 := keep_cell HL.out.bel HF.out.2.2.2.2.1
              have g5 := keep_cell HL.out.bel HF.out.2.2.2.2.2
              have hLx : LB < wx.heap.size := block_lt_of_cell (HL.out.tb.c c (by omega))
              have hcx : cb < wx.heap.size := block_lt_of_cell e0
              obtain ⟨Wb, hWb⟩ : ∃ Wb, wx.alloc (.cells #[.int .i64 x.op, .int .i64 x.sub, .int .i64 x.a, .int .i64 x.b, .int .i64 x.d, .int .i64 x.k, .slice va vn vc, .int .i64 x.s, .int .i64 x.t] 38) = Wb := ⟨_, rfl⟩
              have sb : Wb.heap.size = wx.heap.size + 1 := by rw [← hWb]; exact World.size_alloc _ _
              have HBW : Hid (Below wx.heap.size wx Wb) := by rw [← hWb]; exact bel_alloc (Below.refl _ _) _
              have HSW : Hid (wx.heap.size < Wb.heap.size) := by show _ < _; omega
              have x0 : Wb.cell? ⟨wx.heap.size, 0, none⟩ = some (.int .i64 x.op) := by rw [← hWb]; simp
              have x1 : Wb.cell? ⟨wx.heap.size, 1, none⟩ = some (.int .i64 x.sub) := by rw [← hWb]; simp
              have x2 : Wb.cell? ⟨wx.heap.size, 2, none⟩ = some (.int .i64 x.a) := by rw [← hWb]; simp
              have x3 : Wb.cell? ⟨wx.heap.size, 3, none⟩ = some (.int .i64 x.b) := by rw [← hWb]; simp
              have x4 : Wb.cell? ⟨wx.heap.size, 4, none⟩ = some (.int .i64 x.d) := by rw [← hWb]; simp
              have x5 : Wb.cell? ⟨wx.heap.size, 5, none⟩ = some (.int .i64 x.k) := by rw [← hWb]; simp
              have x6 : Wb.cell? ⟨wx.heap.size, 6, none⟩ = some (.slice va vn vc) := by rw [← hWb]; simp
              have x7 : Wb.cell? ⟨wx.heap.size, 7, none⟩ = some (.int .i64 x.s) := by rw [← hWb]; simp
              have x8 : Wb.cell? ⟨wx.heap.size, 8, none⟩ = some (.int .i64 x.t) := by rw [← hWb]; simp
              have i0 := keep_cell HBW.out g0
              have i1 := keep_cell HBW.out g1
              have i2 := keep_cell HBW.out g2
              have i3 := keep_cell HBW.out g3
              have i4 := keep_cell HBW.out g4
              have i5 := keep_cell HBW.out g5
              clear hget hXm hil hvn
              go_upto_region 13 with fail
              clear hWb e0 e1 e2 e3 e4 e5 e6 e7 e8 g0 g1 g2 g3 g4 g5
              go_upto_region 14 with (go_at_call 27; refine (behind_walk Wb fname pa pn pc frm ent R N cap cb co LB w1.heap.size c _ x rb t hR hN (by omega) rfl (HINX.out.keep HBW.out) (HL.out.tb.below HBW.out) (hidF (by omega)) HSXX).mono ?_; rintro e W4 ⟨b, rfl, hbl, hbs, hbm, hba, hb4⟩)
              have HN4 : Hid (N4 Wb b R (anyF t (sxF x)) W4) := ⟨hb4, hbm, hba, hbl, hbs⟩
              have y0 := keep_cell hb4 x0
              have y1 := keep_cell hb4 x1
              have y2 := keep_cell hb4 x2
              have y3 := keep_cell hb4 x3
              have y4 := keep_cell hb4 x4
              have y5 := keep_cell hb4 x5
              have y6 := keep_cell hb4 x6
              have y7 := keep_cell hb4 x7
              have y8 := keep_cell hb4 x8
              clear hbl hbs hbm hba hb4 i0 i1 i2 i3 i4 i5 x0 x1 x2 x3 x4 x5 x6 x7 x8
              obtain ⟨wv0, hwv⟩ : ∃ wv0, writesF x.op x.d = wv0 := ⟨_, rfl⟩
              have HWV := hidF hwv
              by_cases h0 : 0 ≤ wv0
              · have hwr : wrR x = [wv0] := by unfold wrR; rw [hwv, if_pos h0]
                have hwz := HWSX.out wv0 (by rw [hwr]; simp)
                obtain ⟨z, rfl⟩ : ∃ z : Nat, wv0 = z := ⟨wv0.toNat, by omega⟩
                have hzR : z < R := by omega
                have HWC : Hid (∀ W, Calls Tryz.prog 14 #[insV x.op x.sub x.a x.b x.d x.k (.slice va vn vc) x.s x.t] W (retP (.int .i64 (z : Int)) W)) := fun W => by rw [← hwv]; exact rWrites_any x.op x.sub x.a x.b x.d x.k (.slice va vn vc) x.s x.t W
                have HWR := hidF hwr
                clear hwv hwr
                go_upto_region 15 with (go_at_call 14; refine (HWC.out W4).mono ?_; rintro e W5 ⟨rfl, hb5⟩)
                have HN5 := hidF (HN4.out.keep hb5)
                replace y0 := keep_cell hb5 y0
                replace y1 := keep_cell hb5 y1
                replace y2 := keep_cell hb5 y2
                replace y3 := keep_cell hb5 y3
                replace y4 := keep_cell hb5 y4
                replace y5 := keep_cell hb5 y5
                replace y6 := keep_cell hb5 y6
                replace y7 := keep_cell hb5 y7
                replace y8 := keep_cell hb5 y8
                clear hb5 HN4
                go_upto_region 16 with (go_at_call 14; refine (HWC.out W5).mono ?_; rintro e W6 ⟨rfl, hb6⟩; obtain ⟨hm6, hf6⟩ := (HN5.out.keep hb6).met z hzR; have HN6 := hidF (HN5.out.keep hb6); have hbx6 : wx.heap.size ≠ b := by have := HN5.out.lo; omega)
                have HN : Hid (N4 Wb b R (clrM (anyF t (sxF x)) (wrR x)) (W6.setCell ⟨b, z, none⟩ (.bool false))) := by
                  rw [HWR.out]
                  exact HN6.out.set hzR (clrM_one _ _)
                replace y0 : (W6.setCell ⟨b, z, none⟩ (.bool false)).cell? ⟨wx.heap.size, 0, none⟩ = _ := keep_set (keep_cell hb6 y0) hbx6
                replace y1 : (W6.setCell ⟨b, z, none⟩ (.bool false)).cell? ⟨wx.heap.size, 1, none⟩ = _ := keep_set (keep_cell hb6 y1) hbx6
                replace y2 : (W6.setCell ⟨b, z, none⟩ (.bool false)).cell? ⟨wx.heap.size, 2, none⟩ = _ := keep_set (keep_cell hb6 y2) hbx6
                replace y3 : (W6.setCell ⟨b, z, none⟩ (.bool false)).cell? ⟨wx.heap.size, 3, none⟩ = _ := keep_set (keep_cell hb6 y3) hbx6
                replace y4 : (W6.setCell ⟨b, z, none⟩ (.bool false)).cell? ⟨wx.heap.size, 4, none⟩ = _ := keep_set (keep_cell hb6 y4) hbx6
                replace y5 : (W6.setCell ⟨b, z, none⟩ (.bool false)).cell? ⟨wx.heap.size, 5, none⟩ = _ := keep_set (keep_cell hb6 y5) hbx6
                replace y6 : (W6.setCell ⟨b, z, none⟩ (.bool false)).cell? ⟨wx.heap.size, 6, none⟩ = _ := keep_set (keep_cell hb6 y6) hbx6
                replace y7 : (W6.setCell ⟨b, z, none⟩ (.bool false)).cell? ⟨wx.heap.size, 7, none⟩ = _ := keep_set (keep_cell hb6 y7) hbx6
                replace y8 : (W6.setCell ⟨b, z, none⟩ (.bool false)).cell? ⟨wx.heap.size, 8, none⟩ = _ := keep_set (keep_cell hb6 y8) hbx6
                clear hm6 hf6 HN6 HN5 hb6
                generalize W6.setCell ⟨b, z, none⟩ (.bool false) = W6z at *
                have hBxn : Below wx.heap.size wx W6z := bel_trans HBW.out HN.out.bel
                have HBX := hidF hBxn
                clear hBxn
                go_upto_region 17 with (go_at_call 13; refine (rUses_any x.op x.sub x.a x.b x.d x.k (.slice va vn vc) x.args x.s x.t _ (HIL.out.of2 (fun b o s n c e h => HBX.out.block b h))).mono ?_; rintro e W7 ⟨uv, rfl, hul, hb7⟩)
                obtain ⟨ua, uc, ub, uo, rfl, hu8, hua, huc⟩ := hul.parts
                obtain ⟨ul, hulq⟩ : ∃ ul, usR x = ul := ⟨_, rfl⟩
                have hulq2 : usesF x.op x.a x.b x.args = ul := hulq
                rw [hulq2] at hua huc hu8
                rw [hulq2]
                obtain ⟨un, hun⟩ : ∃ un, ul.length = un := ⟨_, rfl⟩
                rw [hun] at hua hu8
                rw [hun]
                have HN7 := hidF (HN.out.keep hb7)
                have HUB : Hid (0 < un → ub ≠ b) := fun h0 e => by
                  have hg := List.getElem?_eq_getElem (l := ul) (show 0 < ul.length by omega)
                  have h1 := huc 0 _ hg
                  rw [e] at h1
                  obtain ⟨q, hq⟩ := HN7.out.all _ _ h1
                  cases hq
                have HUA := hidF hua
                have HUC := hidF huc
                have HUN := hidF hun
                have HUQ := hidF hulq
                have HUX : Hid (∀ y ∈ ul, 0 ≤ y ∧ y < R) := by rw [← hulq]; exact HUSX.out
                clear hul hb7 hua huc hun hulq hulq2 HN y0 y1 y2 y3 y4 y5 y6 y7 y8
                obtain ⟨mB, hmB⟩ : ∃ mB, clrM (anyF t (sxF x)) (wrR x) = mB := ⟨_, rfl⟩
                rw [hmB] at HN7
                have HMB := hidF hmB
                clear hmB
                go_wp2
                go_loopw [10] (fun v10 wv => ∃ k : Nat, k ≤ un ∧ v10 = .int .i64 k ∧ Hid (MetAt wv b R (setI mB (ul.take k)) ∧ Only b W7 wv)) (fun v10 _ => un - (intOf v10).toNat)
                case atStart => exact ⟨0, by omega, rfl, HN7.out.met.ext (fun i _ => by simp [setI]), Only.refl _ _⟩
                case round =>
                  obtain ⟨k, hk, rfl, HV⟩ := hrel
                  rename World => wv
                  by_cases hkn : k < un
                  · have k0 : (0 : Int) ≤ k := by omega
                    have k1 : (k : Int) < un := by omega
                    have hg := List.getElem?_eq_getElem (l := ul) (show k < ul.length by rw [HUN.out]; exact hkn)
                    generalize ul[k]'(by rw [HUN.out]; exact hkn) = y at hg
                    have hy := HUX.out y (List.mem_of_getElem? hg)
                    obtain ⟨z, rfl⟩ : ∃ z : Nat, y = z := ⟨y.toNat, by omega⟩
                    obtain rfl := HUA.out (by omega)
                    have cs := HV.out.2.cell (HUB.out (by omega)) (HUC.out k z hg)
                    have hzR : z < R := by omega
                    have z0 : (0 : Int) ≤ z := by omega
                    have z1 : (z : Int) < R := by omega
                    obtain ⟨hm1, hf1⟩ := HV.out.1 z hzR
                    have HNX : Hid (∀ i, setI mB (ul.take (k + 1)) i = if i = z then true else setI mB (ul.take k) i) := fun i => by
                      rw [List.take_add_one, hg]
                      exact setI_snoc mB (ul.take k) z i
                    clear hg
                    go_wp2
                    go_roundw
                    case rel => exact ⟨k + 1, by omega, by simp, HV.out.1.setB HNX.out, HV.out.2.set _ _⟩
                    case measure => simp [intOf]; omega
                  · obtain rfl : un = k := by omega
                    obtain ⟨now, hnow⟩ : ∃ now, setI mB ul = now := ⟨_, rfl⟩
                    have HNOW : Hid (∀ r, r < R → now r = nowR t x r) := fun r _ => by rw [← hnow, ← HMB.out, ← HUQ.out]; exact now_eq t x r
                    have hmv : MetAt wv b R now := by
                      have h := HV.out.1
                      rw [← HUN.out, List.take_length, hnow] at h
                      exact h
                    have hbv : Below Wb.heap.size Wb wv := HN7.out.only HV.out.2 hmv
                    have hbxv : Below wx.heap.size wx wv := bel_trans HBW.out hbv
                    have hsw : wx.heap.size < Wb.heap.size := HSW.out
                    have HT50 : Hid (T5 w1 LB N R rb (upT t c now 0) b now wv) := by
                      rw [upT_zero]
                      refine ⟨HL.out.tb.below hbxv, bel_trans HL.out.bel hbxv, hmv, ?_, fun i hi => ?_⟩
                      · have := HN7.out.lo; have := HL.out.bel.size; omega
                      · have := HN7.out.lo; have := (HL.out.tb.lo i hi).2; omega
                    have HAZ := hidF (agF_zero ag t c now)
                    clear hnow hmv hbv hbxv HV HN7
                    go_wp2
                    go_loopw [5, 11] (fun v5 v11 wu => ∃ r : Nat, r ≤ R ∧ v11 = .int .i64 r ∧ v5 = .bool (agF ag t c now r) ∧ Hid (T5 w1 LB N R rb (upT t c now r) b now wu)) (fun _ v11 _ => R - (intOf v11).toNat)
                    case atStart => exact ⟨0, by omega, rfl, by rw [HAZ.out], HT50⟩
                    case round =>
                      clear HT50
                      obtain ⟨r, hr, rfl, rfl, HU⟩ := hrel
                      rename World => wu
                      have c2 := keep_cell HU.out.bel HF.out.2.2.1
                      by_cases hrn : r < R
                      · have r0 : (0 : Int) ≤ r := by omega
                        have r1 : (r : Int) < R := by omega
                        obtain ⟨hm1, hf1⟩ := HU.out.met r hrn
                        have cl := HU.out.tb.c c (by omega)
                        obtain ⟨hv1, hv2⟩ := HU.out.tb.v c (by omega) r hrn
                        rw [upT_at] at hv1
                        have HAS := hidF (agF_succ ag t c now r)
                        cases hq : now r with
                        | false =>
                          rw [hq] at hm1 HAS
                          have HNX : Hid (T5 w1 LB N R rb (upT t c now (r + 1)) b now wu) := HU.out.ext (upT_no (by rw [hq]; simp))
                          have HAE : Hid (agF ag t c now (r + 1) = agF ag t c now r) := by show _ = _; rw [HAS.out]; simp
                          clear hq HAS
                          generalize agF ag t c now r = ga at *
                          go_wp2
                          go_roundw
                          case rel => exact ⟨r + 1, by omega, by simp, by rw [HAE.out], HNX⟩
                          case measure => simp [intOf]; omega
                        | true =>
                          rw [hq] at hm1 HAS
                          cases hq2 : t c r with
                          | true =>
                            rw [hq2] at hv1 HAS
                            have HNX : Hid (T5 w1 LB N R rb (upT t c now (r + 1)) b now wu) := HU.out.ext (upT_no (by rw [hq2]; simp))
                            have HAE : Hid (agF ag t c now (r + 1) = agF ag t c now r) := by show _ = _; rw [HAS.out]; simp
                            clear hq hq2 HAS
                            generalize agF ag t c now r = ga at *
                            go_wp2
                            go_roundw
                            case rel => exact ⟨r + 1, by omega, by simp, by rw [HAE.out], HNX⟩
                            case measure => simp [intOf]; omega
                          | false =>
                            rw [hq2] at hv1 HAS
                            have HNX : Hid (T5 w1 LB N R rb (upT t c now (r + 1)) b now (wu.setCell ⟨rb c, r, none⟩ (.bool true))) := HU.out.set (by omega) hrn (upT_yes (by rw [hq]; simp))
                            have HAE : Hid (agF ag t c now (r + 1) = true) := by show _ = _; rw [HAS.out]; simp
                            clear hq hq2 HAS
                            generalize agF ag t c now r = ga at *
                            go_wp2
                            go_roundw
                            case rel => exact ⟨r + 1, by omega, by simp, by rw [HAE.out], HNX⟩
                            case measure => simp [intOf]; omega
                      · obtain rfl : R = r := by omega
                        have HFIN : Hid (L3r w1 LB N R rb code t0 c (agF ag t c now R) (upT t c now R) wu) := ⟨HU.out.tb, HU.out.bel, HL.out.ps.step (by omega) HGET.out HSXX.out HNOW.out⟩
                        generalize agF ag t c now R = ga at *
                        go_wp2
                        go_roundw
                        case rel => exact ⟨ga, c, upT t c now R, rfl, by omega, rfl, HFIN⟩
                        case measure => simp [intOf]
              · have hwr : wrR x = [] := by unfold wrR; rw [hwv, if_neg h0]
                have HWC : Hid (∀ W, Calls Tryz.prog 14 #[insV x.op x.sub x.a x.b x.d x.k (.slice va vn vc) x.s x.t] W (retP (.int .i64 wv0) W)) := fun W => by rw [← hwv]; exact rWrites_any x.op x.sub x.a x.b x.d x.k (.slice va vn vc) x.s x.t W
                have HWR := hidF hwr
                have h0d : decide (0 ≤ wv0) = false := by simpa using h0
                clear hwv hwr
                go_upto_region 16 with (go_at_call 14; refine (HWC.out W4).mono ?_; rintro e W6z ⟨rfl, hb5⟩)
                have HN : Hid (N4 Wb b R (clrM (anyF t (sxF x)) (wrR x)) W6z) := by
                  rw [HWR.out, clrM_nil]
                  exact HN4.out.keep hb5
                replace y0 := keep_cell hb5 y0
                replace y1 := keep_cell hb5 y1
                replace y2 := keep_cell hb5 y2
                replace y3 := keep_cell hb5 y3
                replace y4 := keep_cell hb5 y4
                replace y5 := keep_cell hb5 y5
                replace y6 := keep_cell hb5 y6
                replace y7 := keep_cell hb5 y7
                replace y8 := keep_cell hb5 y8
                clear hb5 HN4
                have hBxn : Below wx.heap.size wx W6z := bel_trans HBW.out HN.out.bel
                have HBX := hidF hBxn
                clear hBxn
                go_upto_region 17 with (go_at_call 13; refine (rUses_any x.op x.sub x.a x.b x.d x.k (.slice va vn vc) x.args x.s x.t _ (HIL.out.of2 (fun b o s n c e h => HBX.out.block b h))).mono ?_; rintro e W7 ⟨uv, rfl, hul, hb7⟩)
                obtain ⟨ua, uc, ub, uo, rfl, hu8, hua, huc⟩ := hul.parts
                obtain ⟨ul, hulq⟩ : ∃ ul, usR x = ul := ⟨_, rfl⟩
                have hulq2 : usesF x.op x.a x.b x.args = ul := hulq
                rw [hulq2] at hua huc hu8
                rw [hulq2]
                obtain ⟨un, hun⟩ : ∃ un, ul.length = un := ⟨_, rfl⟩
                rw [hun] at hua hu8
                rw [hun]
                have HN7 := hidF (HN.out.keep hb7)
                have HUB : Hid (0 < un → ub ≠ b) := fun h0 e => by
                  have hg := List.getElem?_eq_getElem (l := ul) (show 0 < ul.length by omega)
                  have h1 := huc 0 _ hg
                  rw [e] at h1
                  obtain ⟨q, hq⟩ := HN7.out.all _ _ h1
                  cases hq
                have HUA := hidF hua
                have HUC := hidF huc
                have HUN := hidF hun
                have HUQ := hidF hulq
                have HUX : Hid (∀ y ∈ ul, 0 ≤ y ∧ y < R) := by rw [← hulq]; exact HUSX.out
                clear hul hb7 hua huc hun hulq hulq2 HN y0 y1 y2 y3 y4 y5 y6 y7 y8
                obtain ⟨mB, hmB⟩ : ∃ mB, clrM (anyF t (sxF x)) (wrR x) = mB := ⟨_, rfl⟩
                rw [hmB] at HN7
                have HMB := hidF hmB
                clear hmB
                go_wp2
                go_loopw [10] (fun v10 wv => ∃ k : Nat, k ≤ un ∧ v10 = .int .i64 k ∧ Hid (MetAt wv b R (setI mB (ul.take k)) ∧ Only b W7 wv)) (fun v10 _ => un - (intOf v10).toNat)
                case atStart => exact ⟨0, by omega, rfl, HN7.out.met.ext (fun i _ => by simp [setI]), Only.refl _ _⟩
                case round =>
                  obtain ⟨k, hk, rfl, HV⟩ := hrel
                  rename World => wv
                  by_cases hkn : k < un
                  · have k0 : (0 : Int) ≤ k := by omega
                    have k1 : (k : Int) < un := by omega
                    have hg := List.getElem?_eq_getElem (l := ul) (show k < ul.length by rw [HUN.out]; exact hkn)
                    generalize ul[k]'(by rw [HUN.out]; exact hkn) = y at hg
                    have hy := HUX.out y (List.mem_of_getElem? hg)
                    obtain ⟨z, rfl⟩ : ∃ z : Nat, y = z := ⟨y.toNat, by omega⟩
                    obtain rfl := HUA.out (by omega)
                    have cs := HV.out.2.cell (HUB.out (by omega)) (HUC.out k z hg)
                    have hzR : z < R := by omega
                    have z0 : (0 : Int) ≤ z := by omega
                    have z1 : (z : Int) < R := by omega
                    obtain ⟨hm1, hf1⟩ := HV.out.1 z hzR
                    have HNX : Hid (∀ i, setI mB (ul.take (k + 1)) i = if i = z then true else setI mB (ul.take k) i) := fun i => by
                      rw [List.take_add_one, hg]
                      exact setI_snoc mB (ul.take k) z i
                    clear hg
                    go_wp2
                    go_roundw
                    case rel => exact ⟨k + 1, by omega, by simp, HV.out.1.setB HNX.out, HV.out.2.set _ _⟩
                    case measure => simp [intOf]; omega
                  · obtain rfl : un = k := by omega
                    obtain ⟨now, hnow⟩ : ∃ now, setI mB ul = now := ⟨_, rfl⟩
                    have HNOW : Hid (∀ r, r < R → now r = nowR t x r) := fun r _ => by rw [← hnow, ← HMB.out, ← HUQ.out]; exact now_eq t x r
                    have hmv : MetAt wv b R now := by
                      have h := HV.out.1
                      rw [← HUN.out, List.take_length, hnow] at h
                      exact h
                    have hbv : Below Wb.heap.size Wb wv := HN7.out.only HV.out.2 hmv
                    have hbxv : Below wx.heap.size wx wv := bel_trans HBW.out hbv
                    have hsw : wx.heap.size < Wb.heap.size := HSW.out
                    have HT50 : Hid (T5 w1 LB N R rb (upT t c now 0) b now wv) := by
                      rw [upT_zero]
                      refine ⟨HL.out.tb.below hbxv, bel_trans HL.out.bel hbxv, hmv, ?_, fun i hi => ?_⟩
                      · have := HN7.out.lo; have := HL.out.bel.size; omega
                      · have := HN7.out.lo; have := (HL.out.tb.lo i hi).2; omega
                    have HAZ := hidF (agF_zero ag t c now)
                    clear hnow hmv hbv hbxv HV HN7
                    go_wp2
                    go_loopw [5, 11] (fun v5 v11 wu => ∃ r : Nat, r ≤ R ∧ v11 = .int .i64 r ∧ v5 = .bool (agF ag t c now r) ∧ Hid (T5 w1 LB N R rb (upT t c now r) b now wu)) (fun _ v11 _ => R - (intOf v11).toNat)
                    case atStart => exact ⟨0, by omega, rfl, by rw [HAZ.out], HT50⟩
                    case round =>
                      clear HT50
                      obtain ⟨r, hr, rfl, rfl, HU⟩ := hrel
                      rename World => wu
                      have c2 := keep_cell HU.out.bel HF.out.2.2.1
                      by_cases hrn : r < R
                      · have r0 : (0 : Int) ≤ r := by omega
                        have r1 : (r : Int) < R := by omega
                        obtain ⟨hm1, hf1⟩ := HU.out.met r hrn
                        have cl := HU.out.tb.c c (by omega)
                        obtain ⟨hv1, hv2⟩ := HU.out.tb.v c (by omega) r hrn
                        rw [upT_at] at hv1
                        have HAS := hidF (agF_succ ag t c now r)
                        cases hq : now r with
                        | false =>
                          rw [hq] at hm1 HAS
                          have HNX : Hid (T5 w1 LB N R rb (upT t c now (r + 1)) b now wu) := HU.out.ext (upT_no (by rw [hq]; simp))
                          have HAE : Hid (agF ag t c now (r + 1) = agF ag t c now r) := by show _ = _; rw [HAS.out]; simp
                          clear hq HAS
                          generalize agF ag t c now r = ga at *
                          go_wp2
                          go_roundw
                          case rel => exact ⟨r + 1, by omega, by simp, by rw [HAE.out], HNX⟩
                          case measure => simp [intOf]; omega
                        | true =>
                          rw [hq] at hm1 HAS
                          cases hq2 : t c r with
                          | true =>
                            rw [hq2] at hv1 HAS
                            have HNX : Hid (T5 w1 LB N R rb (upT t c now (r + 1)) b now wu) := HU.out.ext (upT_no (by rw [hq2]; simp))
                            have HAE : Hid (agF ag t c now (r + 1) = agF ag t c now r) := by show _ = _; rw [HAS.out]; simp
                            clear hq hq2 HAS
                            generalize agF ag t c now r = ga at *
                            go_wp2
                            go_roundw
                            case rel => exact ⟨r + 1, by omega, by simp, by rw [HAE.out], HNX⟩
                            case measure => simp [intOf]; omega
                          | false =>
                            rw [hq2] at hv1 HAS
                            have HNX : Hid (T5 w1 LB N R rb (upT t c now (r + 1)) b now (wu.setCell ⟨rb c, r, none⟩ (.bool true))) := HU.out.set (by omega) hrn (upT_yes (by rw [hq]; simp))
                            have HAE : Hid (agF ag t c now (r + 1) = true) := by show _ = _; rw [HAS.out]; simp
                            clear hq hq2 HAS
                            generalize agF ag t c now r = ga at *
                            go_wp2
                            go_roundw
                            case rel => exact ⟨r + 1, by omega, by simp, by rw [HAE.out], HNX⟩
                            case measure => simp [intOf]; omega
                      · obtain rfl : R = r := by omega
                        have HFIN : Hid (L3r w1 LB N R rb code t0 c (agF ag t c now R) (upT t c now R) wu) := ⟨HU.out.tb, HU.out.bel, HL.out.ps.step (by omega) HGET.out HSXX.out HNOW.out⟩
                        generalize agF ag t c now R = ga at *
                        go_wp2
                        go_roundw
                        case rel => exact ⟨ga, c, upT t c now R, rfl, by omega, rfl, HFIN⟩
                        case measure => simp [intOf]
end Go.Proofs.YtfeglcpipcjaeaaGreatDoor
