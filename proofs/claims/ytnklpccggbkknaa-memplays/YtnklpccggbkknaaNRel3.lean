/- Loads of the two memories that say the same; the document's Load as a contract. -/
import Derived.Test.YtnklpccggbkknaaNRel2
import Derived.Test.YtnklpccggbkknaaNLoad
namespace Go.Proofs.Ytnklpccggbkknaa
open Go.ChangeShapes Go.WideShapes Go.ChangeAt Go.RowKit Pl
set_option linter.unusedSimpArgs false
set_option linter.unusedVariables false

theorem allB_iff (f : Nat → Int) : ∀ c, allB f c = true ↔ ∀ t, t < c → 0 ≤ f t ∧ f t < 256
  | 0 => by simp [allB]
  | c + 1 => by
    simp only [allB, Bool.and_eq_true, decide_eq_true_eq, allB_iff f c]
    constructor
    · rintro ⟨⟨h1, h2⟩, h3⟩ t ht
      by_cases e : t = c
      · subst e; exact ⟨h2, h3⟩
      · exact h1 t (by omega)
    · intro h
      exact ⟨⟨fun t ht => h t (by omega), (h c (by omega)).1⟩, (h c (by omega)).2⟩
theorem partB_iff (f : Nat → Int) : ∀ c, partB f true c = true ↔ ∀ t : Nat, t < c → 1000 ≤ f t ∧ f t = f 0 + t ∧ (f 0).tmod 8 = 0
  | 0 => by simp [partB]
  | c + 1 => by
    simp only [partB, Bool.and_eq_true, decide_eq_true_eq, partB_iff f c, beq_iff_eq]
    constructor
    · rintro ⟨⟨⟨h1, h2⟩, h3⟩, h4⟩ t ht
      by_cases e : t = c
      · subst e; exact ⟨h2, h3, h4⟩
      · exact h1 t (by omega)
    · intro h
      exact ⟨⟨⟨fun t ht => h t (by omega), (h c (by omega)).1⟩, (h c (by omega)).2.1⟩, (h c (by omega)).2.2⟩
theorem WRel.known {ptrs : List V} {x : WD} {ys : Nat → Int} (h : WRel ptrs x ys) {t : Nat} (ht : t < 8) : (B8 x.kn).getLsbD t = true ↔ 0 ≤ ys t ∧ ys t < 256 := by
  constructor
  · intro hk
    exact ⟨(h.num t ht hk).1, (h.num t ht hk).2.1⟩
  · intro hy
    cases hk : (B8 x.kn).getLsbD t with
    | true => rfl
    | false =>
      cases hp : (B8 x.pt).getLsbD t with
      | true =>
        obtain ⟨q, hq⟩ := h.ptr
        have := (hq t ht hk hp).1
        omega
      | false =>
        have := h.un t ht hk hp
        omega
theorem WRel.parted {ptrs : List V} {x : WD} {ys : Nat → Int} (h : WRel ptrs x ys) {t : Nat} (ht : t < 8) : (B8 x.pt).getLsbD t = true ↔ 1000 ≤ ys t := by
  cases hk : (B8 x.kn).getLsbD t with
  | true =>
    rw [h.dis t ht hk]
    have := (h.known ht).1 hk
    constructor
    · intro e; cases e
    · intro e; omega
  | false =>
    cases hp : (B8 x.pt).getLsbD t with
    | true =>
      obtain ⟨q, hq⟩ := h.ptr
      have := (hq t ht hk hp).1
      simp
      omega
    | false =>
      have := h.un t ht hk hp
      simp
      omega
theorem WRel.bound {ptrs : List V} {x : WD} {ys : Nat → Int} (h : WRel ptrs x ys) {t : Nat} (ht : t < 8) : -1 ≤ ys t ∧ ys t ≤ 1008 + 8 * (ptrs.length : Int) := by
  cases hk : (B8 x.kn).getLsbD t with
  | true => have := (h.known ht).1 hk; omega
  | false =>
    cases hp : (B8 x.pt).getLsbD t with
    | true =>
      obtain ⟨q, hq⟩ := h.ptr
      obtain ⟨h1, h2⟩ := hq t ht hk hp
      have := lt_of_get h2
      omega
    | false => have := h.un t ht hk hp; omega
theorem byte_bit0 (n : Int) (s : Nat) (hs : s < 8) : ((n % 256).toNat).testBit s = (BV n).getLsbD s := by
  have h := byte_bits n 0 s (by omega) hs
  simp only [Nat.mul_zero, Int.pow_zero, Nat.zero_add, Int.ediv_one] at h
  rw [← h, and_255, bv_bit]
  congr 1
  have := toNat_bv (n % 256)
  omega
theorem shl_nat (b c : Nat) (hb : b < 256) (hc : c < 8) : (BV (IntKind.u64.wrap (IntKind.u64.wrap (b : Int) * 2 ^ (8 * c)))).toNat = b * 2 ^ (8 * c) := by
  have hlt : b * 2 ^ (8 * c) < 18446744073709551616 := by
    have h1 : b * 2 ^ (8 * c) < 2 ^ 8 * 2 ^ (8 * c) := Nat.mul_lt_mul_of_pos_right (by omega) (Nat.pow_pos (by omega))
    rw [← Nat.pow_add] at h1
    have h2 : 2 ^ (8 + 8 * c) ≤ 2 ^ 64 := Nat.pow_le_pow_right (by omega) (by omega)
    exact Nat.lt_of_lt_of_le h1 h2
  have hcast : ((b : Int) * 2 ^ (8 * c)) = ((b * 2 ^ (8 * c) : Nat) : Int) := by
    rw [Int.natCast_mul, Int.natCast_pow]
    rfl
  have e1 : IntKind.u64.wrap (b : Int) = (b : Int) := by rw [u64w]; omega
  rw [e1, hcast]
  generalize b * 2 ^ (8 * c) = m at *
  have h := toNat_bv (IntKind.u64.wrap (m : Int))
  rw [u64w] at h ⊢
  omega
set_option maxHeartbeats 4000000 in
theorem num_eq {c d : Nat} (hl : LaneOk c d) (a b : Int) (h : (BV a).toNat / 2 ^ (8 * d) % 2 ^ (8 * c) = (BV b).toNat % 2 ^ (8 * c)) :
    numF c (a / 2 ^ min (laneF c d).s.toNat 64) = (if c = 1 then ofF (wrap64 (IntKind.i8.wrap (wrap64 b))) else if c = 4 then ofF (wrap64 (wrap32 (wrap64 b))) else ofF (wrap64 b)) := by
  have hA := toNat_bv a
  have hB := toNat_bv b
  generalize (BV a).toNat = A at *
  generalize (BV b).toNat = B at *
  rcases hl.cases with ⟨rfl, rfl⟩ | ⟨rfl, rfl⟩ | ⟨rfl, rfl⟩ | ⟨rfl, rfl⟩ | ⟨rfl, rfl⟩ | ⟨rfl, rfl⟩ | ⟨rfl, rfl⟩ | ⟨rfl, rfl⟩ | ⟨rfl, rfl⟩ | ⟨rfl, rfl⟩ | ⟨rfl, rfl⟩
  all_goals
    simp only [laneF, numF, i8w] at h ⊢
    simp at h ⊢
    simp only [ofF, V.mk.injEq, true_and, and_true]
    first
      | (unfold wrap64; omega)
      | (unfold wrap32 wrap64; omega)
theorem numB_bit (f : Nat → Int) : ∀ (c : Nat), c ≤ 8 → ∀ m, (BV (numB f c)).getLsbD m = (decide (m < 8 * c) && (BV (f (m / 8))).getLsbD (m % 8))
  | 0, _, m => by simp [numB, bv_zero]
  | c + 1, hc, m => by
    simp only [numB]
    rw [or64, bv_nat, BitVec.getLsbD_or, numB_bit f c (by omega) m]
    have hb : bits .and .i64 (f c) 255 = f c % 256 := and_255 _
    have e : (BV (IntKind.u64.wrap (IntKind.u64.wrap (bits .and .i64 (f c) 255) * 2 ^ (8 * c)))).toNat = (f c % 256).toNat * 2 ^ (8 * c) := by
      rw [hb]
      obtain ⟨b, hbn⟩ : ∃ b : Nat, f c % 256 = b := ⟨(f c % 256).toNat, by omega⟩
      rw [hbn, Int.toNat_natCast]
      exact shl_nat b c (by omega) (by omega)
    rw [bv_bit (IntKind.u64.wrap _), e, ← Nat.shiftLeft_eq, Nat.testBit_shiftLeft]
    by_cases h1 : m < 8 * c
    · have h2 : ¬ (8 * c ≤ m) := by omega
      have h3 : m < 8 * (c + 1) := by omega
      simp [h1, h2, h3]
    · have h2 : 8 * c ≤ m := by omega
      by_cases h3 : m < 8 * (c + 1)
      · have h4 : m / 8 = c := by omega
        have h5 : m % 8 = m - 8 * c := by omega
        rw [byte_bit0 _ _ (by omega)]
        simp [h1, h2, h3, h4, h5]
      · have h6 : ((f c % 256).toNat).testBit (m - 8 * c) = false := Nat.testBit_lt_two_pow (Nat.lt_of_lt_of_le (show (f c % 256).toNat < 2 ^ 8 by omega) (Nat.pow_le_pow_right (by omega) (by omega)))
        simp [h1, h2, h3, h6]
theorem load_rel {ptrs : List V} {x : WD} {ys : Nat → Int} {c d : Nat} (h : WRel ptrs x ys) (hl : LaneOk c d) (f : Nat → Int) (hf : ∀ t, t < c → f t = ys (d + t)) (pv : V) (hpv : ∀ q : Nat, f 0 = 1000 + 8 * (q : Int) → pv = (ptrs[q]?).getD noV) : loadF x (laneF c d) = loadG c f pv := by
  have hcd : 1 ≤ c ∧ d + c ≤ 8 := by unfold LaneOk at hl; omega
  have hall : bits .and .u8 x.kn (laneF c d).m = (laneF c d).m ↔ allB f c = true := by
    rw [in_mask hl, allB_iff]
    constructor
    · intro hh t ht
      rw [hf t ht]
      exact (h.known (by omega)).1 (hh _ (by omega) (by omega))
    · intro hh t h1 h2
      have := hh (t - d) (by omega)
      rw [hf _ (by omega), show d + (t - d) = t by omega] at this
      exact (h.known (by omega)).2 this
  unfold loadF loadG
  by_cases ha : allB f c = true
  · rw [if_pos ha, if_pos (hall.2 ha)]
    have hbit : (BV x.bt).toNat / 2 ^ (8 * d) % 2 ^ (8 * c) = (BV (numB f c)).toNat % 2 ^ (8 * c) := by
      apply Nat.eq_of_testBit_eq
      intro m
      rw [Nat.testBit_mod_two_pow, Nat.testBit_mod_two_pow, Nat.testBit_div_two_pow]
      by_cases hm : m < 8 * c
      · have h1 := numB_bit f c (by omega) m
        have hk : (B8 x.kn).getLsbD (d + m / 8) = true := by
          have := (in_mask hl x.kn).1 (hall.2 ha) (d + m / 8) (by omega) (by omega)
          exact this
        have h2 := (h.num (d + m / 8) (by omega) hk).2.2 (m % 8) (by omega)
        rw [← hf _ (by omega), show 8 * (d + m / 8) + m % 8 = m + 8 * d by omega] at h2
        rw [bv_bit] at h1 h2
        rw [h1, h2]
        simp [hm]
      · simp [hm]
    have hc : c = 1 ∨ c = 4 ∨ c = 8 := by unfold LaneOk at hl; omega
    have := num_eq hl x.bt (numB f c) hbit
    rw [lane_c, this]
    rcases hc with rfl | rfl | rfl <;> simp
  · rw [if_neg ha, if_neg (fun e => ha (hall.1 e)), lane_c]
    by_cases h8 : c = 8
    · subst h8
      have hd0 : d = 0 := by omega
      subst hd0
      have hpart : bits .and .u8 x.pt (laneF ((8 : Nat) : Int) ((0 : Nat) : Int)).m = (laneF ((8 : Nat) : Int) ((0 : Nat) : Int)).m ↔ partB f true 8 = true := by
        rw [in_mask hl, partB_iff]
        constructor
        · intro hh t ht
          obtain ⟨q, hq⟩ := h.ptr
          have hkn : ∀ t, t < 8 → (B8 x.kn).getLsbD t = false := fun t ht => by
            cases hk : (B8 x.kn).getLsbD t with
            | false => rfl
            | true => have := h.dis t ht hk; rw [hh t (by omega) (by omega)] at this; cases this
          have a0 := (hq 0 (by omega) (hkn 0 (by omega)) (hh 0 (by omega) (by omega))).1
          have at' := (hq t ht (hkn t ht) (hh t (by omega) (by omega))).1
          rw [hf t ht, hf 0 (by omega), Nat.zero_add, Nat.zero_add, a0, at']
          refine ⟨by omega, by omega, ?_⟩
          rw [Int.tmod_eq_emod_of_nonneg (by omega)]
          omega
        · intro hh t _ ht
          have := (hh t (by omega)).1
          rw [hf t (by omega), Nat.zero_add] at this
          exact (h.parted (by omega)).2 this
      by_cases hp : partB f true 8 = true
      · rw [if_pos ⟨hpart.2 hp, rfl⟩, if_pos ⟨rfl, hp⟩]
        have hh := (in_mask hl x.pt).1 (hpart.2 hp)
        obtain ⟨q, hq⟩ := h.ptr
        have hk0 : (B8 x.kn).getLsbD 0 = false := by
          cases hk : (B8 x.kn).getLsbD 0 with
          | false => rfl
          | true => have := h.dis 0 (by omega) hk; rw [hh 0 (by omega) (by omega)] at this; cases this
        obtain ⟨a0, a1⟩ := hq 0 (by omega) hk0 (hh 0 (by omega) (by omega))
        rw [hpv q (by rw [hf 0 (by omega), Nat.zero_add, a0]; simp), a1]
        rfl
      · rw [if_neg (fun e => hp (hpart.1 e.1)), if_neg (fun e => hp e.2)]
    · rw [if_neg (fun e => h8 (by have := e.2; omega)), if_neg (fun e => h8 e.1)]
/-- What the document's Load answers. -/
def fOf (rb : RB) (u : V) (t : Nat) : Int := (rb.bytes[u.n.toNat + t]?).getD (-1)
def pOf (ptrs : List V) (x : Int) : V := (ptrs[((x - 1000) / 8).toNat]?).getD noV
def loadN (N : RM) (c : Int) (u : V) : V × Bool :=
  if rightN N c u = true then
    match N.L[(u.b - 1).toNat]? with
    | none => (noV, false)
    | some rb => (loadG c.toNat (fOf rb u) (pOf N.ptrs (fOf rb u 0)), true)
  else (noV, false)
theorem rel_load {M : List AB} {N : RM} (h : MRel M N) (c : Int) (u : V) : loadM M c u = loadN N c u := by
  unfold loadM loadN
  rw [rel_right h]
  by_cases hr : rightN N c u = true
  · rw [if_pos hr, if_pos hr]
    obtain ⟨hc, _, _, k, rb, hub, hrb, hf, n0, n1, n2⟩ := rightN_some hr
    have ek : (u.b - 1).toNat = k := by omega
    simp only [ek]
    have hl := lt_of_get hrb
    rw [← h.len] at hl
    have hab := List.getElem?_eq_getElem hl
    have hR := h.blk k _ rb hab hrb
    rw [hab, hrb]
    simp only
    obtain ⟨hlane, e1, e2⟩ := lane_of hc n0 n2
    have hcd : 1 ≤ c.toNat ∧ (u.n % 8).toNat + c.toNat ≤ 8 := by unfold LaneOk at hlane; omega
    have hw := hR.words (by rw [hR.freed]; exact hf) (u.n / 8).toNat
    have := load_rel hw hlane (fOf rb u) (fun t ht => by
      unfold fOf ysOf
      rw [show 8 * (u.n / 8).toNat + ((u.n % 8).toNat + t) = u.n.toNat + t by omega]) (pOf N.ptrs (fOf rb u 0)) (fun q hq => by
      unfold pOf
      rw [hq, show (1000 + 8 * (q : Int) - 1000) / 8 = q by omega, Int.toNat_natCast])
    rw [e1, e2] at this
    rw [this]
  · rw [if_neg hr, if_neg hr]
theorem fOf_bound {M : List AB} {N : RM} (h : MRel M N) {k : Nat} {rb : RB} (hrb : N.L[k]? = some rb) (hf : rb.freed = false) (u : V) (t : Nat) : -1 ≤ fOf rb u t ∧ fOf rb u t ≤ 1008 + 8 * (N.ptrs.length : Int) := by
  have hl := lt_of_get hrb
  rw [← h.len] at hl
  have hR := h.blk k _ rb (List.getElem?_eq_getElem hl) hrb
  have hw := hR.words (by rw [hR.freed]; exact hf) ((u.n.toNat + t) / 8)
  have := hw.bound (t := (u.n.toNat + t) % 8) (by omega)
  unfold ysOf at this
  rw [show 8 * ((u.n.toNat + t) / 8) + (u.n.toNat + t) % 8 = u.n.toNat + t by omega] at this
  exact this
theorem rload_any {w : World} {base p : Nat} {R : Nat → Option Role} {N : RM} {M : List AB} (h : RMem w base p R N) (hrel : MRel M N) (hp : N.ptrs.length < 100000) (c uk un ub : Int) :
    Calls Try.prog 14 #[.pointer (some ⟨p, 0, none⟩), .int .i64 c, .agg #[.int .i64 uk, .int .i64 un, .int .i64 ub]] w (retV (loadN N c ⟨uk, un, ub⟩).1 (loadN N c ⟨uk, un, ub⟩).2 w) := by
  have hN := h
  have hR : ∀ r, rightN N c ⟨uk, un, ub⟩ = r → Hid (∀ W, Below w.heap.size w W → Calls Try.prog 37 #[.pointer (some ⟨p, 0, none⟩), .int .i64 c, .agg #[.int .i64 uk, .int .i64 un, .int .i64 ub]] W (retP (.bool r) W)) := fun r hr => by
    show ∀ W, _
    intro W hW
    have := right_anyN (hN.below hW) c uk un ub
    rw [hr] at this
    exact this
  by_cases hr' : rightN N c ⟨uk, un, ub⟩ = false
  · have e : loadN N c ⟨uk, un, ub⟩ = (noV, false) := by simp [loadN, hr']
    rw [e]
    exact rload_no p c uk un ub w (hR _ hr')
  have hr : rightN N c ⟨uk, un, ub⟩ = true := by simpa using hr'
  obtain ⟨hc, hgu, hku, k, rb, hub, hrb, hfr, n0, n1, n2⟩ := rightN_some hr
  simp only at hub n0 n1 n2 hku
  obtain ⟨nn, hnn⟩ : ∃ nn : Nat, un = nn := ⟨un.toNat, by omega⟩
  subst hku hnn
  have ek : (ub - 1).toNat = k := by omega
  have e : loadN N c ⟨2, nn, ub⟩ = (loadG c.toNat (fOf rb ⟨2, nn, ub⟩) (pOf N.ptrs (fOf rb ⟨2, nn, ub⟩ 0)), true) := by
    simp [loadN, hr, ek, hrb]
  rw [e]
  have hbd := fOf_bound hrel hrb hfr ⟨2, nn, ub⟩
  obtain ⟨a, cap, g, cur, a2, cap2, g2, cur2, hm⟩ := h
  obtain ⟨rfl, hgR, hh, _⟩ := hm.has hrb
  obtain ⟨bb, b1, b2, b3, b4⟩ := hm.blk k rb hrb
  have hlt := lt_of_get hrb
  have hlen := hm.len
  have hsz := hm.sz rb (List.mem_of_getElem? hrb)
  have hcell : ∀ i : Nat, (nn : Int) + i < rb.bytes.length → w.cell? ⟨bb, nn + i, none⟩ = some (.int .i64 (fOf rb ⟨2, nn, ub⟩ i)) := fun i hi => by
    have hg := List.getElem?_eq_getElem (l := rb.bytes) (i := nn + i) (by omega)
    refine heap_cell b4 ?_
    rw [intCells_get]
    simp only [fOf, Int.toNat_natCast, hg]
    rfl
  have hb64 : ∀ i, -10000000000000000 ≤ fOf rb ⟨2, nn, ub⟩ i ∧ fOf rb ⟨2, nn, ub⟩ i ≤ 10000000000000000 := fun i => by have := hbd i; omega
  rcases hc with rfl | rfl | rfl
  · exact rload_in1 p _ cap g k bb _ nn 2 ub (fOf rb ⟨2, nn, ub⟩) w _ _ (hR _ hr) hm.c0 (heap_cell hh b1) (by omega) (by omega) (by omega) (by omega) (by omega) hb64 (fun i hi => hcell i (by omega)) rfl
  · exact rload_in4 p _ cap g k bb _ nn 2 ub (fOf rb ⟨2, nn, ub⟩) w _ _ (hR _ hr) hm.c0 (heap_cell hh b1) (by omega) (by omega) (by omega) (by omega) (by omega) hb64 (fun i hi => hcell i (by omega)) rfl
  · refine rload_in8 p _ cap g k bb _ nn 2 ub (fOf rb ⟨2, nn, ub⟩) w _ _ g2 N.ptrs.length cap2 (hR _ hr) hm.c0 (heap_cell hh b1) (by omega) (by omega) (by omega) (by omega) (by omega) hb64 (fun i hi => hcell i (by omega)) rfl ?_
    show partB _ true 8 = true → _
    intro hpb
    have hl := lt_of_get hrb
    rw [← hrel.len] at hl
    have hRb := hrel.blk k _ rb (List.getElem?_eq_getElem hl) hrb
    have hw := hRb.words (by rw [hRb.freed]; exact hfr) (nn / 8)
    have hd : nn % 8 = 0 := by rw [Int.tmod_eq_emod_of_nonneg (by omega)] at n2; omega
    have hf0 : fOf rb ⟨2, nn, ub⟩ 0 = ysOf rb.bytes (nn / 8) 0 := by
      unfold fOf ysOf
      simp only [Int.toNat_natCast]
      rw [show nn + 0 = 8 * (nn / 8) + 0 by omega]
    have h1000 := ((partB_iff _ 8).1 hpb 0 (by omega)).1
    rw [hf0] at h1000
    have hpt := (hw.parted (t := 0) (by omega)).2 h1000
    have hk0 : (B8 ((M[k]'hl).wd (nn / 8)).kn).getLsbD 0 = false := by
      cases hk : (B8 ((M[k]'hl).wd (nn / 8)).kn).getLsbD 0 with
      | false => rfl
      | true => have := hw.dis 0 (by omega) hk; rw [hpt] at this; cases this
    obtain ⟨q, hq⟩ := hw.ptr
    obtain ⟨a0, a1⟩ := hq 0 (by omega) hk0 hpt
    have hql := lt_of_get a1
    have hf0' : fOf rb ⟨2, nn, ub⟩ 0 = 1000 + 8 * (q : Int) := by rw [hf0, a0]; simp
    have hpv : pOf N.ptrs (fOf rb ⟨2, nn, ub⟩ 0) = ⟨((M[k]'hl).wd (nn / 8)).k, ((M[k]'hl).wd (nn / 8)).n, ((M[k]'hl).wd (nn / 8)).b⟩ := by
      unfold pOf
      rw [hf0', show (1000 + 8 * (q : Int) - 1000) / 8 = q by omega, Int.toNat_natCast, a1]
      rfl
    rw [hpv, hf0']
    rcases hm.pts with ⟨h2, _⟩ | ⟨h2, _, h3, _⟩
    · rw [h2] at hql; simp at hql
    · obtain ⟨x0, x1, x2⟩ := hm.ptr q _ a1
      have c1 := hm.c1
      rw [h2] at c1
      refine ⟨q, ?_, by omega, by omega, c1, heap_cell h3 x0, heap_cell h3 x1, heap_cell h3 x2⟩
      rw [show 1000 + 8 * (q : Int) - 1000 = 8 * (q : Int) by omega, Int.tdiv_eq_ediv_of_nonneg (by omega)]
      omega
end Go.Proofs.Ytnklpccggbkknaa
