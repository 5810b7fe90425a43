/- Two pairs of memories that say the same: being the same says the same. -/
import Derived.Test.YtnklpccggbkknaaNRel3
import Derived.Test.YtnklpccggbkknaaNSame
namespace Go.Proofs.Ytnklpccggbkknaa
open Go.ChangeShapes Go.WideShapes Go.ChangeAt Go.RowKit Pl
set_option linter.unusedSimpArgs false
set_option linter.unusedVariables false

theorem b8_ext {a b : Int} (ha : 0 ≤ a ∧ a < 256) (hb : 0 ≤ b ∧ b < 256) (h : ∀ t, t < 8 → (B8 a).getLsbD t = (B8 b).getLsbD t) : a = b := by
  have e : B8 a = B8 b := BitVec.eq_of_getLsbD_eq (fun t ht => h t ht)
  have e2 := congrArg BitVec.toNat e
  unfold B8 at e2
  rw [BitVec.toNat_ofInt, BitVec.toNat_ofInt] at e2
  omega
theorem bv_ext {a b : Int} (ha : 0 ≤ a ∧ a < 18446744073709551616) (hb : 0 ≤ b ∧ b < 18446744073709551616) (h : ∀ t, t < 64 → (BV a).getLsbD t = (BV b).getLsbD t) : a = b := by
  have e : BV a = BV b := BitVec.eq_of_getLsbD_eq (fun t ht => h t ht)
  have e2 := congrArg BitVec.toNat e
  have h1 := toNat_bv a
  have h2 := toNat_bv b
  omega
theorem byte_ext {a b : Int} (ha : 0 ≤ a ∧ a < 256) (hb : 0 ≤ b ∧ b < 256) (h : ∀ s, s < 8 → (BV a).getLsbD s = (BV b).getLsbD s) : a = b := by
  refine bv_ext (by omega) (by omega) (fun t ht => ?_)
  by_cases h8 : t < 8
  · exact h t h8
  · have hz : ∀ c : Int, 0 ≤ c ∧ c < 256 → (BV c).getLsbD t = false := fun c hc => by
      rw [bv_bit]
      apply Nat.testBit_lt_two_pow
      have h1 := toNat_bv c
      have h2 : (2 : Nat) ^ 8 ≤ 2 ^ t := Nat.pow_le_pow_right (by omega) (by omega)
      omega
    rw [hz a ha, hz b hb]
theorem part_of {N : RM} {x : WD} {ys : Nat → Int} (h : WRel N.ptrs x ys) {t : Nat} (ht : t < 8) :
    ((B8 x.kn).getLsbD t = true → partN N (ys t) = (ys t, noV)) ∧ ((B8 x.kn).getLsbD t = false → (B8 x.pt).getLsbD t = true → partN N (ys t) = (1000 + (t : Int), ⟨x.k, x.n, x.b⟩)) ∧ ((B8 x.kn).getLsbD t = false → (B8 x.pt).getLsbD t = false → partN N (ys t) = (-1, noV)) := by
  refine ⟨fun hk => ?_, fun hk hp => ?_, fun hk hp => ?_⟩
  · have := (h.known ht).1 hk
    unfold partN
    rw [if_pos (by omega)]
  · obtain ⟨q, hq⟩ := h.ptr
    obtain ⟨h1, h2⟩ := hq t ht hk hp
    unfold partN
    rw [h1, if_neg (by omega), show (1000 + 8 * (q : Int) + t - 1000) / 8 = q by omega, Int.toNat_natCast, h2, show (1000 + 8 * (q : Int) + t) % 8 = t by omega]
    rfl
  · have := h.un t ht hk hp
    unfold partN
    rw [this]
    rfl
theorem word_eq {A B : RM} {x y : WD} {ys zs : Nat → Int} (hx : WRel A.ptrs x ys) (hy : WRel B.ptrs y zs) : x = y ↔ ∀ t, t < 8 → partN A (ys t) = partN B (zs t) := by
  constructor
  · intro e t ht
    subst e
    obtain ⟨a1, a2, a3⟩ := part_of hx ht
    obtain ⟨b1, b2, b3⟩ := part_of hy ht
    cases hk : (B8 x.kn).getLsbD t with
    | true =>
      rw [a1 hk, b1 hk]
      obtain ⟨p1, p2, p3⟩ := hx.num t ht hk
      obtain ⟨q1, q2, q3⟩ := hy.num t ht hk
      rw [byte_ext ⟨p1, p2⟩ ⟨q1, q2⟩ (fun s hs => (p3 s hs).symm.trans (q3 s hs))]
    | false =>
      cases hp : (B8 x.pt).getLsbD t with
      | true => rw [a2 hk hp, b2 hk hp]
      | false => rw [a3 hk hp, b3 hk hp]
  · intro h
    have hkey : ∀ t, t < 8 → (B8 x.kn).getLsbD t = (B8 y.kn).getLsbD t ∧ (B8 x.pt).getLsbD t = (B8 y.pt).getLsbD t := fun t ht => by
      obtain ⟨a1, a2, a3⟩ := part_of hx ht
      obtain ⟨b1, b2, b3⟩ := part_of hy ht
      have hh := h t ht
      cases hk : (B8 x.kn).getLsbD t with
      | true =>
        have hr := (hx.known ht).1 hk
        have hpx := hx.dis t ht hk
        rw [a1 hk] at hh
        cases hk' : (B8 y.kn).getLsbD t with
        | true => exact ⟨rfl, hpx.trans (hy.dis t ht hk').symm⟩
        | false =>
          cases hp' : (B8 y.pt).getLsbD t with
          | true => rw [b2 hk' hp'] at hh; have := congrArg Prod.fst hh; simp only at this; omega
          | false => rw [b3 hk' hp'] at hh; have := congrArg Prod.fst hh; simp only at this; omega
      | false =>
        cases hp : (B8 x.pt).getLsbD t with
        | true =>
          rw [a2 hk hp] at hh
          cases hk' : (B8 y.kn).getLsbD t with
          | true => have hr := (hy.known ht).1 hk'; rw [b1 hk'] at hh; have := congrArg Prod.fst hh; simp only at this; omega
          | false =>
            cases hp' : (B8 y.pt).getLsbD t with
            | true => exact ⟨rfl, rfl⟩
            | false => rw [b3 hk' hp'] at hh; have := congrArg Prod.fst hh; simp only at this; omega
        | false =>
          rw [a3 hk hp] at hh
          cases hk' : (B8 y.kn).getLsbD t with
          | true => have hr := (hy.known ht).1 hk'; rw [b1 hk'] at hh; have := congrArg Prod.fst hh; simp only at this; omega
          | false =>
            cases hp' : (B8 y.pt).getLsbD t with
            | true => rw [b2 hk' hp'] at hh; have := congrArg Prod.fst hh; simp only at this; omega
            | false => exact ⟨rfl, rfl⟩
    have ek : x.kn = y.kn := b8_ext hx.rk hy.rk (fun t ht => (hkey t ht).1)
    have ep : x.pt = y.pt := b8_ext hx.rp hy.rp (fun t ht => (hkey t ht).2)
    have eb : x.bt = y.bt := by
      refine bv_ext hx.rb hy.rb (fun m hm => ?_)
      have hd : m = 8 * (m / 8) + m % 8 := by omega
      have ht : m / 8 < 8 := by omega
      rw [hd]
      cases hk : (B8 x.kn).getLsbD (m / 8) with
      | true =>
        have hk' := (hkey _ ht).1
        rw [hk] at hk'
        obtain ⟨p1, p2, p3⟩ := hx.num _ ht hk
        obtain ⟨q1, q2, q3⟩ := hy.num _ ht hk'.symm
        have hh := h _ ht
        rw [(part_of hx ht).1 hk, (part_of hy ht).1 hk'.symm] at hh
        have he := congrArg Prod.fst hh
        simp only at he
        rw [p3 _ (by omega), q3 _ (by omega), he]
      | false =>
        have hk' := (hkey _ ht).1
        rw [hk] at hk'
        rw [hx.nil _ ht hk _ (by omega), hy.nil _ ht hk'.symm _ (by omega)]
    have ev : x.k = y.k ∧ x.n = y.n ∧ x.b = y.b := by
      by_cases h0 : x.pt = 0
      · have z1 := hx.zp h0
        have z2 := hy.zp (ep ▸ h0)
        omega
      · have hex : ∃ t, t < 8 ∧ (B8 x.pt).getLsbD t = true := by
          apply Classical.byContradiction
          intro hno
          apply h0
          refine b8_ext hx.rp (by omega) (fun t ht => ?_)
          rw [b8_zero]
          cases hp : (B8 x.pt).getLsbD t with
          | false => rfl
          | true => exact absurd ⟨t, ht, hp⟩ hno
        obtain ⟨t, ht, hp⟩ := hex
        have hk : (B8 x.kn).getLsbD t = false := by
          cases hk : (B8 x.kn).getLsbD t with
          | false => rfl
          | true => have := hx.dis t ht hk; rw [hp] at this; cases this
        have hh := h t ht
        rw [(part_of hx ht).2.1 hk hp, (part_of hy ht).2.1 ((hkey t ht).1 ▸ hk) ((hkey t ht).2 ▸ hp)] at hh
        have he := congrArg Prod.snd hh
        simp only [V.mk.injEq] at he
        exact he
    obtain ⟨kn, pt, bt, k, n, b⟩ := x
    obtain ⟨kn', pt', bt', k', n', b'⟩ := y
    simp only at ek ep eb ev
    obtain ⟨e1, e2, e3⟩ := ev
    subst ek ep eb e1 e2 e3
    rfl
theorem blk_eq {A B : RM} {a b : AB} {x y : RB} (hx : BRel A.ptrs a x) (hy : BRel B.ptrs b y) : SameB a b ↔ BlkEq A B x y := by
  unfold SameB BlkEq
  rw [hx.size, hy.size, hx.freed, hy.freed]
  have key : x.freed = y.freed → x.bytes.length = y.bytes.length → x.freed = false → (EqW a.wd b.wd 0 a.nw ↔ ∀ t, t < x.bytes.length → PartEq A B x y t) := fun hf hl h0 => by
    have wx := hx.words (hx.freed.trans h0)
    have wy := hy.words (hy.freed.trans (hf ▸ h0))
    have hnw : a.nw = (x.bytes.length + 7) / 8 := by unfold AB.nw; rw [hx.size]
    constructor
    · intro he t ht u v hu hv
      have h1 := (word_eq (wx (t / 8)) (wy (t / 8))).1 (he (t / 8) (by omega) (by omega)) (t % 8) (by omega)
      unfold ysOf at h1
      rw [show 8 * (t / 8) + t % 8 = t by omega, hu, hv] at h1
      exact h1
    · intro he i _ hi
      refine (word_eq (wx i) (wy i)).2 (fun t ht => ?_)
      unfold ysOf
      by_cases hlt : 8 * i + t < x.bytes.length
      · have g1 := List.getElem?_eq_getElem hlt
        have g2 := List.getElem?_eq_getElem (show 8 * i + t < y.bytes.length by omega)
        rw [g1, g2]
        exact he _ hlt _ _ g1 g2
      · rw [List.getElem?_eq_none (by omega), List.getElem?_eq_none (by omega)]
        rfl
  constructor
  · rintro ⟨h1, h2, h3⟩
    exact ⟨h2, h1, fun h0 => (key h2 h1 h0).1 (h3 h0)⟩
  · rintro ⟨h1, h2, h3⟩
    exact ⟨h2, h1, fun h0 => (key h1 h2 h0).2 (h3 h0)⟩
theorem same_eq {M M' : List AB} {A B : RM} (h : MRel M A) (h' : MRel M' B) : SameM M M' ↔ SameN A B := by
  unfold SameM SameN
  rw [h.len, h'.len]
  constructor
  · rintro ⟨h1, h2⟩
    refine ⟨h1, fun k x y hx hy => ?_⟩
    have l1 := lt_of_get hx
    rw [← h.len] at l1
    have l2 := lt_of_get hy
    rw [← h'.len] at l2
    exact (blk_eq (h.blk k _ x (List.getElem?_eq_getElem l1) hx) (h'.blk k _ y (List.getElem?_eq_getElem l2) hy)).1 (h2 k _ _ (List.getElem?_eq_getElem l1) (List.getElem?_eq_getElem l2))
  · rintro ⟨h1, h2⟩
    refine ⟨h1, fun k a b ha hb => ?_⟩
    obtain ⟨x, hx, hr⟩ := h.get ha
    obtain ⟨y, hy, hr'⟩ := h'.get hb
    exact (blk_eq hr hr').2 (h2 k x y hx hy)
theorem SameM.symm {M M' : List AB} (h : SameM M M') : SameM M' M := by
  refine ⟨h.1.symm, fun k a b ha hb => ?_⟩
  obtain ⟨h1, h2, h3⟩ := h.2 k b a hb ha
  refine ⟨h1.symm, h2.symm, fun hf t t1 t2 => (h3 (h2.trans hf) t t1 (by unfold AB.nw at t2 ⊢; rw [h1]; exact t2)).symm⟩
theorem ok_of {M : List AB} {A : RM} (h : MRel M A) (hp : A.ptrs.length < 100000) : OkN A := by
  intro k x hx hf t u hu
  have l := lt_of_get hx
  rw [← h.len] at l
  have hr := h.blk k _ x (List.getElem?_eq_getElem l) hx
  have hw := hr.words (hr.freed.trans hf) (t / 8)
  have hy : ysOf x.bytes (t / 8) (t % 8) = u := by
    unfold ysOf
    rw [show 8 * (t / 8) + t % 8 = t by omega, hu]
    rfl
  have ht : t % 8 < 8 := by omega
  have hb := hw.bound ht
  rw [hy] at hb
  refine ⟨?_, by omega⟩
  cases hk : (B8 ((M[k]'l).wd (t / 8)).kn).getLsbD (t % 8) with
  | true => have := (hw.known ht).1 hk; rw [hy] at this; exact .inl (by omega)
  | false =>
    cases hpt : (B8 ((M[k]'l).wd (t / 8)).pt).getLsbD (t % 8) with
    | true =>
      obtain ⟨q, hq⟩ := hw.ptr
      obtain ⟨h1, h2⟩ := hq _ ht hk hpt
      rw [hy] at h1
      have := lt_of_get h2
      exact .inr (by omega)
    | false => have := hw.un _ ht hk hpt; rw [hy] at this; exact .inl (by omega)
end Go.Proofs.Ytnklpccggbkknaa
