/- The plain mathematics between the program's words and the document's bytes. -/
import Derived.Test.YtnklpccggbkknaaMApartM
import Derived.Test.YtnklpccggbkknaaNStore2
namespace Go.Proofs.Ytnklpccggbkknaa
open Go.ChangeShapes Go.WideShapes Go.ChangeAt Go.RowKit Pl
set_option linter.unusedSimpArgs false
set_option linter.unusedVariables false

/-- A word says what eight of the document's bytes say. -/
structure WRel (ptrs : List V) (x : WD) (ys : Nat → Int) : Prop where
  num : ∀ t, t < 8 → (B8 x.kn).getLsbD t = true → 0 ≤ ys t ∧ ys t < 256 ∧ ∀ s, s < 8 → (BV x.bt).getLsbD (8 * t + s) = (BV (ys t)).getLsbD s
  nil : ∀ t, t < 8 → (B8 x.kn).getLsbD t = false → ∀ s, s < 8 → (BV x.bt).getLsbD (8 * t + s) = false
  ptr : ∃ q : Nat, ∀ t : Nat, t < 8 → (B8 x.kn).getLsbD t = false → (B8 x.pt).getLsbD t = true → ys t = 1000 + 8 * (q : Int) + t ∧ ptrs[q]? = some ⟨x.k, x.n, x.b⟩
  un : ∀ t, t < 8 → (B8 x.kn).getLsbD t = false → (B8 x.pt).getLsbD t = false → ys t = -1
  dis : ∀ t, t < 8 → (B8 x.kn).getLsbD t = true → (B8 x.pt).getLsbD t = false
  rk : 0 ≤ x.kn ∧ x.kn < 256
  rp : 0 ≤ x.pt ∧ x.pt < 256
  rb : 0 ≤ x.bt ∧ x.bt < 18446744073709551616
  zp : x.pt = 0 → x.k = 0 ∧ x.n = 0 ∧ x.b = 0
theorem WRel.more {ptrs ptrs' : List V} {x : WD} {ys : Nat → Int} (h : WRel ptrs x ys) (hp : ∀ (q : Nat) (v : V), ptrs[q]? = some v → ptrs'[q]? = some v) : WRel ptrs' x ys :=
  ⟨h.num, h.nil, by obtain ⟨q, hq⟩ := h.ptr; exact ⟨q, fun t h1 h2 h3 => ⟨(hq t h1 h2 h3).1, hp _ _ (hq t h1 h2 h3).2⟩⟩, h.un, h.dis, h.rk, h.rp, h.rb, h.zp⟩
theorem WRel.congr {ptrs : List V} {x : WD} {ys zs : Nat → Int} (h : WRel ptrs x ys) (e : ∀ t, t < 8 → zs t = ys t) : WRel ptrs x zs :=
  ⟨fun t h1 h2 => by rw [e t h1]; exact h.num t h1 h2, h.nil, by obtain ⟨q, hq⟩ := h.ptr; exact ⟨q, fun t h1 h2 h3 => by rw [e t h1]; exact hq t h1 h2 h3⟩, fun t h1 h2 h3 => by rw [e t h1]; exact h.un t h1 h2 h3, h.dis, h.rk, h.rp, h.rb, h.zp⟩
theorem b8_zero (t : Nat) : (B8 0).getLsbD t = false := by simp [B8]
theorem bv_zero (t : Nat) : (BV 0).getLsbD t = false := by simp [BV]
theorem rel_no (ptrs : List V) (ys : Nat → Int) (hy : ∀ t, t < 8 → ys t = -1) : WRel ptrs noW ys := by
  refine ⟨fun t _ h => ?_, fun t _ _ s _ => bv_zero _, ⟨0, fun t _ _ h => ?_⟩, fun t ht _ _ => hy t ht, fun t _ _ => b8_zero t, by simp [noW], by simp [noW], by simp [noW], fun _ => by simp [noW]⟩
  · rw [show noW.kn = 0 from rfl, b8_zero] at h; cases h
  · rw [show noW.pt = 0 from rfl, b8_zero] at h; cases h
set_option maxRecDepth 100000 in
theorem low_tab : ∀ c : Fin 9, ∀ t : Fin 8, (B8 (lowF (c.val : Int))).getLsbD t.val = decide (t.val < c.val) := of_decide_eq_true (by kernel_rfl)
theorem low_bit {c t : Nat} (hc : c ≤ 8) (ht : t < 8) : (B8 (lowF (c : Int))).getLsbD t = decide (t < c) := low_tab ⟨c, by omega⟩ ⟨t, ht⟩
theorem rel_zero (ptrs : List V) (z : Int) (ys : Nat → Int) (hy : ∀ t : Nat, t < 8 → ys t = if (t : Int) < z then 0 else -1) : WRel ptrs (zeroW z) ys := by
  obtain ⟨c, hc, hcz⟩ : ∃ c : Nat, c ≤ 8 ∧ (if 8 < z then 8 else if 0 < z then z else 0) = (c : Int) := by
    by_cases h8 : 8 < z
    · exact ⟨8, by omega, by simp [h8]⟩
    · by_cases h0 : 0 < z
      · exact ⟨z.toNat, by omega, by simp [h8, h0]; omega⟩
      · exact ⟨0, by omega, by simp [h8, h0]⟩
  have hin : ∀ t : Nat, t < 8 → ((t : Int) < z ↔ t < c) := fun t ht => by
    by_cases h8 : 8 < z
    · rw [if_pos h8] at hcz; omega
    · by_cases h0 : 0 < z
      · rw [if_neg h8, if_pos h0] at hcz; omega
      · rw [if_neg h8, if_neg h0] at hcz; omega
  have hk : (zeroW z).kn = lowF (c : Int) := by unfold zeroW; rw [hcz]
  refine ⟨fun t ht h => ?_, fun t _ _ s _ => bv_zero _, ⟨0, fun t _ _ h => ?_⟩, fun t ht h _ => ?_, fun t _ _ => b8_zero t, ?_, by simp [zeroW], by simp [zeroW], fun _ => by simp [zeroW]⟩
  · rw [hk, low_bit hc ht] at h
    have h' : t < c := by simpa using h
    rw [hy t ht, if_pos ((hin t ht).2 h')]
    refine ⟨by omega, by omega, fun s _ => ?_⟩
    rw [show (zeroW z).bt = 0 from rfl, bv_zero, bv_zero]
  · rw [show (zeroW z).pt = 0 from rfl, b8_zero] at h; cases h
  · rw [hk, low_bit hc ht] at h
    have h' : ¬ t < c := by simpa using h
    rw [hy t ht, if_neg (fun e => h' ((hin t ht).1 e))]
  · rw [hk]; unfold lowF; omega
/-- A byte of a stored Int. -/
theorem byte_val (n : Int) (j : Nat) : bits .and .i64 (n / 2 ^ (8 * j)) 255 = (n / 2 ^ (8 * j)) % 256 := and_255 _
theorem bv_bit (n : Int) (m : Nat) : (BV n).getLsbD m = (BV n).toNat.testBit m := rfl
theorem byte_bits (n : Int) (j s : Nat) (hj : j < 8) (hs : s < 8) : (BV (bits .and .i64 (n / 2 ^ (8 * j)) 255)).getLsbD s = (BV n).getLsbD (8 * j + s) := by
  rw [byte_val, bv_bit, bv_bit]
  have e : (BV ((n / 2 ^ (8 * j)) % 256)).toNat = (BV n).toNat / 2 ^ (8 * j) % 2 ^ 8 := by
    have h1 := toNat_bv ((n / 2 ^ (8 * j)) % 256)
    have h2 := toNat_bv n
    generalize (BV ((n / 2 ^ (8 * j)) % 256)).toNat = A at *
    generalize (BV n).toNat = B at *
    match j, hj with
    | 0, _ => simp at h1 ⊢; omega
    | 1, _ => simp at h1 ⊢; omega
    | 2, _ => simp at h1 ⊢; omega
    | 3, _ => simp at h1 ⊢; omega
    | 4, _ => simp at h1 ⊢; omega
    | 5, _ => simp at h1 ⊢; omega
    | 6, _ => simp at h1 ⊢; omega
    | 7, _ => simp at h1 ⊢; omega
  rw [e, Nat.testBit_mod_two_pow, Nat.testBit_div_two_pow]
  simp [hs, Nat.add_comm]
theorem st_part {c d : Nat} (h : LaneOk c d) (x : WD) (v : V) (hv : v.k ≠ 2) (t : Nat) (ht : t < 8) : (B8 (stW x (laneF c d) v).pt).getLsbD t = if d ≤ t ∧ t < d + c then false else (B8 x.pt).getLsbD t := by
  have e : (stW x (laneF c d) v).pt = bits .andNot .u8 x.pt (laneF c d).m := by
    unfold stW
    by_cases h1 : v.k = 1
    · rw [if_pos h1]; simp only; rw [fg_pt]
    · rw [if_neg h1, if_neg hv, fg_pt]
  rw [e, andNot8, b8_nat, BitVec.getLsbD_and, BitVec.getLsbD_not, lane_m h]
  by_cases hin : d ≤ t ∧ t < d + c <;> simp [hin, ht]
theorem st_clear {c d : Nat} (h : LaneOk c d) (x : WD) (v : V) (hv : v.k ≠ 1) (m : Nat) (hm : 8 * d ≤ m ∧ m < 8 * d + 8 * c) : (BV (stW x (laneF c d) v).bt).getLsbD m = false := by
  have e : (stW x (laneF c d) v).bt = (fgW x (laneF c d).m (laneF c d).w).bt := by
    unfold stW
    rw [if_neg hv]
    split <;> rfl
  rw [e, fg_bt, andNot64, bv_nat, BitVec.getLsbD_and, BitVec.getLsbD_not, lane_w h]
  simp [hm]
theorem fg_rng (x : WD) (m w : Int) : (0 ≤ (fgW x m w).kn ∧ (fgW x m w).kn < 256) ∧ (0 ≤ (fgW x m w).bt ∧ (fgW x m w).bt < 18446744073709551616) ∧ (0 ≤ (fgW x m w).pt ∧ (fgW x m w).pt < 256) := by
  have e1 : (fgW x m w).kn = bits .andNot .u8 x.kn m := by unfold fgW; split <;> rfl
  rw [e1, fg_bt, fg_pt, andNot8, andNot64, andNot8]
  have h1 := (B8 x.kn &&& ~~~ B8 m).isLt
  have h2 := (BV x.bt &&& ~~~ BV w).isLt
  have h3 := (B8 x.pt &&& ~~~ B8 m).isLt
  omega
theorem st_rng {c d : Nat} (h : LaneOk c d) (x : WD) (v : V) : (0 ≤ (stW x (laneF c d) v).kn ∧ (stW x (laneF c d) v).kn < 256) ∧ (0 ≤ (stW x (laneF c d) v).bt ∧ (stW x (laneF c d) v).bt < 18446744073709551616) ∧ (0 ≤ (stW x (laneF c d) v).pt ∧ (stW x (laneF c d) v).pt < 256) := by
  have hf := fg_rng x (laneF c d).m (laneF c d).w
  have hm := lane_mr h
  unfold stW
  by_cases h1 : v.k = 1
  · rw [if_pos h1]
    simp only
    rw [or8, or64]
    have h2 := (B8 (fgW x (laneF c d).m (laneF c d).w).kn ||| B8 (laneF c d).m).isLt
    have h3 := (BV (fgW x (laneF c d).m (laneF c d).w).bt ||| BV (bits .and .u64 (shF v.n (laneF c d).s) (laneF c d).w)).isLt
    refine ⟨?_, ?_, hf.2.2⟩ <;> omega
  · rw [if_neg h1]
    by_cases h2 : v.k = 2
    · rw [if_pos h2]
      exact ⟨hf.1, hf.2.1, hm⟩
    · rw [if_neg h2]
      exact hf
theorem fg_ptr (x : WD) (m w : Int) : ((fgW x m w).pt = 0 → (fgW x m w).k = 0 ∧ (fgW x m w).n = 0 ∧ (fgW x m w).b = 0) ∧ ((fgW x m w).pt ≠ 0 → (fgW x m w).k = x.k ∧ (fgW x m w).n = x.n ∧ (fgW x m w).b = x.b) := by
  unfold fgW
  split
  · exact ⟨fun _ => ⟨rfl, rfl, rfl⟩, fun h => absurd rfl h⟩
  · rename_i h
    exact ⟨fun e => absurd e h, fun _ => ⟨rfl, rfl, rfl⟩⟩
theorem st_ptr (x : WD) (l : LN) (v : V) (hv : v.k ≠ 2) : ((stW x l v).pt = 0 → (stW x l v).k = 0 ∧ (stW x l v).n = 0 ∧ (stW x l v).b = 0) ∧ ((stW x l v).pt ≠ 0 → (stW x l v).k = x.k ∧ (stW x l v).n = x.n ∧ (stW x l v).b = x.b) := by
  have h := fg_ptr x l.m l.w
  unfold stW
  by_cases h1 : v.k = 1
  · rw [if_pos h1]; exact h
  · rw [if_neg h1, if_neg hv]; exact h
def byteOf (n2 : Nat) (v : V) (j : Nat) : Int := if v.k = 2 then 1000 + 8 * (n2 : Int) + j else if v.k = 1 then bits .and .i64 (v.n / 2 ^ (8 * j)) 255 else -1
/-- A store keeps it: no pointer. -/
theorem WRel.plain {ptrs : List V} {x : WD} {ys : Nat → Int} {c d : Nat} (h : WRel ptrs x ys) (hl : LaneOk c d) (v : V) (hv : v.k ≠ 2) (n2 : Nat) : WRel ptrs (stW x (laneF c d) v) (fun t => if d ≤ t ∧ t < d + c then byteOf n2 v (t - d) else ys t) := by
  have hcd : 1 ≤ c ∧ d + c ≤ 8 := by unfold LaneOk at hl; omega
  obtain ⟨r1, r2, r3⟩ := st_rng hl x v
  obtain ⟨p1, p2⟩ := st_ptr x (laneF c d) v hv
  refine ⟨fun t ht hk => ?_, fun t ht hk s hs => ?_, ?_, fun t ht hk hp => ?_, fun t ht hk => ?_, r1, r3, r2, p1⟩
  · rw [st_known hl x v t ht] at hk
    by_cases hin : d ≤ t ∧ t < d + c
    · rw [if_pos hin] at hk
      have h1 : v.k = 1 := by simpa using hk
      simp only [if_pos hin, byteOf, if_neg hv, if_pos h1]
      refine ⟨by rw [byte_val]; omega, by rw [byte_val]; omega, fun s hs => ?_⟩
      rw [byte_bits _ _ _ (by omega) hs]
      obtain ⟨k, n, b⟩ := v
      simp only at h1
      subst h1
      rw [st_bits hl x n b _ (by omega), if_pos (by omega)]
      congr 1
      omega
    · rw [if_neg hin] at hk
      simp only [if_neg hin]
      obtain ⟨a1, a2, a3⟩ := h.num t ht hk
      exact ⟨a1, a2, fun s hs => by rw [st_out hl x v _ (by omega) (by omega)]; exact a3 s hs⟩
  · rw [st_known hl x v t ht] at hk
    by_cases hin : d ≤ t ∧ t < d + c
    · rw [if_pos hin] at hk
      have h1 : v.k ≠ 1 := by simpa using hk
      exact st_clear hl x v h1 _ (by omega)
    · rw [if_neg hin] at hk
      rw [st_out hl x v _ (by omega) (by omega)]
      exact h.nil t ht hk s hs
  · obtain ⟨q, hq⟩ := h.ptr
    refine ⟨q, fun t ht hk hp => ?_⟩
    rw [st_part hl x v hv t ht] at hp
    by_cases hin : d ≤ t ∧ t < d + c
    · rw [if_pos hin] at hp; cases hp
    · rw [if_neg hin] at hp
      rw [st_known hl x v t ht, if_neg hin] at hk
      have hne : (stW x (laneF c d) v).pt ≠ 0 := fun e => by
        have := st_part hl x v hv t ht
        rw [if_neg hin, e, b8_zero, hp] at this
        cases this
      obtain ⟨k1, k2, k3⟩ := p2 hne
      simp only [if_neg hin]
      rw [k1, k2, k3]
      exact hq t ht hk hp
  · rw [st_known hl x v t ht] at hk
    rw [st_part hl x v hv t ht] at hp
    by_cases hin : d ≤ t ∧ t < d + c
    · rw [if_pos hin] at hk
      have h1 : v.k ≠ 1 := by simpa using hk
      simp only [if_pos hin, byteOf, if_neg hv, if_neg h1]
    · rw [if_neg hin] at hk hp
      simp only [if_neg hin]
      exact h.un t ht hk hp
  · rw [st_known hl x v t ht] at hk
    rw [st_part hl x v hv t ht]
    by_cases hin : d ≤ t ∧ t < d + c
    · rw [if_pos hin]
    · rw [if_neg hin] at hk ⊢
      exact h.dis t ht hk
/-- A store keeps it: a pointer. -/
theorem WRel.point {ptrs : List V} {x : WD} {ys : Nat → Int} (h : WRel ptrs x ys) (v : V) (hv : v.k = 2) : WRel (ptrs ++ [v]) (stW x (laneF 8 0) v) (fun t => if 0 ≤ t ∧ t < 0 + 8 then byteOf ptrs.length v (t - 0) else ys t) := by
  have hl : LaneOk 8 0 := .inr (.inr ⟨rfl, rfl⟩)
  obtain ⟨r1, r2, r3⟩ := st_rng hl x v
  have hkn : ∀ t, t < 8 → (B8 (stW x (laneF ((8 : Nat) : Int) ((0 : Nat) : Int)) v).kn).getLsbD t = false := fun t ht => by
    rw [st_known hl x v t ht, if_pos (by omega)]
    simp [hv]
  have hpt : (stW x (laneF 8 0) v).pt = (laneF 8 0).m := by unfold stW; rw [if_neg (by omega), if_pos hv]
  have hp : ∀ t, t < 8 → (B8 (stW x (laneF ((8 : Nat) : Int) ((0 : Nat) : Int)) v).pt).getLsbD t = true := fun t ht => by
    have e : (stW x (laneF ((8 : Nat) : Int) ((0 : Nat) : Int)) v).pt = (laneF ((8 : Nat) : Int) ((0 : Nat) : Int)).m := hpt
    rw [e, lane_m hl]
    simp
    omega
  refine ⟨fun t ht hk => ?_, fun t ht hk s hs => ?_, ⟨ptrs.length, fun t ht hk hp => ?_⟩, fun t ht hk hp' => ?_, fun t ht hk => ?_, r1, r3, r2, fun e => ?_⟩
  · have := hkn t ht; rw [show ((8 : Nat) : Int) = 8 from rfl, show ((0 : Nat) : Int) = 0 from rfl, hk] at this; cases this
  · exact st_clear hl x v (by omega) _ (by omega)
  · simp only [Nat.zero_le, true_and, Nat.zero_add, if_pos ht, Nat.sub_zero, byteOf, if_pos hv]
    have e : (stW x (laneF 8 0) v).k = v.k ∧ (stW x (laneF 8 0) v).n = v.n ∧ (stW x (laneF 8 0) v).b = v.b := by
      unfold stW
      rw [if_neg (by omega), if_pos hv]
      exact ⟨rfl, rfl, rfl⟩
    rw [e.1, e.2.1, e.2.2]
    simp
  · have := hp t ht; rw [show ((8 : Nat) : Int) = 8 from rfl, show ((0 : Nat) : Int) = 0 from rfl, hp'] at this; cases this
  · have := hkn t ht; rw [show ((8 : Nat) : Int) = 8 from rfl, show ((0 : Nat) : Int) = 0 from rfl, hk] at this; cases this
  · have := hp 0 (by omega)
    rw [show ((8 : Nat) : Int) = 8 from rfl, show ((0 : Nat) : Int) = 0 from rfl, e, b8_zero] at this
    cases this
end Go.Proofs.Ytnklpccggbkknaa
