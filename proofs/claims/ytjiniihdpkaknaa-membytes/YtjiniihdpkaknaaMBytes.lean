/- For every int64: stored as 8 bytes it is read, byte by byte and in parts of 4, as its bytes and parts; put together byte by byte it is the number again: the statement MemBytes returns true. No condition. -/
import Derived.Test.YtjiniihdpkaknaaMAwake
import Derived.Test.YtjiniihdpkaknaaMMath
namespace Go.Proofs.Ytjiniihdpkaknaa
open Go.ChangeShapes Go.WideShapes Go.ChangeAt Go.RowKit Pl
set_option linter.unusedSimpArgs false
set_option linter.unusedVariables false

/-- The first i bytes of the word are those of n, and no others are numbers. -/
def WB (n : Int) (i : Nat) (x : WD) : Prop := (∀ t, t < 8 → (B8 x.kn).getLsbD t = decide (t < i)) ∧ (∀ t, t < 8 * i → (BV x.bt).getLsbD t = (BV n).getLsbD t)
theorem WB.load {n : Int} {i c d : Nat} {x : WD} (h : WB n i x) (hl : LaneOk c d) (hi : d + c ≤ i) : loadF x (laneF c d) = numF c (n / 2 ^ min (laneF c d).s.toNat 64) := by
  have h8 : d + c ≤ 8 := by unfold LaneOk at hl; omega
  unfold loadF
  rw [if_pos ((in_mask hl x.kn).2 fun t h1 h2 => by rw [h.1 t (by omega)]; simp; omega)]
  exact num_bits hl fun t h1 h2 => h.2 t (by omega)
def byteV (n : Int) (k : Nat) : Int := wrap64 (IntKind.i8.wrap (n / 2 ^ (8 * k)))
theorem byte_bits (n : Int) (k : Nat) (hk : k < 8) (t : Nat) (ht : t < 8) : (BV (byteV n k)).getLsbD t = (BV n).getLsbD (8 * k + t) := by
  have h1 := toNat_bv (byteV n k)
  have h2 := toNat_bv n
  have e : (BV (byteV n k)).toNat % 2 ^ 8 = (BV n).toNat / 2 ^ (8 * k) % 2 ^ 8 := by
    unfold byteV at h1 ⊢
    rw [i8w] at h1
    rw [i8w]
    generalize (BV n).toNat = N at *
    generalize (BV (wrap64 ((n / 2 ^ (8 * k) + 128) % 256 - 128))).toNat = A at *
    unfold wrap64 at h1
    match k, hk with
    | 0, _ => simp at h1 ⊢; omega
    | 1, _ => simp at h1 ⊢; omega
    | 2, _ => simp at h1 ⊢; omega
    | 3, _ => simp at h1 ⊢; omega
    | 4, _ => simp at h1 ⊢; omega
    | 5, _ => simp at h1 ⊢; omega
    | 6, _ => simp at h1 ⊢; omega
    | 7, _ => simp at h1 ⊢; omega
  have := congrArg (fun m => m.testBit t) e
  simp only [Nat.testBit_mod_two_pow, Nat.testBit_div_two_pow, ht, decide_true, Bool.true_and] at this
  rw [BitVec.getLsbD, BitVec.getLsbD, this, Nat.add_comm]
theorem WB.store {n : Int} {i : Nat} {x : WD} (h : WB n i x) (hi : i < 8) : WB n (i + 1) (stW x (laneF 1 i) ⟨1, byteV n i, 0⟩) := by
  have hl : LaneOk 1 i := .inl ⟨rfl, hi⟩
  refine ⟨fun t ht => ?_, fun t ht => ?_⟩
  · rw [show laneF 1 (i : Int) = laneF ((1 : Nat) : Int) (i : Int) from rfl, st_known hl x _ t ht, h.1 t ht]
    by_cases e : t = i
    · subst e; simp
    · have : ¬ (i ≤ t ∧ t < i + 1) := by omega
      rw [if_neg this]
      exact decide_eq_decide.2 (by omega)
  · rw [show laneF 1 (i : Int) = laneF ((1 : Nat) : Int) (i : Int) from rfl, st_bits hl x _ _ t (by omega)]
    by_cases e : 8 * i ≤ t ∧ t < 8 * i + 8 * 1
    · rw [if_pos e, byte_bits n i hi _ (by omega)]
      congr 1
      omega
    · rw [if_neg e]
      exact h.2 t (by omega)
def MB (n : Int) (i : Nat) (M : List AB) : Prop := ∃ wd : Nat → WD, M = [⟨16, false, false, wd⟩] ∧ WB n 8 (wd 0) ∧ WB n i (wd 1)
theorem right16 (wd : Nat → WD) (c a : Int) (hc : c = 1 ∨ c = 4 ∨ c = 8) (h0 : 0 ≤ a) (h1 : a ≤ 16 - c) (h2 : a.tmod c = 0) : rightK [⟨16, false, false, wd⟩] c ⟨2, a, 1⟩ = some 0 := by
  simp [rightK, findK, goodF, hc, h0, h1, h2]
theorem MB.load {n : Int} {i : Nat} {M : List AB} (h : MB n i M) (c d j : Nat) (a : Int) (ha : a = 8 * j + d) (hl : LaneOk c d) (hj : (j = 0 ∧ d + c ≤ 8) ∨ (j = 1 ∧ d + c ≤ i)) (h2 : a.tmod c = 0) :
    loadM M c ⟨2, a, 1⟩ = (numF c (n / 2 ^ min (laneF c d).s.toNat 64), true) := by
  obtain ⟨wd, rfl, w0, w1⟩ := h
  have h8 : d + c ≤ 8 := by unfold LaneOk at hl; omega
  have hc : (c : Int) = 1 ∨ (c : Int) = 4 ∨ (c : Int) = 8 := by unfold LaneOk at hl; omega
  have hr := right16 wd c a hc (by omega) (by omega) h2
  have e1 : (a / 8).toNat = j := by unfold LaneOk at hl; omega
  have e2 : a % 8 = (d : Int) := by unfold LaneOk at hl; omega
  simp only [loadM, hr, List.getElem?_cons_zero, e1, e2]
  rcases hj with ⟨rfl, hd⟩ | ⟨rfl, hd⟩
  · rw [w0.load hl hd]
  · rw [w1.load hl hd]
theorem MB.store {n : Int} {i : Nat} {M : List AB} (h : MB n i M) (hi : i < 8) : ∃ M', storeM M 1 ⟨2, 8 + (i : Int), 1⟩ ⟨1, byteV n i, 0⟩ = (M', true) ∧ MB n (i + 1) M' := by
  obtain ⟨wd, rfl, w0, w1⟩ := h
  have hr := right16 wd 1 (8 + (i : Int)) (.inl rfl) (by omega) (by omega) (Int.tmod_one _)
  have e1 : ((8 + (i : Int)) / 8).toNat = 1 := by omega
  have e2 : (8 + (i : Int)) % 8 = (i : Int) := by omega
  refine ⟨[setB ⟨16, false, false, wd⟩ 1 (stW (wd 1) (laneF 1 i) ⟨1, byteV n i, 0⟩)], ?_, updW wd 1 (stW (wd 1) (laneF 1 i) ⟨1, byteV n i, 0⟩), rfl, ?_, ?_⟩
  · simp only [storeM, hr, List.getElem?_cons_zero, e1, e2]
    simp [goodV, goodF]
  · simpa [updW] using w0
  · simpa [updW] using w1.store hi
theorem wb_zero (n : Int) : WB n 0 noW := ⟨fun t ht => by simp [noW, B8], fun t ht => by omega⟩
theorem MB.init (n : Int) : ∃ M', storeM (allocM [] 16).1 8 ⟨2, 0, 1⟩ ⟨1, n, 0⟩ = (M', true) ∧ MB n 0 M' := by
  refine ⟨[setB (newB 16) 0 (stW noW (laneF 8 0) ⟨1, n, 0⟩)], by kernel_rfl, updW (fun _ => noW) 0 (stW noW (laneF 8 0) ⟨1, n, 0⟩), rfl, ?_, ?_⟩
  · have hl : LaneOk 8 0 := .inr (.inr ⟨rfl, rfl⟩)
    refine ⟨fun t ht => ?_, fun t ht => ?_⟩
    · rw [show updW (fun _ => noW) 0 (stW noW (laneF 8 0) ⟨1, n, 0⟩) 0 = stW noW (laneF ((8 : Nat) : Int) ((0 : Nat) : Int)) ⟨1, n, 0⟩ from rfl, st_known hl _ _ t ht]
      simp [ht]
    · rw [show updW (fun _ => noW) 0 (stW noW (laneF 8 0) ⟨1, n, 0⟩) 0 = stW noW (laneF ((8 : Nat) : Int) ((0 : Nat) : Int)) ⟨1, n, 0⟩ from rfl, st_bits hl _ _ _ t (by omega)]
      simp
      omega
  · simpa [updW] using wb_zero n
theorem by_alloc : allocM [] 16 = ((allocM [] 16).1, 1, 0) := by kernel_rfl
theorem num1 (n : Int) (k : Nat) (hk : k < 8) : numF ((1 : Nat) : Int) (n / 2 ^ min (laneF ((1 : Nat) : Int) (k : Int)).s.toNat 64) = ⟨1, byteV n k, 0⟩ := by
  rw [lane_s, show min ((8 * k : Nat) : Int).toNat 64 = 8 * k by omega]
  rfl

end Go.Proofs.Ytjiniihdpkaknaa
