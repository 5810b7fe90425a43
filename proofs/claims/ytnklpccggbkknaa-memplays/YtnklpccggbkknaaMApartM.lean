/- The plain mathematics of MemApart: what is stored is loaded; what lies apart is loaded as before. -/
import Derived.Test.YtnklpccggbkknaaMMath
namespace Go.Proofs.Ytnklpccggbkknaa
open Go.ChangeShapes Go.WideShapes Go.ChangeAt Go.RowKit Pl
set_option linter.unusedSimpArgs false
set_option linter.unusedVariables false

theorem fg_bt (x : WD) (m w : Int) : (fgW x m w).bt = bits .andNot .u64 x.bt w := by unfold fgW; split <;> rfl
theorem fg_pt (x : WD) (m w : Int) : (fgW x m w).pt = bits .andNot .u8 x.pt m := by
  unfold fgW
  split
  · rename_i h; exact h.symm
  · rfl
/-- Bits outside the lane stay. -/
theorem st_out {c d : Nat} (h : LaneOk c d) (x : WD) (v : V) (t : Nat) (ht : t < 64) (hn : ¬ (8 * d ≤ t ∧ t < 8 * d + 8 * c)) : (BV (stW x (laneF c d) v).bt).getLsbD t = (BV x.bt).getLsbD t := by
  by_cases h1 : v.k = 1
  · obtain ⟨k, n, b⟩ := v
    simp only at h1
    subst h1
    rw [st_bits h x n b t ht, if_neg hn]
  · have e : (stW x (laneF c d) v).bt = (fgW x (laneF c d).m (laneF c d).w).bt := by
      unfold stW
      rw [if_neg h1]
      split <;> rfl
    rw [e, fg_bt, andNot64, bv_nat, BitVec.getLsbD_and, BitVec.getLsbD_not, lane_w h]
    simp [hn, ht]
/-- Another lane of the same word is read as before. -/
theorem load_other {c d c' d' : Nat} (h : LaneOk c d) (h' : LaneOk c' d') (x : WD) (v : V) (ha : d' + c' ≤ d ∨ d + c ≤ d') : loadF (stW x (laneF c d) v) (laneF c' d') = loadF x (laneF c' d') := by
  have hc : 1 ≤ c ∧ d + c ≤ 8 := by unfold LaneOk at h; omega
  have hc' : 1 ≤ c' ∧ d' + c' ≤ 8 := by unfold LaneOk at h'; omega
  have h8 : ¬ (laneF c' d').c = 8 := by rw [lane_c]; unfold LaneOk at h'; omega
  have hm : bits .and .u8 (stW x (laneF c d) v).kn (laneF c' d').m = (laneF c' d').m ↔ bits .and .u8 x.kn (laneF c' d').m = (laneF c' d').m := by
    rw [in_mask h', in_mask h']
    constructor
    · intro hh t h1 h2
      have := hh t h1 h2
      rwa [st_known h x v t (by omega), if_neg (by omega)] at this
    · intro hh t h1 h2
      rw [st_known h x v t (by omega), if_neg (by omega)]
      exact hh t h1 h2
  have hnum := num_bits h' (a := (stW x (laneF c d) v).bt) (b := x.bt) (fun t h1 h2 => st_out h x v t (by omega) (by omega))
  unfold loadF
  by_cases hk : bits .and .u8 x.kn (laneF c' d').m = (laneF c' d').m
  · rw [if_pos hk, if_pos (hm.2 hk)]
    exact hnum
  · rw [if_neg hk, if_neg (fun e => hk (hm.1 e)), if_neg (fun e => h8 e.2), if_neg (fun e => h8 e.2)]
/-- The same lane: an Int. -/
theorem load_int {c d : Nat} (h : LaneOk c d) (x : WD) (n b : Int) : loadF (stW x (laneF c d) ⟨1, n, b⟩) (laneF c d) = numF c n := by
  have hc : 1 ≤ c ∧ d + c ≤ 8 := by unfold LaneOk at h; omega
  unfold loadF
  rw [if_pos ((in_mask h _).2 fun t h1 h2 => by rw [st_known h x _ t (by omega), if_pos ⟨h1, h2⟩]; rfl)]
  have hl : (BV (stW x (laneF c d) ⟨1, n, b⟩).bt).toNat / 2 ^ (8 * d) % 2 ^ (8 * c) = (BV n).toNat % 2 ^ (8 * c) := by
    apply Nat.eq_of_testBit_eq
    intro i
    rw [Nat.testBit_mod_two_pow, Nat.testBit_mod_two_pow, Nat.testBit_div_two_pow]
    by_cases hi : i < 8 * c
    · have := st_bits h x n b (i + 8 * d) (by omega)
      rw [if_pos (by omega), show i + 8 * d - 8 * d = i by omega] at this
      rw [BitVec.getLsbD, BitVec.getLsbD] at this
      rw [this]
    · simp [hi]
  have ha := toNat_bv (stW x (laneF c d) ⟨1, n, b⟩).bt
  have hb := toNat_bv n
  generalize (BV (stW x (laneF c d) ⟨1, n, b⟩).bt).toNat = A at *
  generalize (BV n).toNat = B at *
  generalize (stW x (laneF c d) ⟨1, n, b⟩).bt = bt at *
  rcases h.cases with ⟨rfl, rfl⟩ | ⟨rfl, rfl⟩ | ⟨rfl, rfl⟩ | ⟨rfl, rfl⟩ | ⟨rfl, rfl⟩ | ⟨rfl, rfl⟩ | ⟨rfl, rfl⟩ | ⟨rfl, rfl⟩ | ⟨rfl, rfl⟩ | ⟨rfl, rfl⟩ | ⟨rfl, rfl⟩
  all_goals
    simp only [laneF, numF, i8w] at hl ⊢
    simp at hl ⊢
    simp only [ofF, V.mk.injEq, true_and, and_true]
    first
      | (unfold wrap64; omega)
      | (unfold wrap32 wrap64; omega)
/-- The same lane: no Int is read where none was stored. -/
theorem mask_none {c d : Nat} (h : LaneOk c d) (x : WD) (v : V) (hv : v.k ≠ 1) : ¬ bits .and .u8 (stW x (laneF c d) v).kn (laneF c d).m = (laneF c d).m := by
  have hc : 1 ≤ c ∧ d + c ≤ 8 := by unfold LaneOk at h; omega
  rw [in_mask h]
  intro hh
  have := hh d (Nat.le_refl _) (by omega)
  rw [st_known h x v d (by omega), if_pos (by omega)] at this
  simp [hv] at this
theorem load_ptr (x : WD) (n b : Int) : loadF (stW x (laneF 8 0) ⟨2, n, b⟩) (laneF 8 0) = ⟨2, n, b⟩ := by
  have h : LaneOk 8 0 := .inr (.inr ⟨rfl, rfl⟩)
  have hm : ¬ bits .and .u8 (stW x (laneF 8 0) ⟨2, n, b⟩).kn (laneF 8 0).m = (laneF 8 0).m := mask_none h x ⟨2, n, b⟩ (by simp)
  unfold loadF
  rw [if_neg hm, if_pos]
  · simp [stW]
  · refine ⟨?_, rfl⟩
    have e : (stW x (laneF 8 0) ⟨2, n, b⟩).pt = (laneF 8 0).m := by simp [stW]
    rw [e, show laneF 8 0 = laneF ((8 : Nat) : Int) ((0 : Nat) : Int) from rfl, in_mask h]
    intro t h1 h2
    rw [lane_m h]
    simp
    omega
theorem load_undef {c d : Nat} (h : LaneOk c d) (x : WD) (v : V) (h1 : v.k ≠ 1) (h2 : v.k ≠ 2) : loadF (stW x (laneF c d) v) (laneF c d) = noV := by
  have hc : 1 ≤ c ∧ d + c ≤ 8 := by unfold LaneOk at h; omega
  have hp : ¬ bits .and .u8 (stW x (laneF c d) v).pt (laneF c d).m = (laneF c d).m := by
    have e : (stW x (laneF c d) v).pt = bits .andNot .u8 x.pt (laneF c d).m := by
      unfold stW
      rw [if_neg h1, if_neg h2, fg_pt]
    rw [e, in_mask h]
    intro hh
    have := hh d (Nat.le_refl _) (by omega)
    rw [andNot8, b8_nat, BitVec.getLsbD_and, BitVec.getLsbD_not, lane_m h] at this
    have hcd : d ≤ d ∧ d < d + c := by omega
    simp [hcd] at this
  unfold loadF
  rw [if_neg (mask_none h x v h1), if_neg (fun e => hp e.1)]
/-- The lane of an access that is right. -/
theorem lane_of {c n : Int} (hc : c = 1 ∨ c = 4 ∨ c = 8) (h0 : 0 ≤ n) (h1 : n.tmod c = 0) : LaneOk c.toNat (n % 8).toNat ∧ (c.toNat : Int) = c ∧ ((n % 8).toNat : Int) = n % 8 := by
  rw [Int.tmod_eq_emod_of_nonneg h0] at h1
  refine ⟨?_, by omega, by omega⟩
  unfold LaneOk
  rcases hc with rfl | rfl | rfl <;> omega
theorem store_false {M M' : List AB} {c : Int} {u v : V} (h : storeM M c u v = (M', false)) : M' = M := by
  unfold storeM at h
  split at h
  · cases h; rfl
  · split at h
    · cases h; rfl
    · split at h
      · cases h; rfl
      · cases h
theorem store_true {M M' : List AB} {c : Int} {u v : V} (h : storeM M c u v = (M', true)) : ∃ k ab, rightK M c u = some k ∧ M[k]? = some ab ∧ ¬ ((goodV v).k = 2 ∧ c ≠ 8) ∧ M' = M.set k (setB ab (u.n / 8).toNat (stW (ab.wd (u.n / 8).toNat) (laneF c (u.n % 8)) (goodV v))) := by
  unfold storeM at h
  split at h
  · cases h
  · rename_i k hk
    split at h
    · cases h
    · rename_i ab hab
      split at h
      · cases h
      · rename_i hn
        cases h
        exact ⟨k, ab, hk, hab, hn, rfl⟩
theorem find_set {M : List AB} {k : Nat} {ab ab' : AB} (hab : M[k]? = some ab) (hf : ab'.freed = ab.freed) (x : Int) : findK (M.set k ab') x = findK M x := by
  unfold findK
  by_cases h1 : x < 1
  · rw [if_pos h1, if_pos h1]
  · rw [if_neg h1, if_neg h1, List.getElem?_set]
    by_cases e : k = (x - 1).toNat
    · rw [if_pos e, if_pos (lt_of_get hab), ← e, hab]
      simp [hf]
    · rw [if_neg e]
theorem right_set {M : List AB} {k : Nat} {ab ab' : AB} (hab : M[k]? = some ab) (hf : ab'.freed = ab.freed) (hs : ab'.size = ab.size) (c : Int) (u : V) : rightK (M.set k ab') c u = rightK M c u := by
  unfold rightK
  rw [find_set hab hf]
  by_cases h0 : (c = 1 ∨ c = 4 ∨ c = 8) ∧ u.k = 2 ∧ goodF u = true
  · rw [if_pos h0, if_pos h0]
    cases hk : findK M u.b with
    | none => rfl
    | some j =>
      simp only [List.getElem?_set]
      by_cases e : k = j
      · subst e
        rw [if_pos rfl, if_pos (lt_of_get hab), hab]
        simp [hs]
      · rw [if_neg e]
  · rw [if_neg h0, if_neg h0]
/-- Behind a store another access is right just if it was; what lies apart is loaded as before. -/
theorem store_ok {M M' : List AB} {c : Int} {u v : V} (h : storeM M c u v = (M', true)) (c' : Int) (u' : V) : (loadM M' c' u').2 = (loadM M c' u').2 := by
  obtain ⟨k, ab, hr, hab, _, rfl⟩ := store_true h
  unfold loadM
  rw [right_set (ab' := setB ab (u.n / 8).toNat (stW (ab.wd (u.n / 8).toNat) (laneF c (u.n % 8)) (goodV v))) hab rfl rfl]
  cases hr' : rightK M c' u' with
  | none => rfl
  | some j =>
    obtain ⟨_, _, _, _, ab', hab', _⟩ := rightK_some hr'
    simp only [List.getElem?_set, hab']
    by_cases e : k = j
    · subst e
      rw [if_pos rfl, if_pos (lt_of_get hab)]
    · rw [if_neg e]
theorem store_apart {M M' : List AB} {c : Int} {u v : V} (h : storeM M c u v = (M', true)) (c' : Int) (u' : V) (ha : u'.b ≠ u.b ∨ (loadM M c' u').2 = false ∨ u.n + c ≤ u'.n ∨ u'.n + c' ≤ u.n) : loadM M' c' u' = loadM M c' u' := by
  obtain ⟨k, ab, hr, hab, _, rfl⟩ := store_true h
  obtain ⟨hc, _, _, hf, ab0, hab0, _, n0, n1, n2⟩ := rightK_some hr
  rw [hab] at hab0
  cases hab0
  unfold loadM
  rw [right_set (ab' := setB ab (u.n / 8).toNat (stW (ab.wd (u.n / 8).toNat) (laneF c (u.n % 8)) (goodV v))) hab rfl rfl]
  cases hr' : rightK M c' u' with
  | none => rfl
  | some j =>
    obtain ⟨hc', _, _, hf', ab', hab', _, m0, m1, m2⟩ := rightK_some hr'
    have hok : (loadM M c' u').2 = true := by unfold loadM; rw [hr']; simp only [hab']
    simp only [List.getElem?_set, hab']
    by_cases e : k = j
    · subst e
      rw [hab] at hab'
      cases hab'
      rw [if_pos rfl, if_pos (lt_of_get hab)]
      simp only [setB, updW]
      have hb : u'.b = u.b := by
        have x1 := (findK_some hf).1
        have x2 := (findK_some hf').1
        omega
      have hdis : u.n + c ≤ u'.n ∨ u'.n + c' ≤ u.n := by
        rcases ha with h1 | h1 | h1 | h1
        · exact absurd hb h1
        · rw [hok] at h1; cases h1
        · exact .inl h1
        · exact .inr h1
      by_cases ew : (u'.n / 8).toNat = (u.n / 8).toNat
      · rw [if_pos ew, ew]
        obtain ⟨hl, e1, e2⟩ := lane_of hc n0 n2
        obtain ⟨hl', e1', e2'⟩ := lane_of hc' m0 m2
        have := load_other hl hl' (ab.wd (u.n / 8).toNat) (goodV v) (by omega)
        rw [e1, e2, e1', e2'] at this
        rw [this]
      · rw [if_neg ew]
    · rw [if_neg e]
/-- What is stored is loaded. -/
theorem store_same {M M' : List AB} {c : Int} {u v : V} (h : storeM M c u v = (M', true)) :
    loadM M' c u = (if (goodV v).k = 2 then goodV v else if (goodV v).k = 1 then numF c (goodV v).n else noV, true) := by
  obtain ⟨k, ab, hr, hab, hn, rfl⟩ := store_true h
  obtain ⟨hc, _, _, hf, ab0, hab0, _, n0, n1, n2⟩ := rightK_some hr
  unfold loadM
  rw [right_set (ab' := setB ab (u.n / 8).toNat (stW (ab.wd (u.n / 8).toNat) (laneF c (u.n % 8)) (goodV v))) hab rfl rfl, hr]
  simp only [List.getElem?_set, if_pos (lt_of_get hab), if_true, setB, updW]
  congr 1
  obtain ⟨hl, e1, e2⟩ := lane_of hc n0 n2
  generalize hg : goodV v = g at *
  obtain ⟨gk, gn, gb⟩ := g
  by_cases h2 : gk = 2
  · subst h2
    have hc8 : c = 8 := by
      by_cases h8 : c = 8
      · exact h8
      · exact absurd ⟨rfl, h8⟩ hn
    subst hc8
    have h0 : u.n % 8 = 0 := by rw [Int.tmod_eq_emod_of_nonneg n0] at n2; exact n2
    rw [h0, load_ptr]
    simp
  · by_cases h1 : gk = 1
    · subst h1
      have := load_int hl (ab.wd (u.n / 8).toNat) gn gb
      rw [e1, e2] at this
      rw [this]
      simp
    · have := load_undef hl (ab.wd (u.n / 8).toNat) ⟨gk, gn, gb⟩ h1 h2
      rw [e1, e2] at this
      rw [this]
      simp [h1, h2]
end Go.Proofs.Ytnklpccggbkknaa
