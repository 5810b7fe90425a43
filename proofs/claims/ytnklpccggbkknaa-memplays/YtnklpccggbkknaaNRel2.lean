/- The program's memory and the document's say the same: what a call makes of both. -/
import Derived.Test.YtnklpccggbkknaaNRel1
import Derived.Test.YtnklpccggbkknaaNPair
namespace Go.Proofs.Ytnklpccggbkknaa
open Go.ChangeShapes Go.WideShapes Go.ChangeAt Go.RowKit Pl
set_option linter.unusedSimpArgs false
set_option linter.unusedVariables false

def ysOf (bs : List Int) (i t : Nat) : Int := (bs[8 * i + t]?).getD (-1)
structure BRel (ptrs : List V) (ab : AB) (rb : RB) : Prop where
  size : ab.size = rb.bytes.length
  freed : ab.freed = rb.freed
  words : ab.freed = false → ∀ i, WRel ptrs (ab.wd i) (ysOf rb.bytes i)
structure MRel (M : List AB) (N : RM) : Prop where
  len : M.length = N.L.length
  blk : ∀ (k : Nat) (ab : AB) (rb : RB), M[k]? = some ab → N.L[k]? = some rb → BRel N.ptrs ab rb
theorem MRel.nil : MRel [] ⟨[], []⟩ := ⟨rfl, fun k ab rb h => by simp at h⟩
theorem MRel.get {M : List AB} {N : RM} (h : MRel M N) {k : Nat} {ab : AB} (hk : M[k]? = some ab) : ∃ rb, N.L[k]? = some rb ∧ BRel N.ptrs ab rb := by
  have hl := lt_of_get hk
  rw [h.len] at hl
  exact ⟨_, List.getElem?_eq_getElem hl, h.blk k ab _ hk (List.getElem?_eq_getElem hl)⟩
theorem MRel.none {M : List AB} {N : RM} (h : MRel M N) {k : Nat} (hk : M[k]? = Option.none) : N.L[k]? = Option.none := by
  rw [List.getElem?_eq_none_iff] at hk ⊢
  rw [← h.len]
  exact hk
theorem MRel.set {M : List AB} {N : RM} (h : MRel M N) {k : Nat} {ab : AB} {rb : RB} {ptrs' : List V} (hp : ∀ (q : Nat) (v : V), N.ptrs[q]? = some v → ptrs'[q]? = some v) (hb : BRel ptrs' ab rb) : MRel (M.set k ab) ⟨N.L.set k rb, ptrs'⟩ := by
  refine ⟨by simp [h.len], fun i a b ha hb' => ?_⟩
  rw [List.getElem?_set] at ha
  simp only [List.getElem?_set] at hb'
  by_cases e : k = i
  · subst e
    rw [if_pos rfl] at ha hb'
    by_cases hl : k < M.length
    · rw [if_pos hl] at ha
      rw [if_pos (by rw [← h.len]; exact hl)] at hb'
      cases ha
      cases hb'
      exact hb
    · rw [if_neg hl] at ha; cases ha
  · rw [if_neg e] at ha hb'
    have := h.blk i a b ha hb'
    exact ⟨this.size, this.freed, fun hf j => (this.words hf j).more hp⟩
theorem rel_find {M : List AB} {N : RM} (h : MRel M N) (x : Int) : findK M x = if isN N x = true then some (x - 1).toNat else none := by
  unfold findK isN
  by_cases h1 : x < 1
  · simp [h1]
  · rw [if_neg h1, if_neg h1]
    cases hk : M[(x - 1).toNat]? with
    | none => rw [h.none hk]; simp
    | some ab =>
      obtain ⟨rb, hrb, hr⟩ := h.get hk
      rw [hrb]
      simp only [hr.freed]
      by_cases hf : rb.freed = true <;> simp [hf]
theorem rel_right {M : List AB} {N : RM} (h : MRel M N) (c : Int) (u : V) : rightK M c u = if rightN N c u = true then some (u.b - 1).toNat else none := by
  unfold rightK
  rw [rel_find h]
  by_cases h0 : (c = 1 ∨ c = 4 ∨ c = 8) ∧ u.k = 2 ∧ goodF u = true
  · rw [if_pos h0]
    obtain ⟨h1, h2, h3⟩ := h0
    by_cases hi : isN N u.b = true
    · rw [if_pos hi]
      obtain ⟨k, rb, hk, hrb, hf⟩ := isN_true hi
      have ek : (u.b - 1).toNat = k := by omega
      simp only [ek]
      have hl := lt_of_get hrb
      rw [← h.len] at hl
      have hab := List.getElem?_eq_getElem hl
      have hr := h.blk k _ rb hab hrb
      rw [hab]
      simp only [hr.size]
      have hlen : lenN N u.b = rb.bytes.length := by unfold lenN; rw [ek, hrb]
      have e : (rightN N c u = true) ↔ (0 ≤ u.n ∧ u.n ≤ (rb.bytes.length : Int) - c ∧ u.n.tmod c = 0) := by
        simp [rightN, h1, h2, h3, hi, hlen]
      by_cases hc : rightN N c u = true
      · rw [if_pos hc, if_pos (e.1 hc)]
      · rw [if_neg hc, if_neg (fun hh => hc (e.2 hh))]
    · have e : rightN N c u = false := by simp [rightN, hi]
      simp [hi, e]
  · rw [if_neg h0]
    have e : rightN N c u = false := by
      cases hr : rightN N c u with
      | false => rfl
      | true =>
        obtain ⟨a1, a2, a3, _⟩ := rightN_some hr
        exact absurd ⟨a1, a3, a2⟩ h0
    simp [e]
theorem rel_alloc {M : List AB} {N : RM} (h : MRel M N) (x : Int) : (allocM M x).2 = (allocN N x).2 ∧ MRel (allocM M x).1 (allocN N x).1 := by
  unfold allocM allocN
  rw [h.len]
  by_cases hx : x < 0 ∨ 65536 < x
  · rw [if_pos hx, if_pos hx]; exact ⟨rfl, h⟩
  · rw [if_neg hx, if_neg hx]
    by_cases hl : 100000 ≤ N.L.length
    · rw [if_pos hl, if_pos hl]; exact ⟨rfl, h⟩
    · rw [if_neg hl, if_neg hl]
      refine ⟨rfl, by simp [h.len], fun k ab rb ha hb => ?_⟩
      by_cases hk : k < M.length
      · simp only [List.getElem?_append_left hk] at ha
        simp only [List.getElem?_append_left (show k < N.L.length by rw [← h.len]; exact hk)] at hb
        exact h.blk k ab rb ha hb
      · have e : k = M.length := by
          have := lt_of_get ha
          simp at this
          omega
        subst e
        simp only [List.getElem?_append_right (Nat.le_refl _), Nat.sub_self, List.getElem?_cons_zero, Option.some.injEq] at ha
        simp only [h.len, List.getElem?_append_right (Nat.le_refl _), Nat.sub_self, List.getElem?_cons_zero, Option.some.injEq] at hb
        subst ha hb
        refine ⟨by simp [newB, rnewB], rfl, fun _ i => rel_no _ _ (fun t _ => ?_)⟩
        simp only [ysOf, rnewB, List.getElem?_replicate]
        split <;> rfl
theorem rel_free {M : List AB} {N : RM} (h : MRel M N) (x : Int) : (freeM M x).2 = (freeN N x).2 ∧ MRel (freeM M x).1 (freeN N x).1 := by
  unfold freeM freeN
  rw [rel_find h]
  by_cases hi : isN N x = true
  · simp only [hi, if_true]
    cases hk : M[(x - 1).toNat]? with
    | none => rw [h.none hk]; exact ⟨rfl, h⟩
    | some ab =>
      obtain ⟨rb, hrb, hr⟩ := h.get hk
      rw [hrb]
      exact ⟨rfl, h.set (fun _ _ h => h) ⟨hr.size, rfl, fun hf => by simp [freeB] at hf⟩⟩
  · simp only [hi]
    exact ⟨rfl, h⟩
theorem rel_zeroM {M : List AB} {N : RM} (h : MRel M N) (x : Int) : (zeroM M x).2 = (zeroN N x).2 ∧ MRel (zeroM M x).1 (zeroN N x).1 := by
  unfold zeroM zeroN
  rw [rel_find h]
  by_cases hi : isN N x = true
  · simp only [hi, if_true]
    cases hk : M[(x - 1).toNat]? with
    | none => rw [h.none hk]; exact ⟨rfl, h⟩
    | some ab =>
      obtain ⟨rb, hrb, hr⟩ := h.get hk
      rw [hrb]
      refine ⟨rfl, h.set (fun _ _ h => h) ⟨by simp [zeroB, rzero, hr.size], hr.freed, fun _ i => ?_⟩⟩
      simp only [zeroB, blankF, if_true]
      refine rel_zero _ _ _ (fun t ht => ?_)
      simp only [ysOf, rzero, List.getElem?_replicate, hr.size]
      by_cases hlt : 8 * i + t < rb.bytes.length
      · rw [if_pos hlt, if_pos (by omega)]; rfl
      · rw [if_neg hlt, if_neg (by omega)]; rfl
  · simp only [hi]
    exact ⟨rfl, h⟩
theorem wrt_get (l : List Int) (n : Nat) (f : Nat → Int) : ∀ (c m : Nat), n + c ≤ l.length → (wrt l n f c)[m]? = if n ≤ m ∧ m < n + c then some (f (m - n)) else l[m]?
  | 0, m, h => by rw [if_neg (by omega)]; rfl
  | c + 1, m, h => by
    simp only [wrt, List.getElem?_set, wrt_len]
    by_cases e : n + c = m
    · subst e
      rw [if_pos rfl, if_pos (by omega), if_pos (by omega)]
      congr 2
      omega
    · rw [if_neg e, wrt_get l n f c m (by omega)]
      by_cases hin : n ≤ m ∧ m < n + c
      · rw [if_pos hin, if_pos (by omega)]
      · rw [if_neg hin, if_neg (by omega)]
theorem good_ptr (v : V) : (goodV v).k = 2 ↔ isPtrV v = true := by
  unfold goodV isPtrV
  by_cases hg : goodF v = true
  · simp [hg]
  · simp [hg, noV]
theorem good_byte (n2 : Nat) (v : V) (j : Nat) : byteN n2 v j = byteOf n2 (goodV v) j := by
  unfold byteN byteOf goodV isPtrV isIntV
  by_cases hg : goodF v = true
  · simp only [hg, if_true, Bool.true_and, decide_eq_true_eq]
    by_cases h2 : v.k = 2
    · simp [h2]
    · by_cases h1 : v.k = 1
      · simp [h1]
      · simp [h1, h2]
  · simp [hg, noV]
theorem rel_store {M : List AB} {N : RM} (h : MRel M N) (c : Int) (u v : V) : (storeM M c u v).2 = (storeN N c u v).2 ∧ MRel (storeM M c u v).1 (storeN N c u v).1 := by
  unfold storeM storeN
  rw [rel_right h]
  by_cases hr : rightN N c u = true
  · rw [if_pos hr]
    obtain ⟨hc, _, _, k, rb, hub, hrb, hf, n0, n1, n2⟩ := rightN_some hr
    have ek : (u.b - 1).toNat = k := by omega
    simp only [ek]
    have hl := lt_of_get hrb
    rw [← h.len] at hl
    have hab := List.getElem?_eq_getElem hl
    have hR := h.blk k _ rb hab hrb
    rw [hab, hrb]
    simp only
    by_cases hp : (goodV v).k = 2 ∧ c ≠ 8
    · rw [if_pos hp, if_neg (fun e => e.2 ⟨(good_ptr v).1 hp.1, hp.2⟩)]
      exact ⟨rfl, h⟩
    · rw [if_neg hp, if_pos ⟨hr, fun e => hp ⟨(good_ptr v).2 e.1, e.2⟩⟩]
      refine ⟨rfl, ?_⟩
      obtain ⟨hlane, e1, e2⟩ := lane_of hc n0 n2
      have hcd : 1 ≤ c.toNat ∧ (u.n % 8).toNat + c.toNat ≤ 8 := by unfold LaneOk at hlane; omega
      have hmore : ∀ (q : Nat) (x : V), N.ptrs[q]? = some x → (if isPtrV v = true then N.ptrs ++ [v] else N.ptrs)[q]? = some x := fun q x hq => by
        split
        · rw [List.getElem?_append_left (lt_of_get hq)]; exact hq
        · exact hq
      refine h.set hmore ⟨by simp [setB, wrt_len, hR.size], hR.freed, fun hfr i => ?_⟩
      have hbytes : ∀ t, t < 8 → ysOf (wrt rb.bytes u.n.toNat (byteN N.ptrs.length v) c.toNat) i t = if i = (u.n / 8).toNat then (if (u.n % 8).toNat ≤ t ∧ t < (u.n % 8).toNat + c.toNat then byteOf N.ptrs.length (goodV v) (t - (u.n % 8).toNat) else ysOf rb.bytes i t) else ysOf rb.bytes i t := fun t ht => by
        unfold ysOf
        rw [wrt_get _ _ _ _ _ (by omega)]
        by_cases hi : i = (u.n / 8).toNat
        · rw [if_pos hi]
          by_cases hin : (u.n % 8).toNat ≤ t ∧ t < (u.n % 8).toNat + c.toNat
          · rw [if_pos hin, if_pos (by omega)]
            rw [good_byte, show 8 * i + t - u.n.toNat = t - (u.n % 8).toNat by omega]
            rfl
          · rw [if_neg hin, if_neg (by omega)]
        · rw [if_neg hi, if_neg (by omega)]
      have hold := hR.words (by rw [hR.freed]; exact hf) i
      simp only [setB, updW]
      by_cases hi : i = (u.n / 8).toNat
      · rw [if_pos hi]
        rw [← hi]
        by_cases h2 : (goodV v).k = 2
        · have h8 : c = 8 := by
            rcases Int.decEq c 8 with h8 | h8
            · exact absurd ⟨h2, h8⟩ hp
            · exact h8
          subst h8
          have hd : u.n % 8 = 0 := by rw [Int.tmod_eq_emod_of_nonneg n0] at n2; exact n2
          have hgv : goodV v = v := by
            unfold goodV at h2 ⊢
            split
            · rfl
            · rename_i hg; rw [if_neg hg] at h2; simp [noV] at h2
          rw [if_pos ((good_ptr v).1 h2), hd]
          rw [hgv] at h2 ⊢
          refine (hold.point v h2).congr (fun t ht => ?_)
          rw [hbytes t ht, if_pos hi, hgv, hd]
          rfl
        · have hnp : ¬ isPtrV v = true := fun e => h2 ((good_ptr v).2 e)
          rw [if_neg hnp]
          have := hold.plain hlane (goodV v) h2 N.ptrs.length
          rw [e1, e2] at this
          refine this.congr (fun t ht => ?_)
          rw [hbytes t ht, if_pos hi]
      · rw [if_neg hi]
        refine (hold.more hmore).congr (fun t ht => ?_)
        rw [hbytes t ht, if_neg hi]
  · have hr' : rightN N c u = false := by simpa using hr
    simp [hr', h]
theorem rel_step {M : List AB} {N : RM} (h : MRel M N) (z : Nat → Int) : MRel (stepM M z) (stepN N z) := by
  unfold stepM stepN
  split
  · split
    · exact (rel_alloc h _).2
    · exact h
  · split
    · exact (rel_free h _).2
    · split
      · exact (rel_store h _ _ _).2
      · split
        · exact (rel_zeroM h _).2
        · exact h
theorem rel_play (Z : Nat → Nat → Int) : ∀ n, MRel (playM Z n) (playN Z n)
  | 0 => MRel.nil
  | n + 1 => rel_step (rel_play Z n) (Z n)
end Go.Proofs.Ytnklpccggbkknaa
