/- Contracts of Store over a memory, and of Alloc. -/
import Derived.Test.YtnklpccggbkknaaMStore
import Derived.Deep.AppendLies
namespace Go.Proofs.Ytnklpccggbkknaa
open Go.ChangeShapes Go.WideShapes Go.ChangeAt Go.RowKit Pl
set_option linter.unusedSimpArgs false
set_option linter.unusedVariables false

theorem retP_mem {w : World} {base p : Nat} {R : Nat → Option Role} {M : List AB} (h : Mem w base p R M) {v : Value} {e : Ending} {w' : World} (hr : retP v w e w') :
    e = .returned v ∧ ∃ R', Mem w' base p R' M ∧ MFr R R' w w' := ⟨hr.1, R, h.below hr.2, MFr.of_below hr.2⟩
theorem store_mem {w : World} {base p : Nat} {R : Nat → Option Role} {M : List AB} (h : Mem w base p R M) (c : Int) (u v : V) :
    Calls Try.prog 15 #[.pointer (some ⟨p, 0, none⟩), .int .i64 c, .agg #[.int .i64 u.k, .int .i64 u.n, .int .i64 u.b], .agg #[.int .i64 v.k, .int .i64 v.n, .int .i64 v.b]] w
      fun e w' => e = .returned (.bool (storeM M c u v).2) ∧ ∃ R', Mem w' base p R' (storeM M c u v).1 ∧ MFr R R' w w' := by
  have hM := h
  obtain ⟨a, cap, g, cur, h⟩ := h
  have hR : ∀ W, Below w.heap.size w W → Calls Try.prog 33 #[.pointer (some ⟨p, 0, none⟩), .int .i64 c, .agg #[.int .i64 u.k, .int .i64 u.n, .int .i64 u.b]] W (retP (ptrV g (rightK M c u)) W) := fun W hW => right_any (h.below hW) c u
  cases hr : rightK M c u with
  | none =>
    rw [hr] at hR
    have e : storeM M c u v = (M, false) := by simp [storeM, hr]
    rw [e]
    exact (store_none p c u.k u.n u.b v.k v.n v.b w hR).mono fun e w' hp => retP_mem hM hp
  | some k =>
    rw [hr] at hR
    obtain ⟨hc, _, _, hf, ab, hab, _, n0, n1, n2⟩ := rightK_some hr
    have hs := h.sz ab (List.mem_of_getElem? hab)
    obtain ⟨_, hgR, hh, _⟩ := h.has hab
    by_cases hbad : (goodV v).k = 2 ∧ c ≠ 8
    · have e : storeM M c u v = (M, false) := by simp [storeM, hr, hab, hbad]
      rw [e]
      obtain ⟨vk, vn, vb⟩ := v
      have hg : goodF ⟨vk, vn, vb⟩ = true := by
        cases hg : goodF ⟨vk, vn, vb⟩
        · have := hbad.1
          simp [goodV, hg, noV] at this
        · rfl
      have hk : vk = 2 := by
        have := hbad.1
        simpa [goodV, hg] using this
      subst hk
      exact (store_ptr p g (k * 4) c u.k u.n u.b vn vb w hR hg (by simp [hbad.2])).mono fun e w' hp => retP_mem hM hp
    · have hnp : (u.n / 8).toNat / 64 < ab.np := by unfold AB.np AB.nw; omega
      have e : storeM M c u v = (M.set k (setB ab (u.n / 8).toNat (stW (ab.wd (u.n / 8).toNat) (laneF c (u.n % 8)) (goodV v))), true) := by simp [storeM, hr, hab, hbad]
      rw [e]
      have hq : wrap64 (u.n.tdiv 8) = ((u.n / 8).toNat : Int) := by rw [Int.tdiv_eq_ediv_of_nonneg n0]; unfold wrap64; omega
      have hq' : IntKind.i64.wrap (u.n.tdiv 8) = ((u.n / 8).toNat : Int) := by rw [i64w]; exact hq
      have hsplit : (u.n / 8).toNat / 64 * 64 + (u.n / 8).toNat % 64 = (u.n / 8).toNat := by omega
      generalize hi : (u.n / 8).toNat = i at *
      have hi2 : i ≤ 1000000 := by omega
      let PL : World → Nat → Prop := fun W q => ∃ R' cur', MemIs W base p R' a cap g cur' M ∧ MFr R R' w W ∧ Placed W R' cur' k ab (i / 64) q
      let FIN : World → Prop := fun W => ∃ R', Mem W base p R' (M.set k (setB ab i (stW (ab.wd i) (laneF c (u.n % 8)) (goodV v)))) ∧ MFr R R' w W
      have PC : Hid (∀ W, Below w.heap.size w W → Calls Try.prog 40 #[.pointer (some ⟨g, k * 4, none⟩), .int .i64 i] W fun e w' => ∃ q, e = .returned (.pointer (some ⟨q, i % 64 * 6, none⟩)) ∧ (∀ b o v, w.heap.size ≤ b → W.cell? ⟨b, o, none⟩ = some v → w'.cell? ⟨b, o, none⟩ = some v) ∧ W.heap.size ≤ w'.heap.size ∧ (w.heap.size + 1 < W.heap.size → w.heap.size + 1 ≠ q) ∧ Hid (PL w' q)) := fun W hW =>
        (place_any (h.below hW) hab i hnp hi2).mono fun e w' ⟨q, R', cur', h1, h2, h3, h4⟩ => ⟨q, h1, fun b o v hb hc => h3.keep (by
            cases hRb : R b with
            | none => rfl
            | some r => have := (h.rng b (by rw [hRb]; simp)).2; omega) hc, h3.size, fun hlt e => by
            subst e
            have := h3.role _ hlt
            rw [h4.1] at this
            have := (h.rng (w.heap.size + 1) (by rw [← this]; simp)).2
            omega, R', cur', h2, (MFr.of_below hW).trans h3, h4⟩
      have LC : Hid (∀ W, Calls Try.prog 36 #[.int .i64 c, .int .i64 u.n] W (retL (laneF c (u.n % 8)) W)) := fun W => lanes_any c u.n (u.n % 8) (by omega) (by omega) (by rw [Int.tmod_eq_emod_of_nonneg n0]) (by omega) (by omega) W
      have HPT : Hid (∀ W W' q, Hid (PL W q) → Below W.heap.size W W' → Hid (PL W' q)) := fun W W' q ⟨R', cur', h1, h2, h3, b, cp, ents, h4, h5, h6, h7⟩ hb =>
        ⟨R', cur', h1.below hb, h2.below hb, h3, b, cp, ents, h4, h5, (hb.block b (h1.rng b (by rw [h5]; simp)).2).trans h6, h7⟩
      have SC : ∀ v' : V, v' = goodV v → Hid (∀ W q, Hid (PL W q) → Calls Try.prog 41 #[.pointer (some ⟨q, i % 64 * 6, none⟩), .agg #[.int .i64 (laneF c (u.n % 8)).c, .int .i64 (laneF c (u.n % 8)).s, .int .u8 (laneF c (u.n % 8)).m, .int .u64 (laneF c (u.n % 8)).w], .agg #[.int .i64 v'.k, .int .i64 v'.n, .int .i64 v'.b]] W fun e w' => e = .returned (.tuple #[]) ∧ (∀ b o v, b ≠ q → W.cell? ⟨b, o, none⟩ = some v → w'.cell? ⟨b, o, none⟩ = some v) ∧ Hid (FIN w')) := fun v' hv' W q ⟨R', cur', h1, h2, h3⟩ => by
        have hB := h1.blk k ab hab
        have hq3 := h3
        obtain ⟨hqR, b, cp, ents, h4, h5, h6, h7⟩ := h3
        obtain ⟨pv, hpv, hpo⟩ := hB.p
        rw [h4] at hpv
        cases hpv
        rcases hpo with ⟨e, _⟩ | ⟨b', cp', ents', e, hbR', hbh', hcp, hes, hall⟩
        · cases e
        cases e
        rw [h6] at hbh'
        cases hbh'
        obtain ⟨v0, hv0, ho⟩ := hall _ hnp
        rw [h7] at hv0
        cases hv0
        rcases ho with ⟨e, _⟩ | ⟨q', e, _, hq'⟩
        · cases e
        cases e
        have hx := hq'.c (i % 64) (by omega)
        simp only [hsplit] at hx
        refine (store_any q (i % 64 * 6) (ab.wd i) (laneF c (u.n % 8)) v' W (by simp only [laneF]; omega) hx hq'.fz).mono ?_
        rintro e w' ⟨h8, h9, h10⟩
        refine ⟨h8, fun b o v hne hc => h9.keep hne hc, ?_⟩
        have := h1.word hab hq3 hnp (by omega) h9 h10
        rw [hsplit, hv'] at this
        exact ⟨R', ⟨a, cap, g, cur', this.1⟩, h2.trans this.2⟩
      obtain ⟨vk, vn, vb⟩ := v
      cases hg : goodF ⟨vk, vn, vb⟩
      · exact store_bad p g (k * 4) i (i % 64) c u.k u.n u.b vk vn vb (laneF c (u.n % 8)) w PL FIN hR hg hq hq' PC LC HPT (SC ⟨0, 0, 0⟩ (by simp [goodV, hg, noV]))
      · have hgv : goodV ⟨vk, vn, vb⟩ = ⟨vk, vn, vb⟩ := by simp [goodV, hg]
        by_cases hk : vk = 2
        · subst hk
          have hc8 : c = 8 := by
            by_cases h8 : c = 8
            · exact h8
            · exact absurd ⟨by rw [hgv], h8⟩ hbad
          exact store_addr p g (k * 4) i (i % 64) c u.k u.n u.b vn vb (laneF c (u.n % 8)) w PL FIN hR hg (by simp [hc8]) hq hq' PC LC HPT (SC ⟨2, vn, vb⟩ hgv.symm)
        · exact store_plain p g (k * 4) i (i % 64) c u.k u.n u.b vk vn vb (laneF c (u.n % 8)) w PL FIN hR hg (by simp [hk]) hq hq' PC LC HPT (SC ⟨vk, vn, vb⟩ hgv.symm)
end Go.Proofs.Ytnklpccggbkknaa
