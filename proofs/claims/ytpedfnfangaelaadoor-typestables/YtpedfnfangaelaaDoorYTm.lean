/- TypesTables: the mathematics. -/
import Derived.Test.YtpedfnfangaelaaDoorYOwn2
import Derived.Test.YtpedfnfangaelaaDoorYMath
namespace Go.Proofs.YtpedfnfangaelaaDoor
open Go.ChangeShapes Go.WideShapes Go.ChangeAt Go.RowKit
set_option linter.unusedSimpArgs false
set_option linter.unusedVariables false

theorem isS_bar {s : ByteArray} {c : List UInt8} (h : isS s c = true) : s = ⟨c.toArray⟩ := by
  rw [isS_iff] at h
  apply ba_ext
  rw [h]
theorem int_parse {t : ByteArray} (h : intS t = true) : (parseS t).2 = true ∧ (parseS t).1.isArray = false ∧ (parseS t).1.isPointer = false ∧ (parseS t).1.isStruct = false := by
  unfold intS at h
  rw [Bool.or_eq_true, Bool.or_eq_true] at h
  rcases h with h | h | h
  · rw [isS_bar h]; exact ⟨by kernel_rfl, by kernel_rfl, by kernel_rfl, by kernel_rfl⟩
  · rw [isS_bar h]; exact ⟨by kernel_rfl, by kernel_rfl, by kernel_rfl, by kernel_rfl⟩
  · rw [isS_bar h]; exact ⟨by kernel_rfl, by kernel_rfl, by kernel_rfl, by kernel_rfl⟩
theorem scF_eq (T : Tab) (t : ByteArray) : scF T t = (intS t || (starS t && ((szF T t).2.2 == 0))) := by
  cases hp : (parseS t).2
  · have h1 : intS t = false := by
      rw [Bool.eq_false_iff]; intro h; have := (int_parse h).1; rw [hp] at this; cases this
    rw [h1]
    unfold scF szF
    rw [hp]
    simp
  · obtain ⟨hl1, hl2, hl3⟩ := last_of hp
    obtain ⟨_, hc1, hc2, _⟩ := cutR_of hp
    obtain ⟨hst, hbp⟩ := base_parse hp
    have hstar : starS t = (byteAt t (t.size - 1) == 42) := by
      unfold starS
      have : decide (0 < (t.size : Int)) = true := by simp; omega
      rw [this, Bool.true_and]
    cases ha : (parseS t).1.isArray
    · have hps := hl3 ha
      rw [← hstar] at hps
      have hsz : ((szF T t).2.2 == 0) = (sgF T (parseS t).1).2.2 := by
        unfold szF
        rw [hp, ha]
        cases (sgF T (parseS t).1).2.2 <;> simp
      rw [hsz, hps]
      unfold scF
      rw [hp, ha]
      simp only [Bool.true_and, Bool.not_false]
      cases hpt : (parseS t).1.isPointer
      · rw [hpt] at hps
        have hbt : baseS t = t := (StripOf.fin (b := t) (s := t) (k := 0) (by show _ = _; simp) hps).1
        have hct : (cutC t).1 = t := by
          rw [← hc1]
          rw [ha] at hc2
          unfold cutR at hc2 ⊢
          cases hb : brk t with
          | none => rfl
          | some i => rw [hb] at hc2; cases hc2
        rw [hct, hbt] at hbp hst
        have hst0 : (parseS t).1.stars = 0 := by omega
        cases hs : (parseS t).1.isStruct
        · simp only [Bool.not_false, Bool.true_and, Bool.false_and, Bool.or_false]
          have hw : isS (parseS t).1.word cStruct = false := by
            unfold Fm.isStruct at hs
            rw [hst0] at hs
            simpa using hs
          rcases hbp with ⟨_, h2, _⟩ | ⟨_, h2, h3, h4⟩
          · rw [hw] at h2; cases h2
          · unfold sgF intS
            rw [hs, hst0, h2]
            cases isS t cChar <;> cases isS t cInt <;> cases isS t cLong <;> simp
        · have h1 : intS t = false := by
            rw [Bool.eq_false_iff]; intro h; have := (int_parse h).2.2.2; rw [hs] at this; cases this
          rw [h1]
          rfl
      · have h1 : intS t = false := by
          rw [Bool.eq_false_iff]; intro h; have := (int_parse h).2.2.1; rw [hpt] at this; cases this
        have hs : (parseS t).1.isStruct = false := by
          unfold Fm.isPointer at hpt
          rw [Bool.and_eq_true, decide_eq_true_eq] at hpt
          unfold Fm.isStruct
          have : ((parseS t).1.stars == 0) = false := by simp; omega
          rw [this, Bool.and_false]
        rw [h1, hs]
        simp
    · have h1 : intS t = false := by
        rw [Bool.eq_false_iff]; intro h; have := (int_parse h).2.1; rw [ha] at this; cases this
      have h2 : starS t = false := by
        rw [hstar]
        rw [ha] at hl2
        have : byteAt t (t.size - 1) = 93 := by simpa using hl2
        rw [this]; rfl
      unfold scF
      rw [h1, h2, ha]
      simp
theorem newL_pre {l : List St} : ∀ (m : List St) (i : Nat) (sh sh' : List Shp) (k : Nat), m = l.drop i → newL (namesOf l) i sh m = (0, k, sh') → sh.length = i → PreOk l sh → PreOk l sh' ∧ k = 0
  | [], i, sh, sh', k, hm, h, hi, hp => by
    simp only [newL, Prod.mk.injEq, true_and] at h
    obtain ⟨rfl, rfl⟩ := h
    exact ⟨hp, rfl⟩
  | x :: m, i, sh, sh', k, hm, h, hi, hp => by
    have hx : l[i]? = some x := by
      have := List.getElem?_drop (xs := l) (i := i) (j := 0)
      rw [← hm] at this
      simpa using this.symm
    unfold newL at h
    split at h
    · rename_i he
      refine newL_pre m (i + 1) _ sh' k ?_ h (by simp [hi]) (hp.snoc (by rw [hi]; exact hx) he)
      have := drop_st hx
      rw [← hm] at this
      exact (List.cons.inj this).2
    · rename_i he
      simp only [Prod.mk.injEq] at h
      exact absurd h.1 he
theorem newF_pre {l : List St} {k : Nat} {sh : List Shp} (h : newF l = (0, k, sh)) : PreOk l sh ∧ k = 0 := newL_pre l 0 [] sh k (by simp) h rfl (PreOk.nil l)
theorem pre_places {l : List St} {sh : List Shp} (h : PreOk l sh) {i : Nat} {x : St} {y : Shp} (hx : l[i]? = some x) (hy : sh[i]? = some y) : plF ⟨namesOf l, sh.take i⟩ x.fields = (0, y.places.map (·.off), y.size, y.align) := by
  obtain ⟨x', hx', ha, hy'⟩ := h.each i y hy
  rw [hx] at hx'
  cases hx'
  have h0 : (layR ⟨namesOf l, sh.take i⟩ x.fields).2 = 0 := by
    unfold addE at ha
    split at ha
    · cases ha
    · exact ha
  have hn : nmOk [] x.fields = true := by
    cases hn : nmOk [] x.fields
    · rw [layR_nm hn] at h0; cases h0
    · rfl
  rw [(plF_eq (h.good i) hn).2 h0, hy']
end Go.Proofs.YtpedfnfangaelaaDoor
