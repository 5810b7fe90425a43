/- The document's places are New's; Size and Places close over one another. -/
import Derived.Test.YtpedfnfangaelaaDoorYRef7
namespace Go.Proofs.YtpedfnfangaelaaDoor
open Go.ChangeShapes Go.WideShapes Go.ChangeAt Go.RowKit
set_option linter.unusedSimpArgs false
set_option linter.unusedVariables false

/-- Are the fields' names names, and unlike? -/
def nmOk (pre : List Fd) : List Fd → Bool
  | [] => true
  | f :: l => !(hasN pre f.name || !(nameS f.name)) && nmOk (pre ++ [f]) l
structure Rel (s : LS) (p : PS) : Prop where
  ok : LSok s
  at0 : 0 ≤ p.at_
  al1 : 1 ≤ p.al
  same : s.tg = false → p.lim = false ∧ p.at_ = s.sz ∧ p.al = s.al ∧ p.offs = s.pls.map (·.off)
  over : s.tg = true → p.lim = true ∨ 65536 < p.at_
theorem Rel.step {T : Tab} (h : GoodT T) {s : LS} {p : PS} (hr : Rel s p) (f : Fd) : Rel (layStep T s f) (plStep T p f) := by
  refine ⟨hr.ok.step h f, ?_, ?_, ?_, ?_⟩
  · unfold plStep
    split
    · rename_i he
      have hz := szF_ok h he
      have hu := upI_range hr.at0 hz.2.2.1
      have h0 := hr.at0
      dsimp only
      omega
    · exact hr.at0
  · unfold plStep
    split
    · have := hr.al1
      dsimp only
      omega
    · exact hr.al1
  · intro ht
    unfold layStep plStep at *
    split at ht
    · rename_i he
      rw [if_pos he, if_pos he]
      split at ht
      · simp at ht
      · rename_i hgt
        rw [if_neg hgt]
        obtain ⟨h1, h2, h3, h4⟩ := hr.same ht
        dsimp only
        rw [h2, h3, h4]
        exact ⟨h1, rfl, rfl, by simp⟩
    · simp at ht
  · intro ht
    unfold layStep plStep at *
    split at ht
    · rename_i he
      rw [if_pos he]
      have hz := szF_ok h he
      have hu := upI_range hr.at0 hz.2.2.1
      split at ht
      · rename_i hgt
        cases hs : s.tg
        · obtain ⟨h1, h2, h3, h4⟩ := hr.same hs
          right
          dsimp only
          rw [h2]
          exact hgt
        · rcases hr.over hs with h5 | h5
          · exact .inl h5
          · right; dsimp only; omega
      · rcases hr.over ht with h5 | h5
        · exact .inl h5
        · right; dsimp only; omega
    · rename_i he
      rw [if_neg he]
      exact .inl rfl
theorem lay_pl {T : Tab} (h : GoodT T) : ∀ (l pre : List Fd) (s : LS) (p : PS), nmOk pre l = true → Rel s p → (layL T pre s l = none ∧ plL T p l = none) ∨ ∃ s' p', layL T pre s l = some s' ∧ plL T p l = some p' ∧ Rel s' p'
  | [], pre, s, p, _, hr => .inr ⟨s, p, rfl, rfl, hr⟩
  | f :: l, pre, s, p, hn, hr => by
    unfold nmOk at hn
    simp only [Bool.and_eq_true, Bool.not_eq_true'] at hn
    unfold layL plL badF
    rw [hn.1, Bool.false_or]
    by_cases he : (szF T f.typ).2.2 = 5
    · left
      rw [he]
      simp
    · have hb : ((szF T f.typ).2.2 == 5) = false := by simpa using he
      rw [hb, if_neg he]
      exact lay_pl h l _ _ _ hn.2 (hr.step h f)
theorem layL_nm {T : Tab} : ∀ (l pre : List Fd) (s s' : LS), layL T pre s l = some s' → nmOk pre l = true
  | [], pre, s, s', _ => rfl
  | f :: l, pre, s, s', h => by
    unfold layL at h
    split at h
    · cases h
    · rename_i hb
      unfold nmOk
      rw [layL_nm l _ _ _ h, Bool.and_true]
      unfold badF at hb
      simp only [Bool.or_eq_true, not_or, Bool.not_eq_true] at hb
      simp only [Bool.not_eq_true', Bool.or_eq_false_iff]
      exact hb.1
theorem plF_eq {T : Tab} (h : GoodT T) {l : List Fd} (hn : nmOk [] l = true) : (plF T l).1 = (layR T l).2 ∧ ((layR T l).2 = 0 → plF T l = (0, (layR T l).1.places.map (·.off), (layR T l).1.size, (layR T l).1.align)) := by
  unfold plF layR
  rcases lay_pl h l [] ⟨[], 0, 1, false⟩ ⟨0, 1, false, []⟩ hn ⟨by simp [LSok], by simp, by simp, fun _ => ⟨rfl, rfl, rfl, rfl⟩, fun h => by cases h⟩ with ⟨h1, h2⟩ | ⟨s, p, h1, h2, hr⟩
  · rw [h1, h2]
    exact ⟨rfl, fun h => by simp [layO] at h⟩
  · rw [h1, h2]
    simp only [layO, plO]
    cases hs : s.tg
    · obtain ⟨e1, e2, e3, e4⟩ := hr.same hs
      rw [e1, e2, e3, e4]
      by_cases hg : (false || decide (65536 < upI s.sz s.al)) = true
      · rw [if_pos hg, if_pos hg]
        exact ⟨rfl, fun h => by simp at h⟩
      · rw [if_neg hg, if_neg hg]
        exact ⟨rfl, fun _ => rfl⟩
    · have hp : (p.lim || decide (65536 < upI p.at_ p.al)) = true := by
        rcases hr.over hs with h5 | h5
        · rw [h5]; rfl
        · have := upI_range hr.at0 hr.al1
          simp only [Bool.or_eq_true, decide_eq_true_eq]
          right
          omega
      rw [if_pos hp]
      simp
theorem layR_nm {T : Tab} {l : List Fd} (hn : nmOk [] l = false) : (layR T l).2 = 5 := by
  unfold layR
  cases hL : layL T [] ⟨[], 0, 1, false⟩ l with
  | none => rfl
  | some s =>
    rw [layL_nm l [] _ s hL] at hn
    cases hn
/-- The first structs are good, and laid out so. -/
structure PreOk (l : List St) (sh : List Shp) : Prop where
  len : sh.length ≤ l.length
  good : ∀ m, GoodT ⟨namesOf l, sh.take m⟩
  each : ∀ (k : Nat) (y : Shp), sh[k]? = some y → ∃ x, l[k]? = some x ∧ addE ⟨namesOf l, sh.take k⟩ x.name x.fields = 0 ∧ y = (layR ⟨namesOf l, sh.take k⟩ x.fields).1
theorem PreOk.nil (l : List St) : PreOk l [] := ⟨Nat.zero_le _, fun m x hx => by simp at hx, fun k y hy => by simp at hy⟩
theorem PreOk.snoc {l : List St} {sh : List Shp} (h : PreOk l sh) {x : St} (hx : l[sh.length]? = some x) (he : addE ⟨namesOf l, sh⟩ x.name x.fields = 0) : PreOk l (sh ++ [(layR ⟨namesOf l, sh⟩ x.fields).1]) := by
  have hg : GoodT ⟨namesOf l, sh⟩ := by have := h.good sh.length; rwa [List.take_length] at this
  refine ⟨?_, fun m => ?_, fun k y hy => ?_⟩
  · have := (List.getElem?_eq_some_iff.1 hx).1
    simp
    omega
  · have := addE_good hg he
    intro z hz
    exact this z (List.mem_of_mem_take hz)
  · by_cases hk : k < sh.length
    · rw [List.getElem?_append_left hk] at hy
      rw [List.take_append_of_le_length (by omega)]
      exact h.each k y hy
    · have hk2 : k = sh.length := by
        have := (List.getElem?_eq_some_iff.1 hy).1
        simp at this
        omega
      subst hk2
      rw [List.getElem?_append_right (Nat.le_refl _), Nat.sub_self] at hy
      rw [List.take_append_of_le_length (Nat.le_refl _), List.take_length]
      exact ⟨x, hx, he, by simpa using hy.symm⟩
theorem addE_nm {T : Tab} {nm : ByteArray} {l : List Fd} (h : addE T nm l = 0) : nmOk [] l = true ∧ l.length ≠ 0 ∧ (layR T l).2 = 0 := by
  obtain ⟨h1, h2⟩ := addE_zero h
  refine ⟨?_, ?_, h2⟩
  · cases hn : nmOk [] l
    · rw [layR_nm hn] at h2; cases h2
    · rfl
  · simp only [Bool.or_eq_false_iff, beq_eq_false_iff_ne] at h1
    exact h1.2.2
/-- Size over the first m structs. -/
theorem rSize_any {lv : Value} {l : List St} {sh : List Shp} (hp : PreOk l sh) (hS : StS l) (hf : ∀ x ∈ l, x.fields.length ≤ 10) (hlen : (l.length : Int) ≤ 4611686018427387904) : ∀ (m : Nat), m ≤ sh.length → ∀ (t : ByteArray) (w : World), t.size ≤ 281474976710656 → RStAt w lv l →
    Calls Tryd.prog 17 #[lv, .int .i64 (m : Int), .string t] w (retP (.tuple #[.int .i64 (szF ⟨namesOf l, sh.take m⟩ t).1, .int .i64 (szF ⟨namesOf l, sh.take m⟩ t).2.1, .int .i64 (szF ⟨namesOf l, sh.take m⟩ t).2.2]) w) := by
  intro m
  induction m using Nat.strongRecOn with
  | _ m ih =>
    intro hm t w ht hl
    refine rSize_of lv l ⟨namesOf l, sh.take m⟩ m rfl (by rw [List.length_take]; omega) (hp.good m) (by have := hp.len; omega) ?_ t ht w hl
    intro k y w' hy hl'
    have hkm : k < m := by
      have := (List.getElem?_eq_some_iff.1 hy).1
      rw [List.length_take] at this
      omega
    have hyk : sh[k]? = some y := by
      dsimp only at hy
      rw [List.getElem?_take, if_pos hkm] at hy
      exact hy
    obtain ⟨x, hx, he, rfl⟩ := hp.each k y hyk
    obtain ⟨hn, hne, h0⟩ := addE_nm he
    have hpf := (plF_eq (hp.good k) hn).2 h0
    have hgd := layR_good (hp.good k) hne h0
    refine (rPlaces_of lv l ⟨namesOf l, sh.take k⟩ k x hx (hf x (List.mem_of_getElem? hx)) (hp.good k) hS (fun t' w'' h1 h2 => ih k hkm (by omega) t' w'' h1 h2) w' hl').mono ?_
    rintro e w'' ⟨v, rfl, ⟨a, cap, rfl, hl1, _⟩, hb⟩
    rw [hpf] at *
    dsimp only at *
    rw [List.length_map] at *
    exact ⟨a, _, cap, rfl, by rw [hgd.2.2.2.2.2]; omega, hl1, hb⟩
theorem rPlaces_any {lv : Value} {l : List St} {sh : List Shp} (hp : PreOk l sh) (hS : StS l) (hf : ∀ x ∈ l, x.fields.length ≤ 10) (hlen : (l.length : Int) ≤ 4611686018427387904) (k : Nat) (hk : k ≤ sh.length) (x : St) (hx : l[k]? = some x) (w : World) (hl : RStAt w lv l) :
    Calls Tryd.prog 16 #[lv, .int .i64 (k : Int)] w (retPl (plF ⟨namesOf l, sh.take k⟩ x.fields) w) :=
  rPlaces_of lv l ⟨namesOf l, sh.take k⟩ k x hx (hf x (List.mem_of_getElem? hx)) (hp.good k) hS (fun t' w'' h1 h2 => rSize_any hp hS hf hlen k hk t' w'' h1 h2) w hl
end Go.Proofs.YtpedfnfangaelaaDoor
