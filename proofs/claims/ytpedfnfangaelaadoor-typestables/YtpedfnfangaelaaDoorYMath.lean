/- Package types: what New's tables are. -/
import Derived.Test.YtpedfnfangaelaaDoorYFrame
namespace Go.Proofs.YtpedfnfangaelaaDoor
open Go.ChangeShapes Go.WideShapes Go.ChangeAt Go.RowKit
set_option linter.unusedSimpArgs false
set_option linter.unusedVariables false

/-- One table goes on another. -/
def Grows (T T' : Tab) : Prop := T'.names = T.names ∧ ∃ more, T'.shapes = T.shapes ++ more
theorem Grows.refl (T : Tab) : Grows T T := ⟨rfl, [], by simp⟩
theorem shF_mono {T T' : Tab} (h : Grows T T') {s : ByteArray} (hok : (shF T s).2 = true) : shF T' s = shF T s := by
  obtain ⟨h1, more, h2⟩ := h
  unfold shF at *
  rw [h1]
  cases hi : ixOf T.names s with
  | none => rfl
  | some j =>
    rw [hi] at hok
    dsimp only at hok ⊢
    cases hx : T.shapes[j]? with
    | none => rw [hx] at hok; simp at hok
    | some x =>
      have hlt := (List.getElem?_eq_some_iff.1 hx).1
      rw [h2, List.getElem?_append_left hlt, hx]
theorem ptF_mono {T T' : Tab} (h : Grows T T') (f : Fm) : ptF T' f = ptF T f := by
  unfold ptF
  rw [h.1]
theorem sgF_mono {T T' : Tab} (h : Grows T T') {f : Fm} (hok : (sgF T f).2.2 = true) : sgF T' f = sgF T f := by
  unfold sgF at *
  split
  · rename_i h1
    rw [if_pos h1] at hok
    rw [shF_mono h hok]
  · rename_i h1
    rw [if_neg h1] at hok
    rw [ptF_mono h]
theorem szF_mono {T T' : Tab} (h : Grows T T') {t : ByteArray} (he : (szF T t).2.2 ≠ 5) : szF T' t = szF T t := by
  unfold szF at *
  split
  · rename_i h1
    rw [if_pos h1] at he
    by_cases h2 : (sgF T (parseS t).1).2.2 = true
    · rw [sgF_mono h h2]
    · rw [if_neg h2] at he
      exact absurd rfl he
  · rfl
/-- The alignments that there are. -/
def Al (a : Int) : Prop := a = 1 ∨ a = 4 ∨ a = 8
theorem Al.dvd {a b : Int} (ha : Al a) (hb : Al b) (h : a ≤ b) : b.tmod a = 0 := by
  rcases ha with rfl | rfl | rfl <;> rcases hb with rfl | rfl | rfl <;> first | rfl | omega
theorem Al.max {a b : Int} (ha : Al a) (hb : Al b) : Al (max a b) := by
  rcases ha with rfl | rfl | rfl <;> rcases hb with rfl | rfl | rfl <;> unfold Al <;> omega
theorem upI_dvd (n : Int) {a : Int} (ha : Al a) : (upI n a).tmod a = 0 := by
  unfold upI
  exact Int.mul_tmod_left _ _
def GoodA (T : Tab) : Prop := ∀ x ∈ T.shapes, Al x.align
theorem sgF_al {T : Tab} (h : GoodA T) {f : Fm} (hok : (sgF T f).2.2 = true) : Al (sgF T f).2.1 := by
  unfold sgF at *
  split
  · rename_i h1
    rw [if_pos h1] at hok
    dsimp only at *
    unfold shF at *
    cases hi : ixOf T.names f.name with
    | none => rw [hi] at hok; simp at hok
    | some j =>
      rw [hi] at hok
      dsimp only at hok ⊢
      cases hx : T.shapes[j]? with
      | none => rw [hx] at hok; simp at hok
      | some x => exact h x (List.mem_of_getElem? hx)
  · rename_i h1
    rw [if_neg h1] at hok
    split
    · rename_i h2
      rw [if_pos h2] at hok
      unfold ptF at *
      split
      · rename_i h3; rw [if_pos h3] at hok; simp at hok
      · exact .inr (.inr rfl)
    · rename_i h2
      rw [if_neg h2] at hok
      split
      · exact .inl rfl
      · rename_i h3
        rw [if_neg h3] at hok
        split
        · exact .inr (.inl rfl)
        · rename_i h4
          rw [if_neg h4] at hok
          split
          · exact .inr (.inr rfl)
          · rename_i h5; rw [if_neg h5] at hok; simp at hok
theorem szF_al {T : Tab} (h : GoodA T) {t : ByteArray} (he : (szF T t).2.2 = 0) : Al (szF T t).2.1 := by
  unfold szF at *
  split
  · rename_i h1
    rw [if_pos h1] at he
    split
    · rename_i h2
      rw [if_pos h2] at he
      have hg := sgF_al h h2
      split
      · rename_i h3
        rw [if_pos h3] at he
        split
        · rename_i h4; rw [if_pos h4] at he; simp at he
        · exact hg
      · exact hg
    · rename_i h2; rw [if_neg h2] at he; simp at he
  · rename_i h1; rw [if_neg h1] at he; simp at he
/-- Places, one behind the other, from one end to another. -/
def PlcOk (T : Tab) (e : Int) : List Pl → Int → Prop
  | [], e' => e = e'
  | p :: l, e' => (szF T p.typ).2.2 = 0 ∧ p.off = upI e (szF T p.typ).2.1 ∧ PlcOk T (p.off + (szF T p.typ).1) l e'
theorem PlcOk.snoc {T : Tab} : ∀ {l : List Pl} {e e' : Int} {p : Pl}, PlcOk T e l e' → (szF T p.typ).2.2 = 0 → p.off = upI e' (szF T p.typ).2.1 → PlcOk T e (l ++ [p]) (p.off + (szF T p.typ).1)
  | [], e, e', p, h, h1, h2 => by
    simp only [PlcOk] at h
    subst h
    exact ⟨h1, h2, rfl⟩
  | q :: l, e, e', p, h, h1, h2 => ⟨h.1, h.2.1, PlcOk.snoc h.2.2 h1 h2⟩
theorem PlcOk.mono {T T' : Tab} (hg : Grows T T') : ∀ {l : List Pl} {e e' : Int}, PlcOk T e l e' → PlcOk T' e l e'
  | [], e, e', h => h
  | p :: l, e, e', h => by
    have e1 := szF_mono hg (t := p.typ) (by rw [h.1]; decide)
    unfold PlcOk
    rw [e1]
    exact ⟨h.1, h.2.1, PlcOk.mono hg h.2.2⟩
/-- What is laid so far is right. -/
structure LayOk (T : Tab) (s : LS) : Prop where
  ok : LSok s
  al : Al s.al
  plc : PlcOk T 0 s.pls s.sz
  each : ∀ p ∈ s.pls, (szF T p.typ).2.2 = 0 ∧ Al (szF T p.typ).2.1 ∧ (szF T p.typ).2.1 ≤ s.al
theorem LayOk.step {T : Tab} (h : GoodT T) (ha : GoodA T) {s : LS} (hs : LayOk T s) (f : Fd) : LayOk T (layStep T s f) := by
  refine ⟨hs.ok.step h f, ?_, ?_, ?_⟩
  · unfold layStep
    split
    · rename_i he
      split
      · exact hs.al
      · exact hs.al.max (szF_al ha he)
    · exact hs.al
  · unfold layStep
    split
    · rename_i he
      split
      · exact hs.plc
      · exact hs.plc.snoc he rfl
    · exact hs.plc
  · unfold layStep
    split
    · rename_i he
      split
      · exact hs.each
      · intro p hp
        simp only [List.mem_append, List.mem_singleton] at hp
        rcases hp with hp | rfl
        · have := hs.each p hp
          exact ⟨this.1, this.2.1, by dsimp only; omega⟩
        · exact ⟨he, szF_al ha he, by dsimp only; omega⟩
    · exact hs.each
theorem layL_lay {T : Tab} (h : GoodT T) (ha : GoodA T) : ∀ (l pre : List Fd) (s s' : LS), LayOk T s → layL T pre s l = some s' → LayOk T s'
  | [], pre, s, s', hs, e => by
    simp only [layL, Option.some.injEq] at e
    subst e
    exact hs
  | f :: l, pre, s, s', hs, e => by
    unfold layL at e
    split at e
    · cases e
    · exact layL_lay h ha l _ _ _ (hs.step h ha f) e
/-- The places' names and types are the fields'. -/
theorem layL_names {T : Tab} : ∀ (l pre : List Fd) (s s' : LS), layL T pre s l = some s' → s'.tg = false → s'.pls.map (fun p => (⟨p.name, p.typ⟩ : Fd)) = s.pls.map (fun p => ⟨p.name, p.typ⟩) ++ l
  | [], pre, s, s', h, ht => by
    simp only [layL, Option.some.injEq] at h
    subst h
    simp
  | f :: l, pre, s, s', h, ht => by
    have hlen := (layL_len (f :: l) pre s s' h ht).2
    unfold layL at h
    split at h
    · cases h
    · have h1 := layL_names l _ _ _ h ht
      have h2 := (layL_len l _ _ _ h ht)
      rw [h1]
      unfold layStep at h2 ⊢
      split at h2
      · rename_i he
        rw [if_pos he]
        split at h2
        · simp at h2
        · rename_i hgt
          rw [if_neg hgt]
          simp
      · simp at h2
/-- A struct that is laid out rightly. -/
structure ShOk (T : Tab) (x : Shp) (fields : List Fd) : Prop where
  al : Al x.align
  sz : 1 ≤ x.size ∧ x.size ≤ 65536
  plc : ∃ e, PlcOk T 0 x.places e ∧ 0 ≤ e ∧ e ≤ x.size ∧ x.size - e < x.align ∧ x.size.tmod x.align = 0
  each : ∀ p ∈ x.places, (szF T p.typ).2.2 = 0 ∧ Al (szF T p.typ).2.1 ∧ (szF T p.typ).2.1 ≤ x.align
  names : x.places.map (fun p => (⟨p.name, p.typ⟩ : Fd)) = fields
  len : x.places.length ≤ 65536 ∧ x.places ≠ []
theorem layR_ok {T : Tab} (h : GoodT T) (ha : GoodA T) {l : List Fd} (hl : l.length ≠ 0) (he : (layR T l).2 = 0) : ShOk T (layR T l).1 l := by
  have hgood := layR_good h hl he
  unfold layR at *
  cases hL : layL T [] ⟨[], 0, 1, false⟩ l with
  | none => rw [hL] at he; simp [layO] at he
  | some s =>
    rw [hL] at he hgood
    have hok := layL_lay h ha l [] ⟨[], 0, 1, false⟩ s ⟨by simp [LSok], .inl rfl, rfl, fun p hp => by simp at hp⟩ hL
    simp only [layO] at he hgood ⊢
    split at he
    · simp at he
    · rename_i hc
      rw [if_neg hc] at hgood ⊢
      simp only [Bool.or_eq_true, decide_eq_true_eq, not_or, Bool.not_eq_true] at hc
      have hn := layL_names l [] _ s hL hc.1
      obtain ⟨h1, h2, h3, h4, h5⟩ := hok.ok
      have hu := upI_range h1 h3
      refine ⟨hok.al, ⟨hgood.1, hgood.2.1⟩, ⟨s.sz, hok.plc, h1, hu.1, by dsimp only; omega, upI_dvd _ hok.al⟩, hok.each, by simpa using hn, hgood.2.2.2.2.1, ?_⟩
      intro e
      have := hgood.2.2.2.2.2
      rw [e] at this
      exact hl this.symm
theorem ShOk.mono {T T' : Tab} (hg : Grows T T') {x : Shp} {l : List Fd} (h : ShOk T x l) : ShOk T' x l := by
  obtain ⟨e, he⟩ := h.plc
  refine ⟨h.al, h.sz, ⟨e, he.1.mono hg, he.2⟩, fun p hp => ?_, h.names, h.len⟩
  have := h.each p hp
  rw [szF_mono hg (by rw [this.1]; decide)]
  exact this
/-- A table that New took. -/
structure TabOk (l : List St) (T : Tab) : Prop where
  names : T.names = namesOf l
  good : GoodT T
  al : GoodA T
  each : ∀ (i : Nat) (x : St) (y : Shp), l[i]? = some x → T.shapes[i]? = some y → nameS x.name = true ∧ (ixOf T.names x.name).getD 0 = i ∧ ShOk T y x.fields
theorem newL_ok (names : List ByteArray) : ∀ (l : List St) (i : Nat) (sh sh' : List Shp) (k : Nat), newL names i sh l = (0, k, sh') → i = sh.length → GoodT ⟨names, sh⟩ → GoodA ⟨names, sh⟩ →
    (∃ more, sh' = sh ++ more ∧ more.length = l.length) ∧ GoodT ⟨names, sh'⟩ ∧ GoodA ⟨names, sh'⟩ ∧ ∀ (j : Nat) (x : St) (y : Shp), l[j]? = some x → sh'[i + j]? = some y → nameS x.name = true ∧ (ixOf names x.name).getD 0 = i + j ∧ ShOk ⟨names, sh'⟩ y x.fields
  | [], i, sh, sh', k, h, hi, hg, ha => by
    simp only [newL, Prod.mk.injEq, true_and] at h
    obtain ⟨_, rfl⟩ := h
    exact ⟨⟨[], by simp, rfl⟩, hg, ha, fun j x y hx => by simp at hx⟩
  | x :: l, i, sh, sh', k, h, hi, hg, ha => by
    unfold newL at h
    split at h
    · rename_i hE
      obtain ⟨hg1, hg2⟩ := addE_zero hE
      have hg' := addE_good hg hE
      simp only [Bool.or_eq_false_iff, Bool.not_eq_false', beq_iff_eq, beq_eq_false_iff_ne] at hg1
      have hx := layR_ok hg ha hg1.2.2 hg2
      have ha' : GoodA ⟨names, sh ++ [(layR ⟨names, sh⟩ x.fields).1]⟩ := fun y hy => by
        simp only [List.mem_append, List.mem_singleton] at hy
        rcases hy with hy | rfl
        · exact ha y hy
        · exact hx.al
      obtain ⟨⟨more, hm, hml⟩, h2, h3, h4⟩ := newL_ok names l (i + 1) _ sh' k h (by simp [hi]) hg' ha'
      refine ⟨⟨(layR ⟨names, sh⟩ x.fields).1 :: more, by rw [hm]; simp, by simp [hml]⟩, h2, h3, fun j z y hz hy => ?_⟩
      cases j with
      | zero =>
        simp only [List.getElem?_cons_zero, Option.some.injEq] at hz
        subst hz
        have hy' : y = (layR ⟨names, sh⟩ x.fields).1 := by
          rw [hm, Nat.add_zero, hi, List.append_assoc, List.getElem?_append_right (Nat.le_refl _), Nat.sub_self] at hy
          simpa using hy.symm
        subst hy'
        refine ⟨hg1.1, by rw [hg1.2.1, Nat.add_zero, hi], ShOk.mono (T := ⟨names, sh⟩) (T' := ⟨names, sh'⟩) ⟨rfl, (layR ⟨names, sh⟩ x.fields).1 :: more, by dsimp only; rw [hm]; simp⟩ hx⟩
      | succ j =>
        rw [List.getElem?_cons_succ] at hz
        have := h4 j z y hz (by rw [← hy]; congr 1; omega)
        exact ⟨this.1, by rw [this.2.1]; omega, this.2.2⟩
    · rename_i hE
      simp only [Prod.mk.injEq] at h
      exact absurd h.1 hE
theorem newF_ok {l : List St} {k : Nat} {sh : List Shp} (h : newF l = (0, k, sh)) : TabOk l ⟨namesOf l, sh⟩ ∧ sh.length = l.length := by
  obtain ⟨⟨more, hm, hml⟩, h2, h3, h4⟩ := newL_ok (namesOf l) l 0 [] sh k h rfl (fun x hx => by simp at hx) (fun x hx => by simp at hx)
  refine ⟨⟨rfl, h2, h3, fun i x y hx hy => ?_⟩, by rw [hm, ← hml]; simp⟩
  have := h4 i x y hx (by simpa using hy)
  simpa using this
theorem ixOf_mem {l : List ByteArray} {s : ByteArray} (h : s ∈ l) : ixOf l s = some ((ixOf l s).getD 0) := by
  unfold ixOf
  cases hi : l.findIdx? (fun x => decide (x = s)) with
  | none =>
    rw [List.findIdx?_eq_none_iff] at hi
    have := hi s h
    simp at this
  | some j => rfl
theorem TabOk.shape {l : List St} {T : Tab} (h : TabOk l T) {i : Nat} {x : St} {y : Shp} (hx : l[i]? = some x) (hy : T.shapes[i]? = some y) : shF T x.name = (y, true) := by
  have hm : x.name ∈ T.names := by
    rw [h.names]
    exact List.mem_map.2 ⟨x, List.mem_of_getElem? hx, rfl⟩
  have h1 := ixOf_mem hm
  rw [(h.each i x y hx hy).2.1] at h1
  unfold shF
  rw [h1]
  dsimp only
  rw [hy]
theorem indexByte_not : ∀ (l : List UInt8) (c : UInt8), c ∉ l → Lib.indexByte l c = -1
  | [], c, _ => rfl
  | b :: l, c, h => by
    rw [List.mem_cons, not_or] at h
    unfold Lib.indexByte
    have h1 : (b == c) = false := by simpa using Ne.symm h.1
    rw [h1, indexByte_not l c h.2]
    rfl
theorem indexByte_at : ∀ (p l : List UInt8) (c : UInt8), c ∉ p → Lib.indexByte (p ++ c :: l) c = (p.length : Int)
  | [], l, c, _ => by simp [Lib.indexByte]
  | b :: p, l, c, h => by
    rw [List.mem_cons, not_or] at h
    have h1 : (b == c) = false := by simpa using Ne.symm h.1
    rw [List.cons_append]
    unfold Lib.indexByte
    rw [h1, indexByte_at p l c h.2]
    have h2 : ((p.length : Int) == -1) = false := by simp
    rw [h2]
    simp
theorem ba_ext {a b : ByteArray} (h : a.data.toList = b.data.toList) : a = b := by
  obtain ⟨⟨a⟩⟩ := a
  obtain ⟨⟨b⟩⟩ := b
  simp at h
  rw [h]
theorem extract_list (s : ByteArray) (a b : Nat) : (s.extract a b).data.toList = (s.data.toList.drop a).take (b - a) := by
  have := Lib.extract_toList s a b
  rwa [ByteArray.toList_eq] at this
theorem append_list (a b : ByteArray) : (a ++ b).data.toList = a.data.toList ++ b.data.toList := by
  simp [ByteArray.data_append]
theorem name_bytes {s : ByteArray} (h : nameS s = true) (b : UInt8) (hb : b ∈ s.data.toList) : nbB (b.toNat : Int) = true := by
  simp only [nameS, Bool.and_eq_true] at h
  exact List.all_eq_true.1 h.2.2.2 b hb
def sPre : ByteArray := ⟨#[115, 116, 114, 117, 99, 116, 32]⟩
theorem pre_list : sPre.data.toList = [115, 116, 114, 117, 99, 116, 32] := rfl
theorem parse_struct {nm : ByteArray} (h : nameS nm = true) : parseS (sPre ++ nm) = (⟨bStruct, nm, 0, 0⟩, true) := by
  have hl : (sPre ++ nm).data.toList = [115, 116, 114, 117, 99, 116, 32] ++ nm.data.toList := by rw [append_list, pre_list]
  have h91 : (91 : UInt8) ∉ (sPre ++ nm).data.toList := by
    rw [hl, List.mem_append]
    rintro (h1 | h1)
    · revert h1; decide
    · have := name_bytes h _ h1
      revert this; decide
  have hne : nm.data.toList ≠ [] := by
    intro e
    have hz : nm.size = 0 := by
      have := congrArg List.length e
      simpa using this
    simp [nameS, hz] at h
  have c1 : cut1 (sPre ++ nm) 91 = (sPre ++ nm, ⟨#[]⟩, false) := by
    unfold cut1
    rw [indexByte_not _ _ h91]
    rfl
  have c2 : cutC (sPre ++ nm) = (sPre ++ nm, 0, true) := by
    unfold cutC
    rw [c1]
    rfl
  have c3 : baseS (sPre ++ nm) = sPre ++ nm := by
    apply ba_ext
    show (Lib.trimRightB (sPre ++ nm).data.toList 42).toArray.toList = _
    rw [List.toList_toArray]
    unfold Lib.trimRightB
    have hr : (sPre ++ nm).data.toList.reverse.dropWhile (· == 42) = (sPre ++ nm).data.toList.reverse := by
      rw [hl, List.reverse_append]
      cases hrv : nm.data.toList.reverse with
      | nil => exact absurd (List.reverse_eq_nil_iff.1 hrv) hne
      | cons b t =>
        have hb : b ∈ nm.data.toList := by rw [← List.mem_reverse, hrv]; exact List.mem_cons_self
        have := name_bytes h b hb
        have hb42 : (b == 42) = false := by
          rw [beq_eq_false_iff_ne]
          rintro rfl
          revert this; decide
        rw [List.cons_append, List.dropWhile_cons, hb42]
        simp
    rw [hr, List.reverse_reverse]
  have hix : Lib.indexByte (sPre ++ nm).data.toList 32 = 6 := by
    rw [hl]
    have := indexByte_at [115, 116, 114, 117, 99, 116] nm.data.toList 32 (by decide)
    exact this
  have c4 : cut1 (sPre ++ nm) 32 = (bStruct, nm, true) := by
    unfold cut1
    rw [hix]
    simp only [show (0 : Int) ≤ 6 by decide, if_true]
    refine Prod.ext (ba_ext ?_) (Prod.ext (ba_ext ?_) rfl)
    · rw [extract_list, hl]; rfl
    · rw [extract_list, hl]
      show List.take _ (List.drop 7 ([115, 116, 114, 117, 99, 116, 32] ++ nm.data.toList)) = _
      rw [show List.drop 7 ([115, 116, 114, 117, 99, 116, 32] ++ nm.data.toList) = nm.data.toList from rfl, List.take_of_length_le]
      have : (sPre ++ nm).size = 7 + nm.size := by
        have e : (sPre ++ nm).size = (sPre ++ nm).data.toList.length := rfl
        rw [e, hl, List.length_append]
        rfl
      rw [this]
      show nm.data.toList.length ≤ _
      have e : nm.data.toList.length = nm.size := rfl
      rw [e]
      show nm.size ≤ 7 + nm.size - 7
      omega
  unfold parseS
  rw [c2]
  simp only [if_true, formS, formOk]
  rw [c3, c4]
  simp only [if_true]
  have : isS bStruct cStruct = true := by rfl
  rw [this, h]
  simp
theorem TabOk.size {l : List St} {T : Tab} (h : TabOk l T) {i : Nat} {x : St} {y : Shp} (hx : l[i]? = some x) (hy : T.shapes[i]? = some y) : szF T (sPre ++ x.name) = (y.size, y.align, 0) := by
  have hn := (h.each i x y hx hy).1
  unfold szF
  rw [parse_struct hn]
  have hst : (⟨bStruct, x.name, 0, 0⟩ : Fm).isStruct = true := by rfl
  have hsg : sgF T ⟨bStruct, x.name, 0, 0⟩ = (y.size, y.align, true) := by
    unfold sgF
    rw [if_pos hst]
    dsimp only
    rw [h.shape hx hy]
  rw [hsg]
  simp [Fm.isArray]
end Go.Proofs.YtpedfnfangaelaaDoor
