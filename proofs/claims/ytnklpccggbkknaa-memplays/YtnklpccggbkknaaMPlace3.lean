/- Contract of place over a memory; what a stored word makes of it. -/
import Derived.Test.YtnklpccggbkknaaMPlace2
namespace Go.Proofs.Ytnklpccggbkknaa
open Go.ChangeShapes Go.WideShapes Go.ChangeAt Go.RowKit Pl
set_option linter.unusedSimpArgs false
set_option linter.unusedVariables false

def updR (R : Nat → Option Role) (b : Nat) (r : Role) : Nat → Option Role := fun x => if x = b then some r else R x
theorem updR_same (R : Nat → Option Role) (b : Nat) (r : Role) : updR R b r b = some r := by simp [updR]
theorem updR_ne {R : Nat → Option Role} {b x : Nat} {r : Role} (h : x ≠ b) : updR R b r x = R x := by simp [updR, h]
theorem set_self {α : Type} {M : List α} {k : Nat} {x : α} (h : M[k]? = some x) : M.set k x = M := by
  apply List.ext_getElem?
  intro i
  rw [List.getElem?_set]
  by_cases hik : k = i
  · subst hik
    rw [if_pos rfl, if_pos (lt_of_get h), h]
  · rw [if_neg hik]
theorem PageIs.congr {w : World} {q : Nat} {f f' : Nat → WD} (h : PageIs w q f) (he : ∀ i, i < 64 → f' i = f i) : PageIs w q f' :=
  ⟨fun i hi => by rw [he i hi]; exact h.c i hi, h.fz⟩
theorem Role.ne_of {R : Nat → Option Role} {b c : Nat} {r s : Role} (hb : R b = some r) (hc : R c = some s) (h : r ≠ s) : b ≠ c := fun e => by
  subst e; rw [hb] at hc; cases hc; exact h rfl
variable {w w' w1 : World} {base p : Nat} {R : Nat → Option Role} {a : Option Addr} {cap g : Nat} {cur : Array Value} {M : List AB} {k : Nat} {ab : AB}

theorem MemIs.made (h : MemIs w base p R a cap g cur M) (hab : M[k]? = some ab) (hpv : cur[k * 4 + 3]? = some (.slice none 0 0)) (hb : ∀ i, ab.wd i = blankF ab.size ab.zeroed i) (hpos : 0 < ab.np) :
    MemIs (madeW w g (k * 4) ab.np) base p (updR R w.heap.size (.pages k)) a cap g (cur.setIfInBounds (k * 4 + 3) (.slice (some ⟨w.heap.size, 0, none⟩) ab.np ab.np)) M := by
  obtain ⟨_, hgR, hh, _⟩ := h.has hab
  have hB := h.blk k ab hab
  have hpg := h.pg hgR
  have hold : ∀ b, R b ≠ none → updR R w.heap.size (.pages k) b = R b := fun b hb => updR_ne (by have := (h.rng b hb).2; omega)
  have hal : ∀ b, b < w.heap.size → (madeW w g (k * 4) ab.np).heap[b]? = (w.setCell ⟨g, k * 4 + 3, none⟩ (.slice (some ⟨w.heap.size, 0, none⟩) ab.np ab.np)).heap[b]? := fun b hb => Below.heap_alloc _ _ b (by rw [size_set]; exact hb)
  have hms : (madeW w g (k * 4) ab.np).heap.size = w.heap.size + 1 := by unfold madeW; simp [size_set]
  have key := h.turn (w' := madeW w g (k * 4) ab.np) (R' := updR R w.heap.size (.pages k)) (cur' := cur.setIfInBounds (k * 4 + 3) (.slice (some ⟨w.heap.size, 0, none⟩) ab.np ab.np)) (ab' := ab) hab
    (by rw [set_self hab, hal p (h.rng p (by rw [h.rp]; simp)).2, heap_set_other hpg]; exact h.hp)
    (by rw [hal g (h.rng g (by rw [hgR]; simp)).2]; exact heap_set_same hh _) (by simp) (fun o ho => sib_ne (by omega))
    ⟨by rw [sib_ne (by omega)]; exact hB.s, by rw [sib_ne (by omega)]; exact hB.f, by rw [sib_ne (by omega)]; exact hB.z, _, sib_eq hpv,
      .inr ⟨w.heap.size, ab.np, nilRow ab.np, rfl, updR_same _ _ _, by
        have := heap_alloc_new (w.setCell ⟨g, k * 4 + 3, none⟩ (.slice (some ⟨w.heap.size, 0, none⟩) ab.np ab.np)) (.cells (nilRow ab.np) 91)
        rw [size_set] at this
        exact this, ⟨hpos, Nat.le_refl _⟩, nilRow_size _, fun j hj => ⟨.pointer none, nilRow_get _ j hj, .inl ⟨rfl, fun i _ => hb _⟩⟩⟩⟩
    (fun b r hr _ => (hold b (by rw [hr]; simp)).trans hr)
    (fun b hbn => by
      rw [hms]
      by_cases e : b = w.heap.size
      · subst e
        have := (h.rng p (by rw [h.rp]; simp))
        exact ⟨by omega, by omega⟩
      · rw [updR_ne e] at hbn
        have := h.rng b hbn
        exact ⟨this.1, by omega⟩)
    (fun b r hr _ h1 h2 => by
      rw [hal b (h.rng b (by rw [hr]; simp)).2, heap_set_other (Role.ne_of hr hgR h2)])
    (h.sz ab (List.mem_of_getElem? hab))
  rwa [set_self hab] at key
theorem MemIs.install (h : MemIs w base p R a cap g cur M) (hab : M[k]? = some ab) {b cp j : Nat} {ents : Array Value} (hpv : cur[k * 4 + 3]? = some (.slice (some ⟨b, 0, none⟩) ab.np cp)) (hbR : R b = some (.pages k))
    (hbh : w.heap[b]? = some (.cells ents 91 (0, 0))) (hcp : 0 < ab.np ∧ ab.np ≤ cp) (hes : ents.size = cp) (hj : j < ab.np) (hall : ∀ j, j < ab.np → ∃ v, ents[j]? = some v ∧ PageOk w R k ab j v)
    (hblank : ∀ i, i < 64 → ab.wd (j * 64 + i) = blankF ab.size ab.zeroed (j * 64 + i))
    (hb1 : Below w.heap.size w w1) (hz : w.heap.size < w1.heap.size) (hp1 : PageIs w1 w.heap.size (fun t => blankF ab.size ab.zeroed (j * 64 + t))) :
    MemIs (w1.setCell ⟨b, j, none⟩ (.pointer (some ⟨w.heap.size, 0, none⟩))) base p (updR R w.heap.size (.page k j)) a cap g cur M ∧
      (w1.setCell ⟨b, j, none⟩ (.pointer (some ⟨w.heap.size, 0, none⟩))).heap[b]? = some (.cells (ents.setIfInBounds j (.pointer (some ⟨w.heap.size, 0, none⟩))) 91 (0, 0)) ∧
      (ents.setIfInBounds j (.pointer (some ⟨w.heap.size, 0, none⟩)))[j]? = some (.pointer (some ⟨w.heap.size, 0, none⟩)) := by
  have h' := h.below hb1
  obtain ⟨_, hgR, hh, _⟩ := h'.has hab
  have hB := h'.blk k ab hab
  have hbl := (h.rng b (by rw [hbR]; simp)).2
  have hbh1 : w1.heap[b]? = some (.cells ents 91 (0, 0)) := (hb1.block b hbl).trans hbh
  have hpb : p ≠ b := Role.ne_of h.rp hbR (by simp)
  have hgb : g ≠ b := Role.ne_of hgR hbR (by simp)
  have hold : ∀ b, R b ≠ none → updR R w.heap.size (.page k j) b = R b := fun b hb => updR_ne (by have := (h.rng b hb).2; omega)
  obtain ⟨v0, hv0, _⟩ := hall j hj
  have hset := heap_set_same (o := j) hbh1 (.pointer (some ⟨w.heap.size, 0, none⟩))
  have hent : (ents.setIfInBounds j (.pointer (some ⟨w.heap.size, 0, none⟩)))[j]? = some (.pointer (some ⟨w.heap.size, 0, none⟩)) := sib_eq hv0
  have key := h'.turn (w' := w1.setCell ⟨b, j, none⟩ (.pointer (some ⟨w.heap.size, 0, none⟩))) (R' := updR R w.heap.size (.page k j)) (cur' := cur) (ab' := ab) hab
    (by rw [set_self hab, heap_set_other hpb]; exact h'.hp) (by rw [heap_set_other hgb]; exact hh) rfl (fun _ _ => rfl)
    ⟨hB.s, hB.f, hB.z, _, hpv, .inr ⟨b, cp, _, rfl, (hold b (by rw [hbR]; simp)).trans hbR, hset, hcp, by simpa using hes, fun i hi => by
      by_cases e : i = j
      · subst e
        refine ⟨_, hent, .inr ⟨w.heap.size, rfl, updR_same _ _ _, ?_⟩⟩
        exact (hp1.keep (heap_set_other (by omega))).congr hblank
      · obtain ⟨v, hv, ho⟩ := hall i hi
        refine ⟨v, by rw [sib_ne (Ne.symm e)]; exact hv, ho.keep fun q hq => ⟨(hold q (by rw [hq]; simp)).trans hq, ?_⟩⟩
        rw [heap_set_other (Role.ne_of hq hbR (by simp))]
        exact hb1.block q (h.rng q (by rw [hq]; simp)).2⟩⟩
    (fun b r hr _ => (hold b (by rw [hr]; simp)).trans hr)
    (fun b' hbn => by
      rw [size_set]
      by_cases e : b' = w.heap.size
      · subst e
        have := (h.rng p (by rw [h.rp]; simp))
        exact ⟨by omega, hz⟩
      · rw [updR_ne e] at hbn
        exact h'.rng b' hbn)
    (fun b' r hr hn h1 h2 => heap_set_other (Role.ne_of hr hbR (fun e => by subst e; exact hn rfl)))
    (h.sz ab (List.mem_of_getElem? hab))
  rw [set_self hab] at key
  exact ⟨key, hset, hent⟩
/-- The page j of the block k lies in q. -/
def Placed (w : World) (R : Nat → Option Role) (cur : Array Value) (k : Nat) (ab : AB) (j q : Nat) : Prop :=
  R q = some (.page k j) ∧ ∃ (b cp : Nat) (ents : Array Value), cur[k * 4 + 3]? = some (.slice (some ⟨b, 0, none⟩) ab.np cp) ∧ R b = some (.pages k) ∧ w.heap[b]? = some (.cells ents 91 (0, 0)) ∧ ents[j]? = some (.pointer (some ⟨q, 0, none⟩))
theorem place_any (h : MemIs w base p R a cap g cur M) (hab : M[k]? = some ab) (i : Nat) (hi : i / 64 < ab.np) (hi2 : i ≤ 1000000) :
    Calls Try.prog 40 #[.pointer (some ⟨g, k * 4, none⟩), .int .i64 i] w fun e w' => ∃ q R' cur', e = .returned (.pointer (some ⟨q, i % 64 * 6, none⟩)) ∧
      MemIs w' base p R' a cap g cur' M ∧ MFr R R' w w' ∧ Placed w' R' cur' k ab (i / 64) q := by
  obtain ⟨_, hgR, hh, _⟩ := h.has hab
  have hB := h.blk k ab hab
  obtain ⟨pv, hpv, hpo⟩ := hB.p
  have hs := h.sz ab (List.mem_of_getElem? hab)
  obtain ⟨c0, c1, c2⟩ := hB.cells hh
  have hnp : ab.np ≤ 1000 := by unfold AB.np AB.nw; omega
  have hjj : IntKind.i64.wrap ((i : Int).tdiv 64) = ((i / 64 : Nat) : Int) := by rw [i64w]; exact quo64 i hi2
  rcases hpo with ⟨rfl, hb⟩ | ⟨b, cp, ents, rfl, hbR, hbh, hcp, hes, hall⟩
  · have hfz := heap_frozen (o := k * 4 + 3) hh
    refine (place_new g (k * 4) ab.np ab.size ab.nw (i / 64) (i % 64) i ab.zeroed w c0 c2 (heap_cell hh hpv) hfz hs (rem64 i) (by omega) hjj hi (by omega) rfl (by unfold AB.np; omega) hnp).mono ?_
    rintro e w' ⟨rfl, w1, hb1, hz, hp1, rfl⟩
    have hm := h.made hab hpv hb (by omega)
    have hms : (madeW w g (k * 4) ab.np).heap.size = w.heap.size + 1 := by unfold madeW; simp [size_set]
    have hrow : (madeW w g (k * 4) ab.np).heap[w.heap.size]? = some (.cells (nilRow ab.np) 91 (0, 0)) := by
      have := heap_alloc_new (w.setCell ⟨g, k * 4 + 3, none⟩ (.slice (some ⟨w.heap.size, 0, none⟩) ab.np ab.np)) (.cells (nilRow ab.np) 91)
      rw [size_set] at this
      exact this
    have hin := hm.install hab (b := w.heap.size) (cp := ab.np) (j := i / 64) (sib_eq hpv) (updR_same _ _ _) hrow ⟨by omega, Nat.le_refl _⟩ (nilRow_size _) hi
      (fun j hj => ⟨.pointer none, nilRow_get _ j hj, .inl ⟨rfl, fun t _ => hb _⟩⟩) (fun t _ => hb _) (by rw [hms]; exact hb1) (by rw [hms]; exact hz) (by rw [hms]; exact hp1)
    rw [hms] at hin
    have hpl : R p ≠ none := by rw [h.rp]; simp
    refine ⟨_, _, _, rfl, hin.1, ⟨hb1.os, hb1.tape, hb1.output, by simp only [size_set]; omega, fun b hbl hr => ?_, fun b hbl => ?_⟩, updR_same _ _ _, w.heap.size, ab.np, _, sib_eq hpv, ?_, hin.2.1, hin.2.2⟩
    · rw [heap_set_other (by omega), hb1.block b (by omega)]
      unfold madeW
      rw [Below.heap_alloc _ _ b (by rw [size_set]; exact hbl), heap_set_other (fun e => by subst e; rw [hgR] at hr; cases hr)]
    · rw [updR_ne (by omega), updR_ne (by omega)]
    · rw [updR_ne (by omega), updR_same]
  · obtain ⟨v, hv, ho⟩ := hall _ hi
    have c3 := heap_cell hh hpv
    rcases ho with ⟨rfl, hblank⟩ | ⟨q, rfl, hqR, hq⟩
    · refine (place_page g (k * 4) b ab.np cp ab.size (i / 64) (i % 64) i ab.zeroed w c0 c2 c3 hs (rem64 i) (by omega) hjj hi (by omega) (heap_cell hbh hv) (heap_frozen hbh) (Role.ne_of hbR hgR (by simp))).mono ?_
      rintro e w' ⟨rfl, w1, hb1, hz, hp1, rfl⟩
      have hin := h.install hab hpv hbR hbh hcp hes hi hall hblank hb1 hz hp1
      refine ⟨_, _, _, rfl, hin.1, ⟨hb1.os, hb1.tape, hb1.output, by simp only [size_set]; omega, fun b' hbl hr => ?_, fun b' hbl => updR_ne (by omega)⟩, updR_same _ _ _, b, cp, _, hpv, ?_, hin.2.1, hin.2.2⟩
      · rw [heap_set_other (fun e => by subst e; rw [hbR] at hr; cases hr), hb1.block b' hbl]
      · rw [updR_ne (by have := (h.rng b (by rw [hbR]; simp)).2; omega)]; exact hbR
    · refine (place_has g (k * 4) b ab.np cp q i (i % 64) w c3 (rem64 i) (by omega) (page_in g _ b _ cp (i / 64) i _ w c3 (quo64 i hi2) hi (heap_cell hbh hv))).mono ?_
      rintro e w' ⟨rfl, rfl⟩
      exact ⟨q, R, cur, rfl, h, MFr.refl _ _, hqR, b, cp, ents, hpv, hbR, hbh, hv⟩
def updW (f : Nat → WD) (i : Nat) (x : WD) : Nat → WD := fun t => if t = i then x else f t
def setB (ab : AB) (i : Nat) (x : WD) : AB := ⟨ab.size, ab.freed, ab.zeroed, updW ab.wd i x⟩
/-- A word of a page that lies is turned. -/
theorem MemIs.word (h : MemIs w base p R a cap g cur M) (hab : M[k]? = some ab) {j q r : Nat} (hpl : Placed w R cur k ab j q) (hj : j < ab.np) (hr : r < 64) {x : WD} (hf : WFr w w' q (r * 6)) (hx : WIs w' q (r * 6) x) :
    MemIs w' base p R a cap g cur (M.set k (setB ab (j * 64 + r) x)) ∧ MFr R R w w' := by
  obtain ⟨hqR, b, cp, ents, hpv, hbR, hbh, hej⟩ := hpl
  obtain ⟨_, hgR, hh, _⟩ := h.has hab
  have hB := h.blk k ab hab
  obtain ⟨pv, hpv', hpo⟩ := hB.p
  rw [hpv] at hpv'
  cases hpv'
  have hne : ∀ b r, R b = some r → r ≠ .page k j → w'.heap[b]? = w.heap[b]? := fun b r hr hn => hf.block b (h.rng b (by rw [hr]; simp)).2 (Role.ne_of hr hqR hn)
  rcases hpo with ⟨e, _⟩ | ⟨b', cp', ents', e, hbR', hbh', hcp, hes, hall⟩
  · cases e
  cases e
  rw [hbh] at hbh'
  cases hbh'
  have hlv : live (M.set k (setB ab (j * 64 + r) x)) = live M := by
    have := live_set (ab' := setB ab (j * 64 + r) x) hab
    rw [show (setB ab (j * 64 + r) x).freed = ab.freed from rfl] at this
    generalize (if ab.freed = true then (0 : Int) else 1) = t at this
    omega
  refine ⟨h.turn hab (by rw [hne p _ h.rp (by simp), hlv]; exact h.hp) (by rw [hne g _ hgR (by simp)]; exact hh) rfl (fun _ _ => rfl)
    ⟨hB.s, hB.f, hB.z, _, hpv, .inr ⟨b, cp, ents, rfl, hbR, by rw [hne b _ hbR (by simp)]; exact hbh, hcp, hes, fun i hi => ?_⟩⟩ (fun _ _ h _ => h) (fun b hb => ⟨(h.rng b hb).1, Nat.lt_of_lt_of_le (h.rng b hb).2 hf.size⟩)
    (fun b r hr hn _ _ => hne b r hr (fun e => by subst e; exact hn rfl)) (h.sz ab (List.mem_of_getElem? hab)), ⟨hf.os, hf.tape, hf.output, hf.size, fun b hb hr => hf.block b hb (fun e => by subst e; rw [hqR] at hr; cases hr), fun _ _ => rfl⟩⟩
  obtain ⟨v, hv, ho⟩ := hall i hi
  refine ⟨v, hv, ?_⟩
  by_cases e : i = j
  · subst e
    rw [hej] at hv
    cases hv
    rcases ho with ⟨e, _⟩ | ⟨q', e, hq'R, hq'⟩
    · cases e
    · cases e
      refine .inr ⟨q, rfl, hqR, ⟨fun t ht => ?_, fun o => (hf.fz o).trans (hq'.fz o)⟩⟩
      by_cases e : t = r
      · subst e
        simpa [setB, updW] using hx
      · have h1 := hq'.c t ht
        have e2 : (setB ab (i * 64 + r) x).wd (i * 64 + t) = ab.wd (i * 64 + t) := by
          simp only [setB, updW]
          rw [if_neg (by omega)]
        simp only [e2]
        exact ⟨(hf.old _ (by omega)).trans h1.c0, (hf.old _ (by omega)).trans h1.c1, (hf.old _ (by omega)).trans h1.c2, (hf.old _ (by omega)).trans h1.c3, (hf.old _ (by omega)).trans h1.c4, (hf.old _ (by omega)).trans h1.c5⟩
  · rcases ho with ⟨rfl, hbl⟩ | ⟨q', rfl, hq'R, hq'⟩
    · refine .inl ⟨rfl, fun t ht => ?_⟩
      have := hbl t ht
      simp only [setB, updW]
      rw [if_neg (by omega)]
      exact this
    · refine .inr ⟨q', rfl, hq'R, (hq'.keep (hne q' _ hq'R (by simp [e]))).congr fun t ht => ?_⟩
      simp only [setB, updW]
      rw [if_neg (by omega)]
end Go.Proofs.Ytnklpccggbkknaa
