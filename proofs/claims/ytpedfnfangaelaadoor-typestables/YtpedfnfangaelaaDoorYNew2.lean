/- Package types: contract of New. -/
import Derived.Test.YtpedfnfangaelaaDoorYNew
namespace Go.Proofs.YtpedfnfangaelaaDoor
open Go.ChangeShapes Go.WideShapes Go.ChangeAt Go.RowKit
set_option linter.unusedSimpArgs false
set_option linter.unusedVariables false

/-- New, from a struct on: the error, its number, the shapes. -/
def newL (names : List ByteArray) (i : Nat) (sh : List Shp) : List St → Int × Nat × List Shp
  | [] => (0, 0, sh)
  | x :: l => if addE ⟨names, sh⟩ x.name x.fields = 0 then newL names (i + 1) (sh ++ [(layR ⟨names, sh⟩ x.fields).1]) l else (addE ⟨names, sh⟩ x.name x.fields, i, sh)
def newF (l : List St) : Int × Nat × List Shp := newL (namesOf l) 0 [] l
theorem layL_len {T : Tab} : ∀ (l pre : List Fd) (s s' : LS), layL T pre s l = some s' → s'.tg = false → s.tg = false ∧ s'.pls.length = s.pls.length + l.length
  | [], pre, s, s', h, ht => by
    simp only [layL, Option.some.injEq] at h
    subst h
    exact ⟨ht, rfl⟩
  | f :: l, pre, s, s', h, ht => by
    unfold layL at h
    split at h
    · cases h
    · have := layL_len l _ _ _ h ht
      unfold layStep at this
      split at this
      · split at this
        · simp at this
        · simp only [List.length_append, List.length_singleton] at this
          exact ⟨this.1, by rw [this.2, List.length_cons]; omega⟩
      · simp at this
theorem layL_ok {T : Tab} (h : GoodT T) : ∀ (l pre : List Fd) (s s' : LS), LSok s → layL T pre s l = some s' → LSok s'
  | [], pre, s, s', hs, e => by
    simp only [layL, Option.some.injEq] at e
    subst e
    exact hs
  | f :: l, pre, s, s', hs, e => by
    unfold layL at e
    split at e
    · cases e
    · exact layL_ok h l _ _ _ (hs.step h f) e
theorem layR_good {T : Tab} (h : GoodT T) {l : List Fd} (hl : l.length ≠ 0) (he : (layR T l).2 = 0) : 1 ≤ (layR T l).1.size ∧ (layR T l).1.size ≤ 65536 ∧ 1 ≤ (layR T l).1.align ∧ (layR T l).1.align ≤ 8 ∧ (layR T l).1.places.length ≤ 65536 ∧ (layR T l).1.places.length = l.length := by
  unfold layR at *
  cases hL : layL T [] ⟨[], 0, 1, false⟩ l with
  | none => rw [hL] at he; simp [layO] at he
  | some s =>
    rw [hL] at he
    have hok := layL_ok h l [] _ s (by simp [LSok]) hL
    simp only [layO] at he ⊢
    split at he
    · simp at he
    · rename_i hc
      rw [if_neg hc]
      simp only [Bool.or_eq_true, decide_eq_true_eq, not_or, Bool.not_eq_true] at hc
      have hlen := layL_len l [] _ s hL hc.1
      obtain ⟨h1, h2, h3, h4, h5⟩ := hok
      have hu := upI_range h1 h3
      simp only [List.length_nil, Nat.zero_add] at hlen
      dsimp only
      omega
theorem addE_zero {T : Tab} {nm : ByteArray} {l : List Fd} (h : addE T nm l = 0) : (!(nameS nm) || (!((ixOf T.names nm).getD 0 == T.shapes.length) || l.length == 0)) = false ∧ (layR T l).2 = 0 := by
  unfold addE at h
  split at h
  · simp at h
  · rename_i hb
    exact ⟨by simpa using hb, h⟩
theorem addE_good {T : Tab} (hT : GoodT T) {nm : ByteArray} {l : List Fd} (h : addE T nm l = 0) : GoodT ⟨T.names, T.shapes ++ [(layR T l).1]⟩ := by
  obtain ⟨h1, h2⟩ := addE_zero h
  have hl : l.length ≠ 0 := by
    simp only [Bool.or_eq_false_iff, beq_eq_false_iff_ne] at h1
    exact h1.2.2
  intro x hx
  rw [List.mem_append, List.mem_singleton] at hx
  rcases hx with hx | rfl
  · exact hT x hx
  · have := layR_good hT hl h2
    exact ⟨this.1, this.2.1, this.2.2.1, this.2.2.2.1, this.2.2.2.2.1⟩
/-- New's answer. -/
def retN (l : List St) (r : Int × Nat × List Shp) (w : World) : Ending → World → Prop := fun e w' =>
  Below w.heap.size w w' ∧ (r.1 ≠ 0 → e = .returned (.tuple #[.pointer none, .int .i64 (r.2.1 : Int), .int .i64 r.1])) ∧
  (r.1 = 0 → ∃ tb, e = .returned (.tuple #[.pointer (some ⟨tb, 0, none⟩), .int .i64 0, .int .i64 0]) ∧ TabAt w' tb ⟨namesOf l, r.2.2⟩ ∧ GoodT ⟨namesOf l, r.2.2⟩)
set_option maxHeartbeats 4000000 in
theorem new_any (v : Value) (l : List St) (w : World) (hl : StAt w v l) (hs : StS l) : Calls Tryd.prog 8 #[v] w (retN l (newF l) w) := by
  have HNU : Hid (Calls Tryd.prog 23 #[v] w fun e w' => e = .returned (.map (some w.heap.size)) ∧ NumI w l.length (ixOf (namesOf l)) w') := numbersOf_any v l w hl hs
  obtain ⟨sa, sc, rfl, hll, hlc⟩ := hl
  have HF : Hid ((l ≠ [] → ∃ b off : Nat, sa = some ⟨b, off, none⟩ ∧ ∀ (i : Nat) (x : St), l[i]? = some x → w.cell? ⟨b, off + i * 2, none⟩ = some (.string x.name) ∧ ∃ fv, w.cell? ⟨b, off + i * 2 + 1, none⟩ = some fv ∧ FdAt w fv x.fields) ∧ StS l ∧ (l.length : Int) * 40 ≤ 140737488355328) := ⟨hlc, hs, hll⟩
  clear hlc hs
  obtain ⟨R, hR⟩ : ∃ R, newF l = R := ⟨_, rfl⟩
  rw [hR]
  have HR : Hid (newL (namesOf l) 0 [] (l.drop 0) = R) := hR
  clear hR
  obtain ⟨n, hn⟩ : ∃ n, l.length = n := ⟨_, rfl⟩
  have HNL : Hid (l.length = n) := hn
  rw [hn] at hll HNU ⊢
  clear hn
  go_enter Tryd.func8, Tryd.ntmps8
  go_wp2_with fail
  refine HNU.out.mono ?_
  rintro e w1 ⟨rfl, hni⟩
  dsimp only
  have HN1 : Hid (NumI w n (ixOf (namesOf l)) w1) := hni
  clear hni HNU
  have hs1 : w.heap.size ≤ w1.heap.size := HN1.out.bel.size
  have H0 : Hid (TabOwn (w1.alloc (.cells #[.map (some w.heap.size), .slice none 0 0] 62)) w.heap.size w1.heap.size w.heap.size n (.slice none 0 0) [] ⟨namesOf l, []⟩ ∧ Below w.heap.size w (w1.alloc (.cells #[.map (some w.heap.size), .slice none 0 0] 62))) := by
    refine ⟨⟨heap_new w1 _, HN1.out.map.keep (bel_new w1 _), ⟨rfl, .inl ⟨rfl, rfl⟩⟩, rfl, by simp [Value.ownBlock], fun p hp => by simp at hp, hs1⟩, bel_alloc HN1.out.bel _⟩
  go_wp2_with fail
  go_loopw [15] (fun v wr => ∃ (i : Nat) (sh : List Shp), i ≤ n ∧ v = .int .i64 (i : Int) ∧ Hid (∃ sv prs, TabOwn wr w.heap.size w1.heap.size w.heap.size n sv prs ⟨namesOf l, sh⟩ ∧ Below w.heap.size w wr ∧ GoodT ⟨namesOf l, sh⟩ ∧ newL (namesOf l) i sh (l.drop i) = R ∧ sh.length = i)) (fun v _ => n - (intOf v).toNat)
  case atStart => exact ⟨0, [], by omega, rfl, _, _, H0.out.1, H0.out.2, fun x hx => by simp at hx, HR.out, rfl⟩
  case round =>
    clear H0 HR
    obtain ⟨i, sh, hi, rfl, HI⟩ := hrel
    by_cases hin : i < n
    · have i0 : (0 : Int) ≤ i := by omega
      have i1 : (i : Int) < n := by omega
      obtain ⟨sv, prs, hto, hbw, hgt, hnl, hsl⟩ := HI.out
      clear HI
      have hfg := List.getElem?_eq_getElem (l := l) (i := i) (by rw [HNL.out]; exact hin)
      obtain ⟨f, hfe⟩ : ∃ f, l[i]'(by rw [HNL.out]; exact hin) = f := ⟨_, rfl⟩
      rw [hfe] at hfg
      clear hfe
      obtain ⟨sb, off, rfl, hc⟩ := HF.out.1 (fun e => by rw [e] at hfg; simp at hfg)
      obtain ⟨d0, fv, d1, hfd⟩ := hc i f hfg
      have hst := HF.out.2.1 f (List.mem_of_getElem? hfg)
      rw [drop_st hfg] at hnl
      have c0 := keep_cell hbw d0
      have c1 := keep_cell hbw d1
      have hlen : (sh.length + 1) * 40 ≤ 140737488355328 := by
        have h1 := HF.out.2.2
        rw [HNL.out] at h1
        omega
      have HA : Hid (∀ o, TabOwn (wr.alloc o) w.heap.size w1.heap.size w.heap.size n sv prs ⟨namesOf l, sh⟩ ∧ FdAt (wr.alloc o) fv f.fields ∧ Below w.heap.size w (wr.alloc o) ∧ w.heap.size ≤ (wr.alloc o).heap.size) := fun o => ⟨hto.keep (bel_new wr o), hfd.keep (bel_alloc hbw o), bel_alloc hbw o, by rw [World.size_alloc]; have := hbw.size; omega⟩
      have HB : Hid (GoodT ⟨namesOf l, sh⟩ ∧ StS l ∧ f.name.size ≤ 281474976710656 ∧ FdS f.fields ∧ (sh.length + 1) * 40 ≤ 140737488355328 ∧ newL (namesOf l) i sh (f :: l.drop (i + 1)) = R ∧ sh.length = i) := ⟨hgt, HF.out.2.1, hst.1, hst.2, hlen, hnl, hsl⟩
      obtain ⟨fa, fc, rfl, hfx⟩ := hfd
      clear hc hfg d0 d1 hfx hto hbw hgt hnl hsl hst hlen
      obtain ⟨nm, fields⟩ := f
      dsimp only at c0 c1 HA HB
      go_wp2_with fail
      by_cases hE : addE ⟨namesOf l, sh⟩ nm fields = 0
      · obtain ⟨hg1, hg2⟩ := addE_zero hE
        have HC : Hid (∀ o, Calls Tryd.prog 24 #[.pointer (some ⟨w1.heap.size, 0, none⟩), .agg #[.string nm, .slice fa fields.length fc]] (wr.alloc o) (retAd w.heap.size w1.heap.size w.heap.size n prs ⟨namesOf l, sh⟩ fields 0 (wr.alloc o))) := fun o => add_ok w.heap.size w1.heap.size w.heap.size n sv prs ⟨namesOf l, sh⟩ nm _ fields _ (HA.out _).1 HB.out.1 (HA.out _).2.1 HB.out.2.2.2.1 HB.out.2.2.1 HB.out.2.2.2.2.1 hg1 hg2 (HA.out _).2.2.2
        refine (HC.out _).mono ?_
        intro e w2 he2
        obtain ⟨he, hb2, sv2, pv2, ht2⟩ : e = .returned (.int .i64 0) ∧ Below w.heap.size _ w2 ∧ ∃ sv pv, TabOwn w2 w.heap.size w1.heap.size w.heap.size n sv (prs ++ [(pv, (layR ⟨namesOf l, sh⟩ fields).1)]) ⟨namesOf l, sh ++ [(layR ⟨namesOf l, sh⟩ fields).1]⟩ := ⟨he2.1, he2.2.2 rfl⟩
        subst he
        have HZ : Hid (∃ sv prs, TabOwn w2 w.heap.size w1.heap.size w.heap.size n sv prs ⟨namesOf l, sh ++ [(layR ⟨namesOf l, sh⟩ fields).1]⟩ ∧ Below w.heap.size w w2 ∧ GoodT ⟨namesOf l, sh ++ [(layR ⟨namesOf l, sh⟩ fields).1]⟩ ∧ newL (namesOf l) (i + 1) (sh ++ [(layR ⟨namesOf l, sh⟩ fields).1]) (l.drop (i + 1)) = R ∧ (sh ++ [(layR ⟨namesOf l, sh⟩ fields).1]).length = i + 1) := by
          refine ⟨sv2, _, ht2, (HA.out _).2.2.1.trans hb2, addE_good HB.out.1 hE, ?_, by simp [HB.out.2.2.2.2.2.2]⟩
          have h3 := HB.out.2.2.2.2.2.1
          unfold newL at h3
          dsimp only at h3
          rw [if_pos hE] at h3
          exact h3
        clear he2 hb2 ht2 hg1 hg2 hE HA HB HC
        go_wp2
        go_roundw
        case rel => exact ⟨i + 1, _, by omega, by simp, HZ⟩
        case measure => simp [intOf]; omega
      · have hR : R = (addE ⟨namesOf l, sh⟩ nm fields, i, sh) := by
          have h3 := HB.out.2.2.2.2.2.1
          unfold newL at h3
          dsimp only at h3
          rw [if_neg hE] at h3
          exact h3.symm
        have HRR : Hid (R = (addE ⟨namesOf l, sh⟩ nm fields, i, sh)) := hR
        clear hR
        have HC : Hid (∀ o, Calls Tryd.prog 24 #[.pointer (some ⟨w1.heap.size, 0, none⟩), .agg #[.string nm, .slice fa fields.length fc]] (wr.alloc o) (retP (.int .i64 (addE ⟨namesOf l, sh⟩ nm fields)) (wr.alloc o))) := fun o => by
          cases hbad : (!(nameS nm) || (!((ixOf (namesOf l) nm).getD 0 == sh.length) || fields.length == 0))
          · have e : addE ⟨namesOf l, sh⟩ nm fields = (layR ⟨namesOf l, sh⟩ fields).2 := by unfold addE; rw [if_neg (by rw [hbad]; decide)]
            rw [e] at hE ⊢
            exact add_err w.heap.size w1.heap.size w.heap.size n sv prs ⟨namesOf l, sh⟩ nm _ fields _ (HA.out _).1 HB.out.1 (HA.out _).2.1 HB.out.2.2.2.1 HB.out.2.2.1 HB.out.2.2.2.2.1 hbad hE
          · have e : addE ⟨namesOf l, sh⟩ nm fields = 5 := by unfold addE; rw [if_pos hbad]
            rw [e]
            exact add_bad w.heap.size w1.heap.size w.heap.size n sv prs ⟨namesOf l, sh⟩ nm _ fields _ (HA.out _).1 (HA.out _).2.1 HB.out.2.2.1 hbad
        refine (HC.out _).mono ?_
        rintro e w2 ⟨rfl, hb2⟩
        have HBB : Hid (Below w.heap.size w w2) := bel_trans (HA.out _).2.2.1 hb2
        clear hb2 HA HB HC
        generalize addE ⟨namesOf l, sh⟩ nm fields = err at *
        have q1 : (err != 0) = true := by simpa using hE
        have q2 : (err == 0) = false := by simpa using hE
        go_wp2
        go_ret3
        rw [HRR.out]
        exact ⟨HBB.out, fun _ => rfl, fun h => absurd h hE⟩
    · have hie : i = n := by omega
      subst hie
      have HZ : Hid (R = (0, 0, sh)) := by
        obtain ⟨sv, prs, h1, h2, h3, h4, h5⟩ := HI.out
        rw [List.drop_of_length_le (by rw [HNL.out]; omega)] at h4
        exact h4.symm
      go_wp2
      go_ret3
      obtain ⟨sv, prs, h1, h2, h3, h4, h5⟩ := HI.out
      rw [HZ.out]
      exact ⟨h2, fun h => absurd rfl h, fun _ => ⟨w1.heap.size, rfl, h1.at, h3⟩⟩

end Go.Proofs.YtpedfnfangaelaaDoor
