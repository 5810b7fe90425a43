/- Contracts of trace's Outs, New, Next, Used; of the statements' own run. -/
import Derived.Test.YtokdnjnkgflbcaaDoorTTell
import Derived.Deep.SlicePairs
import Derived.Lib.SliceRun
namespace Go.Proofs.YtokdnjnkgflbcaaDoor
open Go.ChangeShapes Go.WideShapes Go.ChangeAt Go.RowKit Go.Deep Pl
set_option linter.unusedSimpArgs false
set_option linter.unusedVariables false

/-- The cells of a row of int64s. -/
def InL (w : World) (a : Option Addr) (l : List Int) : Prop := l ≠ [] → ∃ b off : Nat, a = some ⟨b, off, none⟩ ∧ ∀ (i : Nat) (x : Int), l[i]? = some x → w.cell? ⟨b, off + i, none⟩ = some (.int .i64 x)
def InAt (w : World) (v : Value) (l : List Int) : Prop := ∃ (a : Option Addr) (cap : Nat), v = .slice a l.length cap ∧ l.length ≤ cap ∧ (cap : Int) ≤ 9223372036854775807 ∧ InL w a l
theorem InL.keep {w w' : World} {a : Option Addr} {l : List Int} (h : InL w a l) (hb : Below w.heap.size w w') : InL w' a l := fun hl => by
  obtain ⟨b, off, rfl, hc⟩ := h hl
  exact ⟨b, off, rfl, fun i x hx => keep_cell hb (hc i x hx)⟩
theorem InAt.keep {w w' : World} {v : Value} {l : List Int} (h : InAt w v l) (hb : Below w.heap.size w w') : InAt w' v l := by
  obtain ⟨a, cap, hv, h1, h2, h3⟩ := h
  exact ⟨a, cap, hv, h1, h2, h3.keep hb⟩
def intC (l : List Int) : List Value := l.map fun n => .int .i64 n
theorem intC_length (l : List Int) : (intC l).length = l.length := by simp [intC]
/-- A row that is owned holds its numbers. -/
theorem own_ints {w : World} {B : Nat} {v : Value} {l : List Int} (h : w.ownsRow B 2 1 v l.length (intC l)) : InAt w v l := by
  rcases h.2 with ⟨h1, h2⟩ | ⟨g, cap, cur, h1, h2, h3, h4, h5, h6, h7⟩
  · exact ⟨none, 0, by rw [h1, h2], by omega, by simp, fun hl => absurd (List.eq_nil_of_length_eq_zero h2) hl⟩
  · refine ⟨_, cap, h1, h4, by unfold maxLen at h5; omega, fun hl => ⟨g, 0, rfl, fun i x hx => ?_⟩⟩
    have := h.cells (g := g) (by rw [h1]; rfl) i (.int .i64 x) (by simp [intC, hx])
    rw [add_plain] at this
    exact this
def outsL (l : List Ev) : List Int := l.filterMap fun e => if e.1 = 2 then some e.2 else none
theorem outsL_take {l : List Ev} {i : Nat} {x : Ev} (h : l[i]? = some x) : outsL (l.take (i + 1)) = outsL (l.take i) ++ (if x.1 = 2 then [x.2] else []) := by
  unfold outsL
  rw [List.take_add_one, h]
  by_cases hx : x.1 = 2 <;> simp [hx]
theorem outsL_length (l : List Ev) : (outsL l).length ≤ l.length := List.length_filterMap_le _ _
def retOuts (l : List Int) (w : World) : Ending → World → Prop := fun e w' => ∃ v, e = .returned v ∧ InAt w' v l ∧ Below w.heap.size w w'
set_option maxHeartbeats 4000000 in
theorem outs_walk (k x st : Int) (a : Option Addr) (n cap : Nat) (lk : Value) (es : List Ev) (w : World) (HN : Hid (n = es.length)) (hn : n ≤ 1000) (HE : Hid (EvL w a es)) :
    Calls Tryd.prog 23 #[.agg #[.int .i64 k, .int .i64 x, .slice a n cap, lk, .int .i64 st]] w (retOuts (outsL es) w) := by
  obtain ⟨i0, hi, hz0, hz1, hz2⟩ : ∃ i0, Tryd.prog.info? 2 = some i0 ∧ i0.zero = some (.int .i64 0) ∧ i0.size = 1 ∧ i0.bytes = 8 := info_parts (by kernel_rfl)
  go_enter Tryd.func23, Tryd.ntmps23
  go_wp2
  go_loopw [3, 9] (fun s v wr => ∃ i : Nat, i ≤ n ∧ v = .int .i64 i ∧ Hid (wr.ownsRow w.heap.size 2 1 s (outsL (es.take i)).length (intC (outsL (es.take i)))) ∧ Hid (Below w.heap.size w wr)) (fun _ v _ => n - (intOf v).toNat)
  case atStart => exact ⟨0, by omega, rfl, by simpa [Hid, outsL, intC] using World.ownsRow_nil _ _ _ _, by show Below _ _ _; exact (by repeat (first | with_reducible exact Below.refl _ _ | with_reducible refine bel_alloc ?_ _ | with_reducible refine bel_set ?_ (by first | exact Nat.le_refl _ | (simp; done) | (simp; omega)) _ | with_reducible refine Below.drew ?_ | refine bel_trans ?_ (by assumption)))⟩
  case round =>
    obtain ⟨i, hi', rfl, HI, HB⟩ := hrel
    have hsz := HB.out.size
    by_cases hin : i < n
    · have i0' : (0 : Int) ≤ i := by omega
      have i1' : (i : Int) < n := by omega
      have hget := List.getElem?_eq_getElem (l := es) (show i < es.length by rw [← HN.out]; exact hin)
      generalize es[i]'(by rw [← HN.out]; exact hin) = ev at hget
      obtain ⟨b, off, rfl, hc⟩ := HE.out (fun e => by rw [e] at hget; simp at hget)
      obtain ⟨ek, en⟩ := ev
      have c0 := keep_cell HB.out (hc i _ hget).1
      have c1 := keep_cell HB.out (hc i _ hget).2
      simp only [] at c0 c1
      have hl1 : (outsL (es.take i)).length ≤ 1000 := by
        have := outsL_length (es.take i)
        rw [List.length_take] at this
        omega
      by_cases hk : ek = 2
      · subst hk
        have HG : Hid (outsL (es.take (i + 1)) = outsL (es.take i) ++ [en]) := by have := outsL_take hget; simpa [Hid] using this
        clear hc hget
        go_wp2_with (at_builtin; refine wpList_append_own _ rfl _ _ 31 rfl w.heap.size 2 i0 (.int .i64 0) 1 8 Tryd.underlying31 hi hz0 hz1 hz2 rfl (by decide) _ _ _ rfl (World.ownsRow.alloc (World.ownsRow.alloc HI.out _) _) ⟨wr.heap.size + 1, 0, none⟩ 1 1 [.int .i64 en] rfl rfl ?c1 ?c2 ?c3 ?c4 ?c5 ?_)
        case c1 =>
          intro j u hj
          match j, hj with
          | 0, hj => simp at hj; subst hj; simp [Addr.add]
        case c2 => intro u hu; simp at hu; subst hu; rfl
        case c3 => unfold maxLen; omega
        case c4 => omega
        case c5 => simp; omega
        intro v' w2 hown' hgrow _
        have HO : Hid (w2.ownsRow w.heap.size 2 1 v' (outsL (es.take (i + 1))).length (intC (outsL (es.take (i + 1))))) := by
          show World.ownsRow _ _ _ _ _ _ _
          rw [HG.out, List.length_append]
          simpa [intC] using hown'
        have HB2 : Hid (Below w.heap.size w w2) := by
          show Below _ _ _
          exact ((HB.out.alloc (by omega) _).alloc (by simp; omega) _).grown hgrow (by simp; omega) (fun k hk => (HI.out.lt k hk).1)
        clear hown' hgrow
        go_wp2
        go_roundw
        case rel => exact ⟨i + 1, by omega, by simp, HO, HB2⟩
        case measure => simp [intOf]; omega
      · have HG : Hid (outsL (es.take (i + 1)) = outsL (es.take i)) := by have := outsL_take hget; simpa [Hid, hk] using this
        have q : (ek == 2) = false := by simpa using hk
        clear hc hget hk
        go_wp2
        go_roundw
        case rel => exact ⟨i + 1, by omega, by simp, by show World.ownsRow _ _ _ _ _ _ _; rw [HG.out]; exact World.ownsRow.alloc HI.out _, by show Below _ _ _; exact HB.out.alloc (by omega) _⟩
        case measure => simp [intOf]; omega
    · have hie : i = n := by omega
      subst hie
      have q : es.take i = es := List.take_of_length_le (by rw [← HN.out]; omega)
      rw [q] at HI
      clear q
      go_wp2
      go_ret
      exact ⟨_, rfl, own_ints HI.out, HB.out⟩
theorem outs_run (r : RD) (w : World) (h : RunAt w r) (hn : r.es.length ≤ 1000) : Calls Tryd.prog 23 #[r.v] w (retOuts (outsL r.es) w) := by
  obtain ⟨k, x, ev, lk, st, es, ls⟩ := r
  obtain ⟨⟨a, cap, he, h1, h2, h3⟩, _⟩ := h
  simp only [] at he hn
  subst he
  exact outs_walk k x st a _ cap lk es w rfl hn h3

/-- A world of numbers lies in memory of its own: its numbers, and how often it was asked. -/
def WorldAt (B : Nat) (w : World) (p : Nat) (l : List Int) (u : Int) : Prop := B ≤ p ∧ ∃ v, w.heap[p]? = some (.cells #[v, .int .i64 u] 59 (0, 0)) ∧ w.ownsRow B 2 1 v l.length (intC l) ∧ v.ownBlock ≠ some p
theorem WorldAt.keep {B p : Nat} {w w' : World} {l : List Int} {u : Int} (h : WorldAt B w p l u) (hb : Below w.heap.size w w') : WorldAt B w' p l u := by
  obtain ⟨h1, v, h2, h3, h4⟩ := h
  refine ⟨h1, v, heap_keep hb h2, ⟨h3.1, ?_⟩, h4⟩
  rcases h3.2 with h5 | ⟨g, cap, cur, e1, e2, e3, e4⟩
  · exact Or.inl h5
  · exact Or.inr ⟨g, cap, cur, e1, e2, heap_keep hb e3, e4⟩
def retNew (l : List Int) (w : World) : Ending → World → Prop := fun e w' => ∃ p, e = .returned (.pointer (some ⟨p, 0, none⟩)) ∧ WorldAt w.heap.size w' p l 0 ∧ Below w.heap.size w w'
def retOwn (l : List Int) (w : World) : Ending → World → Prop := fun e w' => ∃ v, e = .returned v ∧ w'.ownsRow w.heap.size 2 1 v l.length (intC l) ∧ Below w.heap.size w w'
set_option maxHeartbeats 1000000 in
theorem clone_nil (w : World) : Calls Tryd.prog 33 #[.slice none 0 0] w (retOwn [] w) := by
  have hq : ∀ w, (binOp .eql 31 (.slice none 0 0) (.slice none 0 0)).run Tryd.prog w = .ok (.bool true) w := fun w => Lib.run_eql_slice_nil w 31 2 none 0 0 0 0 Tryd.underlying31
  go_enter Tryd.func33, Tryd.ntmps33
  go_wp2
  go_ret
  exact ⟨_, rfl, World.ownsRow_nil _ _ _ _, Below.refl _ _⟩
set_option maxHeartbeats 2000000 in
theorem clone_some (ad : Addr) (n cap : Nat) (l : List Int) (w : World) (HN : Hid (l.length = n)) (hn : n ≤ 1000000) (HC : Hid (∀ i x, l[i]? = some x → w.cell? (ad.add i) = some (.int .i64 x))) :
    Calls Tryd.prog 33 #[.slice (some ad) n cap] w (retOwn l w) := by
  have hq : ∀ w, (binOp .eql 31 (.slice (some ad) n cap) (.slice none 0 0)).run Tryd.prog w = .ok (.bool false) w := fun w => Lib.run_eql_slice_nil w 31 2 (some ad) n cap 0 0 Tryd.underlying31
  obtain ⟨i0, hi, hz0, hz1, hz2⟩ : ∃ i0, Tryd.prog.info? 2 = some i0 ∧ i0.zero = some (.int .i64 0) ∧ i0.size = 1 ∧ i0.bytes = 8 := info_parts (by kernel_rfl)
  go_enter Tryd.func33, Tryd.ntmps33
  go_wp2_with (at_builtin; refine wpList_append_own _ rfl _ _ 31 rfl w.heap.size 2 i0 (.int .i64 0) 1 8 Tryd.underlying31 hi hz0 hz1 hz2 rfl (by decide) _ 0 [] rfl (World.ownsRow_made w #[] 0 (Nat.le_refl _) (by simp) rfl) ad n cap (intC l) rfl (by rw [intC_length, Nat.mul_one]; exact HN.out) ?c1 ?c2 ?c3 ?c4 ?c5 ?_)
  case c1 =>
    intro j u hj
    simp only [intC, List.getElem?_map, Option.map_eq_some_iff] at hj
    obtain ⟨x, hx, rfl⟩ := hj
    exact keep_alloc (HC.out j x hx) _
  case c2 => intro u hu; simp only [intC, List.mem_map] at hu; obtain ⟨x, _, rfl⟩ := hu; rfl
  case c3 => unfold maxLen; omega
  case c4 => omega
  case c5 => simp
  intro v' w2 hown' hgrow _
  have HO : Hid (w2.ownsRow w.heap.size 2 1 v' l.length (intC l)) := by
    show World.ownsRow _ _ _ _ _ _ _
    rw [HN.out]
    simpa using hown'
  have HB2 : Hid (Below w.heap.size w w2) := by
    show Below _ _ _
    exact ((Below.refl w.heap.size w).alloc (Nat.le_refl _) _).grown hgrow (by simp) (fun k hk => by simp [Value.ownBlock] at hk; omega)
  clear hown' hgrow
  go_wp2
  go_ret
  exact ⟨_, rfl, HO.out, HB2.out⟩
theorem clone_any {w : World} {v : Value} {l : List Int} (h : InAt w v l) (hn : l.length ≤ 1000000) (hnil : ∀ n c, v = .slice none n c → c = 0) : Calls Tryd.prog 33 #[v] w (retOwn l w) := by
  obtain ⟨a, cap, rfl, h1, h2, h3⟩ := h
  cases a with
  | none =>
    have hc := hnil _ _ rfl
    have : l = [] := List.eq_nil_of_length_eq_zero (by omega)
    subst this hc
    exact clone_nil w
  | some ad =>
    refine clone_some ad _ cap l w rfl hn (fun i x hx => ?_)
    obtain ⟨b, off, e, hc⟩ := h3 (fun e => by rw [e] at hx; simp at hx)
    obtain rfl := Option.some.inj e
    rw [add_plain]
    exact hc i x hx
set_option maxHeartbeats 1000000 in
theorem new_any {w : World} {v : Value} {l : List Int} (h : InAt w v l) (hn : l.length ≤ 1000000) (hnil : ∀ n c, v = .slice none n c → c = 0) : Calls Tryd.prog 14 #[v] w (retNew l w) := by
  have HI : Hid (InAt w v l) := h
  have HL : Hid (∀ n c, v = .slice none n c → c = 0) := hnil
  clear h hnil
  go_enter Tryd.func14, Tryd.ntmps14
  go_wp2_with fail
  refine (clone_any HI.out hn HL.out).mono ?_
  rintro e w1 ⟨v1, rfl, ho, hb⟩
  have HO : Hid (w1.ownsRow w.heap.size 2 1 v1 l.length (intC l)) := ho
  have HB : Hid (Below w.heap.size w w1) := hb
  have hs := hb.size
  obtain ⟨ao, m', cap, rfl⟩ : ∃ ao m' cap, v1 = .slice ao m' cap := by rcases ho.2 with ⟨h1, _⟩ | ⟨g, cap, cur, h1, _⟩ <;> exact ⟨_, _, _, h1⟩
  clear ho hb
  go_wp2
  go_ret
  exact ⟨_, rfl, ⟨hs, _, heap_alloc_new w1 _, HO.out.alloc _, fun e => by have := (HO.out.lt _ e).2; omega⟩, HB.out.alloc hs _⟩
theorem WorldAt.cells {B p : Nat} {w : World} {l : List Int} {u : Int} (h : WorldAt B w p l u) : ∃ a cap, w.cell? ⟨p, 0, none⟩ = some (.slice a l.length cap) ∧ w.cell? ⟨p, 1, none⟩ = some (.int .i64 u) ∧ w.frozen? ⟨p, 1, none⟩ = false ∧ InL w a l ∧ l.length ≤ cap ∧ (∀ g o, a = some ⟨g, o, none⟩ → B ≤ g ∧ g ≠ p) := by
  obtain ⟨h1, v, h2, h3, h4⟩ := h
  obtain ⟨a, cap, rfl, h5, _, h6⟩ := own_ints h3
  refine ⟨a, cap, by rw [Lib.cell_of_heap h2]; rfl, by rw [Lib.cell_of_heap h2]; rfl, Lib.frozen_of_heap h2 1, h6, h5, fun g o e => ?_⟩
  subst e
  exact ⟨(h3.lt g rfl).1, fun e => h4 (by rw [← e]; rfl)⟩
/-- A store into how often it was asked. -/
theorem WorldAt.step {B p : Nat} {w : World} {l : List Int} {u : Int} (h : WorldAt B w p l u) (u' : Int) : WorldAt B (w.setCell ⟨p, 1, none⟩ (.int .i64 u')) p l u' := by
  obtain ⟨h1, v, h2, h3, h4⟩ := h
  have hp : (w.setCell ⟨p, 1, none⟩ (.int .i64 u')).heap[p]? = some (.cells #[v, .int .i64 u'] 59 (0, 0)) := by
    rw [heap_setCell_same w p 1 _ _ _ h2]; simp
  refine ⟨h1, v, hp, ⟨h3.1, ?_⟩, h4⟩
  rcases h3.2 with h5 | ⟨g, cap, cur, e1, e2, e3, e4⟩
  · exact Or.inl h5
  · refine Or.inr ⟨g, cap, cur, e1, e2, ?_, e4⟩
    rw [Below.heap_setCell _ _ _ _ (fun e => h4 (by rw [e1]; exact congrArg some e))]
    exact e3
set_option maxHeartbeats 1000000 in
theorem used_any {B p : Nat} {w : World} {l : List Int} {u : Int} (h : WorldAt B w p l u) : Calls Tryd.prog 15 #[.pointer (some ⟨p, 0, none⟩)] w fun e w' => e = .returned (.int .i64 u) ∧ w' = w := by
  obtain ⟨a, cap, c0, c1, f1, h1, h2, h3⟩ := h.cells
  clear h1 h3 h
  go_enter Tryd.func15, Tryd.ntmps15
  go_wp2
  go_ret
  exact ⟨rfl, rfl⟩
set_option maxHeartbeats 1000000 in
theorem next_walk {p : Nat} {w : World} (a : Option Addr) (n cap u : Nat) (x : Int) (hu : u ≤ 1000000) (hn : n ≤ 1000000) (c0 : w.cell? ⟨p, 0, none⟩ = some (.slice a n cap)) (c1 : w.cell? ⟨p, 1, none⟩ = some (.int .i64 u)) (f1 : w.frozen? ⟨p, 1, none⟩ = false)
    (H : Hid (u < n → ∃ g o, a = some ⟨g, o, none⟩ ∧ g ≠ p ∧ w.cell? ⟨g, o + u, none⟩ = some (.int .i64 x))) (H0 : Hid (¬ u < n → x = 0)) : Calls Tryd.prog 16 #[.pointer (some ⟨p, 0, none⟩)] w fun e w' => e = .returned (.int .i64 x) ∧ w' = w.setCell ⟨p, 1, none⟩ (.int .i64 ((u : Int) + 1)) := by
  have u0 : (0 : Int) ≤ u := by omega
  by_cases hlt : u < n
  · obtain ⟨g, o, rfl, hg, hc⟩ := H.out hlt
    have u1 : (u : Int) < n := by omega
    have hc' : (w.setCell ⟨p, 1, none⟩ (.int .i64 ((u : Int) + 1))).cell? ⟨g, o + u, none⟩ = some (.int .i64 x) := keep_set hc hg
    go_enter Tryd.func16, Tryd.ntmps16
    go_wp2
    go_ret
    exact ⟨rfl, rfl⟩
  · obtain rfl := H0.out hlt
    have u1 : ¬ (u : Int) < n := by omega
    go_enter Tryd.func16, Tryd.ntmps16
    go_wp2
    go_ret
    exact ⟨rfl, rfl⟩
theorem next_any {B p : Nat} {w : World} {l : List Int} {u : Nat} (h : WorldAt B w p l u) (hu : u ≤ 1000000) (hl : l.length ≤ 1000000) : Calls Tryd.prog 16 #[.pointer (some ⟨p, 0, none⟩)] w fun e w' => e = .returned (.int .i64 (l.getD u 0)) ∧ WorldAt B w' p l ((u + 1 : Nat) : Int) ∧ w' = w.setCell ⟨p, 1, none⟩ (.int .i64 ((u : Int) + 1)) := by
  obtain ⟨a, cap, c0, c1, f1, h1, h2, h3⟩ := h.cells
  refine (next_walk a l.length cap u (l.getD u 0) hu hl c0 c1 f1 (fun hlt => ?_) (fun hlt => ?_)).mono ?_
  · have hg := List.getElem?_eq_getElem hlt
    obtain ⟨b, off, e, hc⟩ := h1 (fun e => by rw [e] at hlt; simp at hlt)
    exact ⟨b, off, e, (h3 b off e).2, by rw [hc u _ hg, List.getD_eq_getElem?_getD, hg]; rfl⟩
  · rw [List.getD_eq_getElem?_getD, List.getElem?_eq_none (by omega)]; rfl
  · rintro e w' ⟨rfl, rfl⟩
    exact ⟨rfl, h.step _, rfl⟩
/-- The answer is that run, in new memory. -/
def retRun (x o : Int) (w : World) : Ending → World → Prop := fun e w' => ∃ ev lk, e = .returned (.agg #[.int .i64 1, .int .i64 x, ev, lk, .int .i64 0]) ∧ RunAt w' ⟨1, x, ev, lk, 0, [(2, o)], [(1, 1, 0)]⟩ ∧ Below w.heap.size w w'
set_option maxHeartbeats 1000000 in
theorem run_any (x o : Int) (w : World) : Calls Tryd.prog 12 #[.int .i64 x, .int .i64 o] w (retRun x o w) := by
  go_enter Tryd.func12, Tryd.ntmps12
  go_wp2
  refine bodyPost_ret (v := .agg #[.int .i64 1, .int .i64 x, .slice (some ⟨w.heap.size + 1, 0, none⟩) 1 1, .slice (some ⟨w.heap.size + 1 + 1, 0, none⟩) 1 1, .int .i64 0]) (by simp [results, Tryd.results12, go_sem]) rfl ⟨_, _, rfl, ⟨⟨_, 1, rfl, by simp, by simp, fun _ => ⟨_, _, rfl, fun i y hy => ?_⟩⟩, ⟨_, 1, rfl, by simp, by simp, fun _ => ⟨_, _, rfl, fun i y hy => ?_⟩⟩⟩, (by repeat (first | with_reducible exact Below.refl _ _ | with_reducible refine bel_alloc ?_ _ | with_reducible refine bel_set ?_ (by first | exact Nat.le_refl _ | (simp; done) | (simp; omega)) _ | with_reducible refine Below.drew ?_ | refine bel_trans ?_ (by assumption)))⟩
  · match i, hy with
    | 0, hy => simp at hy; subst hy; exact ⟨by go_simp, by go_simp⟩
    | (j + 1), hy => simp at hy
  · match i, hy with
    | 0, hy => simp at hy; subst hy; exact ⟨by go_simp, by go_simp, by go_simp⟩
    | (j + 1), hy => simp at hy
end Go.Proofs.YtokdnjnkgflbcaaDoor
