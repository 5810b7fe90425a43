/- Package rtl: what an instruction reads, and where it goes on: the iterators. -/
import Derived.Test.YthieicjnenlpfaaGreatDoorGLeaf
import Derived.Test.YthieicjnenlpfaaGreatDoorLRange
import Derived.RangeFuncLeaves
import Derived.RangeFuncCalls
import Derived.RangeFuncBox
import Derived.Shelf.Abstract
import Derived.OwnWalkIn
import Derived.TacticsInMore
import Derived.LoopNIn
import Derived.LoopIn
namespace Go.Proofs.YthieicjnenlpfaaGreatDoor
open Go.ChangeShapes Go.WideShapes Go.ChangeAt Go.RowKit
set_option linter.unusedSimpArgs false
set_option linter.unusedVariables false

/-- A list is answered; where it lies is new. -/
def retIF (l : List Int) (w : World) : Ending → World → Prop := fun e w' => ∃ v, e = .returned v ∧ IL w' v l ∧ (∀ b o s n c, v = .slice (some ⟨b, o, s⟩) n c → w.heap.size ≤ b) ∧ Below w.heap.size w w'
theorem IL.set {w : World} {v u : Value} {l : List Int} {p : Addr} (h : IL w v l) (hb : ∀ b o s n c, v = .slice (some ⟨b, o, s⟩) n c → b ≠ p.block) : IL (w.setCell p u) v l := by
  obtain ⟨a, cap, hv, h1, h0, h2⟩ := h
  refine ⟨a, cap, hv, h1, h0, fun hl => ?_⟩
  obtain ⟨b, off, rfl, hc⟩ := h2 hl
  exact ⟨b, off, rfl, fun i x hx => keep_set (hc i x hx) (hb b off none _ _ hv)⟩
set_option maxHeartbeats 2000000 in
theorem gclone_nil (w : World) : Calls Tryz.prog 51 #[.slice none 0 0] w (retIF [] w) := by
  have hq : ∀ w, (binOp .eql 22 (.slice none 0 0) (.slice none 0 0)).run Tryz.prog w = .ok (.bool true) w := fun w => Lib.run_eql_slice_nil w 22 3 none 0 0 0 0 Tryz.underlying22
  go_enter Tryz.func51, Tryz.ntmps51
  go_wp2
  go_ret
  exact ⟨_, rfl, IL.nil _, (fun b o s n c h => by cases h), Below.refl _ _⟩
set_option maxHeartbeats 2000000 in
theorem gclone_some (ad : Addr) (n cap : Nat) (l : List Int) (w : World) (HN : Hid (l.length = n)) (hn : n * 8 ≤ 140737488355328) (HC : Hid (∀ i x, l[i]? = some x → w.cell? (ad.add i) = some (.int .i64 x))) :
    Calls Tryz.prog 51 #[.slice (some ad) n cap] w (retIF l w) := by
  have hq : ∀ w, (binOp .eql 22 (.slice (some ad) n cap) (.slice none 0 0)).run Tryz.prog w = .ok (.bool false) w := fun w => Lib.run_eql_slice_nil w 22 3 (some ad) n cap 0 0 Tryz.underlying22
  obtain ⟨i0, hi, hz0, hz1, hz2⟩ : ∃ i0, Tryz.prog.info? 3 = some i0 ∧ i0.zero = some (.int .i64 0) ∧ i0.size = 1 ∧ i0.bytes = 8 := info_parts (by kernel_rfl)
  go_enter Tryz.func51, Tryz.ntmps51
  go_wp2_with (at_builtin; refine wpList_append_own _ rfl _ _ 22 rfl w.heap.size 3 i0 (.int .i64 0) 1 8 Tryz.underlying22 hi hz0 hz1 hz2 rfl (by decide) _ 0 [] rfl (World.ownsRow_made w #[] 0 (Nat.le_refl _) (by simp) rfl) ad n cap (ints l) rfl (by rw [ints_length, Nat.mul_one]; exact HN.out) ?c1 ?c2 ?c3 ?c4 ?c5 ?_)
  case c1 =>
    intro j u hj
    simp only [ints, List.getElem?_map, Option.map_eq_some_iff] at hj
    obtain ⟨x, hx, rfl⟩ := hj
    exact keep_alloc (HC.out j x hx) _
  case c2 => intro u hu; simp only [ints, List.mem_map] at hu; obtain ⟨x, _, rfl⟩ := hu; rfl
  case c3 => unfold maxLen; omega
  case c4 => omega
  case c5 => simp
  intro v' w2 hown' hgrow _
  have HO : Hid (w2.ownsRow w.heap.size 3 1 v' l.length (ints l)) := by
    show World.ownsRow _ _ _ _ _ _ _
    rw [HN.out]
    simpa using hown'
  have HB2 : Hid (Below w.heap.size w w2) := by
    show Below _ _ _
    exact ((Below.refl w.heap.size w).alloc (Nat.le_refl _) _).grown hgrow (by simp) (fun k hk => by simp [Value.ownBlock] at hk; omega)
  clear hown' hgrow
  go_wp2
  go_ret
  refine ⟨_, rfl, IL.own HO.out (by rw [HN.out]; exact hn), (fun b o s n c h => ?_), HB2.out⟩
  rcases HO.out.2 with ⟨e, _⟩ | ⟨g, cp, cur, e, hg, _⟩
  · have h' : v' = _ := h
    rw [h'] at e; cases e
  · have h' : v' = _ := h
    rw [h'] at e; cases e; exact hg
theorem gclone_any {w : World} {v : Value} {l : List Int} (h : IL w v l) : Calls Tryz.prog 51 #[v] w (retIF l w) := by
  obtain ⟨a, cap, rfl, h1, h0, h2⟩ := h
  cases a with
  | none =>
    obtain ⟨rfl, rfl⟩ := h0 rfl
    exact gclone_nil w
  | some ad =>
    refine gclone_some ad l.length cap l w rfl h1 (fun i x hx => ?_)
    obtain ⟨b, off, e, hc⟩ := h2 (fun e => by rw [e] at hx; simp at hx)
    cases e
    rw [show (⟨b, off, none⟩ : Addr).add i = ⟨b, off + i, none⟩ from Addr.add_mid _ _ _]
    exact hc i x hx
/-- What the iterator of uses holds. -/
def UsBox (W : World) (sb ib : Nat) (x : Sp) (a b : Int) (v : Value) (l : List Int) : Prop := W.cell? ⟨sb, 2, none⟩ = some (.int .i64 x.a) ∧ W.cell? ⟨sb, 3, none⟩ = some (.int .i64 x.b) ∧ W.cell? ⟨ib, 2, none⟩ = some (.int .i64 a) ∧ W.cell? ⟨ib, 3, none⟩ = some (.int .i64 b) ∧ W.cell? ⟨ib, 6, none⟩ = some v ∧ IL W v l
theorem UsBox.keep {w w' : World} {sb ib : Nat} {x : Sp} {a b : Int} {v : Value} {l : List Int} (h : UsBox w sb ib x a b v l) (hb : Below w.heap.size w w') : UsBox w' sb ib x a b v l := by
  obtain ⟨h0, h1, h2, h3, h4, h5⟩ := h
  exact ⟨keep_cell hb h0, keep_cell hb h1, keep_cell hb h2, keep_cell hb h3, keep_cell hb h4, h5.keep hb⟩
def usP (x : Sp) (a b : Int) (l : List Int) : List Int := (if readB x.a a = true then [a] else []) ++ ((if readB x.b b = true then [b] else []) ++ l.filter (· != -1))
def retUs (x : Sp) (a b : Int) (l : List Int) (w : World) : Ending → World → Prop := fun e w' => ∃ sb ib v, e = .returned (.func (.func 52) #[] #[.pointer (some ⟨sb, 0, none⟩), .pointer (some ⟨ib, 0, none⟩)]) ∧ UsBox w' sb ib x a b v l ∧ Below w.heap.size w w'
set_option maxRecDepth 100000 in
set_option maxHeartbeats 4000000 in
theorem uses_made (op sub a b d k : Int) (va : Option Addr) (vn vc : Nat) (s t : Int) (l : List Int) (x : Sp) (w : World) (HX : Hid (shOf op = x)) (HT : Hid (ShTab w)) (HV : Hid (IL w (.slice va vn vc) l)) :
    Calls Tryz.prog 35 #[.agg #[.int .i64 op, .int .i64 sub, .int .i64 a, .int .i64 b, .int .i64 d, .int .i64 k, .slice va vn vc, .int .i64 s, .int .i64 t]] w (retUs x a b (if x.args = true then l else []) w) := by
  have hmf : ∀ (fn : Go.Fn) (first cap : Array Value) (w : World), (Instr.makeFunc fn first cap).run Tryz.prog w = .ok (.func fn first cap) w := fun _ _ _ _ => rfl
  obtain ⟨xn, xs, xa, xb, xd, xk, xg, xs1, xt⟩ := x
  go_enter Tryz.func35, Tryz.ntmps35
  cases xg with
  | true =>
    go_wp2_with (go_at_call 49; refine (shapeOf_any _ _ (HT.out.keep (bel_alloc (Below.refl _ _) _))).mono ?_; rintro e w1 ⟨rfl, hb1⟩; rw [HX.out]; simp only [spV]; have i2 := keep_cell hb1 (p := ⟨w.heap.size, 2, none⟩) (v := .int .i64 a) (by simp); have i3 := keep_cell hb1 (p := ⟨w.heap.size, 3, none⟩) (v := .int .i64 b) (by simp); have i6 := keep_cell hb1 (p := ⟨w.heap.size, 6, none⟩) (v := .slice va vn vc) (by simp); have z6 := keep_frozen hb1 (p := ⟨w.heap.size, 6, none⟩) (v := .slice va vn vc) (by simp) (by simp); have hs1 : w.heap.size < w1.heap.size := (by have := hb1.size; simp at this; omega))
    refine (gclone_any (HV.out.keep (by repeat (first | with_reducible exact Below.refl _ _ | with_reducible refine bel_alloc ?_ _ | with_reducible refine bel_set ?_ (by first | exact Nat.le_refl _ | (simp; done) | (simp; omega)) _ | with_reducible refine Below.drew ?_ | refine bel_trans ?_ (by assumption))))).mono ?_
    rintro e w2 ⟨v2, rfl, hil, hfr, hb2⟩
    have j2 := keep_cell hb2 (p := ⟨w.heap.size, 2, none⟩) (keep_alloc i2 _)
    have j3 := keep_cell hb2 (p := ⟨w.heap.size, 3, none⟩) (keep_alloc i3 _)
    have j6 := keep_cell hb2 (p := ⟨w.heap.size, 6, none⟩) (keep_alloc i6 _)
    have y6 := keep_frozen hb2 (keep_alloc i6 _) (keep_frozen (bel_alloc (Below.refl _ _) _) i6 z6)
    have s2 := keep_cell hb2 (p := ⟨w1.heap.size, 2, none⟩) (v := .int .i64 xa) (by simp)
    have s3 := keep_cell hb2 (p := ⟨w1.heap.size, 3, none⟩) (v := .int .i64 xb) (by simp)
    have s6 := keep_cell hb2 (p := ⟨w1.heap.size, 6, none⟩) (v := .bool true) (by simp)
    obtain ⟨a2, c2, rfl, hlen2⟩ := len_parts hil
    have HIL := hid hil
    have HFR := hid hfr
    have hs2 : w1.heap.size < w2.heap.size := (by have := hb2.size; simp at this; omega)
    have HBB : Hid (Below w.heap.size w w2) := hid (by repeat (first | with_reducible exact Below.refl _ _ | with_reducible refine bel_alloc ?_ _ | with_reducible refine bel_set ?_ (by first | exact Nat.le_refl _ | (simp; done) | (simp; omega)) _ | with_reducible refine Below.drew ?_ | refine bel_trans ?_ (by assumption)))
    clear hil hfr hb2 i2 i3 i6 z6
    go_wp2
    go_ret
    refine ⟨_, _, .slice a2 l.length c2, rfl, ⟨by go_simp, by go_simp, by go_simp, by go_simp, by go_simp, ?_⟩, HBB.out.setCell (by simp) _⟩
    exact HIL.out.set (fun b o s n c h => by have := HFR.out b o s n c h; simp at this ⊢; omega)
  | false =>
    go_wp2_with (go_at_call 49; refine (shapeOf_any _ _ (HT.out.keep (bel_alloc (Below.refl _ _) _))).mono ?_; rintro e w1 ⟨rfl, hb1⟩; rw [HX.out]; simp only [spV]; have i2 := keep_cell hb1 (p := ⟨w.heap.size, 2, none⟩) (v := .int .i64 a) (by simp); have i3 := keep_cell hb1 (p := ⟨w.heap.size, 3, none⟩) (v := .int .i64 b) (by simp); have i6 := keep_cell hb1 (p := ⟨w.heap.size, 6, none⟩) (v := .slice va vn vc) (by simp); have z6 := keep_frozen hb1 (p := ⟨w.heap.size, 6, none⟩) (v := .slice va vn vc) (by simp) (by simp); have hs1 : w.heap.size < w1.heap.size := (by have := hb1.size; simp at this; omega))
    refine (gclone_any (HV.out.keep (by repeat (first | with_reducible exact Below.refl _ _ | with_reducible refine bel_alloc ?_ _ | with_reducible refine bel_set ?_ (by first | exact Nat.le_refl _ | (simp; done) | (simp; omega)) _ | with_reducible refine Below.drew ?_ | refine bel_trans ?_ (by assumption))))).mono ?_
    rintro e w2 ⟨v2, rfl, hil, hfr, hb2⟩
    have j2 := keep_cell hb2 (p := ⟨w.heap.size, 2, none⟩) (keep_alloc i2 _)
    have j3 := keep_cell hb2 (p := ⟨w.heap.size, 3, none⟩) (keep_alloc i3 _)
    have j6 := keep_cell hb2 (p := ⟨w.heap.size, 6, none⟩) (keep_alloc i6 _)
    have y6 := keep_frozen hb2 (keep_alloc i6 _) (keep_frozen (bel_alloc (Below.refl _ _) _) i6 z6)
    have s2 := keep_cell hb2 (p := ⟨w1.heap.size, 2, none⟩) (v := .int .i64 xa) (by simp)
    have s3 := keep_cell hb2 (p := ⟨w1.heap.size, 3, none⟩) (v := .int .i64 xb) (by simp)
    have s6 := keep_cell hb2 (p := ⟨w1.heap.size, 6, none⟩) (v := .bool false) (by simp)
    obtain ⟨a2, c2, rfl, hlen2⟩ := len_parts hil
    have HIL := hid hil
    have HFR := hid hfr
    have hs2 : w1.heap.size < w2.heap.size := (by have := hb2.size; simp at this; omega)
    have HBB : Hid (Below w.heap.size w w2) := hid (by repeat (first | with_reducible exact Below.refl _ _ | with_reducible refine bel_alloc ?_ _ | with_reducible refine bel_set ?_ (by first | exact Nat.le_refl _ | (simp; done) | (simp; omega)) _ | with_reducible refine Below.drew ?_ | refine bel_trans ?_ (by assumption)))
    clear hil hfr hb2 i2 i3 i6 z6
    go_wp2
    go_ret
    refine ⟨_, _, .slice none 0 0, rfl, ⟨by go_simp, by go_simp, by go_simp, by go_simp, by go_simp, ?_⟩, (HBB.out.setCell (by simp) _).setCell (by simp) _⟩
    exact IL.nil _
/-- What the iterator of successors holds. -/
def SuBox (W : World) (ib : Nat) (op s t : Int) : Prop := W.cell? ⟨ib, 0, none⟩ = some (.int .i64 op) ∧ W.cell? ⟨ib, 7, none⟩ = some (.int .i64 s) ∧ W.cell? ⟨ib, 8, none⟩ = some (.int .i64 t)
theorem SuBox.keep {w w' : World} {ib : Nat} {op s t : Int} (h : SuBox w ib op s t) (hb : Below w.heap.size w w') : SuBox w' ib op s t := ⟨keep_cell hb h.1, keep_cell hb h.2.1, keep_cell hb h.2.2⟩
def retSu (op s t : Int) (w : World) : Ending → World → Prop := fun e w' => ∃ ib, e = .returned (.func (.func 92) #[] #[.pointer (some ⟨ib, 0, none⟩)]) ∧ SuBox w' ib op s t ∧ Below w.heap.size w w'
set_option maxHeartbeats 2000000 in
theorem succs_made (op sub a b d k : Int) (va : Option Addr) (vn vc : Nat) (s t : Int) (w : World) : Calls Tryz.prog 71 #[.agg #[.int .i64 op, .int .i64 sub, .int .i64 a, .int .i64 b, .int .i64 d, .int .i64 k, .slice va vn vc, .int .i64 s, .int .i64 t]] w (retSu op s t w) := by
  have hmf : ∀ (fn : Go.Fn) (first cap : Array Value) (w : World), (Instr.makeFunc fn first cap).run Tryz.prog w = .ok (.func fn first cap) w := fun _ _ _ _ => rfl
  go_enter Tryz.func71, Tryz.ntmps71
  go_wp2
  go_ret
  exact ⟨_, rfl, ⟨by simp, by simp, by simp⟩, (by repeat (first | with_reducible exact Below.refl _ _ | with_reducible refine bel_alloc ?_ _ | with_reducible refine bel_set ?_ (by first | exact Nat.le_refl _ | (simp; done) | (simp; omega)) _ | with_reducible refine Below.drew ?_ | refine bel_trans ?_ (by assumption)))⟩
end Go.Proofs.YthieicjnenlpfaaGreatDoor

