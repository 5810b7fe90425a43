import Derived.Test.YtfeglcpipcjaeaaGreatDoorGIter
import Derived.Test.YtfeglcpipcjaeaaGreatDoorFyA
import Derived.Test.YtfeglcpipcjaeaaGreatDoorGIter3
import Derived.Test.YtfeglcpipcjaeaaGreatDoorFyB
import Derived.Lib.SliceRun
namespace Go.Proofs.YtfeglcpipcjaeaaGreatDoor
open Go.ChangeShapes Go.WideShapes Go.ChangeAt Go.RowKit Go.Proofs.Tryz
set_option linter.unusedSimpArgs false
set_option linter.unusedVariables false
set_option maxRecDepth 100000
set_option maxHeartbeats 8000000

theorem field4 (nm : ByteArray) (ks xa xb xd : Int) (xk xg xs xt : Bool) (w : World) : (Instr.field 115 (.agg #[.string nm, .int .i64 ks, .int .i64 xa, .int .i64 xb, .int .i64 xd, .bool xk, .bool xg, .bool xs, .bool xt]) 4).run prog w = .ok (.int .i64 xd) w := by kernel_rfl
theorem end_2 {P : Program} {fn : Func} {a : Act} {w w' : World} {v : Value} (hr : (results fn a.tmps).run P w' = .ok v w') (hd : a.defers = []) (hb : Below w.heap.size w w') : bodyPost P fn (retP v w) .ret a w' := bodyPost_ret hr hd ⟨rfl, hb⟩
theorem bdrew {B : Nat} {a w : World} (h : Below B a w) : Below B a w.drew := ⟨h.os, h.tape, h.output, h.size, h.block⟩
theorem target_walk (op sub a b d k : Int) (va : Option Addr) (vn vc : Nat) (s t : Int) (x : Sp) (w : World) (HX : Hid (shOf op = x)) (HT : Hid (ShTab w)) :
  Calls prog 64 #[.agg #[.int .i64 op, .int .i64 sub, .int .i64 a, .int .i64 b, .int .i64 d, .int .i64 k, .slice va vn vc, .int .i64 s, .int .i64 t]] w (retP (if readB x.d d = true then .tuple #[.int .i64 d, .bool true] else .tuple #[.int .i64 0, .bool false]) w) := by
 have HR : Hid (∀ W, Calls prog 85 #[.int .i64 x.d, .int .i64 d] W fun e w' => e = .returned (.bool (readB x.d d)) ∧ w' = W) := fun W => isRegister_any x.d d W;have hf4 := field4 x.name x.sub x.a x.b x.d x.k x.args x.s x.t
 cases hq : readB x.d d
 ·rw [hq] at HR
  go_enter func64, ntmps64
  go_upto_region 1 with fail
  refine wp_region_held_drew (S := (fun w' => w'.cell? ⟨w.heap.size, 0, none⟩ = some (.int .i64 op) ∧ w'.cell? ⟨w.heap.size, 4, none⟩ = some (.int .i64 d) ∧ Hid (Below w.heap.size w w') ∧ Hid (ShTab w'))) (by kernel_rfl) (⟨by simp, by simp, hidF (bdrew (bel_alloc (Below.refl _ _) _)), hidF (HT.out.keep (bdrew (bel_alloc (Below.refl _ _) _)))⟩) (fun hHeld => ?_);refine wpAnyH_take (i := 0) (oi := ?oib0) (v := ?vvb0) ?hib0 (by kernel_rfl) (by kernel_rfl) (by kernel_rfl) ?hqb0 ?hyb0 hHeld ?_
  case hib0 => simp only [zga, zgs, zgz]; rfl
  case hqb0 => exact fun _ _ _ h => h
  case hyb0 => refine .inl ⟨by rfl, ?_⟩; intro w' hSw; (try dsimp only at hSw); go_simp; try with_reducible rfl
  simp only [Act.put, zsa, zsz, zss];refine wpAnyH_take (i := 1) (oi := ?oib1) (v := ?vvb1) ?hib1 (by kernel_rfl) (by kernel_rfl) (by kernel_rfl) ?hqb1 ?hyb1 hHeld ?_
  case hib1 => simp only [zga, zgs, zgz]; rfl
  case hqb1 => exact fun _ _ _ h => h
  case hyb1 => refine .inl ⟨by rfl, ?_⟩; intro w' hSw; (try dsimp only at hSw); go_simp; try with_reducible rfl
  simp only [Act.put, zsa, zsz, zss];refine wpAnyH_take (i := 4) (oi := ?oib4) (v := ?vvb4) ?hib4 (by kernel_rfl) (by kernel_rfl) (by kernel_rfl) ?hqb4 ?hyb4 hHeld ?_
  case hib4 => simp only [zga, zgs, zgz]; rfl
  case hqb4 => exact fun _ _ _ h => h
  case hyb4 => refine .inl ⟨by rfl, ?_⟩; intro w' hSw; (try dsimp only at hSw); go_simp; try with_reducible rfl
  simp only [Act.put, zsa, zsz, zss];refine wpAnyH_take (i := 5) (oi := ?oib5) (v := ?vvb5) ?hib5 (by kernel_rfl) (by kernel_rfl) (by kernel_rfl) ?hqb5 ?hyb5 hHeld ?_
  case hib5 => simp only [zga, zgs, zgz]; rfl
  case hqb5 => exact fun _ _ _ h => h
  case hyb5 => refine .inl ⟨by rfl, ?_⟩; intro w' hSw; (try dsimp only at hSw); go_simp; try with_reducible rfl
  simp only [Act.put, zsa, zsz, zss];refine wpAnyH_ready (rs := [2]) (by kernel_rfl) (by simp) ?_;refine AllReadyH.cons (o := ?oib2) ?hib2 (fun K hK => ?_) AllReadyH.nil
  case hib2 => simp only [zga, zgs, zgz]; rfl
  go_simp;refine (shapeOf_any op _ hHeld.2.2.2.out).mono ?_;rintro e v2 ⟨rfl, hb1⟩;rw [HX.out];simp only [spV];go_wp2_with fail
  refine hK.out _ _ (⟨keep_cell hb1 hHeld.1, keep_cell hb1 hHeld.2.1, hidF (bel_trans hHeld.2.2.1.out hb1), hidF (hHeld.2.2.2.out.keep hb1)⟩) (fun hN => ?_);clear hK K hHeld;have hHeld := hN;clear hN
  try simp only [Act.put, zsa, zsz, zss]
  refine wpAnyH_take (i := 3) (oi := ?oib3) (v := ?vvb3) ?hib3 (by kernel_rfl) (by kernel_rfl) (by kernel_rfl) ?hqb3 ?hyb3 hHeld ?_
  case hib3 => simp only [zga, zgs, zgz]; rfl
  case hqb3 => exact fun _ _ _ h => h
  case hyb3 => refine .inl ⟨by rfl, ?_⟩; intro w' hSw; (try dsimp only at hSw); go_simp; try with_reducible rfl
  simp only [Act.put, zsa, zsz, zss];refine wpAnyH_ready (rs := [6]) (by kernel_rfl) (by simp) ?_;refine AllReadyH.cons (o := ?oib6) ?hib6 (fun K hK => ?_) AllReadyH.nil
  case hib6 => simp only [zga, zgs, zgz]; rfl
  go_simp;refine (HR.out _).mono ?_;rintro e v6 ⟨rfl, rfl⟩;go_wp2_with fail
  refine hK.out _ _ (hHeld) (fun hN => ?_);clear hK K hHeld;have hHeld := hN;clear hN
  try simp only [Act.put, zsa, zsz, zss]
  refine wpAnyH_take (i := 7) (oi := ?oib7) (v := ?vvb7) ?hib7 (by kernel_rfl) (by kernel_rfl) (by kernel_rfl) ?hqb7 ?hyb7 hHeld ?_
  case hib7 => simp only [zga, zgs, zgz]; rfl
  case hqb7 => exact fun _ _ _ h => h
  case hyb7 => refine .inl ⟨by rfl, ?_⟩; intro w' hSw; (try dsimp only at hSw); go_simp; try with_reducible rfl
  simp only [Act.put, zsa, zsz, zss];refine wpAnyH_done (by kernel_rfl) ?_ _;go_wp2;exact end_2 (by simp [results, results64, go_sem]) rfl hHeld.2.2.1.out
 ·rw [hq] at HR
  go_enter func64, ntmps64
  go_upto_region 1 with fail
  refine wp_region_held_drew (S := (fun w' => w'.cell? ⟨w.heap.size, 0, none⟩ = some (.int .i64 op) ∧ w'.cell? ⟨w.heap.size, 4, none⟩ = some (.int .i64 d) ∧ Hid (Below w.heap.size w w') ∧ Hid (ShTab w'))) (by kernel_rfl) (⟨by simp, by simp, hidF (bdrew (bel_alloc (Below.refl _ _) _)), hidF (HT.out.keep (bdrew (bel_alloc (Below.refl _ _) _)))⟩) (fun hHeld => ?_);refine wpAnyH_take (i := 0) (oi := ?oid0) (v := ?vvd0) ?hid0 (by kernel_rfl) (by kernel_rfl) (by kernel_rfl) ?hqd0 ?hyd0 hHeld ?_
  case hid0 => simp only [zga, zgs, zgz]; rfl
  case hqd0 => exact fun _ _ _ h => h
  case hyd0 => refine .inl ⟨by rfl, ?_⟩; intro w' hSw; (try dsimp only at hSw); go_simp; try with_reducible rfl
  simp only [Act.put, zsa, zsz, zss];refine wpAnyH_take (i := 1) (oi := ?oid1) (v := ?vvd1) ?hid1 (by kernel_rfl) (by kernel_rfl) (by kernel_rfl) ?hqd1 ?hyd1 hHeld ?_
  case hid1 => simp only [zga, zgs, zgz]; rfl
  case hqd1 => exact fun _ _ _ h => h
  case hyd1 => refine .inl ⟨by rfl, ?_⟩; intro w' hSw; (try dsimp only at hSw); go_simp; try with_reducible rfl
  simp only [Act.put, zsa, zsz, zss];refine wpAnyH_take (i := 4) (oi := ?oid4) (v := ?vvd4) ?hid4 (by kernel_rfl) (by kernel_rfl) (by kernel_rfl) ?hqd4 ?hyd4 hHeld ?_
  case hid4 => simp only [zga, zgs, zgz]; rfl
  case hqd4 => exact fun _ _ _ h => h
  case hyd4 => refine .inl ⟨by rfl, ?_⟩; intro w' hSw; (try dsimp only at hSw); go_simp; try with_reducible rfl
  simp only [Act.put, zsa, zsz, zss];refine wpAnyH_take (i := 5) (oi := ?oid5) (v := ?vvd5) ?hid5 (by kernel_rfl) (by kernel_rfl) (by kernel_rfl) ?hqd5 ?hyd5 hHeld ?_
  case hid5 => simp only [zga, zgs, zgz]; rfl
  case hqd5 => exact fun _ _ _ h => h
  case hyd5 => refine .inl ⟨by rfl, ?_⟩; intro w' hSw; (try dsimp only at hSw); go_simp; try with_reducible rfl
  simp only [Act.put, zsa, zsz, zss];refine wpAnyH_ready (rs := [2]) (by kernel_rfl) (by simp) ?_;refine AllReadyH.cons (o := ?oid2) ?hid2 (fun K hK => ?_) AllReadyH.nil
  case hid2 => simp only [zga, zgs, zgz]; rfl
  go_simp;refine (shapeOf_any op _ hHeld.2.2.2.out).mono ?_;rintro e v2 ⟨rfl, hb1⟩;rw [HX.out];simp only [spV];go_wp2_with fail
  refine hK.out _ _ (⟨keep_cell hb1 hHeld.1, keep_cell hb1 hHeld.2.1, hidF (bel_trans hHeld.2.2.1.out hb1), hidF (hHeld.2.2.2.out.keep hb1)⟩) (fun hN => ?_);clear hK K hHeld;have hHeld := hN;clear hN
  try simp only [Act.put, zsa, zsz, zss]
  refine wpAnyH_take (i := 3) (oi := ?oid3) (v := ?vvd3) ?hid3 (by kernel_rfl) (by kernel_rfl) (by kernel_rfl) ?hqd3 ?hyd3 hHeld ?_
  case hid3 => simp only [zga, zgs, zgz]; rfl
  case hqd3 => exact fun _ _ _ h => h
  case hyd3 => refine .inl ⟨by rfl, ?_⟩; intro w' hSw; (try dsimp only at hSw); go_simp; try with_reducible rfl
  simp only [Act.put, zsa, zsz, zss];refine wpAnyH_ready (rs := [6]) (by kernel_rfl) (by simp) ?_;refine AllReadyH.cons (o := ?oid6) ?hid6 (fun K hK => ?_) AllReadyH.nil
  case hid6 => simp only [zga, zgs, zgz]; rfl
  go_simp;refine (HR.out _).mono ?_;rintro e v6 ⟨rfl, rfl⟩;go_wp2_with fail
  refine hK.out _ _ (hHeld) (fun hN => ?_);clear hK K hHeld;have hHeld := hN;clear hN
  try simp only [Act.put, zsa, zsz, zss]
  refine wpAnyH_take (i := 7) (oi := ?oid7) (v := ?vvd7) ?hid7 (by kernel_rfl) (by kernel_rfl) (by kernel_rfl) ?hqd7 ?hyd7 hHeld ?_
  case hid7 => simp only [zga, zgs, zgz]; rfl
  case hqd7 => exact fun _ _ _ h => h
  case hyd7 => refine .inl ⟨by rfl, ?_⟩; intro w' hSw; (try dsimp only at hSw); go_simp; try with_reducible rfl
  simp only [Act.put, zsa, zsz, zss];refine wpAnyH_done (by kernel_rfl) ?_ _;go_wp2;exact end_2 (by simp [results, results64, go_sem]) rfl hHeld.2.2.1.out
end Go.Proofs.YtfeglcpipcjaeaaGreatDoor
namespace Go.Proofs.YtfeglcpipcjaeaaGreatDoor
open Go.ChangeShapes Go.WideShapes Go.ChangeAt Go.RowKit Go.Proofs.Tryz
set_option linter.unusedSimpArgs false
set_option linter.unusedVariables false
set_option maxRecDepth 100000
set_option maxHeartbeats 4000000

def retUs2 (x : Sp) (a b : Int) (l : List Int) (w : World) : Ending → World → Prop := fun e w' => ∃ sb ib v, e = .returned (.func (.func 84) #[] #[.pointer (some ⟨sb, 0, none⟩), .pointer (some ⟨ib, 0, none⟩)]) ∧ UsBox w' sb ib x a b v l ∧ Below w.heap.size w w' ∧ w.heap.size ≤ sb ∧ w.heap.size ≤ ib ∧ ∀ b o s n c, v = .slice (some ⟨b, o, s⟩) n c → w.heap.size ≤ b
theorem uses_made2 (op sub a b d k : Int) (va : Option Addr) (vn vc : Nat) (s t : Int) (l : List Int) (x : Sp) (w : World) (HX : Hid (shOf op = x)) (HT : Hid (ShTab w)) (HV : Hid (IL w (.slice va vn vc) l)) :
  Calls prog 63 #[.agg #[.int .i64 op, .int .i64 sub, .int .i64 a, .int .i64 b, .int .i64 d, .int .i64 k, .slice va vn vc, .int .i64 s, .int .i64 t]] w (retUs2 x a b (if x.args = true then l else []) w) := by
 have hmf : ∀ (fn : Go.Fn) (first cap : Array Value) (w : World), (Instr.makeFunc fn first cap).run prog w = .ok (.func fn first cap) w := fun _ _ _ _ => rfl;obtain ⟨xn, xs, xa, xb, xd, xk, xg, xs1, xt⟩ := x
 go_enter func63, ntmps63
 cases xg with
 | true =>
  go_wp2_with (go_at_call 79; refine (shapeOf_any _ _ (HT.out.keep (bel_alloc (Below.refl _ _) _))).mono ?_; rintro e w1 ⟨rfl, hb1⟩; rw [HX.out]; simp only [spV]; have i2 := keep_cell hb1 (p := ⟨w.heap.size, 2, none⟩) (v := .int .i64 a) (by simp); have i3 := keep_cell hb1 (p := ⟨w.heap.size, 3, none⟩) (v := .int .i64 b) (by simp); have i6 := keep_cell hb1 (p := ⟨w.heap.size, 6, none⟩) (v := .slice va vn vc) (by simp); have z6 := keep_frozen hb1 (p := ⟨w.heap.size, 6, none⟩) (v := .slice va vn vc) (by simp) (by simp); have hs1 : w.heap.size < w1.heap.size := (by have := hb1.size; simp at this; omega))
  refine (gclone_any (HV.out.keep (by repeat (first | with_reducible exact Below.refl _ _ | with_reducible refine bel_alloc ?_ _ | with_reducible refine bel_set ?_ (by first | exact Nat.le_refl _ | (simp; done) | (simp; omega)) _ | with_reducible refine Below.drew ?_ | refine bel_trans ?_ (by assumption))))).mono ?_;rintro e w2 ⟨v2, rfl, hil, hfr, hb2⟩;have j2 := keep_cell hb2 (p := ⟨w.heap.size, 2, none⟩) (keep_alloc i2 _);have j3 := keep_cell hb2 (p := ⟨w.heap.size, 3, none⟩) (keep_alloc i3 _);have j6 := keep_cell hb2 (p := ⟨w.heap.size, 6, none⟩) (keep_alloc i6 _);have y6 := keep_frozen hb2 (keep_alloc i6 _) (keep_frozen (bel_alloc (Below.refl _ _) _) i6 z6);have s2 := keep_cell hb2 (p := ⟨w1.heap.size, 2, none⟩) (v := .int .i64 xa) (by simp);have s3 := keep_cell hb2 (p := ⟨w1.heap.size, 3, none⟩) (v := .int .i64 xb) (by simp);have s6 := keep_cell hb2 (p := ⟨w1.heap.size, 6, none⟩) (v := .bool true) (by simp);obtain ⟨a2, c2, rfl, hlen2⟩ := len_parts hil;have HIL := hid hil;have HFR := hid hfr;have hs2 : w1.heap.size < w2.heap.size := (by have := hb2.size; simp at this; omega);have HBB : Hid (Below w.heap.size w w2) := hid (by repeat (first | with_reducible exact Below.refl _ _ | with_reducible refine bel_alloc ?_ _ | with_reducible refine bel_set ?_ (by first | exact Nat.le_refl _ | (simp; done) | (simp; omega)) _ | with_reducible refine Below.drew ?_ | refine bel_trans ?_ (by assumption)));clear hil hfr hb2 i2 i3 i6 z6;go_wp2;go_ret;refine ⟨_, _, .slice a2 l.length c2, rfl, ⟨by go_simp, by go_simp, by go_simp, by go_simp, by go_simp, ?_⟩, HBB.out.setCell (by simp) _, by omega, Nat.le_refl _, fun b o s n c h => by have := HFR.out b o s n c h; simp at this; omega⟩;exact HIL.out.set (fun b o s n c h => by have := HFR.out b o s n c h; simp at this ⊢; omega)
 | false =>
  go_wp2_with (go_at_call 79; refine (shapeOf_any _ _ (HT.out.keep (bel_alloc (Below.refl _ _) _))).mono ?_; rintro e w1 ⟨rfl, hb1⟩; rw [HX.out]; simp only [spV]; have i2 := keep_cell hb1 (p := ⟨w.heap.size, 2, none⟩) (v := .int .i64 a) (by simp); have i3 := keep_cell hb1 (p := ⟨w.heap.size, 3, none⟩) (v := .int .i64 b) (by simp); have i6 := keep_cell hb1 (p := ⟨w.heap.size, 6, none⟩) (v := .slice va vn vc) (by simp); have z6 := keep_frozen hb1 (p := ⟨w.heap.size, 6, none⟩) (v := .slice va vn vc) (by simp) (by simp); have hs1 : w.heap.size < w1.heap.size := (by have := hb1.size; simp at this; omega))
  refine (gclone_any (HV.out.keep (by repeat (first | with_reducible exact Below.refl _ _ | with_reducible refine bel_alloc ?_ _ | with_reducible refine bel_set ?_ (by first | exact Nat.le_refl _ | (simp; done) | (simp; omega)) _ | with_reducible refine Below.drew ?_ | refine bel_trans ?_ (by assumption))))).mono ?_;rintro e w2 ⟨v2, rfl, hil, hfr, hb2⟩;have j2 := keep_cell hb2 (p := ⟨w.heap.size, 2, none⟩) (keep_alloc i2 _);have j3 := keep_cell hb2 (p := ⟨w.heap.size, 3, none⟩) (keep_alloc i3 _);have j6 := keep_cell hb2 (p := ⟨w.heap.size, 6, none⟩) (keep_alloc i6 _);have y6 := keep_frozen hb2 (keep_alloc i6 _) (keep_frozen (bel_alloc (Below.refl _ _) _) i6 z6);have s2 := keep_cell hb2 (p := ⟨w1.heap.size, 2, none⟩) (v := .int .i64 xa) (by simp);have s3 := keep_cell hb2 (p := ⟨w1.heap.size, 3, none⟩) (v := .int .i64 xb) (by simp);have s6 := keep_cell hb2 (p := ⟨w1.heap.size, 6, none⟩) (v := .bool false) (by simp);obtain ⟨a2, c2, rfl, hlen2⟩ := len_parts hil;have HIL := hid hil;have HFR := hid hfr;have hs2 : w1.heap.size < w2.heap.size := (by have := hb2.size; simp at this; omega);have HBB : Hid (Below w.heap.size w w2) := hid (by repeat (first | with_reducible exact Below.refl _ _ | with_reducible refine bel_alloc ?_ _ | with_reducible refine bel_set ?_ (by first | exact Nat.le_refl _ | (simp; done) | (simp; omega)) _ | with_reducible refine Below.drew ?_ | refine bel_trans ?_ (by assumption)));clear hil hfr hb2 i2 i3 i6 z6;go_wp2;go_ret;refine ⟨_, _, .slice none 0 0, rfl, ⟨by go_simp, by go_simp, by go_simp, by go_simp, by go_simp, ?_⟩, (HBB.out.setCell (by simp) _).setCell (by simp) _, by omega, Nat.le_refl _, fun b o s n c h => by cases h⟩;exact IL.nil _

end Go.Proofs.YtfeglcpipcjaeaaGreatDoor
namespace Go.Proofs.YtfeglcpipcjaeaaGreatDoor
set_option linter.unusedSimpArgs false
set_option linter.unusedVariables false

structure Least (n : Nat) (es : List (Nat × Nat)) (f x : Nat → Int) : Prop where
 ge : ∀ i, i < n → f i ≤ x i
 cl : ∀ e ∈ es, x e.1 ≤ x e.2
 le : ∀ z : Nat → Int, (∀ i, i < n → f i ≤ z i) → (∀ e ∈ es, z e.1 ≤ z e.2) → ∀ i, i < n → x i ≤ z i
def gOf (es : List (Nat × Nat)) (k : Nat) : List Nat := (es.filter fun e => e.1 == k).map (·.2)
theorem mem_gOf {es : List (Nat × Nat)} {k t : Nat} : t ∈ gOf es k ↔ (k, t) ∈ es := by
 unfold gOf;rw [List.mem_map]
 constructor
 ·rintro ⟨⟨a, b⟩, h1, rfl⟩
  rw [List.mem_filter] at h1;have : a = k := by simpa using h1.2
  subst this;exact h1.1
 ·intro h
  exact ⟨(k, t), List.mem_filter.2 ⟨h, by simp⟩, rfl⟩
theorem gOf_snoc (es : List (Nat × Nat)) (a b k : Nat) : gOf (es ++ [(a, b)]) k = gOf es k ++ (if a = k then [b] else []) := by
 unfold gOf;rw [List.filter_append, List.map_append]
 congr 1
 by_cases h : a = k
 ·subst h; simp
 ·rw [if_neg h, List.filter_cons_of_neg (by simpa using h)]; rfl
theorem gOf_length (es : List (Nat × Nat)) (k : Nat) : (gOf es k).length ≤ es.length := by
 unfold gOf;rw [List.length_map];exact List.length_filter_le _ _
structure PV (n : Nat) (es : List (Nat × Nat)) (f : Nat → Int) (m : Nat → Bool) (x : Nat → Int) (rest : List Nat) : Prop where
 cl : ∀ e ∈ es, m e.1 = true → m e.2 = true ∧ x e.1 ≤ x e.2
 ge : ∀ i, i < n → m i = true → f i ≤ x i
 le : ∀ z : Nat → Int, (∀ i, i < n → f i ≤ z i) → (∀ e ∈ es, z e.1 ≤ z e.2) → ∀ i, i < n → m i = true → x i ≤ z i
 hi : ∀ i, i < n → m i = true → ∀ r ∈ rest, f r ≤ x i
 dn : ∀ i, i < n → m i = true ∨ i ∈ rest
theorem PV.start (n : Nat) (es : List (Nat × Nat)) (f x : Nat → Int) (rest : List Nat) (h : ∀ i, i < n → i ∈ rest) : PV n es f (fun _ => false) x rest :=
 ⟨fun e _ h => by simp at h, fun i _ h => by simp at h, fun z _ _ i _ h => by simp at h, fun i _ h => by simp at h, fun i hi => .inr (h i hi)⟩
theorem Least.mono {n : Nat} {es es' : List (Nat × Nat)} {f f' x y : Nat → Int} (h : Least n es f x) (k : Least n es' f' y) (h1 : ∀ e ∈ es, e ∈ es') (h2 : ∀ i, i < n → f i ≤ f' i) : ∀ i, i < n → x i ≤ y i :=
 h.le y (fun i hi => Int.le_trans (h2 i hi) (k.ge i hi)) (fun e he => k.cl e (h1 e he))
theorem Least.one {n k : Nat} {es : List (Nat × Nat)} {f f' x z : Nat → Int} (h : Least n es f x) (q : Least n es f' z) (hf : ∀ i, i < n → i ≠ k → f' i = f i) (hk : ∀ i, i < n → f i ≤ f' i) (hes : ∀ e ∈ es, e.1 < n ∧ e.2 < n) : ∀ i, i < n → z i ≤ x i ∨ z i = f' k := by
 have hxz := h.mono q (fun _ h => h) hk
 have h1 : ∀ i, i < n → z i ≤ max (x i) (f' k) := q.le (fun i => max (x i) (f' k)) (fun i hi => by
  by_cases e : i = k
  ·subst e; omega
  ·rw [hf i hi e]; have := h.ge i hi; omega) (fun e he => by have := h.cl e he; omega)
 have h2 : ∀ i, i < n → z i ≤ (if f' k ≤ z i then z i else x i) := q.le (fun i => if f' k ≤ z i then z i else x i) (fun i hi => by
  by_cases e : i = k
  ·subst e
   rw [if_pos (q.ge i hi)];exact q.ge i hi
  ·skip
   rw [hf i hi e];have := h.ge i hi;have := hxz i hi
   split <;> omega) (fun e he => by
  have a1 := h.cl e he;have a2 := q.cl e he;have a3 := hxz e.2 (hes e he).2
  split <;> split <;> omega)
 intro i hi;have b1 := h1 i hi;have b2 := h2 i hi
 by_cases e : f' k ≤ z i
 ·by_cases e2 : z i ≤ x i
  ·exact .inl e2
  ·exact .inr (by omega)
 ·rw [if_neg e] at b2
  exact .inl b2
end Go.Proofs.YtfeglcpipcjaeaaGreatDoor
namespace Go.Proofs.YtfeglcpipcjaeaaGreatDoor
open Go.ChangeShapes Go.WideShapes Go.ChangeAt Go.RowKit Go.Proofs.Tryz
set_option linter.unusedSimpArgs false
set_option linter.unusedVariables false
set_option maxRecDepth 100000
set_option maxHeartbeats 8000000

def edN (i : Nat) (l : List Int) : List (Nat × Nat) := l.map fun y => (y.toNat, i)
def sxF (x : Ins) : List Int := succsF x.op x.s x.t
def esT (code : List Ins) : Nat → List (Nat × Nat)
 | 0 => []
 | i + 1 => esT code i ++ edN i (((code[i]?).map sxF).getD [])
theorem edN_snoc (i : Nat) (l : List Int) (y : Int) : edN i (l ++ [y]) = edN i l ++ [(y.toNat, i)] := by simp [edN]
theorem addG_gOf (es : List (Nat × Nat)) (x t k : Nat) : addG (gOf es) x t k = gOf (es ++ [(x, t)]) k := by
 rw [gOf_snoc];unfold addG
 by_cases h2 : k = x
 ·subst h2; simp
 ·rw [if_neg h2, if_neg (Ne.symm h2)]; simp
theorem sxF_length (x : Ins) : (sxF x).length ≤ 2 := by unfold sxF succsF; split; simp; split <;> simp
theorem esT_length (code : List Ins) : ∀ i, (esT code i).length ≤ 2 * i
 | 0 => by simp [esT]
 | i + 1 => by
  have h1 := esT_length code i
  have h2 : (edN i (((code[i]?).map sxF).getD [])).length ≤ 2 := by
   unfold edN;rw [List.length_map]
   cases code[i]? with
   | none => simp
   | some x => simpa using sxF_length x
  unfold esT;rw [List.length_append]
  omega
def retSu2 (op s t : Int) (w : World) : Ending → World → Prop := fun e w' => ∃ ib, e = .returned (.func (.func 70) #[] #[.pointer (some ⟨ib, 0, none⟩)]) ∧ SuBox w' ib op s t ∧ w.heap.size ≤ ib ∧ Below w.heap.size w w'
theorem succs_made2 (op sub a b d k : Int) (va : Option Addr) (vn vc : Nat) (s t : Int) (w : World) : Calls prog 50 #[.agg #[.int .i64 op, .int .i64 sub, .int .i64 a, .int .i64 b, .int .i64 d, .int .i64 k, .slice va vn vc, .int .i64 s, .int .i64 t]] w (retSu2 op s t w) := by
 have hmf : ∀ (fn : Go.Fn) (first cap : Array Value) (w : World), (Instr.makeFunc fn first cap).run prog w = .ok (.func fn first cap) w := fun _ _ _ _ => rfl
 go_enter func50, ntmps50
 go_wp2;go_ret;exact ⟨_, rfl, ⟨by simp, by simp, by simp⟩, Nat.le_refl _, (by repeat (first | with_reducible exact Below.refl _ _ | with_reducible refine bel_alloc ?_ _ | with_reducible refine bel_set ?_ (by first | exact Nat.le_refl _ | (simp; done) | (simp; omega)) _ | with_reducible refine Below.drew ?_ | refine bel_trans ?_ (by assumption)))⟩
noncomputable def bkLoop : Code := (((Tryz.f40.body.map loopsOf).getD [])[0]?).getD .skip
def LBk (w : World) (LX NB N cap cb co : Nat) (ca : Option Addr) (code : List Ins) (i : Nat) (ms : List Nat) (W : World) : Prop := ∃ rv, NI w.heap.size NB N rv (gOf (esT code i)) W ∧ Below w.heap.size w W ∧ W.cell? ⟨LX, 0, none⟩ = some (.slice (some ⟨NB, 0, none⟩) N N) ∧ (∀ k, k < N → some LX ≠ (rv k).ownBlock) ∧ ms.Nodup ∧ ∀ d ∈ ms, W.heap[d]? = some (.deferred (some [])) ∧ w.heap.size ≤ d
def IBk (w : World) (LX NB N cap cb co : Nat) (ca : Option Addr) (code : List Ins) (z0z z1z z2z z7z z8z z9z z31z : Value) (a : Act) (W : World) : Prop := ∃ (i : Nat) (ms : List Nat) (z4z z5z z6z z13z z14z z15z z16z z17z z18z z19z z20z z21z z22z z23z z24z z25z z26z z27z z28z z29z z30z : Value), i ≤ N ∧ LBk w LX NB N cap cb co ca code i ms W ∧ a = ⟨#[z0z, z1z, z2z, .pointer (some ⟨LX, 0, none⟩), z4z, z5z, z6z, z7z, z8z, z9z, .slice ca N cap, .int .i64 N, .int .i64 (i : Int), z13z, z14z, z15z, z16z, z17z, z18z, z19z, z20z, z21z, z22z, z23z, z24z, z25z, z26z, z27z, z28z, z29z, z30z, z31z], ms.map mkD⟩
def muBk (n : Nat) (a : Act) (_ : World) : Nat := n - (intOf (a.tmps.getD 12 undef)).toNat
structure JBk (W3 : World) (B NB N : Nat) (rc : Loop) (rv : Nat → Value) (es : List (Nat × Nat)) (i : Nat) (pre : List Int) (W : World) : Prop where
 os : W.os = W3.os
 tape : W.tape = W3.tape
 output : W.output = W3.output
 size : W3.heap.size + 2 ≤ W.heap.size
 block : ∀ k, k < W3.heap.size → k ≠ NB → (∀ j, j < N → some k ≠ (rv j).ownBlock) → W.heap[k]? = W3.heap[k]?
 df : W.heap[W3.heap.size]? = some (.deferred (some []))
 lp : W.heap[W3.heap.size + 1]? = some (.loop rc)
 ni : ∃ rv', NI B NB N rv' (gOf (es ++ edN i pre)) W ∧ ∀ j, j < N → ∀ b, (rv' j).ownBlock = some b → (rv j).ownBlock = some b ∨ W3.heap.size + 2 ≤ b
theorem JBk.enter {W3 : World} {B NB N i : Nat} {rc : Loop} {rv : Nat → Value} {es : List (Nat × Nat)} (h : NI B NB N rv (gOf es) W3) : JBk W3 B NB N rc rv es i [] (loopW W3 rc) where
 os := rfl
 tape := rfl
 output := rfl
 size := by simp [loopW]
 block := fun k hk _ _ => by unfold loopW; rw [Below.heap_alloc _ _ k (by simp; omega), Below.heap_alloc _ _ k hk]
 df := by unfold loopW; rw [Below.heap_alloc _ _ _ (by simp)]; show (W3.heap.push _)[W3.heap.size]? = _; simp
 lp := by
  unfold loopW
  show ((W3.alloc (.deferred (some []))).heap.push _)[W3.heap.size + 1]? = _
  have : (W3.alloc (.deferred (some []))).heap.size = W3.heap.size + 1 := World.size_alloc _ _;rw [← this];exact Array.getElem?_push_size
 ni := ⟨rv, by
  rw [show edN i [] = [] from rfl, List.append_nil];exact h.of ((bel_alloc (bel_alloc (Below.refl _ _) _) _)), fun j hj b hb => .inl hb⟩
theorem bk_step (w : World) (LX NB N cap cb co : Nat) (ca : Option Addr) (code : List Ins) (z0z z1z z2z z7z z8z z9z z31z : Value) (z4z z5z z6z z13z z14z z15z z16z z17z z18z z19z z20z z21z z22z z23z z24z z25z z26z z27z z28z z29z z30z : Value) (i : Nat) (ms : List Nat) (Q0 : Exit → Act → World → Prop) (W : World) (hn : N ≤ 100000) (HCL : Hid (code.length = N)) (HCA : Hid (0 < N → ca = some ⟨cb, co, none⟩)) (HIN : Hid (∀ (i : Nat) x, code[i]? = some x → InsAt w cb (co + i * 9) x)) (HSX : Hid (∀ x ∈ code, ∀ y ∈ sxF x, 0 ≤ y ∧ y < N)) (HNE : Hid (LX ≠ NB ∧ w.heap.size ≤ NB)) (HL : Hid (LBk w LX NB N cap cb co ca code i ms W)) (hin : i < N) :
  Code.wp prog bkLoop (Exit.then (fun a' w' => IBk w LX NB N cap cb co ca code z0z z1z z2z z7z z8z z9z z31z a' w' ∧ muBk N a' w' < muBk N ⟨#[z0z, z1z, z2z, .pointer (some ⟨LX, 0, none⟩), z4z, z5z, z6z, z7z, z8z, z9z, .slice ca N cap, .int .i64 N, .int .i64 (i : Int), z13z, z14z, z15z, z16z, z17z, z18z, z19z, z20z, z21z, z22z, z23z, z24z, z25z, z26z, z27z, z28z, z29z, z30z, z31z], ms.map mkD⟩ W) Q0) ⟨#[z0z, z1z, z2z, .pointer (some ⟨LX, 0, none⟩), z4z, z5z, z6z, z7z, z8z, z9z, .slice ca N cap, .int .i64 N, .int .i64 (i : Int), z13z, z14z, z15z, z16z, z17z, z18z, z19z, z20z, z21z, z22z, z23z, z24z, z25z, z26z, z27z, z28z, z29z, z30z, z31z], ms.map mkD⟩ W := by
 obtain ⟨rv, hni, hbw, hlx, hfl, hms, hdf⟩ := HL.out;obtain rfl := HCA.out (by omega);have hget := List.getElem?_eq_getElem (l := code) (show i < code.length by rw [HCL.out]; exact hin)
 generalize code[i]'(by rw [HCL.out]; exact hin) = x at hget
 obtain ⟨v, hil, e0, e1, e2, e3, e4, e5, e6, e7, e8⟩ := (HIN.out i x hget).keep hbw;obtain ⟨va, vc, rfl, _⟩ := hil.partsF
 generalize x.args.length = vn at *
 have HGET := hidF hget;have HNI := hidF hni;have HBW := hidF hbw;have HFL := hidF hfl;have HMS := hidF hms;have HDF := hidF hdf;have HLX := hidF hlx;have hLX : LX < W.heap.size := block_lt_of_cell hlx;have hNB : NB < W.heap.size := block_lt_of_cell (hni.cell 0 (by omega)).1;have j0 : (0 : Int) ≤ i := by omega
 have j1 : (i : Int) < N := by omega
 have HSXX : Hid (∀ y ∈ sxF x, 0 ≤ y ∧ y < N) := HSX.out x (List.mem_of_getElem? hget);clear hget hni hbw hlx hfl hms hdf hil HL
 conv => arg 2; whnf
 go_wp2_with (go_at_call 50; refine (succs_made2 _ _ _ _ _ _ _ _ _ _ _ _).mono ?_; rintro e W3 ⟨ib, rfl, hsu, hib, hb3⟩)
 have hbz : Below W.heap.size W W3 := bel_trans (bel_alloc (bel_alloc (Below.refl _ _) _) _) hb3;have cN : W3.cell? ⟨W.heap.size, 0, none⟩ = some (.int .i64 (i : Int)) := keep_cell hb3 (keep_alloc (cell_new2 W _ _ _ rfl) _);have hib2 : W.heap.size + 2 ≤ ib := by simp at hib; omega
 have hs3 : W.heap.size + 2 ≤ W3.heap.size := by have := hb3.size; simp at this; omega
 have hib3 : ib < W3.heap.size := block_lt_of_cell hsu.1;have HB3 := hidF hbz;have HCN := hidF cN;have HSU := hidF hsu;have HNI3 := hidF (HNI.out.of hbz);have hlt : ∀ j, j < N → ∀ b, (rv j).ownBlock = some b → b < W.heap.size := fun j hj b hb => ((HNI.out.own j hj).lt b hb).2;have HLT := hidF hlt;clear hbz cN hsu hb3 hib hlt e0 e1 e2 e3 e4 e5 e6 e7 e8;refine (wpIn_wide (n := 3)).1 ?_;refine range_outer (F := Fence.wide) rfl (by omega) (gf := 70) (lb := #[.pointer (some ⟨ib, 0, none⟩)]) (by simp [Act.eval]) trivial (enters_of func70 (by kernel_rfl) rfl) ?_;intro fn _;refine callsIn_wide.2 ?_
 generalize hrc : loopRec fn _ _ _ _ _ = rc
 have HRC := hidF hrc;clear hrc;refine (succs1_any (W3.heap.size + 1) ib x.op x.s x.t (loopW W3 rc) (JBk W3 w.heap.size NB N rc rv (esT code i) i) (fun _ => False) (JBk.enter HNI3.out) ?_ ?_).mono ?_
 ·intro pre W' hJ
  have hk : W'.heap[ib]? = W3.heap[ib]? := hJ.block ib hib3 (by omega) (fun j hj e => by have := HLT.out j hj ib e.symm; omega);obtain ⟨s0, s1, s2⟩ := HSU.out;exact ⟨cell_of s0 (fun _ => hk), cell_of s1 (fun _ => hk), cell_of s2 (fun _ => hk)⟩
 ·intro pre y rest W' hsp hJ
  have hy := HSXX.out y (by unfold sxF; rw [hsp]; simp);obtain ⟨z, rfl⟩ : ∃ z : Nat, y = z := ⟨y.toNat, by omega⟩;obtain ⟨rv', hni', hob⟩ := hJ.ni;have hlp := hJ.lp;rw [← HRC.out] at hlp
  have hpl : pre.length ≤ 2 := by
   have := sxF_length x;unfold sxF at this;rw [hsp] at this;simp at this
   omega
  have hlen : (gOf (esT code i ++ edN i pre) z).length ≤ 1000000000000 := by
   have h1 := gOf_length (esT code i ++ edN i pre) z;have h2 := esT_length code i;rw [List.length_append] at h1;have h3 : (edN i pre).length = pre.length := by simp [edN]
   omega
  have hfar : ∀ k, k < W.heap.size + 1 → (∀ j, j < N → some k ≠ (rv j).ownBlock) → ∀ j, j < N → some k ≠ (rv' j).ownBlock := fun k hk h j hj e => by
   rcases hob j hj k e.symm with q | q
   ·exact h j hj q.symm
   ·omega
  have hnx : ∀ j, j < N → some W.heap.size ≠ (rv j).ownBlock := fun j hj e => by have := HLT.out j hj _ e.symm; omega
  refine bk_round (W3.heap.size + 1) LX W.heap.size NB N w.heap.size z i _ rv' (gOf (esT code i ++ edN i pre)) fn _ _ _ _ _ _ _ _ _ _ _ _ _ _ _ _ _ _ _ _ _ _ _ _ _ _ _ _ _ _  W' _ hlp (cell_of (keep_cell HB3.out HLX.out) (fun _ => hJ.block LX (by omega) HNE.out.1 HFL.out)) (cell_of HCN.out (fun _ => hJ.block _ (by omega) (by omega) hnx)) hni' (by omega) hlen (by have := hJ.size; have := HBW.out.size; omega) (fun j hj => ⟨hfar LX (by omega) HFL.out j hj, hfar _ (by omega) hnx j hj⟩) ⟨HNE.out.1, by omega⟩ ?_;intro W2 rv2 n1 n2 n3 n4 n5 n6 n7 n8;replace n3 : W2.heap[W3.heap.size + 1]? = some (.loop rc) := by rw [← HRC.out]; exact n3
  have hsz := hJ.size
  have hob2 : ∀ k, k < W3.heap.size + 1 → (∀ j, j < N → some k ≠ (rv j).ownBlock) → ∀ j, j < N → some k ≠ (rv' j).ownBlock := fun k hk h j hj e => by
   rcases hob j hj k e.symm with q | q
   ·exact h j hj q.symm
   ·omega
  refine ⟨true, rfl, fun _ => ⟨n5.trans hJ.os, n6.trans hJ.tape, n7.trans hJ.output, Nat.le_trans hJ.size n4, fun k hk h1 h2 => (n2 k (by omega) h1 (by omega) (hob2 k (by omega) h2)).trans (hJ.block k hk h1 h2), (n2 _ (by omega) (by omega) (by omega) (hob2 _ (by omega) (fun j hj e => by have := HLT.out j hj _ e.symm; omega))).trans hJ.df, n3, rv2, NI.ext n1 (fun k => ?_), fun j hj b hb => ?_⟩, fun h => by cases h⟩
  ·rw [addG_gOf, edN_snoc, List.append_assoc]
   rfl
  ·rcases n8 j hj b hb with q | q
   ·exact hob j hj b q
   ·right; omega
 ·rintro e W5 ⟨rfl, hJ⟩
  replace hJ := hJ.resolve_right (fun h => h);refine ⟨⟨_, rfl⟩, rc, hJ.lp, by rw [← HRC.out]; simp [loopRec], .inl ⟨by rw [← HRC.out]; rfl, ?_⟩⟩;refine gq_namedF (LBk w LX NB N cap cb co (some ⟨cb, co, none⟩) code (i + 1) (W3.heap.size :: ms)) ?_ ?_
  ·obtain ⟨rv', hni', hob⟩ := hJ.ni
   have hsz := hJ.size;have p1 : ∀ o' k, k ≠ W3.heap.size + 1 → (W5.putObj (W3.heap.size + 1) o').heap[k]? = W5.heap[k]? := fun _ k hk => put_otherF hk;have hb3 := HB3.out
   have hob2 : ∀ k, k < W3.heap.size + 1 → (∀ j, j < N → some k ≠ (rv j).ownBlock) → ∀ j, j < N → some k ≠ (rv' j).ownBlock := fun k hk h j hj e => by
    rcases hob j hj k e.symm with q | q
    ·exact h j hj q.symm
    ·omega
   refine ⟨rv', NI.ext (hni'.loop hJ.lp (fun k hk => p1 _ k hk)) (fun k => ?_), ?_, ?_, fun k hk => hob2 LX (by omega) HFL.out k hk, ?_, ?_⟩
   ·show _ = gOf (esT code i ++ edN i (((code[i]?).map sxF).getD [])) k
    rw [HGET.out]
    rfl
   ·have hb := HBW.out
    have ho : ∀ k, k < w.heap.size → ∀ j, j < N → some k ≠ (rv j).ownBlock := fun k hk j hj e => by have := ((HNI.out.own j hj).lt k e.symm).1; omega
    have hNBw := HNE.out.2;exact ⟨hJ.os.trans (hb3.os.trans hb.os), hJ.tape.trans (hb3.tape.trans hb.tape), hJ.output.trans (hb3.output.trans hb.output), by rw [World.putObj_size]; have := hb.size; omega, fun k hk => (p1 _ k (by have := hb.size; omega)).trans ((hJ.block k (by have := hb.size; omega) (by omega) (ho k hk)).trans ((hb3.block k (by have := hb.size; omega)).trans (hb.block k hk)))⟩
   ·exact cell_of (cell_of (keep_cell hb3 HLX.out) (fun _ => hJ.block LX (by omega) HNE.out.1 HFL.out)) (fun _ => p1 _ LX (by omega))
   ·refine List.nodup_cons.2 ⟨fun hd => ?_, HMS.out⟩
    have := (zge (HDF.out _ hd).1).1
    omega
   ·intro d hd
    rcases List.mem_cons.1 hd with rfl | hd
    ·exact ⟨(p1 _ _ (by omega)).trans hJ.df, by have := HBW.out.size; omega⟩
    ·obtain ⟨q1, q4⟩ := HDF.out d hd
     have hl := (zge q1).1;refine ⟨(p1 _ d (by omega)).trans ((hJ.block d (by omega) (fun e => ?_) (fun j hj e => ?_)).trans ((hb3.block d hl).trans q1)), q4⟩
     ·have hc := (HNI.out.cell 0 (by omega)).1
      rw [← e] at hc;simp [World.cell?, q1] at hc
     ·rcases (HNI.out.own j hj).2 with ⟨h1, _⟩ | ⟨g, cap, cur, h1, h2, h3, h4⟩
      ·rw [h1] at e; cases e
      ·rw [h1] at e
       have hg : d = g := by simpa [Value.ownBlock] using e
       rw [← hg, q1] at h3
       cases h3
  intro W7 hL7;have HL7 := hidF hL7;clear hL7 hJ;dsimp only;go_wp2;have e1 : ((i : Int) + 1) = ((i + 1 : Nat) : Int) := by omega
  rw [e1];refine ⟨⟨i + 1, W3.heap.size :: ms, _, _, _, _, _, _, _, _, _, _, _, _, _, _, _, _, _, _, _, _, _, by omega, HL7.out, rfl⟩, ?_⟩;unfold muBk;simp [intOf]
  omega
end Go.Proofs.YtfeglcpipcjaeaaGreatDoor
namespace Go.Proofs.YtfeglcpipcjaeaaGreatDoor
open Go.ChangeShapes Go.WideShapes Go.ChangeAt Go.RowKit
set_option linter.unusedSimpArgs false
set_option linter.unusedVariables false

def usX (x : Ins) : List Int := usP (shOf x.op) x.a x.b (if (shOf x.op).args = true then x.args else [])
def wrX (x : Ins) : List Int := if readB (shOf x.op).d x.d = true then [x.d] else []
def esG (f : Ins → List Int) (code : List Ins) : Nat → List (Nat × Nat)
 | 0 => []
 | i + 1 => esG f code i ++ edN i (((code[i]?).map f).getD [])
def Ob (R : Nat) (rv : Nat → Value) (k : Nat) : Prop := ∃ j, j < R ∧ (rv j).ownBlock = some k
theorem NI.obw {B NB n : Nat} {rv : Nat → Value} {g : Nat → List Nat} {W : World} (h : NI B NB n rv g W) {k : Nat} (hk : Ob n rv k) : B ≤ k ∧ k < W.heap.size := by
 obtain ⟨j, hj, e⟩ := hk;exact (h.own j hj).lt k e
theorem NI.nbl {B NB n : Nat} {rv : Nat → Value} {g : Nat → List Nat} {W : World} (h : NI B NB n rv g W) (h0 : 0 < n) : NB < W.heap.size := block_lt_of_cell (h.cell 0 h0).1
theorem ob_all {R k : Nat} {rv : Nat → Value} : (∀ j, j < R → some k ≠ (rv j).ownBlock) ↔ ¬ Ob R rv k :=
 ⟨fun h ⟨j, hj, e⟩ => h j hj e.symm, fun h j hj e => h ⟨j, hj, e.symm⟩⟩
theorem NI.ndef {B NB n d : Nat} {rv : Nat → Value} {g : Nat → List Nat} {W : World} {l : Option (List Deferred)} (h : NI B NB n rv g W) (hd : W.heap[d]? = some (.deferred l)) : (0 < n → d ≠ NB) ∧ ¬ Ob n rv d := by
 refine ⟨fun h0 e => ?_, fun ⟨j, hj, e⟩ => ?_⟩
 ·have hc := (h.cell 0 h0).1
  rw [← e] at hc;simp [World.cell?, hd] at hc
 ·rcases (h.own j hj).2 with ⟨h1, _⟩ | ⟨g, cap, cur, h1, h2, h3, h4⟩
  ·rw [h1] at e; cases e
  ·rw [h1] at e
   have hg : g = d := by simpa [Value.ownBlock] using e
   rw [hg, hd] at h3
   cases h3
structure T2 (w : World) (RX NR NW R : Nat) (gr gw : Nat → List Nat) (rr rw : Nat → Value) (W : World) : Prop where
 nr : NI w.heap.size NR R rr gr W
 nw : NI w.heap.size NW R rw gw W
 ap : ∀ k, Ob R rr k → ¬ Ob R rw k
 a1 : ¬ Ob R rw NR
 a2 : ¬ Ob R rr NW
 bel : Below w.heap.size w W
 rx : W.cell? ⟨RX, 0, none⟩ = some (.slice (some ⟨NR, 0, none⟩) R R)
 rz : W.frozen? ⟨RX, 0, none⟩ = false
 x1 : ¬ Ob R rr RX
 x2 : ¬ Ob R rw RX
 sz : NR < W.heap.size ∧ NW < W.heap.size
def Mk (w : World) (NR NW : Nat) (ms : List Nat) (W : World) : Prop := ms.Nodup ∧ ∀ d ∈ ms, W.heap[d]? = some (.deferred (some [])) ∧ w.heap.size ≤ d ∧ d ≠ NR ∧ d ≠ NW
structure B3 (w : World) (RX NR NW : Nat) : Prop where
 a : NR ≠ NW
 b : RX ≠ NR
 c : RX ≠ NW
 d : w.heap.size ≤ NR
 e : w.heap.size ≤ NW
 f : w.heap.size ≤ RX
def LTc (w : World) (RX NR NW R N cap cb co : Nat) (ca : Option Addr) (code : List Ins) (i : Nat) (ms : List Nat) (W : World) : Prop := ∃ rr rw, T2 w RX NR NW R (gOf (esG usX code i)) (gOf (esG wrX code i)) rr rw W ∧ Mk w NR NW ms W
theorem T2.grow1 {w : World} {RX NR NW R : Nat} {gr gr' gw : Nat → List Nat} {rr rr' rw : Nat → Value} {W W' : World} (h : T2 w RX NR NW R gr gw rr rw W) (b3 : B3 w RX NR NW) (hni : NI w.heap.size NR R rr' gr' W') (ho : ∀ k, Ob R rr' k → Ob R rr k ∨ W.heap.size ≤ k)
  (hk : ∀ k, k < W.heap.size → k ≠ NR → ¬ Ob R rr k → W'.heap[k]? = W.heap[k]?) (hs : W.heap.size ≤ W'.heap.size) (h1 : W'.os = W.os) (h2 : W'.tape = W.tape) (h3 : W'.output = W.output) : T2 w RX NR NW R gr' gw rr' rw W' := by
 have hrx := hk RX (block_lt_of_cell h.rx) b3.b h.x1;have hbs := h.bel.size;refine ⟨hni, h.nw.blk (fun k q => ?_), fun k q1 q2 => ?_, h.a1, fun q => ?_, ⟨h1.trans h.bel.os, h2.trans h.bel.tape, h3.trans h.bel.output, by omega, fun k q => (hk k (by omega) (by have := b3.d; omega) (fun o => by have := (h.nr.obw o).1; omega)).trans (h.bel.block k q)⟩, ?_, ?_, fun q => ?_, h.x2, ⟨Nat.lt_of_lt_of_le h.sz.1 hs, Nat.lt_of_lt_of_le h.sz.2 hs⟩⟩
 ·rcases q with ⟨h0, rfl⟩ | ⟨j, hj, e⟩
  ·exact hk _ (h.nw.nbl h0) (Ne.symm b3.a) h.a2
  ·have hl := (h.nw.obw ⟨j, hj, e⟩).2
   exact hk k hl (fun e2 => h.a1 ⟨j, hj, by rw [e, e2]⟩) (fun o => h.ap k o ⟨j, hj, e⟩)
 ·rcases ho k q1 with o | o
  ·exact h.ap k o q2
  ·have := (h.nw.obw q2).2; omega
 ·rcases ho _ q with o | o
  ·exact h.a2 o
  ·have := h.nw.nbl (by obtain ⟨j, hj, _⟩ := q; omega); omega
 ·rw [World.cell?_of_block (w := W) hrx]; exact h.rx
 ·rw [World.frozen?_of_block (w := W) hrx]; exact h.rz
 ·rcases ho _ q with o | o
  ·exact h.x1 o
  ·have hl : RX < W.heap.size := block_lt_of_cell h.rx
   omega
theorem T2.grow2 {w : World} {RX NR NW R : Nat} {gr gw gw' : Nat → List Nat} {rr rw rw' : Nat → Value} {W W' : World} (h : T2 w RX NR NW R gr gw rr rw W) (b3 : B3 w RX NR NW) (hni : NI w.heap.size NW R rw' gw' W') (ho : ∀ k, Ob R rw' k → Ob R rw k ∨ W.heap.size ≤ k)
  (hk : ∀ k, k < W.heap.size → k ≠ NW → ¬ Ob R rw k → W'.heap[k]? = W.heap[k]?) (hs : W.heap.size ≤ W'.heap.size) (h1 : W'.os = W.os) (h2 : W'.tape = W.tape) (h3 : W'.output = W.output) : T2 w RX NR NW R gr gw' rr rw' W' := by
 have hrx := hk RX (block_lt_of_cell h.rx) b3.c h.x2;have hbs := h.bel.size;refine ⟨h.nr.blk (fun k q => ?_), hni, fun k q1 q2 => ?_, fun q => ?_, h.a2, ⟨h1.trans h.bel.os, h2.trans h.bel.tape, h3.trans h.bel.output, by omega, fun k q => (hk k (by omega) (by have := b3.e; omega) (fun o => by have := (h.nw.obw o).1; omega)).trans (h.bel.block k q)⟩, ?_, ?_, h.x1, fun q => ?_, ⟨Nat.lt_of_lt_of_le h.sz.1 hs, Nat.lt_of_lt_of_le h.sz.2 hs⟩⟩
 ·rcases q with ⟨h0, rfl⟩ | ⟨j, hj, e⟩
  ·exact hk _ (h.nr.nbl h0) b3.a h.a1
  ·have hl := (h.nr.obw ⟨j, hj, e⟩).2
   exact hk k hl (fun e2 => h.a2 ⟨j, hj, by rw [e, e2]⟩) (fun o => h.ap k ⟨j, hj, e⟩ o)
 ·rcases ho k q2 with o | o
  ·exact h.ap k q1 o
  ·have := (h.nr.obw q1).2; omega
 ·rcases ho _ q with o | o
  ·exact h.a1 o
  ·have := h.nr.nbl (by obtain ⟨j, hj, _⟩ := q; omega); omega
 ·rw [World.cell?_of_block (w := W) hrx]; exact h.rx
 ·rw [World.frozen?_of_block (w := W) hrx]; exact h.rz
 ·rcases ho _ q with o | o
  ·exact h.x2 o
  ·have hl : RX < W.heap.size := block_lt_of_cell h.rx
   omega
theorem T2.keep {w : World} {RX NR NW R : Nat} {gr gw : Nat → List Nat} {rr rw : Nat → Value} {W W' : World} (h : T2 w RX NR NW R gr gw rr rw W) (hb : Below W.heap.size W W') : T2 w RX NR NW R gr gw rr rw W' :=
 ⟨h.nr.of hb, h.nw.of hb, h.ap, h.a1, h.a2, bel_trans h.bel hb, keep_cell hb h.rx, keep_frozen hb h.rx h.rz, h.x1, h.x2, ⟨Nat.lt_of_lt_of_le h.sz.1 hb.size, Nat.lt_of_lt_of_le h.sz.2 hb.size⟩⟩
theorem Mk.keep {w W W' : World} {NR NW : Nat} {ms : List Nat} (h : Mk w NR NW ms W) (hb : Below W.heap.size W W') : Mk w NR NW ms W' :=
 ⟨h.1, fun d hd => ⟨(hb.block d (zge (h.2 d hd).1).1).trans (h.2 d hd).1, (h.2 d hd).2⟩⟩
end Go.Proofs.YtfeglcpipcjaeaaGreatDoor
namespace Go.Proofs.YtfeglcpipcjaeaaGreatDoor
set_option linter.unusedSimpArgs false
set_option linter.unusedVariables false

theorem mem_edN {i a b : Nat} {l : List Int} : (a, b) ∈ edN i l ↔ b = i ∧ ∃ y ∈ l, y.toNat = a := by
 unfold edN;simp only [List.mem_map, Prod.mk.injEq]
 constructor
 ·rintro ⟨y, hy, h1, h2⟩; exact ⟨h2.symm, y, hy, h1⟩
 ·rintro ⟨h2, y, hy, h1⟩; exact ⟨y, hy, h1, h2.symm⟩
theorem mem_esG {f : Ins → List Int} {code : List Ins} {a b : Nat} : ∀ {N : Nat}, (a, b) ∈ esG f code N ↔ b < N ∧ ∃ x, code[b]? = some x ∧ ∃ y ∈ f x, y.toNat = a
 | 0 => by simp [esG]
 | N + 1 => by
  unfold esG;rw [List.mem_append, mem_esG, mem_edN]
  constructor
  ·rintro (⟨h1, h2⟩ | ⟨rfl, y, hy, h⟩)
   ·exact ⟨by omega, h2⟩
   ·cases hc : code[b]? with
    | none => rw [hc] at hy; cases hy
    | some x => rw [hc] at hy; exact ⟨by omega, x, rfl, y, hy, h⟩
  ·rintro ⟨h1, x, hx, y, hy, h⟩
   by_cases e : b = N
   ·subst e; right; refine ⟨rfl, y, ?_, h⟩; rw [hx]; exact hy
   ·left; exact ⟨by omega, x, hx, y, hy, h⟩
theorem esT_esG (code : List Ins) : ∀ N, esT code N = esG sxF code N
 | 0 => rfl
 | N + 1 => by unfold esT esG; rw [esT_esG code N]
inductive LvP (us wr sx : Ins → List Int) (code : List Ins) (r : Nat) : Nat → Prop
 | use {n : Nat} {x : Ins} : code[n]? = some x → (r : Int) ∈ us x → LvP us wr sx code r n
 | pass {n s : Nat} {x : Ins} : code[n]? = some x → (r : Int) ∉ wr x → (s : Int) ∈ sx x → LvP us wr sx code r s → LvP us wr sx code r n
def InR (f : Ins → List Int) (code : List Ins) : Prop := ∀ x ∈ code, ∀ y ∈ f x, 0 ≤ y
theorem mem_rows {f : Ins → List Int} {code : List Ins} {N r n : Nat} (hN : code.length = N) (h : InR f code) : n ∈ gOf (esG f code N) r ↔ ∃ x, code[n]? = some x ∧ (r : Int) ∈ f x := by
 rw [mem_gOf, mem_esG]
 constructor
 ·rintro ⟨_, x, hx, y, hy, e⟩
  have := h x (List.mem_of_getElem? hx) y hy;refine ⟨x, hx, ?_⟩;rw [← e, Int.toNat_of_nonneg this];exact hy
 ·rintro ⟨x, hx, hr⟩
  have := (List.getElem?_eq_some_iff.1 hx).1;exact ⟨by omega, x, hx, _, hr, by simp⟩
theorem live_search {us wr sx : Ins → List Int} {code : List Ins} {N r : Nat} {m0 m : Nat → Bool} {o : List Nat} (hN : code.length = N) (h1 : InR us code) (h2 : InR wr code) (h3 : InR sx code)
  (hm : ∀ i, i < N → (m0 i = true ↔ (i ∈ gOf (esG wr code N) r ∧ i ∉ gOf (esG us code N) r))) (hs : SR N (gOf (esG sx code N)) m0 (gOf (esG us code N) r) m o) (n : Nat) : n ∈ o ↔ LvP us wr sx code r n := by
 have hlt : ∀ {n : Nat} {x : Ins}, code[n]? = some x → n < N := fun hx => by have := (List.getElem?_eq_some_iff.1 hx).1; omega
 constructor
 ·intro hn
  have hS := hs.si.re (fun i => i < N ∧ (m0 i = true ∨ LvP us wr sx code r i)) (fun s hs1 => by
   obtain ⟨x, hx, hr⟩ := (mem_rows hN h1).1 hs1
   exact ⟨hlt hx, .inr (.use hx hr)⟩) (fun i hi h0 t ht => by
   obtain ⟨x, hx, hr⟩ := (mem_rows hN h3).1 ht;refine ⟨hlt hx, ?_⟩;have hl := hi.2.resolve_left (by rw [h0]; simp)
   by_cases q : m0 t = true
   ·exact .inl q
   ·right
    have q2 := fun z => q ((hm t (hlt hx)).2 z)
    by_cases u : t ∈ gOf (esG us code N) r
    ·obtain ⟨x2, hx2, hr2⟩ := (mem_rows hN h1).1 u
     exact .use hx2 hr2
    ·refine .pass hx (fun hw => q2 ⟨(mem_rows hN h2).2 ⟨x, hx, hw⟩, u⟩) hr hl) n (.inl hn)
  have h0 := (hs.si.un n (.inl hn)).1;exact hS.2.resolve_left (by rw [h0]; simp)
 ·intro hl
  have key : ∀ n, n < N → m n = true → ¬ m0 n = true → n ∈ o := fun n _ q1 q2 => by
   rcases (hs.si.mem n).1 q1 with z | z | z
   ·exact absurd z q2
   ·exact z
   ·cases z
  induction hl with
  | @use n x hx hr =>
   have hin : n ∈ gOf (esG us code N) r := (mem_rows hN h1).2 ⟨x, hx, hr⟩;exact key n (hlt hx) (hs.st n hin) (fun z => ((hm n (hlt hx)).1 z).2 hin)
  | @pass n s x hx hw hsx hl ih =>
   have hg : n ∈ gOf (esG sx code N) s := (mem_rows hN h3).2 ⟨x, hx, hsx⟩
   exact key n (hlt hx) (hs.cl s ih n hg) (fun z => by
    obtain ⟨x2, hx2, hw2⟩ := (mem_rows hN h2).1 ((hm n (hlt hx)).1 z).1;rw [hx] at hx2
    cases hx2
    exact hw hw2)
open Classical in
noncomputable def lvL (us wr sx : Ins → List Int) (code : List Ins) (i n : Nat) : List Nat := (List.range i).filter fun r => decide (LvP us wr sx code r n)
def addO (g : Nat → List Nat) (o : List Nat) (r n : Nat) : List Nat := if n ∈ o then g n ++ [r] else g n
theorem addO_nil (g : Nat → List Nat) (r n : Nat) : addO g [] r n = g n := by simp [addO]
theorem addO_snoc (g : Nat → List Nat) (o : List Nat) (r y n : Nat) (hy : y ∉ o) : addG (addO g o r) y r n = addO g (o ++ [y]) r n := by
 unfold addG addO
 by_cases e : n = y
 ·subst e; simp [hy]
 ·simp [e]
theorem lvL_succ {us wr sx : Ins → List Int} {code : List Ins} {i : Nat} {o : List Nat} (h : ∀ n, n ∈ o ↔ LvP us wr sx code i n) (n : Nat) : addO (lvL us wr sx code i) o i n = lvL us wr sx code (i + 1) n := by
 unfold addO lvL;rw [List.range_succ, List.filter_append]
 by_cases e : n ∈ o
 ·rw [if_pos e]
  simp [(h n).1 e]
 ·rw [if_neg e]
  have : ¬ LvP us wr sx code i n := fun z => e ((h n).2 z);simp [this]
theorem lvL_length (us wr sx : Ins → List Int) (code : List Ins) (i n : Nat) : (lvL us wr sx code i n).length ≤ i := by
 unfold lvL;have := List.length_filter_le (fun r => @decide (LvP us wr sx code r n) (Classical.propDecidable _)) (List.range i);simpa using this
end Go.Proofs.YtfeglcpipcjaeaaGreatDoor
namespace Go.Proofs.YtfeglcpipcjaeaaGreatDoor
open Go.ChangeShapes Go.WideShapes Go.ChangeAt Go.RowKit Go.Proofs.Tryz
set_option linter.unusedSimpArgs false
set_option linter.unusedVariables false
set_option maxRecDepth 100000
set_option maxHeartbeats 4000000

structure Only (mb : Nat) (w w' : World) : Prop where
 os : w'.os = w.os
 tape : w'.tape = w.tape
 output : w'.output = w.output
 size : w'.heap.size = w.heap.size
 block : ∀ k, k ≠ mb → w'.heap[k]? = w.heap[k]?
theorem Only.refl (mb : Nat) (w : World) : Only mb w w := ⟨rfl, rfl, rfl, rfl, fun _ _ => rfl⟩
theorem Only.set {mb : Nat} {w w' : World} (h : Only mb w w') (o : Nat) (v : Value) : Only mb w (w'.setCell ⟨mb, o, none⟩ v) :=
 ⟨h.os, h.tape, h.output, by rw [gsize_setF]; exact h.size, fun k hk => (gset_otherF hk).trans (h.block k hk)⟩
theorem Only.trans {mb : Nat} {a b c : World} (h : Only mb a b) (k : Only mb b c) : Only mb a c :=
 ⟨k.os.trans h.os, k.tape.trans h.tape, k.output.trans h.output, k.size.trans h.size, fun q hq => (k.block q hq).trans (h.block q hq)⟩
theorem Only.drew {mb : Nat} {w w' : World} (h : Only mb w w') : Only mb w w'.drew := ⟨h.os, h.tape, h.output, h.size, h.block⟩
theorem only_setCells {mb : Nat} : ∀ (vs : List Value) (o : Nat) (w w' : World), Only mb w w' → Only mb w (w'.setCells mb o vs)
 | [], _, _, _, h => h
 | v :: r, o, w, w', h => by rw [World.setCells]; exact only_setCells r (o + 1) w _ (h.set o v)
theorem Only.cell {mb b o : Nat} {w w' : World} {v : Value} (h : Only mb w w') (hb : b ≠ mb) (hc : w.cell? ⟨b, o, none⟩ = some v) : w'.cell? ⟨b, o, none⟩ = some v := by
 rw [World.cell?_of_block (w := w) (h.block b hb)]; exact hc
def retS (mb n : Nat) (m : Nat → Bool) (w : World) : Ending → World → Prop := fun e W => e = .returned (.tuple #[]) ∧ MetAt W mb n m ∧ Only mb w W
theorem zero_bool : ∀ w, (zeroValue 4).run prog w = .ok (.bool false) w := by
 intro w
 kernel_rfl
theorem reset_any (XB mb n cm : Nat) (m : Nat → Bool) (w : World) (x1 : w.cell? ⟨XB, 1, none⟩ = some (.slice (some ⟨mb, 0, none⟩) n cm)) (hne : XB ≠ mb) (HM : Hid (MetAt w mb n m)) :
  Calls prog 41 #[.pointer (some ⟨XB, 0, none⟩)] w (retS mb n (fun _ => false) w) := by
 have hcl : ∃ W, (Builtin.clear_ #[34] 0 #[.slice (some ⟨mb, 0, none⟩) n cm]).run prog w = .ok (.tuple #[]) W ∧ MetAt W mb n (fun _ => false) ∧ Only mb w W := by
  by_cases h0 : n = 0
  ·subst h0
   refine ⟨w, ?_, (fun i hi => by omega), Only.refl _ _⟩;simp [Builtin.clear_, run_underlying underlying34]
  ·have h := Lib.run_clear_slice (P := prog) w 34 4 0 (.bool false) underlying34 zero_bool rfl rfl mb 0 n cm (by omega) (fun j hj => by rw [Nat.zero_add, (HM.out j hj).1]; rfl) (fun j hj => by rw [Nat.zero_add]; exact (HM.out j hj).2)
   refine ⟨_, h, fun i hi => ⟨?_, ?_⟩, only_setCells _ _ _ _ (Only.refl _ _)⟩
   ·have := World.cell?_setCells_in mb (List.replicate n (.bool false)) 0 w (fun j hj => by rw [Nat.zero_add, (HM.out j (by simpa using hj)).1]; rfl) i (by simpa using hi)
    rw [Nat.zero_add] at this;rw [this];simp
   ·rw [World.frozen?_setCells]; exact (HM.out i hi).2
 obtain ⟨W, hr, h1, h2⟩ := hcl;have HR := hidF (And.intro h1 h2);clear h1 h2
 go_enter func41, ntmps41
 go_wp2;go_end0;exact ⟨rfl, HR.out.1, HR.out.2⟩
def setM (m : Nat → Bool) (b : Bool) (l : List Nat) : Nat → Bool := fun i => if i ∈ l then b else m i
theorem setM_nil (m : Nat → Bool) (b : Bool) : setM m b [] = m := by
 funext i
 simp [setM]
theorem setM_snoc (m : Nat → Bool) (b : Bool) (l : List Nat) (y i : Nat) : setM m b (l ++ [y]) i = if i = y then b else setM m b l i := by
 unfold setM
 by_cases e : i = y
 ·simp [e]
 ·simp [e]
theorem MetAt.setB {w : World} {mb n x : Nat} {m m' : Nat → Bool} {b : Bool} (h : MetAt w mb n m) (hm : ∀ i, m' i = if i = x then b else m i) : MetAt (w.setCell ⟨mb, x, none⟩ (.bool b)) mb n m' := fun i hi => by
 refine ⟨?_, by rw [World.frozen?_setCell]; exact (h i hi).2⟩;rw [hm i]
 by_cases e : i = x
 ·subst e
  rw [if_pos rfl];exact World.cell?_setCell_same _ _ _ (h i hi).1
 ·rw [World.cell?_setCell_other _ _ _ _ (fun e2 => e (by cases e2; rfl)), if_neg e]
  exact (h i hi).1

theorem close_walk (XB mb n cm vb vo ns sc : Nat) (sa : Option Addr) (ss : List Nat) (m : Nat → Bool) (w : World) (HN : Hid (ns = ss.length)) (hns : ns ≤ 1000000000000) (x1 : w.cell? ⟨XB, 1, none⟩ = some (.slice (some ⟨mb, 0, none⟩) n cm)) (hne : XB ≠ mb) (hvb : 0 < ns → vb ≠ mb)
  (HSA : Hid (0 < ns → sa = some ⟨vb, vo, none⟩)) (HC : Hid (∀ (i s : Nat), ss[i]? = some s → w.cell? ⟨vb, vo + i, none⟩ = some (.int .i64 (s : Int)))) (HS : Hid (∀ s ∈ ss, s < n)) (HM : Hid (MetAt w mb n m)) :
  Calls prog 42 #[.pointer (some ⟨XB, 0, none⟩), .slice sa ns sc] w (retS mb n (setM m true ss) w) := by
 go_enter func42, ntmps42
 go_wp2
 go_loopw [8] (fun vv wz => ∃ i : Nat, i ≤ ns ∧ vv = .int .i64 i ∧ Hid (MetAt wz mb n (setM m true (ss.take i))) ∧ Hid (Only mb w wz)) (fun vv _ => ns - (intOf vv).toNat)
 case atStart => exact ⟨0, by omega, rfl, hidF (by rw [List.take_zero, setM_nil]; exact HM.out), hidF (Only.refl _ _)⟩
 case round =>
  obtain ⟨i, hi, rfl, HI, HO⟩ := hrel
  rename World => wz
  have x1' := HO.out.cell hne x1
  by_cases hin : i < ns
  ·have j0 : (0 : Int) ≤ i := by omega
   have j1 : (i : Int) < ns := by omega
   have hget := List.getElem?_eq_getElem (l := ss) (show i < ss.length by rw [← HN.out]; exact hin)
   generalize ss[i]'(by rw [← HN.out]; exact hin) = s at hget
   obtain rfl := HSA.out (by omega);have hsn : s < n := HS.out s (List.mem_of_getElem? hget);have cx := HO.out.cell (hvb (by omega)) (HC.out i s hget);have HG := hidF hget;have k0 : (0 : Int) ≤ s := by omega
   have k1 : (s : Int) < n := by omega
   obtain ⟨hm1, hf1⟩ := HI.out s hsn;clear hget;go_wp2
   go_roundw
   case rel =>
    refine ⟨i + 1, by omega, by simp, hidF (HI.out.setB (fun k => ?_)), hidF (HO.out.set _ _)⟩;rw [List.take_add_one, HG.out];exact setM_snoc _ _ _ _ _
   case measure => simp [intOf]; omega
  ·obtain rfl : ns = i := by omega
   have HE : Hid (MetAt wz mb n (setM m true ss)) := by
    have h := HI.out;rw [HN.out, List.take_length] at h;exact h
   go_wp2;go_end0;exact ⟨rfl, HE.out, HO.out⟩
theorem close_any (XB mb n cm : Nat) (v : Value) (ss : List Nat) (m : Nat → Bool) (w : World) (hns : ss.length ≤ 1000000000000) (x1 : w.cell? ⟨XB, 1, none⟩ = some (.slice (some ⟨mb, 0, none⟩) n cm)) (hne : XB ≠ mb) (hil : IL w v (up ss)) (hvb : ∀ b o s k c, v = .slice (some ⟨b, o, s⟩) k c → b ≠ mb) (hS : ∀ s ∈ ss, s < n) (hM : MetAt w mb n m) :
  Calls prog 42 #[.pointer (some ⟨XB, 0, none⟩), v] w (retS mb n (setM m true ss) w) := by
 obtain ⟨a, cap, hv, h1, h0, h2⟩ := hil;rw [up_length] at hv h1;subst hv
 by_cases hl : ss = []
 ·subst hl
  exact close_walk XB mb n cm 0 0 0 cap a [] m w rfl (by omega) x1 hne (fun h => by omega) (fun h => by omega) (fun i s hs => by simp at hs) hS hM
 ·obtain ⟨b, off, rfl, hc⟩ := h2 (fun e => hl (by have := congrArg List.length e; rw [up_length] at this; exact List.length_eq_zero_iff.1 this))
  exact close_walk XB mb n cm b off ss.length cap _ ss m w rfl hns x1 hne (fun _ => hvb b off none _ _ rfl) (fun _ => rfl) (fun i s hs => hc i s (by rw [up_get, hs]; rfl)) hS hM

theorem open_walk (XB mb n cm vb vo ns sc : Nat) (sa : Option Addr) (ss : List Nat) (m : Nat → Bool) (w : World) (HN : Hid (ns = ss.length)) (hns : ns ≤ 1000000000000) (x1 : w.cell? ⟨XB, 1, none⟩ = some (.slice (some ⟨mb, 0, none⟩) n cm)) (hne : XB ≠ mb) (hvb : 0 < ns → vb ≠ mb)
  (HSA : Hid (0 < ns → sa = some ⟨vb, vo, none⟩)) (HC : Hid (∀ (i s : Nat), ss[i]? = some s → w.cell? ⟨vb, vo + i, none⟩ = some (.int .i64 (s : Int)))) (HS : Hid (∀ s ∈ ss, s < n)) (HM : Hid (MetAt w mb n m)) :
  Calls prog 43 #[.pointer (some ⟨XB, 0, none⟩), .slice sa ns sc] w (retS mb n (setM m false ss) w) := by
 go_enter func43, ntmps43
 go_wp2
 go_loopw [8] (fun vv wz => ∃ i : Nat, i ≤ ns ∧ vv = .int .i64 i ∧ Hid (MetAt wz mb n (setM m false (ss.take i))) ∧ Hid (Only mb w wz)) (fun vv _ => ns - (intOf vv).toNat)
 case atStart => exact ⟨0, by omega, rfl, hidF (by rw [List.take_zero, setM_nil]; exact HM.out), hidF (Only.refl _ _)⟩
 case round =>
  obtain ⟨i, hi, rfl, HI, HO⟩ := hrel
  rename World => wz
  have x1' := HO.out.cell hne x1
  by_cases hin : i < ns
  ·have j0 : (0 : Int) ≤ i := by omega
   have j1 : (i : Int) < ns := by omega
   have hget := List.getElem?_eq_getElem (l := ss) (show i < ss.length by rw [← HN.out]; exact hin)
   generalize ss[i]'(by rw [← HN.out]; exact hin) = s at hget
   obtain rfl := HSA.out (by omega);have hsn : s < n := HS.out s (List.mem_of_getElem? hget);have cx := HO.out.cell (hvb (by omega)) (HC.out i s hget);have HG := hidF hget;have k0 : (0 : Int) ≤ s := by omega
   have k1 : (s : Int) < n := by omega
   obtain ⟨hm1, hf1⟩ := HI.out s hsn;clear hget;go_wp2
   go_roundw
   case rel =>
    refine ⟨i + 1, by omega, by simp, hidF (HI.out.setB (fun k => ?_)), hidF (HO.out.set _ _)⟩;rw [List.take_add_one, HG.out];exact setM_snoc _ _ _ _ _
   case measure => simp [intOf]; omega
  ·obtain rfl : ns = i := by omega
   have HE : Hid (MetAt wz mb n (setM m false ss)) := by
    have h := HI.out;rw [HN.out, List.take_length] at h;exact h
   go_wp2;go_end0;exact ⟨rfl, HE.out, HO.out⟩
theorem open_any (XB mb n cm : Nat) (v : Value) (ss : List Nat) (m : Nat → Bool) (w : World) (hns : ss.length ≤ 1000000000000) (x1 : w.cell? ⟨XB, 1, none⟩ = some (.slice (some ⟨mb, 0, none⟩) n cm)) (hne : XB ≠ mb) (hil : IL w v (up ss)) (hvb : ∀ b o s k c, v = .slice (some ⟨b, o, s⟩) k c → b ≠ mb) (hS : ∀ s ∈ ss, s < n) (hM : MetAt w mb n m) :
  Calls prog 43 #[.pointer (some ⟨XB, 0, none⟩), v] w (retS mb n (setM m false ss) w) := by
 obtain ⟨a, cap, hv, h1, h0, h2⟩ := hil;rw [up_length] at hv h1;subst hv
 by_cases hl : ss = []
 ·subst hl
  exact open_walk XB mb n cm 0 0 0 cap a [] m w rfl (by omega) x1 hne (fun h => by omega) (fun h => by omega) (fun i s hs => by simp at hs) hS hM
 ·obtain ⟨b, off, rfl, hc⟩ := h2 (fun e => hl (by have := congrArg List.length e; rw [up_length] at this; exact List.length_eq_zero_iff.1 this))
  exact open_walk XB mb n cm b off ss.length cap _ ss m w rfl hns x1 hne (fun _ => hvb b off none _ _ rfl) (fun _ => rfl) (fun i s hs => hc i s (by rw [up_get, hs]; rfl)) hS hM

end Go.Proofs.YtfeglcpipcjaeaaGreatDoor
