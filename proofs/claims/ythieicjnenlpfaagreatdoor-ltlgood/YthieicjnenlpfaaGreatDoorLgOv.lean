/- Package ltl: is a function, a program over locations? -/
import Derived.Test.YthieicjnenlpfaaGreatDoorLgTk
import Derived.Test.YthieicjnenlpfaaGreatDoorGGood
namespace Go.Proofs.YthieicjnenlpfaaGreatDoor
open Go.ChangeShapes Go.WideShapes Go.ChangeAt Go.RowKit
set_option linter.unusedSimpArgs false
set_option linter.unusedVariables false

def ovF (f : Fn) : Bool := !decide (f.regs < 16) && (firstF f.params && f.code.all tkL)
set_option maxRecDepth 100000 in
set_option maxHeartbeats 8000000 in
theorem isOver_walk (name : ByteArray) (pa ca : Option Addr) (np pcap n cap cb co : Nat) (regs frame entry : Int) (params : List Int) (code : List Ins) (r : Bool) (w : World) (hn : n * 88 ≤ 140737488355328) (HN : Hid (n = code.length)) (HA : Hid (0 < n → ca = some ⟨cb, co, none⟩)) (HP : Hid (IL w (.slice pa np pcap) params)) (HC : Hid (∀ (i : Nat) x, code[i]? = some x → InsAt w cb (co + i * 9) x)) (HT : Hid (ShTab w)) (HPT : Hid (ParTab w)) (HE : Hid (r = (!decide (regs < 16) && (firstF params && code.all tkL)))) :
    Calls Tryz.prog 16 #[.agg #[.string name, .slice pa np pcap, .int .i64 regs, .int .i64 frame, .int .i64 entry, .slice ca n cap]] w (retP (.bool r) w) := by
  have hnm : (n : Int) ≤ 9223372036854775807 := by omega
  have HAP : Hid (∀ W, Below w.heap.size w W → Calls Tryz.prog 26 #[.slice pa np pcap] W fun e w' => e = .returned (.bool (firstF params)) ∧ w' = W) := fun W h => areParams_any (HP.out.keep h) (HPT.out.keep h)
  cases q : decide (regs < 16) with
  | true =>
    have er : r = false := by rw [HE.out, q]; rfl
    subst er
    go_enter Tryz.func16, Tryz.ntmps16
    go_wp2
    go_ret
    exact ⟨rfl, (by repeat (first | with_reducible exact Below.refl _ _ | with_reducible refine bel_alloc ?_ _ | with_reducible refine bel_set ?_ (by first | exact Nat.le_refl _ | (simp; done) | (simp; omega)) _ | with_reducible refine Below.drew ?_ | refine bel_trans ?_ (by assumption)))⟩
  | false =>
    cases hf : firstF params with
    | false =>
      rw [hf] at HAP
      have er : r = false := by rw [HE.out, hf]; simp
      subst er
      go_enter Tryz.func16, Tryz.ntmps16
      go_wp2_with (go_at_call 26; refine (HAP.out _ (by repeat (first | with_reducible exact Below.refl _ _ | with_reducible refine bel_alloc ?_ _ | with_reducible refine bel_set ?_ (by first | exact Nat.le_refl _ | (simp; done) | (simp; omega)) _ | with_reducible refine Below.drew ?_ | refine bel_trans ?_ (by assumption)))).mono ?_; rintro e w1 ⟨rfl, hw⟩; subst hw)
      go_ret
      exact ⟨rfl, (by repeat (first | with_reducible exact Below.refl _ _ | with_reducible refine bel_alloc ?_ _ | with_reducible refine bel_set ?_ (by first | exact Nat.le_refl _ | (simp; done) | (simp; omega)) _ | with_reducible refine Below.drew ?_ | refine bel_trans ?_ (by assumption)))⟩
    | true =>
      rw [hf] at HAP
      have HE2 : Hid (r = code.all tkL) := by show _ = _; rw [HE.out, q, hf]; rfl
      have HB : Hid (∀ (i : Nat) x, code[i]? = some x → tkL x = false → r = false) := fun i x h1 h2 => by rw [HE2.out]; exact List.all_eq_false.2 ⟨x, List.mem_of_getElem? h1, by simp [h2]⟩
      go_enter Tryz.func16, Tryz.ntmps16
      go_wp2_with (go_at_call 26; refine (HAP.out _ (by repeat (first | with_reducible exact Below.refl _ _ | with_reducible refine bel_alloc ?_ _ | with_reducible refine bel_set ?_ (by first | exact Nat.le_refl _ | (simp; done) | (simp; omega)) _ | with_reducible refine Below.drew ?_ | refine bel_trans ?_ (by assumption)))).mono ?_; rintro e w1 ⟨rfl, hw⟩; subst hw)
      go_loopw [17] (fun vv wz => ∃ i : Nat, i ≤ n ∧ vv = .int .i64 i ∧ Hid (∀ (j : Nat) x, j < i → code[j]? = some x → tkL x = true) ∧ Hid (Below w.heap.size w wz)) (fun vv _ => n - (intOf vv).toNat)
      case atStart => exact ⟨0, by omega, rfl, fun j x hj => by omega, hid (by repeat (first | with_reducible exact Below.refl _ _ | with_reducible refine bel_alloc ?_ _ | with_reducible refine bel_set ?_ (by first | exact Nat.le_refl _ | (simp; done) | (simp; omega)) _ | with_reducible refine Below.drew ?_ | refine bel_trans ?_ (by assumption)))⟩
      case round =>
        obtain ⟨i, hi, rfl, HI, HBz⟩ := hrel
        rename World => wz
        by_cases hin : i < n
        · obtain rfl := HA.out (by omega)
          have j0 : (0 : Int) ≤ i := by omega
          have j1 : (i : Int) < n := by omega
          have hget := List.getElem?_eq_getElem (l := code) (show i < code.length by rw [← HN.out]; exact hin)
          generalize code[i]'(by rw [← HN.out]; exact hin) = x at hget
          have HG := hid hget
          obtain ⟨v, hav, c0, c1, c2, c3, c4, c5, c6, c7, c8⟩ := (HC.out i x hget).keep HBz.out
          have hav2 := hav
          obtain ⟨va, vc, rfl, _⟩ := len_parts hav2
          have HTX : Hid (∀ W, Below wz.heap.size wz W → Calls Tryz.prog 27 #[.agg #[.int .i64 x.op, .int .i64 x.sub, .int .i64 x.a, .int .i64 x.b, .int .i64 x.d, .int .i64 x.k, .slice va x.args.length vc, .int .i64 x.s, .int .i64 x.t]] W (retP (.bool (tkL x)) W)) := fun W h => ltakes_any (hav.keep h) ((HT.out.keep HBz.out).keep h) ((HPT.out.keep HBz.out).keep h)
          generalize x.args.length = vn at *
          clear hget hav hav2
          cases hq : tkL x with
          | false =>
            rw [hq] at HTX
            have er := HB.out i x HG.out hq
            subst er
            go_wp2_with (go_at_call 27; refine (HTX.out _ (by repeat (first | with_reducible exact Below.refl _ _ | with_reducible refine bel_alloc ?_ _ | with_reducible refine bel_set ?_ (by first | exact Nat.le_refl _ | (simp; done) | (simp; omega)) _ | with_reducible refine Below.drew ?_ | refine bel_trans ?_ (by assumption)))).mono ?_; rintro e w3 ⟨rfl, hb3⟩; have HB3 : Hid (Below wz.heap.size wz w3) := hid (bel_trans (by repeat (first | with_reducible exact Below.refl _ _ | with_reducible refine bel_alloc ?_ _ | with_reducible refine bel_set ?_ (by first | exact Nat.le_refl _ | (simp; done) | (simp; omega)) _ | with_reducible refine Below.drew ?_ | refine bel_trans ?_ (by assumption))) hb3); clear hb3)
            go_ret
            exact ⟨rfl, bel_trans HBz.out HB3.out⟩
          | true =>
            rw [hq] at HTX
            have HI2 := hid (insstep HG.out hq HI.out)
            go_wp2_with (go_at_call 27; refine (HTX.out _ (by repeat (first | with_reducible exact Below.refl _ _ | with_reducible refine bel_alloc ?_ _ | with_reducible refine bel_set ?_ (by first | exact Nat.le_refl _ | (simp; done) | (simp; omega)) _ | with_reducible refine Below.drew ?_ | refine bel_trans ?_ (by assumption)))).mono ?_; rintro e w3 ⟨rfl, hb3⟩; have HB3 : Hid (Below wz.heap.size wz w3) := hid (bel_trans (by repeat (first | with_reducible exact Below.refl _ _ | with_reducible refine bel_alloc ?_ _ | with_reducible refine bel_set ?_ (by first | exact Nat.le_refl _ | (simp; done) | (simp; omega)) _ | with_reducible refine Below.drew ?_ | refine bel_trans ?_ (by assumption))) hb3); clear hb3)
            go_roundw
            case rel => exact ⟨i + 1, by omega, by simp, HI2, hid (bel_trans HBz.out HB3.out)⟩
            case measure => simp [intOf]; omega
        · obtain rfl : n = i := by omega
          have er : r = true := by
            rw [HE2.out]
            refine List.all_eq_true.2 fun x hx => ?_
            obtain ⟨j, hj⟩ := List.getElem?_of_mem hx
            exact HI.out j x (by rw [HN.out]; exact (List.getElem?_eq_some_iff.1 hj).1) hj
          subst er
          go_wp2
          go_ret
          exact ⟨rfl, HBz.out⟩
theorem isOver_any {w : World} {v : Value} {f : Fn} (h : FnV w v f) (ht : ShTab w) (hp : ParTab w) : Calls Tryz.prog 16 #[v] w (retP (.bool (ovF f)) w) := by
  obtain ⟨pv, cv, rfl, hpp, hc, _⟩ := h
  obtain ⟨ca, cap, cb, co, rfl, hl, ha, hcc⟩ := hc.parts
  obtain ⟨pa, pc, rfl, _⟩ := len_parts hpp
  exact isOver_walk f.name pa ca _ pc _ cap cb co f.regs f.frame f.entry f.params f.code _ w hl rfl ha hpp hcc ht hp rfl
/-- A function's cells make its value. -/
theorem fnV_of {w : World} {b off : Nat} {f : Fn} (h : FnAt w b off f) : ∃ (pa ca : Option Addr) (np pc n cc : Nat), FnV w (.agg #[.string f.name, .slice pa np pc, .int .i64 f.regs, .int .i64 f.frame, .int .i64 f.entry, .slice ca n cc]) f ∧ w.cell? ⟨b, off, none⟩ = some (.string f.name) ∧ w.cell? ⟨b, off + 1, none⟩ = some (.slice pa np pc) ∧ w.cell? ⟨b, off + 2, none⟩ = some (.int .i64 f.regs) ∧ w.cell? ⟨b, off + 3, none⟩ = some (.int .i64 f.frame) ∧ w.cell? ⟨b, off + 4, none⟩ = some (.int .i64 f.entry) ∧ w.cell? ⟨b, off + 5, none⟩ = some (.slice ca n cc) := by
  obtain ⟨pv, cv, hp, hc, hnm, f0, f1, f2, f3, f4, f5⟩ := h
  obtain ⟨ca, cap, cb, co, rfl, hl, ha, hcc⟩ := hc.parts
  obtain ⟨pa, pc, rfl, _⟩ := len_parts hp
  exact ⟨pa, ca, _, pc, _, cap, ⟨_, _, rfl, hp, hc, hnm⟩, f0, f1, f2, f3, f4, f5⟩
set_option maxRecDepth 100000 in
set_option maxHeartbeats 8000000 in
theorem lgood_walk (ga fa : Option Addr) (ng gc nf fc fb fo : Nat) (main : Int) (funcs : List Fn) (g r : Bool) (w : World) (hn : nf * 88 ≤ 140737488355328) (HN : Hid (nf = funcs.length)) (HA : Hid (0 < nf → fa = some ⟨fb, fo, none⟩)) (HC : Hid (∀ (i : Nat) x, funcs[i]? = some x → FnAt w fb (fo + i * 6) x)) (HT : Hid (ShTab w)) (HPT : Hid (ParTab w))
    (HG : Hid (∀ W, Below w.heap.size w W → Calls Tryz.prog 15 #[.agg #[.slice ga ng gc, .slice fa nf fc, .int .i64 main]] W (retP (.bool g) W))) (HE : Hid (r = (g && funcs.all ovF))) :
    Calls Tryz.prog 8 #[.agg #[.slice ga ng gc, .slice fa nf fc, .int .i64 main]] w (retP (.bool r) w) := by
  have hnm : (nf : Int) ≤ 9223372036854775807 := by omega
  cases g with
  | false =>
    have er : r = false := by rw [HE.out]; rfl
    subst er
    go_enter Tryz.func8, Tryz.ntmps8
    go_wp2_with (go_at_call 15; refine (HG.out _ (by repeat (first | with_reducible exact Below.refl _ _ | with_reducible refine bel_alloc ?_ _ | with_reducible refine bel_set ?_ (by first | exact Nat.le_refl _ | (simp; done) | (simp; omega)) _ | with_reducible refine Below.drew ?_ | refine bel_trans ?_ (by assumption)))).mono ?_; rintro e w1 ⟨rfl, hb1⟩; have HB1 : Hid (Below w.heap.size w w1) := hid (bel_trans (by repeat (first | with_reducible exact Below.refl _ _ | with_reducible refine bel_alloc ?_ _ | with_reducible refine bel_set ?_ (by first | exact Nat.le_refl _ | (simp; done) | (simp; omega)) _ | with_reducible refine Below.drew ?_ | refine bel_trans ?_ (by assumption))) hb1); clear hb1)
    go_ret
    exact ⟨rfl, HB1.out⟩
  | true =>
    have HE2 : Hid (r = funcs.all ovF) := by show _ = _; rw [HE.out]; rfl
    have HB : Hid (∀ (i : Nat) x, funcs[i]? = some x → ovF x = false → r = false) := fun i x h1 h2 => by rw [HE2.out]; exact List.all_eq_false.2 ⟨x, List.mem_of_getElem? h1, by simp [h2]⟩
    go_enter Tryz.func8, Tryz.ntmps8
    go_wp2_with (go_at_call 15; refine (HG.out _ (by repeat (first | with_reducible exact Below.refl _ _ | with_reducible refine bel_alloc ?_ _ | with_reducible refine bel_set ?_ (by first | exact Nat.le_refl _ | (simp; done) | (simp; omega)) _ | with_reducible refine Below.drew ?_ | refine bel_trans ?_ (by assumption)))).mono ?_; rintro e w1 ⟨rfl, hb1⟩; have HB1 : Hid (Below w.heap.size w w1) := hid (bel_trans (by repeat (first | with_reducible exact Below.refl _ _ | with_reducible refine bel_alloc ?_ _ | with_reducible refine bel_set ?_ (by first | exact Nat.le_refl _ | (simp; done) | (simp; omega)) _ | with_reducible refine Below.drew ?_ | refine bel_trans ?_ (by assumption))) hb1); have b1 := keep_cell hb1 (p := ⟨w.heap.size, 1, none⟩) (v := .slice fa nf fc) (by simp); clear hb1)
    go_loopw [11] (fun vv wz => ∃ i : Nat, i ≤ nf ∧ vv = .int .i64 i ∧ Hid (∀ (j : Nat) x, j < i → funcs[j]? = some x → ovF x = true) ∧ Hid (Below w.heap.size w wz)) (fun vv _ => nf - (intOf vv).toNat)
    case atStart => exact ⟨0, by omega, rfl, fun j x hj => by omega, HB1⟩
    case round =>
      obtain ⟨i, hi, rfl, HI, HBz⟩ := hrel
      rename World => wz
      by_cases hin : i < nf
      · obtain rfl := HA.out (by omega)
        have j0 : (0 : Int) ≤ i := by omega
        have j1 : (i : Int) < nf := by omega
        have hget := List.getElem?_eq_getElem (l := funcs) (show i < funcs.length by rw [← HN.out]; exact hin)
        generalize funcs[i]'(by rw [← HN.out]; exact hin) = x at hget
        have HGX := hid hget
        obtain ⟨pa, ca, np, pc, n, cc, hv, c0, c1, c2, c3, c4, c5⟩ := fnV_of ((HC.out i x hget).keep HBz.out)
        have HTX : Hid (∀ W, Below wz.heap.size wz W → Calls Tryz.prog 16 #[.agg #[.string x.name, .slice pa np pc, .int .i64 x.regs, .int .i64 x.frame, .int .i64 x.entry, .slice ca n cc]] W (retP (.bool (ovF x)) W)) := fun W h => isOver_any (hv.keep h) ((HT.out.keep HBz.out).keep h) ((HPT.out.keep HBz.out).keep h)
        clear hget hv
        cases hq : ovF x with
        | false =>
          rw [hq] at HTX
          have er := HB.out i x HGX.out hq
          subst er
          go_wp2_with (go_at_call 16; refine (HTX.out _ (by repeat (first | with_reducible exact Below.refl _ _ | with_reducible refine bel_alloc ?_ _ | with_reducible refine bel_set ?_ (by first | exact Nat.le_refl _ | (simp; done) | (simp; omega)) _ | with_reducible refine Below.drew ?_ | refine bel_trans ?_ (by assumption)))).mono ?_; rintro e w3 ⟨rfl, hb3⟩; have HB3 : Hid (Below wz.heap.size wz w3) := hid (bel_trans (by repeat (first | with_reducible exact Below.refl _ _ | with_reducible refine bel_alloc ?_ _ | with_reducible refine bel_set ?_ (by first | exact Nat.le_refl _ | (simp; done) | (simp; omega)) _ | with_reducible refine Below.drew ?_ | refine bel_trans ?_ (by assumption))) hb3); clear hb3)
          go_ret
          exact ⟨rfl, bel_trans HBz.out HB3.out⟩
        | true =>
          rw [hq] at HTX
          have HI2 := hid (fnstep HGX.out hq HI.out)
          go_wp2_with (go_at_call 16; refine (HTX.out _ (by repeat (first | with_reducible exact Below.refl _ _ | with_reducible refine bel_alloc ?_ _ | with_reducible refine bel_set ?_ (by first | exact Nat.le_refl _ | (simp; done) | (simp; omega)) _ | with_reducible refine Below.drew ?_ | refine bel_trans ?_ (by assumption)))).mono ?_; rintro e w3 ⟨rfl, hb3⟩; have HB3 : Hid (Below wz.heap.size wz w3) := hid (bel_trans (by repeat (first | with_reducible exact Below.refl _ _ | with_reducible refine bel_alloc ?_ _ | with_reducible refine bel_set ?_ (by first | exact Nat.le_refl _ | (simp; done) | (simp; omega)) _ | with_reducible refine Below.drew ?_ | refine bel_trans ?_ (by assumption))) hb3); clear hb3)
          go_roundw
          case rel => exact ⟨i + 1, by omega, by simp, HI2, hid (bel_trans HBz.out HB3.out)⟩
          case measure => simp [intOf]; omega
      · obtain rfl : nf = i := by omega
        have er : r = true := by
          rw [HE2.out]
          refine List.all_eq_true.2 fun x hx => ?_
          obtain ⟨j, hj⟩ := List.getElem?_of_mem hx
          exact HI.out j x (by rw [HN.out]; exact (List.getElem?_eq_some_iff.1 hj).1) hj
        subst er
        go_wp2
        go_ret
        exact ⟨rfl, HBz.out⟩
/-- THE PROGRAM's Good over locations. -/
theorem lgood_any {w : World} {v : Value} {p : Pg} (h : PgV w v p) (ht : ShTab w) (hp : ParTab w) : Calls Tryz.prog 8 #[v] w (retP (.bool (GoodF p && p.funcs.all ovF)) w) := by
  have h' := h
  obtain ⟨gv, fv, rfl, hg, hf⟩ := h'
  obtain ⟨ga, gc, rfl, _⟩ := len_parts hg
  obtain ⟨fa, fc, fb, fo, rfl, hl, ha, hcc⟩ := hf.parts
  exact lgood_walk ga fa _ gc _ fc fb fo p.main p.funcs _ _ w hl rfl ha hcc ht hp (fun W hW => gGood_any (h.keep hW) (ht.keep hW)) rfl
end Go.Proofs.YthieicjnenlpfaaGreatDoor

