/- The document's own machine code: programs that are the same are said to be. -/
import Derived.Test.YtofnnpchobgapaaGreatDoorAsL
import Derived.Laws.StructEq
namespace Go.Proofs.YtofnnpchobgapaaGreatDoor
open Go.ChangeShapes Go.WideShapes Go.ChangeAt Go.RowKit
set_option linter.unusedSimpArgs false
set_option linter.unusedVariables false

set_option maxRecDepth 100000 in
set_option maxHeartbeats 8000000 in
theorem asameC_walk (ca da : Option Addr) (n cap dap cb co db do_ : Nat) (code : List AIns) (w : World) (hn : n * 56 ≤ 140737488355328) (HN : Hid (n = code.length)) (HA : Hid (0 < n → ca = some ⟨cb, co, none⟩)) (HD : Hid (0 < n → da = some ⟨db, do_, none⟩))
    (HC : Hid (∀ (i : Nat) x, code[i]? = some x → AInsAt w cb (co + i * 7) x)) (HE : Hid (∀ (i : Nat) x, code[i]? = some x → AInsAt w db (do_ + i * 7) x)) :
    Calls Tryz.prog 20 #[.slice ca n cap, .slice da n dap] w (retQ (.bool true) w) := by
  have hnm : (n : Int) ≤ 9223372036854775807 := by omega
  go_enter Tryz.func20, Tryz.ntmps20
  go_wp2
  go_loopw [5] (fun vv wz => ∃ i : Nat, i ≤ n ∧ vv = .int .i64 i ∧ Hid (∃ m, wz = w.drewN m)) (fun vv _ => n - (intOf vv).toNat)
  case atStart => exact ⟨0, by omega, rfl, 0, rfl⟩
  case round =>
    obtain ⟨i, hi, rfl, HBz⟩ := hrel
    rename World => wz
    obtain ⟨dm, hdm⟩ := HBz.out
    subst hdm
    clear HBz
    by_cases hin : i < n
    · obtain rfl := HA.out (by omega)
      obtain rfl := HD.out (by omega)
      have j0 : (0 : Int) ≤ i := by omega
      have j1 : (i : Int) < n := by omega
      have hget := List.getElem?_eq_getElem (l := code) (show i < code.length by rw [← HN.out]; exact hin)
      generalize code[i]'(by rw [← HN.out]; exact hin) = y at hget
      obtain ⟨c0, c1, c2, c3, c4, c5, c6⟩ := (HC.out i y hget)
      obtain ⟨d0, d1, d2, d3, d4, d5, d6⟩ := (HE.out i y hget)
      clear hget
      go_wp2_with fail
      go_quiet (fail)
      go_wp2
      go_roundw
      case rel => exact ⟨i + 1, by omega, by simp, _, rfl⟩
      case measure => simp [intOf]; omega
    · obtain rfl : n = i := by omega
      go_wp2
      go_ret
      exact ⟨rfl, _, rfl⟩
theorem aquiet_at {P : Program} {f : FuncId} {args : Array Value} {W : World} {dm x : Nat} {v : Value} (h : Calls P f args (W.drewN (dm + x)) (retQ v (W.drewN (dm + x)))) : Calls P f args (W.drewN (dm + x)) fun e w'' => e = .returned v ∧ ∃ n, w'' = W.drewN (dm + n) :=
  h.mono fun _ _ ⟨he, m, hm⟩ => ⟨he, x + m, by rw [hm, World.drewN_drewN, Nat.add_assoc]⟩
theorem asameC_any {w : World} {u v : Value} {code : List AIns} (h : ACodeAt w u code) (k : ACodeAt w v code) : Calls Tryz.prog 20 #[u, v] w (retQ (.bool true) w) := by
  obtain ⟨ca, cap, cb, co, rfl, hl, ha, hc⟩ := h.parts
  obtain ⟨da, dap, db, do_, rfl, _, hd, he⟩ := k.parts
  exact asameC_walk ca da _ cap dap cb co db do_ code w hl rfl ha hd hc he

set_option maxRecDepth 100000 in
set_option maxHeartbeats 20000000 in
theorem asameP_walk (ga fa ha ka : Option Addr) (ng gc hc nf fc kc gb go hb ho fb fo kb ko : Nat) (main params : Int) (globals : List Int) (funcs : List AFn) (w : World) (hng : ng * 8 ≤ 140737488355328) (hnf : nf * 40 ≤ 140737488355328) (HNG : Hid (ng = globals.length)) (HNF : Hid (nf = funcs.length))
    (HGA : Hid (0 < ng → ga = some ⟨gb, go, none⟩)) (HHA : Hid (0 < ng → ha = some ⟨hb, ho, none⟩)) (HFA : Hid (0 < nf → fa = some ⟨fb, fo, none⟩)) (HKA : Hid (0 < nf → ka = some ⟨kb, ko, none⟩))
    (HGC : Hid (∀ (i : Nat) x, globals[i]? = some x → w.cell? ⟨gb, go + i, none⟩ = some (.int .i64 x))) (HHC : Hid (∀ (i : Nat) x, globals[i]? = some x → w.cell? ⟨hb, ho + i, none⟩ = some (.int .i64 x)))
    (HFC : Hid (∀ (i : Nat) f, funcs[i]? = some f → AFnAt w fb (fo + i * 2) f)) (HKC : Hid (∀ (i : Nat) f, funcs[i]? = some f → AFnAt w kb (ko + i * 2) f)) :
    Calls Tryz.prog 10 #[.agg #[.slice ga ng gc, .slice fa nf fc, .int .i64 main, .int .i64 params], .agg #[.slice ha ng hc, .slice ka nf kc, .int .i64 main, .int .i64 params]] w (retP (.bool true) w) := by
  have hgm : (ng : Int) ≤ 9223372036854775807 := by omega
  have hfm : (nf : Int) ≤ 9223372036854775807 := by omega
  have HW1 : Hid (Below w.heap.size w ((w.alloc (.cells #[.slice ga ng gc, .slice fa nf fc, .int .i64 main, .int .i64 params] 25 (0, 0))).alloc (.cells #[.slice ha ng hc, .slice ka nf kc, .int .i64 main, .int .i64 params] 25 (0, 0)))) := bel_alloc (bel_alloc (Below.refl _ _) _) _
  go_enter Tryz.func10, Tryz.ntmps10
  go_wp2
  go_loopw [5] (fun vv wz => ∃ i : Nat, i ≤ ng ∧ vv = .int .i64 i ∧ Hid (∃ m, wz = ((w.alloc (.cells #[.slice ga ng gc, .slice fa nf fc, .int .i64 main, .int .i64 params] 25 (0, 0))).alloc (.cells #[.slice ha ng hc, .slice ka nf kc, .int .i64 main, .int .i64 params] 25 (0, 0))).drewN m)) (fun vv _ => ng - (intOf vv).toNat)
  case atStart => exact ⟨0, by omega, rfl, 0, rfl⟩
  case round =>
    obtain ⟨i, hi, rfl, HBz⟩ := hrel
    rename World => wz
    obtain ⟨dm, hdm⟩ := HBz.out
    subst hdm
    clear HBz
    by_cases hin : i < ng
    · obtain rfl := HGA.out (by omega)
      obtain rfl := HHA.out (by omega)
      have j0 : (0 : Int) ≤ i := by omega
      have j1 : (i : Int) < ng := by omega
      have hget := List.getElem?_eq_getElem (l := globals) (show i < globals.length by rw [← HNG.out]; exact hin)
      generalize globals[i]'(by rw [← HNG.out]; exact hin) = y at hget
      have x0 := keep_cell HW1.out (HGC.out i y hget)
      have y0 := keep_cell HW1.out (HHC.out i y hget)
      clear hget
      go_wp2_with fail
      go_quiet (fail)
      go_wp2
      go_roundw
      case rel => exact ⟨i + 1, by omega, by simp, _, rfl⟩
      case measure => simp [intOf]; omega
    · obtain rfl : ng = i := by omega
      clear hi hin
      go_wp2
      go_loopw [6] (fun vv wz => ∃ i : Nat, i ≤ nf ∧ vv = .int .i64 i ∧ Hid (∃ m, wz = ((w.alloc (.cells #[.slice ga ng gc, .slice fa nf fc, .int .i64 main, .int .i64 params] 25 (0, 0))).alloc (.cells #[.slice ha ng hc, .slice ka nf kc, .int .i64 main, .int .i64 params] 25 (0, 0))).drewN m)) (fun vv _ => nf - (intOf vv).toNat)
      case atStart => exact ⟨0, by omega, rfl, dm, rfl⟩
      case round =>
        clear dm
        obtain ⟨i, hi, rfl, HBz⟩ := hrel
        rename World => wz
        obtain ⟨dm, hdm⟩ := HBz.out
        subst hdm
        clear HBz
        by_cases hin : i < nf
        · obtain rfl := HFA.out (by omega)
          obtain rfl := HKA.out (by omega)
          have j0 : (0 : Int) ≤ i := by omega
          have j1 : (i : Int) < nf := by omega
          have hget := List.getElem?_eq_getElem (l := funcs) (show i < funcs.length by rw [← HNF.out]; exact hin)
          generalize funcs[i]'(by rw [← HNF.out]; exact hin) = f at hget
          obtain ⟨cv, hcd, _, x0, x1⟩ := (HFC.out i f hget).keep HW1.out
          obtain ⟨dv, hdd, _, y0, y1⟩ := (HKC.out i f hget).keep HW1.out
          have HSC : Hid (∀ n, Calls Tryz.prog 20 #[cv, dv] (((w.alloc (.cells #[.slice ga ng gc, .slice (some ⟨fb, fo, none⟩) nf fc, .int .i64 main, .int .i64 params] 25 (0, 0))).alloc (.cells #[.slice ha ng hc, .slice (some ⟨kb, ko, none⟩) nf kc, .int .i64 main, .int .i64 params] 25 (0, 0))).drewN n) (retQ (.bool true) (((w.alloc (.cells #[.slice ga ng gc, .slice (some ⟨fb, fo, none⟩) nf fc, .int .i64 main, .int .i64 params] 25 (0, 0))).alloc (.cells #[.slice ha ng hc, .slice (some ⟨kb, ko, none⟩) nf kc, .int .i64 main, .int .i64 params] 25 (0, 0))).drewN n))) := fun n => asameC_any (hcd.keep (bel_drewN (Below.refl _ _) n)) (hdd.keep (bel_drewN (Below.refl _ _) n))
          obtain ⟨ca, cap, rfl, _⟩ := hcd
          obtain ⟨da, dap, rfl, _⟩ := hdd
          clear hget
          go_wp2_with fail
          go_quiet (first | (go_at_call 20; exact aquiet_at (HSC.out _)))
          go_wp2
          go_roundw
          case rel => exact ⟨i + 1, by omega, by simp, _, rfl⟩
          case measure => simp [intOf]; omega
        · obtain rfl : nf = i := by omega
          go_wp2
          go_ret
          exact ⟨rfl, bel_drewN HW1.out _⟩
theorem asameP_any {w : World} {u v : Value} {p : APg} (h : APgV w u p) (k : APgV w v p) : Calls Tryz.prog 10 #[u, v] w (retP (.bool true) w) := by
  obtain ⟨gv, fv, rfl, hg, hf⟩ := h
  obtain ⟨hv, kv, rfl, hh, hk⟩ := k
  obtain ⟨ga, gc, gb, go, rfl, h1, h2, h3⟩ := hg.parts
  obtain ⟨ha, hc, hb, ho, rfl, _, h5, h6⟩ := hh.parts
  obtain ⟨fa, fc, fb, fo, rfl, h7, h8, h9⟩ := hf.parts
  obtain ⟨ka, kc, kb, ko, rfl, _, h11, h12⟩ := hk.parts
  exact asameP_walk ga fa ha ka _ gc hc _ fc kc gb go hb ho fb fo kb ko p.main p.params p.globals p.funcs w h1 h7 rfl rfl h2 h5 h8 h11 h3 h6 h9 h12
end Go.Proofs.YtofnnpchobgapaaGreatDoor

