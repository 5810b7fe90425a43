/- The statement's own bound on programs: it answers, whatever the program. -/
import Derived.Test.YtofnnpchobgapaaGreatDoorAsL
namespace Go.Proofs.YtofnnpchobgapaaGreatDoor
open Go.ChangeShapes Go.WideShapes Go.ChangeAt Go.RowKit
set_option linter.unusedSimpArgs false
set_option linter.unusedVariables false

def retAny (w : World) : Ending → World → Prop := fun e w' => ∃ b : Bool, e = .returned (.bool b) ∧ Below w.heap.size w w'
theorem retAny.of {b : Bool} {w : World} {e : Ending} {w' : World} (h : e = .returned (.bool b) ∧ Below w.heap.size w w') : retAny w e w' := ⟨b, h⟩
theorem end_Any {P : Program} {fn : Func} {a : Act} {w w' : World} (b : Bool) (hr : (results fn a.tmps).run P w' = .ok (.bool b) w') (hd : a.defers = []) (hb : Below w.heap.size w w') :
    bodyPost P fn (retAny w) .ret a w' := bodyPost_ret hr hd ⟨b, rfl, hb⟩
set_option maxRecDepth 100000 in
set_option maxHeartbeats 8000000 in
theorem afew_walk (ga fa : Option Addr) (ng gc nf fc gb go fb fo : Nat) (main params : Int) (globals : List Int) (funcs : List AFn) (w : World) (hng : ng * 8 ≤ 140737488355328) (hnf : nf * 40 ≤ 140737488355328) (HNG : Hid (ng = globals.length)) (HNF : Hid (nf = funcs.length))
    (HGA : Hid (0 < ng → ga = some ⟨gb, go, none⟩)) (HFA : Hid (0 < nf → fa = some ⟨fb, fo, none⟩)) (HGC : Hid (∀ (i : Nat) x, globals[i]? = some x → w.cell? ⟨gb, go + i, none⟩ = some (.int .i64 x))) (HFC : Hid (∀ (i : Nat) f, funcs[i]? = some f → AFnAt w fb (fo + i * 2) f)) :
    Calls Tryz.prog 6 #[.agg #[.slice ga ng gc, .slice fa nf fc, .int .i64 main, .int .i64 params]] w (retAny w) := by
  have hgm : (ng : Int) ≤ 9223372036854775807 := by omega
  have hfm : (nf : Int) ≤ 9223372036854775807 := by omega
  have FIN : ∀ o, Below w.heap.size w (w.alloc o) := fun o => bel_alloc (Below.refl _ _) o
  have HFIN := hid FIN
  clear FIN
  by_cases h0 : 8 < (nf : Int)
  · have q0 : decide (8 < (nf : Int)) = true := by simpa using h0
    have qn0 : decide (8 < nf) = true := by simp; omega
    clear h0
    go_enter Tryz.func6, Tryz.ntmps6
    go_wp2
    exact end_Any false (by simp [results, Tryz.results6, go_sem]) rfl (HFIN.out _)
  have q0 : decide (8 < (nf : Int)) = false := by simpa using h0
  have qn0 : decide (8 < nf) = false := by simp; omega
  clear h0
  by_cases h1 : 8 < (ng : Int)
  · have q1 : decide (8 < (ng : Int)) = true := by simpa using h1
    have qn1 : decide (8 < ng) = true := by simp; omega
    clear h1
    go_enter Tryz.func6, Tryz.ntmps6
    go_wp2
    exact end_Any false (by simp [results, Tryz.results6, go_sem]) rfl (HFIN.out _)
  have q1 : decide (8 < (ng : Int)) = false := by simpa using h1
  have qn1 : decide (8 < ng) = false := by simp; omega
  clear h1
  go_enter Tryz.func6, Tryz.ntmps6
  go_wp2
  clear q0 qn0 q1 qn1
  go_loopw [3] (fun vv wz => ∃ i : Nat, i ≤ nf ∧ vv = .int .i64 i ∧ wz = (w.alloc (.cells #[.slice ga ng gc, .slice fa nf fc, .int .i64 main, .int .i64 params] 25 (0, 0)))) (fun vv _ => nf - (intOf vv).toNat)
  case atStart => exact ⟨0, by omega, rfl, rfl⟩
  case round =>
    obtain ⟨i, hi, rfl, rfl⟩ := hrel
    by_cases hin : i < nf
    · obtain rfl := HFA.out (by omega)
      have j0 : (0 : Int) ≤ i := by omega
      have j1 : (i : Int) < nf := by omega
      have hget := List.getElem?_eq_getElem (l := funcs) (show i < funcs.length by rw [← HNF.out]; exact hin)
      generalize funcs[i]'(by rw [← HNF.out]; exact hin) = f at hget
      obtain ⟨cv, hcd, _, d0, d1⟩ := (HFC.out i f hget).keep (HFIN.out (.cells #[.slice ga ng gc, .slice (some ⟨fb, fo, none⟩) nf fc, .int .i64 main, .int .i64 params] 25 (0, 0)))
      obtain ⟨ca, cap, cb, co, rfl, hl, hca, hcc⟩ := hcd.parts
      have HCA := hid hca
      have HCC := hid hcc
      obtain ⟨n, hn⟩ : ∃ n, f.code.length = n := ⟨_, rfl⟩
      have HN : Hid (n = f.code.length) := hn.symm
      rw [hn] at hl d1 HCA
      have hnm : (n : Int) ≤ 9223372036854775807 := by omega
      clear hget hcd hca hcc hn
      by_cases h80 : 80 < (n : Int)
      · have q80 : decide (80 < (n : Int)) = true := by simpa using h80
        have qn80 : decide (80 < n) = true := by simp; omega
        clear h80
        go_wp2
        exact end_Any false (by simp [results, Tryz.results6, go_sem]) rfl (HFIN.out _)
      have q80 : decide (80 < (n : Int)) = false := by simpa using h80
      have qn80 : decide (80 < n) = false := by simp; omega
      clear h80
      go_wp2
      clear q80 qn80
      go_loopw [4] (fun vv wz => ∃ j : Nat, j ≤ n ∧ vv = .int .i64 j ∧ wz = (w.alloc (.cells #[.slice ga ng gc, .slice (some ⟨fb, fo, none⟩) nf fc, .int .i64 main, .int .i64 params] 25 (0, 0)))) (fun vv _ => n - (intOf vv).toNat)
      case atStart => exact ⟨0, by omega, rfl, rfl⟩
      case round =>
        obtain ⟨j, hj, rfl, rfl⟩ := hrel
        by_cases hjn : j < n
        · obtain rfl := HCA.out (by omega)
          have m0 : (0 : Int) ≤ j := by omega
          have m1 : (j : Int) < n := by omega
          have hgx := List.getElem?_eq_getElem (l := f.code) (show j < f.code.length by rw [← HN.out]; exact hjn)
          generalize f.code[j]'(by rw [← HN.out]; exact hjn) = x at hgx
          obtain ⟨e0, e1, e2, e3, e4, e5, e6⟩ := HCC.out j x hgx
          clear hgx
          cases q23 : (x.op == 23) with
          | false =>
            go_wp2
            go_roundw
            case rel => exact ⟨j + 1, by omega, by simp, trivial⟩
            case measure => simp [intOf]; omega
          | true =>
            by_cases hk : 1024 < x.k
            · have qk : decide (1024 < x.k) = true := by simpa using hk
              clear hk
              go_wp2
              exact end_Any false (by simp [results, Tryz.results6, go_sem]) rfl (HFIN.out _)
            · have qk : decide (1024 < x.k) = false := by simpa using hk
              clear hk
              go_wp2
              go_roundw
              case rel => exact ⟨j + 1, by omega, by simp, trivial⟩
              case measure => simp [intOf]; omega
        · obtain rfl : n = j := by omega
          go_wp2
          go_roundw
          case rel => exact ⟨i + 1, by omega, by simp, trivial⟩
          case measure => simp [intOf]; omega
    · obtain rfl : nf = i := by omega
      clear hi hin
      go_wp2
      go_loopw [5] (fun vv wz => ∃ i : Nat, i ≤ ng ∧ vv = .int .i64 i ∧ wz = (w.alloc (.cells #[.slice ga ng gc, .slice fa nf fc, .int .i64 main, .int .i64 params] 25 (0, 0)))) (fun vv _ => ng - (intOf vv).toNat)
      case atStart => exact ⟨0, by omega, rfl, rfl⟩
      case round =>
        obtain ⟨i, hi, rfl, rfl⟩ := hrel
        by_cases hin : i < ng
        · obtain rfl := HGA.out (by omega)
          have j0 : (0 : Int) ≤ i := by omega
          have j1 : (i : Int) < ng := by omega
          have hget := List.getElem?_eq_getElem (l := globals) (show i < globals.length by rw [← HNG.out]; exact hin)
          generalize globals[i]'(by rw [← HNG.out]; exact hin) = y at hget
          have cx := keep_alloc (HGC.out i y hget) (.cells #[.slice (some ⟨gb, go, none⟩) ng gc, .slice fa nf fc, .int .i64 main, .int .i64 params] 25 (0, 0))
          clear hget
          by_cases hy : 1024 < y
          · have qy : decide (1024 < y) = true := by simpa using hy
            clear hy
            go_wp2
            exact end_Any false (by simp [results, Tryz.results6, go_sem]) rfl (HFIN.out _)
          · have qy : decide (1024 < y) = false := by simpa using hy
            clear hy
            go_wp2
            go_roundw
            case rel => exact ⟨i + 1, by omega, by simp, trivial⟩
            case measure => simp [intOf]; omega
        · obtain rfl : ng = i := by omega
          go_wp2
          exact end_Any true (by simp [results, Tryz.results6, go_sem]) rfl (HFIN.out _)
theorem afew_any {w : World} {v : Value} {p : APg} (h : APgV w v p) : Calls Tryz.prog 6 #[v] w (retAny w) := by
  obtain ⟨gv, fv, rfl, hg, hf⟩ := h
  obtain ⟨ga, gcap, gb, go, rfl, hgl, hga, hgc⟩ := hg.parts
  obtain ⟨fa, fcap, fb, fo, rfl, hfl, hfa, hfc⟩ := hf.parts
  exact afew_walk ga fa _ gcap _ fcap gb go fb fo p.main p.params p.globals p.funcs w hgl hfl rfl rfl hga hfa hgc hfc
end Go.Proofs.YtofnnpchobgapaaGreatDoor

