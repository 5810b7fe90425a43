/- Package rtl: are the globals and functions that a function names there? -/
import Derived.Test.YthieicjnenlpfaaGreatDoorGLeaf
namespace Go.Proofs.YthieicjnenlpfaaGreatDoor
open Go.ChangeShapes Go.WideShapes Go.ChangeAt Go.RowKit
set_option linter.unusedSimpArgs false
set_option linter.unusedVariables false

theorem field1 (nm : ByteArray) (ks xa xb xd : Int) (xk xg xs xt : Bool) (w : World) : (Instr.field 97 (.agg #[.string nm, .int .i64 ks, .int .i64 xa, .int .i64 xb, .int .i64 xd, .bool xk, .bool xg, .bool xs, .bool xt]) 1).run Tryz.prog w = .ok (.int .i64 ks) w := by kernel_rfl
theorem sub5 (op : Int) : ((shOf op).sub == 5) = (op == 8) := by
  by_cases h0 : op < 0
  · rw [shOf_none (.inl h0)]
    simp [spNone]; omega
  by_cases h1 : 15 ≤ op
  · rw [shOf_none (.inr h1)]
    simp [spNone]; omega
  have : op = 0 ∨ op = 1 ∨ op = 2 ∨ op = 3 ∨ op = 4 ∨ op = 5 ∨ op = 6 ∨ op = 7 ∨ op = 8 ∨ op = 9 ∨ op = 10 ∨ op = 11 ∨ op = 12 ∨ op = 13 ∨ op = 14 := by omega
  rcases this with rfl | rfl | rfl | rfl | rfl | rfl | rfl | rfl | rfl | rfl | rfl | rfl | rfl | rfl | rfl <;> rfl
theorem sub6 (op : Int) : ((shOf op).sub == 6) = (op == 10) := by
  by_cases h0 : op < 0
  · rw [shOf_none (.inl h0)]
    simp [spNone]; omega
  by_cases h1 : 15 ≤ op
  · rw [shOf_none (.inr h1)]
    simp [spNone]; omega
  have : op = 0 ∨ op = 1 ∨ op = 2 ∨ op = 3 ∨ op = 4 ∨ op = 5 ∨ op = 6 ∨ op = 7 ∨ op = 8 ∨ op = 9 ∨ op = 10 ∨ op = 11 ∨ op = 12 ∨ op = 13 ∨ op = 14 := by omega
  rcases this with rfl | rfl | rfl | rfl | rfl | rfl | rfl | rfl | rfl | rfl | rfl | rfl | rfl | rfl | rfl <;> rfl
theorem inB_iff {m x : Int} : inB m x = true ↔ 0 ≤ x ∧ x < m := by
  unfold inB
  simp
theorem namedF8 (globals : List Int) (funcs : List Fn) (m : Nat) (a b d k : Int) (args : List Int) (s t z : Int) (hz : globals[m]? = some z) : namedF globals funcs ⟨8, m, a, b, d, k, args, s, t⟩ = withinB k z := by
  have hm : m < globals.length := (List.getElem?_eq_some_iff.1 hz).1
  have h1 : ¬ ((globals.length : Int) ≤ (m : Int)) := by omega
  rw [namedF, if_neg (by simp), if_pos rfl]
  simp only [Int.toNat_natCast, hz, Option.getD_some, decide_eq_false h1, Bool.false_or, decide_eq_false (show ¬ ((m : Int) < 0) by omega)]
  unfold withinB
  rw [Bool.eq_iff_iff]
  simp
theorem namedF8n (globals : List Int) (funcs : List Fn) (sub a b d k : Int) (args : List Int) (s t : Int) (h : inB globals.length sub = false) : namedF globals funcs ⟨8, sub, a, b, d, k, args, s, t⟩ = false := by
  have h' : ¬ (0 ≤ sub ∧ sub < globals.length) := fun h2 => by rw [inB_iff.2 h2] at h; cases h
  rw [namedF, if_neg (by simp), if_pos rfl]
  by_cases hs : sub < 0
  · simp [hs]
  · have : (globals.length : Int) ≤ sub := by omega
    simp [this]
theorem namedF10 (globals : List Int) (funcs : List Fn) (m : Nat) (a b d k : Int) (args : List Int) (s t : Int) (g : Fn) (hg : funcs[m]? = some g) : namedF globals funcs ⟨10, m, a, b, d, k, args, s, t⟩ = !(args.length != g.params.length) := by
  have hm : m < funcs.length := (List.getElem?_eq_some_iff.1 hg).1
  have h1 : ¬ ((funcs.length : Int) ≤ (m : Int)) := by omega
  rw [namedF, if_pos rfl]
  simp only [Int.toNat_natCast, hg, Option.map_some, decide_eq_false h1, Bool.false_or, decide_eq_false (show ¬ ((m : Int) < 0) by omega)]
  rw [Bool.eq_iff_iff]
  simp
  omega
theorem namedF10n (globals : List Int) (funcs : List Fn) (sub a b d k : Int) (args : List Int) (s t : Int) (h : inB funcs.length sub = false) : namedF globals funcs ⟨10, sub, a, b, d, k, args, s, t⟩ = false := by
  have h' : ¬ (0 ≤ sub ∧ sub < funcs.length) := fun h2 => by rw [inB_iff.2 h2] at h; cases h
  rw [namedF, if_pos rfl]
  by_cases hs : sub < 0
  · simp [hs]
  · have : (funcs.length : Int) ≤ sub := by omega
    simp [this]
theorem namedF_other (globals : List Int) (funcs : List Fn) (x : Ins) (h8 : x.op ≠ 8) (h10 : x.op ≠ 10) : namedF globals funcs x = true := by
  rw [namedF, if_neg h10, if_neg h8]

set_option maxRecDepth 100000 in
set_option maxHeartbeats 20000000 in
theorem hasWhatIsNamed_walk (pb po fb2 fo2 : Nat) (ga fa ca : Option Addr) (ng gcap gb go nf fcap fb fo n cap cb co : Nat) (globals : List Int) (funcs : List Fn) (code : List Ins) (r : Bool) (w : World)
    (g0 : w.cell? ⟨pb, po, none⟩ = some (.slice ga ng gcap)) (g1 : w.cell? ⟨pb, po + 1, none⟩ = some (.slice fa nf fcap)) (f5 : w.cell? ⟨fb2, fo2 + 5, none⟩ = some (.slice ca n cap))
    (hg : ng * 8 ≤ 140737488355328) (hf : nf * 88 ≤ 140737488355328) (hn : n * 88 ≤ 140737488355328) (HNG : Hid (ng = globals.length)) (HNF : Hid (nf = funcs.length)) (HN : Hid (n = code.length)) (HGA : Hid (0 < ng → ga = some ⟨gb, go, none⟩)) (HFA : Hid (0 < nf → fa = some ⟨fb, fo, none⟩)) (HCA : Hid (0 < n → ca = some ⟨cb, co, none⟩))
    (HGC : Hid (∀ (i : Nat) x, globals[i]? = some x → w.cell? ⟨gb, go + i, none⟩ = some (.int .i64 x)))
    (HFC : Hid (∀ (i : Nat) x, funcs[i]? = some x → FnAt w fb (fo + i * 6) x)) (HCC : Hid (∀ (i : Nat) x, code[i]? = some x → InsAt w cb (co + i * 9) x)) (HT : Hid (ShTab w))
    (HE : Hid (r = code.all (namedF globals funcs))) :
    Calls Tryz.prog 34 #[.pointer (some ⟨pb, po, none⟩), .pointer (some ⟨fb2, fo2, none⟩)] w (retP (.bool r) w) := by
  have hgm : (ng : Int) ≤ 9223372036854775807 := by omega
  have hfm : (nf : Int) ≤ 9223372036854775807 := by omega
  have hnm : (n : Int) ≤ 9223372036854775807 := by omega
  have wg : IntKind.i64.wrap ((ng : Int) - 1) = ng - 1 := by rw [wrap_i64]; unfold wrap64; omega
  have wf : IntKind.i64.wrap ((nf : Int) - 1) = nf - 1 := by rw [wrap_i64]; unfold wrap64; omega
  have wg2 : wrap64 ((ng : Int) - 1) = ng - 1 := by unfold wrap64; omega
  have wf2 : wrap64 ((nf : Int) - 1) = nf - 1 := by unfold wrap64; omega
  have fd := field1
  have HBAD : Hid (∀ (i : Nat) x, code[i]? = some x → namedF globals funcs x = false → r = false) := fun i x h1 h2 => by rw [HE.out]; exact List.all_eq_false.2 ⟨x, List.mem_of_getElem? h1, by simp [h2]⟩
  go_enter Tryz.func34, Tryz.ntmps34
  go_wp2
  go_loopw [12] (fun vv wz => ∃ i : Nat, i ≤ n ∧ vv = .int .i64 i ∧ Hid (∀ (j : Nat) x, j < i → code[j]? = some x → namedF globals funcs x = true) ∧ Hid (Below w.heap.size w wz)) (fun vv _ => n - (intOf vv).toNat)
  case atStart => exact ⟨0, by omega, rfl, fun j x hj => by omega, Below.refl _ _⟩
  case round =>
    obtain ⟨i, hi, rfl, HI, HBz⟩ := hrel
    rename World => wz
    have p0 := keep_cell HBz.out g0
    have p1 := keep_cell HBz.out g1
    have k5 := keep_cell HBz.out f5
    by_cases hin : i < n
    · obtain rfl := HCA.out (by omega)
      have j0 : (0 : Int) ≤ i := by omega
      have j1 : (i : Int) < n := by omega
      have hget := List.getElem?_eq_getElem (l := code) (show i < code.length by rw [← HN.out]; exact hin)
      generalize code[i]'(by rw [← HN.out]; exact hin) = x at hget
      obtain ⟨av, hav, c0, c1, _, _, _, c5, c6, _, _⟩ := (HCC.out i x hget).keep HBz.out
      obtain ⟨aa, acap, rfl, hal⟩ := len_parts hav
      have HG := hid hget
      clear hget hav
      obtain ⟨op, sub, a, b, d, k, args, s, t⟩ := x
      simp only [] at c0 c1 c5 c6 hal
      obtain ⟨na, hna⟩ : ∃ m, m = args.length := ⟨_, rfl⟩
      have HNA := hid hna
      rw [← hna] at hal c6
      clear hna
      have h5 := sub5 op
      have h6 := sub6 op
      have HSH0 : Hid (∀ W, Below w.heap.size w W → Calls Tryz.prog 49 #[.int .i64 op] W (retP (spV (shOf op)) W)) := fun W hW => shapeOf_any op W (HT.out.keep hW)
      generalize shOf op = sp at h5 h6 HSH0
      obtain ⟨nm, ks, xa, xb, xd, xk, xg, xs, xt⟩ := sp
      simp only [] at h5 h6
      have HSH : Hid (∀ W, Below w.heap.size w W → Calls Tryz.prog 49 #[.int .i64 op] W (retP (.agg #[.string nm, .int .i64 ks, .int .i64 xa, .int .i64 xb, .int .i64 xd, .bool xk, .bool xg, .bool xs, .bool xt]) W)) := HSH0
      clear HSH0
      by_cases h8 : op = 8
      · subst h8
        have q5 : (ks == 5) = true := h5
        clear h5 h6
        have HWI : Hid (∀ W, Calls Tryz.prog 32 #[.int .i64 sub, .int .i64 ((ng : Int) - 1)] W fun e w' => e = .returned (.bool (inB ng sub)) ∧ w' = W) := fun W => withinB_in (r := sub) (m := ng) ▸ within_any sub _ W
        cases hq : inB ng sub with
        | false =>
          rw [hq] at HWI
          have HW6 : Hid (∀ W, Calls Tryz.prog 50 #[.int .i64 0, .int .i64 0] W fun e w' => e = .returned (.bool (withinB 0 0)) ∧ w' = W) := fun W => within64_any _ _ W
          have er : r = false := HBAD.out i _ HG.out (namedF8n _ _ _ _ _ _ _ _ _ _ (by rw [← HNG.out]; exact hq))
          clear hq
          subst er
          go_wp2_with (go_at_call 49; refine (HSH.out _ (HBz.out)).mono ?_; rintro e w1 ⟨rfl, hb1⟩; have HB1 := hid (bel_trans HBz.out hb1); replace p0 := keep_cell hb1 p0; replace p1 := keep_cell hb1 p1; replace c1 := keep_cell hb1 c1; replace c5 := keep_cell hb1 c5; replace c6 := keep_cell hb1 c6; clear hb1)
          go_quiet (first | (go_at_call 32; with_reducible exact Calls.quiet_of_same (HWI.out _)) | (go_at_call 50; with_reducible exact Calls.quiet_of_same (HW6.out _)))
          go_wp2
          go_ret
          exact ⟨rfl, bel_drewN HB1.out _⟩
        | true =>
          rw [hq] at HWI
          obtain ⟨s0, s1⟩ := inB_iff.1 hq
          obtain ⟨m, rfl⟩ : ∃ m : Nat, sub = m := ⟨sub.toNat, by omega⟩
          obtain rfl := HGA.out (by omega)
          have hgm2 := List.getElem?_eq_getElem (l := globals) (show m < globals.length by rw [← HNG.out]; omega)
          generalize globals[m]'(by rw [← HNG.out]; omega) = z at hgm2
          have ez := keep_cell HBz.out (HGC.out m z hgm2)
          have HNM := hid (namedF8 globals funcs m a b d k args s t z hgm2)
          have HW6 : Hid (∀ W, Calls Tryz.prog 50 #[.int .i64 k, .int .i64 z] W fun e w' => e = .returned (.bool (withinB k z)) ∧ w' = W) := fun W => within64_any _ _ W
          clear hq hgm2
          cases hk : withinB k z with
          | false =>
            rw [hk] at HW6
            have er : r = false := HBAD.out i _ HG.out (by rw [HNM.out, hk])
            clear hk
            subst er
            go_wp2_with (go_at_call 49; refine (HSH.out _ (HBz.out)).mono ?_; rintro e w1 ⟨rfl, hb1⟩; have HB1 := hid (bel_trans HBz.out hb1); replace p0 := keep_cell hb1 p0; replace p1 := keep_cell hb1 p1; replace c1 := keep_cell hb1 c1; replace c5 := keep_cell hb1 c5; replace c6 := keep_cell hb1 c6; replace ez := keep_cell hb1 ez; clear hb1)
            go_quiet (first | (go_at_call 32; with_reducible exact Calls.quiet_of_same (HWI.out _)) | (go_at_call 50; with_reducible exact Calls.quiet_of_same (HW6.out _)))
            go_wp2
            go_ret
            exact ⟨rfl, bel_drewN HB1.out _⟩
          | true =>
            rw [hk] at HW6
            have hok : namedF globals funcs ⟨8, m, a, b, d, k, args, s, t⟩ = true := by rw [HNM.out, hk]
            clear hk
            have HI2 := hid (insstep HG.out hok HI.out)
            clear hok
            go_wp2_with (go_at_call 49; refine (HSH.out _ (HBz.out)).mono ?_; rintro e w1 ⟨rfl, hb1⟩; have HB1 := hid (bel_trans HBz.out hb1); replace p0 := keep_cell hb1 p0; replace p1 := keep_cell hb1 p1; replace c1 := keep_cell hb1 c1; replace c5 := keep_cell hb1 c5; replace c6 := keep_cell hb1 c6; replace ez := keep_cell hb1 ez; clear hb1)
            go_quiet (first | (go_at_call 32; with_reducible exact Calls.quiet_of_same (HWI.out _)) | (go_at_call 50; with_reducible exact Calls.quiet_of_same (HW6.out _)))
            go_wp2
            go_roundw
            case rel => exact ⟨i + 1, by omega, by simp, HI2, hid (bel_drewN HB1.out _)⟩
            case measure => simp [intOf]; omega
      · have q5 : (ks == 5) = false := by rw [h5]; simpa using h8
        by_cases h10 : op = 10
        · subst h10
          have q6 : (ks == 6) = true := h6
          clear h5 h6 h8
          have HW6 : Hid (∀ W, Calls Tryz.prog 50 #[.int .i64 0, .int .i64 0] W fun e w' => e = .returned (.bool (withinB 0 0)) ∧ w' = W) := fun W => within64_any _ _ W
          have HWI : Hid (∀ W, Calls Tryz.prog 32 #[.int .i64 sub, .int .i64 ((nf : Int) - 1)] W fun e w' => e = .returned (.bool (inB nf sub)) ∧ w' = W) := fun W => withinB_in (r := sub) (m := nf) ▸ within_any sub _ W
          cases hq : inB nf sub with
          | false =>
            rw [hq] at HWI
            have er : r = false := HBAD.out i _ HG.out (namedF10n _ _ _ _ _ _ _ _ _ _ (by rw [← HNF.out]; exact hq))
            clear hq
            subst er
            go_wp2_with (go_at_call 49; refine (HSH.out _ (HBz.out)).mono ?_; rintro e w1 ⟨rfl, hb1⟩; have HB1 := hid (bel_trans HBz.out hb1); replace p0 := keep_cell hb1 p0; replace p1 := keep_cell hb1 p1; replace c1 := keep_cell hb1 c1; replace c5 := keep_cell hb1 c5; replace c6 := keep_cell hb1 c6; clear hb1)
            go_quiet (first | (go_at_call 32; with_reducible exact Calls.quiet_of_same (HWI.out _)) | (go_at_call 50; with_reducible exact Calls.quiet_of_same (HW6.out _)))
            go_wp2
            go_ret
            exact ⟨rfl, bel_drewN HB1.out _⟩
          | true =>
            rw [hq] at HWI
            obtain ⟨s0, s1⟩ := inB_iff.1 hq
            obtain ⟨m, rfl⟩ : ∃ m : Nat, sub = m := ⟨sub.toNat, by omega⟩
            obtain rfl := HFA.out (by omega)
            have hgm2 := List.getElem?_eq_getElem (l := funcs) (show m < funcs.length by rw [← HNF.out]; omega)
            generalize funcs[m]'(by rw [← HNF.out]; omega) = g at hgm2
            obtain ⟨gv, _, hgp, _, _, _, ez, _, _, _, _⟩ := (HFC.out m g hgm2).keep HBz.out
            obtain ⟨gaa, gcp, rfl, hgl⟩ := len_parts hgp
            obtain ⟨np, hnp⟩ : ∃ z, z = g.params.length := ⟨_, rfl⟩
            have HNM : Hid (namedF globals funcs ⟨10, m, a, b, d, k, args, s, t⟩ = !(na != np)) := by show _ = _; rw [namedF10 globals funcs m a b d k args s t g hgm2, HNA.out, hnp]
            rw [← hnp] at ez hgl
            clear hgp hgm2 hnp hq
            cases hk : (na != np) with
            | true =>
              have qn : ((na : Int) != (np : Int)) = true := by simp at hk ⊢; omega
              have qnd : decide ((na : Int) = (np : Int)) = false := by simp at hk ⊢; omega
              have qnm : decide (na = np) = false := by simp at hk ⊢; omega
              have er : r = false := HBAD.out i _ HG.out (by rw [HNM.out, hk]; rfl)
              subst er
              go_wp2_with (go_at_call 49; refine (HSH.out _ (HBz.out)).mono ?_; rintro e w1 ⟨rfl, hb1⟩; have HB1 := hid (bel_trans HBz.out hb1); replace p0 := keep_cell hb1 p0; replace p1 := keep_cell hb1 p1; replace c1 := keep_cell hb1 c1; replace c5 := keep_cell hb1 c5; replace c6 := keep_cell hb1 c6; replace ez := keep_cell hb1 ez; clear hb1)
              go_quiet (first | (go_at_call 32; with_reducible exact Calls.quiet_of_same (HWI.out _)) | (go_at_call 50; with_reducible exact Calls.quiet_of_same (HW6.out _)))
              go_wp2
              go_ret
              exact ⟨rfl, bel_drewN HB1.out _⟩
            | false =>
              have qn : ((na : Int) != (np : Int)) = false := by simp at hk ⊢; omega
              have qnd : decide ((na : Int) = (np : Int)) = true := by simp at hk ⊢; omega
              have qnm : decide (na = np) = true := by simp at hk ⊢; omega
              have hok : namedF globals funcs ⟨10, m, a, b, d, k, args, s, t⟩ = true := by rw [HNM.out, hk]; rfl
              have HI2 := hid (insstep HG.out hok HI.out)
              clear hok
              go_wp2_with (go_at_call 49; refine (HSH.out _ (HBz.out)).mono ?_; rintro e w1 ⟨rfl, hb1⟩; have HB1 := hid (bel_trans HBz.out hb1); replace p0 := keep_cell hb1 p0; replace p1 := keep_cell hb1 p1; replace c1 := keep_cell hb1 c1; replace c5 := keep_cell hb1 c5; replace c6 := keep_cell hb1 c6; replace ez := keep_cell hb1 ez; clear hb1)
              go_quiet (first | (go_at_call 32; with_reducible exact Calls.quiet_of_same (HWI.out _)) | (go_at_call 50; with_reducible exact Calls.quiet_of_same (HW6.out _)))
              go_wp2
              go_roundw
              case rel => exact ⟨i + 1, by omega, by simp, HI2, hid (bel_drewN HB1.out _)⟩
              case measure => simp [intOf]; omega
        · have q6 : (ks == 6) = false := by rw [h6]; simpa using h10
          have hok := namedF_other globals funcs ⟨op, sub, a, b, d, k, args, s, t⟩ h8 h10
          clear h5 h6 h8 h10
          have HI2 := hid (insstep HG.out hok HI.out)
          clear hok
          go_wp2_with (go_at_call 49; refine (HSH.out _ (HBz.out)).mono ?_; rintro e w1 ⟨rfl, hb1⟩; have HB1 := hid (bel_trans HBz.out hb1); replace p0 := keep_cell hb1 p0; replace p1 := keep_cell hb1 p1; replace c1 := keep_cell hb1 c1; replace c5 := keep_cell hb1 c5; replace c6 := keep_cell hb1 c6; clear hb1)
          go_roundw
          case rel => exact ⟨i + 1, by omega, by simp, HI2, HB1⟩
          case measure => simp [intOf]; omega
    · obtain rfl : n = i := by omega
      have er : r = true := by
        rw [HE.out]
        refine List.all_eq_true.2 fun x hx => ?_
        obtain ⟨j, hj⟩ := List.getElem?_of_mem hx
        exact HI.out j x (by rw [HN.out]; exact (List.getElem?_eq_some_iff.1 hj).1) hj
      subst er
      go_wp2
      go_ret
      exact ⟨rfl, HBz.out⟩
theorem hasWhatIsNamed_any {w : World} {pb po fb2 fo2 : Nat} {gv fv cv : Value} {globals : List Int} {funcs : List Fn} {code : List Ins} (g0 : w.cell? ⟨pb, po, none⟩ = some gv) (g1 : w.cell? ⟨pb, po + 1, none⟩ = some fv) (f5 : w.cell? ⟨fb2, fo2 + 5, none⟩ = some cv) (hg : IL w gv globals) (hf : FnsAt w fv funcs) (hc : CodeAt w cv code) (ht : ShTab w) :
    Calls Tryz.prog 34 #[.pointer (some ⟨pb, po, none⟩), .pointer (some ⟨fb2, fo2, none⟩)] w (retP (.bool (code.all (namedF globals funcs))) w) := by
  obtain ⟨ga, gcap, gb, go, rfl, hgl, hga, hgc⟩ := hg.parts
  obtain ⟨fa, fcap, fb, fo, rfl, hfl, hfa, hfc⟩ := hf.parts
  obtain ⟨ca, ccap, cb, co, rfl, hcl, hca, hcc⟩ := hc.parts
  exact hasWhatIsNamed_walk pb po fb2 fo2 ga fa ca _ gcap gb go _ fcap fb fo _ ccap cb co globals funcs code _ w g0 g1 f5 hgl hfl hcl rfl rfl rfl hga hfa hca hgc hfc hcc ht rfl
end Go.Proofs.YthieicjnenlpfaaGreatDoor

