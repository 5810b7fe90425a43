
import Derived.Test.YtncondlfngeilaaGreatDoorGIter2
namespace Go.Proofs.YtncondlfngeilaaGreatDoor
open Go.ChangeShapes Go.WideShapes Go.ChangeAt Go.RowKit Go.Proofs.Tryz
set_option linter.unusedSimpArgs false
set_option linter.unusedVariables false
set_option maxRecDepth 100000
set_option maxHeartbeats 8000000

theorem filter_succ {p : Int → Bool} {l : List Int} {i : Nat} {y : Int} (h : l[i]? = some y) : (l.take (i + 1)).filter p = (l.take i).filter p ++ (if p y = true then [y] else []) := by
 rw [List.take_add_one, h, List.filter_append];simp only [Option.toList_some, List.filter_cons, List.filter_nil]
theorem filter_at {p : Int → Bool} {l : List Int} {i : Nat} {y : Int} (h : l[i]? = some y) : l.filter p = (l.take i).filter p ++ ((if p y = true then [y] else []) ++ (l.drop (i + 1)).filter p) := by
 conv => lhs; rw [← List.take_append_drop (i + 1) l]
 rw [List.filter_append, filter_succ h, List.append_assoc]
def preA (x : Sp) (a : Int) : List Int := if readB x.a a = true then [a] else []
def preB (x : Sp) (b : Int) : List Int := if readB x.b b = true then [b] else []
theorem usP_eq (x : Sp) (a b : Int) (l : List Int) : usP x a b l = preA x a ++ (preB x b ++ l.filter (· != -1)) := rfl

theorem uses1ff (l0 sb ib : Nat) (x : Sp) (a b : Int) (va : Option Addr) (n vc : Nat) (l : List Int) (w : World) (J : List Int → World → Prop) (Jx : World → Prop) (HN : Hid (n = l.length)) (hn : n * 8 ≤ 140737488355328) (H0 : Hid (J [] w))
  (HJ : Hid (∀ pre W, J pre W → UsBox W sb ib x a b (.slice va n vc) l))
  (HY : Hid (∀ pre y rest W, usP x a b l = pre ++ y :: rest → J pre W → YieldAt Fence.wide 0 prog l0 #[.int .i64 y] W (yieldEnd (J (pre ++ [y])) Jx))) (hA : readB x.a a = false) (hB : readB x.b b = false) :
  Calls prog 108 #[.func (.yield l0) #[] #[], .pointer (some ⟨sb, 0, none⟩), .pointer (some ⟨ib, 0, none⟩)] w fun e W => e = .returned (.tuple #[]) ∧ (J (usP x a b l) W ∨ Jx W) := by
 obtain ⟨c0, c1, c2, c3, _, _⟩ := HJ.out _ w H0.out;have HA := hid hA;have HB := hid hB;have EA : Hid (preA x a = []) := by show _ = _; unfold preA; rw [hA]; rfl
 have EB : Hid (preB x b = []) := by show _ = _; unfold preB; rw [hB]; rfl
 have hnm : (n : Int) ≤ 9223372036854775807 := by omega
 clear hA hB
 go_enter func108, ntmps108
 go_upto_region 0 with fail
 refine us_r0ff l0 sb ib x.a x.b a b w _ _ _ _ _ _ _ _ _ _ _ _ _ _ _ _ _ _ _ _ _ _ _ _ _ _ _ _ _ _ _ _ _ _ _ _ _ _ _ _ _ _ _ _ _ _ _ c0 c1 c2 c3 HA.out HB.out ?_
 ·intro stop W y6 y7 y8 y9 y10 y11 y12 y13 y14 y15 y16 y17 y18 y19 y20 y21 y22 y23 y24 y25 y26 y27 y28 y29 y30 hst
  have HJ0 : Hid (stop = false → J (preA x a ++ (preB x b ++ [])) W) := fun _ => by rw [EA.out, EB.out, hst.2]; exact H0.out
  have HX0 : Hid (stop = true → Jx W) := fun h => by rw [hst.1] at h; cases h
  clear hst
  cases stop with
  | true =>
   go_wp2;refine bodyPost_ret (results_none rfl _ _ _) rfl ?_;exact ⟨rfl, .inr (HX0.out (by first | trivial | rfl))⟩
  | false =>
   replace HJ0 := hid (HJ0.out (by first | trivial | rfl));obtain ⟨_, _, _, _, c6, _⟩ := HJ.out _ W HJ0.out;go_wp2
   go_loopw [35] (fun vv wz => ∃ i : Nat, i ≤ n ∧ vv = .int .i64 i ∧ Hid (J (preA x a ++ (preB x b ++ (l.take i).filter (· != -1))) wz)) (fun vv _ => n - (intOf vv).toNat)
   case atStart => exact ⟨0, by omega, rfl, by simpa using HJ0⟩
   case round =>
    obtain ⟨i, hi, rfl, HI⟩ := hrel
    rename World => wz
    clear c6;obtain ⟨_, _, _, _, _, hil⟩ := HJ.out _ wz HI.out
    by_cases hin : i < n
    ·have j0 : (0 : Int) ≤ i := by omega
     have j1 : (i : Int) < n := by omega
     have hget := List.getElem?_eq_getElem (l := l) (show i < l.length by rw [← HN.out]; exact hin)
     generalize l[i]'(by rw [← HN.out]; exact hin) = y at hget
     obtain ⟨va2, vc2, hv2, _, _, h2⟩ := hil
     cases hv2
     obtain ⟨vb, vo, rfl, hc⟩ := h2 (fun e => by rw [e] at hget; simp at hget);have cx := hc i y hget;have HG := hid hget;clear hget hc h2
     cases hq : (y != -1) with
     | false =>
      have HI2 : Hid (J (preA x a ++ (preB x b ++ (l.take (i + 1)).filter (· != -1))) wz) := by
       show J _ _
       rw [filter_succ HG.out, if_neg (by simp only [hq]; simp), List.append_nil];exact HI.out
      go_wp2
      go_roundw
      case rel => exact ⟨i + 1, by omega, by simp, HI2⟩
      case measure => simp [intOf]; omega
     | true =>
      go_upto_region 4 with fail
      refine us_r4 l0 sb ib y wz _ _ _ _ _ _ _ _ _ _ _ _ _ _ _ _ _ _ _ _ _ _ _ _ _ _ _ _ _ _ _ _ _ _ _ _ _ _ _ _ _ _ _ _ _ _ (J (preA x a ++ (preB x b ++ (l.take (i + 1)).filter (· != -1)))) Jx hq ?_ ?_
      ·have hy := HY.out (preA x a ++ (preB x b ++ (l.take i).filter (· != -1))) y ((l.drop (i + 1)).filter (· != -1)) wz (by
        rw [usP_eq, filter_at HG.out, if_pos (by simpa using hq)];simp) HI.out
       have e : (preA x a ++ (preB x b ++ (l.take i).filter (· != -1))) ++ [y] = preA x a ++ (preB x b ++ (l.take (i + 1)).filter (· != -1)) := by
        rw [filter_succ HG.out, if_pos (by simpa using hq)];simp
       rw [e] at hy;exact hy
      ·intro stop W2 y39 y40 y41 y42 y43 y44 y45 h2
       have HS1 : Hid (stop = false → J (preA x a ++ (preB x b ++ (l.take (i + 1)).filter (· != -1))) W2) := h2.1;have HS2 : Hid (stop = true → Jx W2) := h2.2;clear h2 cx
       cases stop with
       | true =>
        go_wp2;refine bodyPost_ret (results_none rfl _ _ _) rfl ?_;exact ⟨rfl, .inr (HS2.out (by first | trivial | rfl))⟩
       | false =>
        go_wp2
        go_roundw
        case rel => exact ⟨i + 1, by omega, by simp, hid (HS1.out (by first | trivial | rfl))⟩
        case measure => simp [intOf]; omega
    ·obtain rfl : n = i := by omega
     have hfin : J (usP x a b l) wz := by
      have := HI.out;rw [HN.out, List.take_length] at this;exact this
     have HF := hid hfin;clear hfin hil;go_wp2;go_end0;exact ⟨rfl, .inl HF.out⟩

theorem uses1tf (l0 sb ib : Nat) (x : Sp) (a b : Int) (va : Option Addr) (n vc : Nat) (l : List Int) (w : World) (J : List Int → World → Prop) (Jx : World → Prop) (HN : Hid (n = l.length)) (hn : n * 8 ≤ 140737488355328) (H0 : Hid (J [] w))
  (HJ : Hid (∀ pre W, J pre W → UsBox W sb ib x a b (.slice va n vc) l))
  (HY : Hid (∀ pre y rest W, usP x a b l = pre ++ y :: rest → J pre W → YieldAt Fence.wide 0 prog l0 #[.int .i64 y] W (yieldEnd (J (pre ++ [y])) Jx))) (hA : readB x.a a = true) (hB : readB x.b b = false) :
  Calls prog 108 #[.func (.yield l0) #[] #[], .pointer (some ⟨sb, 0, none⟩), .pointer (some ⟨ib, 0, none⟩)] w fun e W => e = .returned (.tuple #[]) ∧ (J (usP x a b l) W ∨ Jx W) := by
 obtain ⟨c0, c1, c2, c3, _, _⟩ := HJ.out _ w H0.out;have HA := hid hA;have HB := hid hB;have EA : Hid (preA x a = [a]) := by show _ = _; unfold preA; rw [hA]; rfl
 have EB : Hid (preB x b = []) := by show _ = _; unfold preB; rw [hB]; rfl
 have hnm : (n : Int) ≤ 9223372036854775807 := by omega
 clear hA hB
 go_enter func108, ntmps108
 go_upto_region 0 with fail
 refine us_r0tf l0 sb ib x.a x.b a b w _ _ _ _ _ _ _ _ _ _ _ _ _ _ _ _ _ _ _ _ _ _ _ _ _ _ _ _ _ _ _ _ _ _ _ _ _ _ _ _ _ _ _ _ _ _ _ c0 c1 c2 c3 HA.out HB.out (J [a]) Jx (by have := HY.out [] a (preB x b ++ l.filter (· != -1)) w (by rw [usP_eq, EA.out]; rfl) H0.out; exact this) (fun W hW => by obtain ⟨_, d1, _, d3, _, _⟩ := HJ.out _ W hW; exact ⟨d1, d3⟩) ?_
 ·intro stop W y6 y7 y8 y9 y10 y11 y12 y13 y14 y15 y16 y17 y18 y19 y20 y21 y22 y23 y24 y25 y26 y27 y28 y29 y30 hst
  have HJ0 : Hid (stop = false → J (preA x a ++ (preB x b ++ [])) W) := fun h => by rw [EA.out, EB.out]; exact hst.1 h
  have HX0 : Hid (stop = true → Jx W) := hst.2;clear hst
  cases stop with
  | true =>
   go_wp2;refine bodyPost_ret (results_none rfl _ _ _) rfl ?_;exact ⟨rfl, .inr (HX0.out (by first | trivial | rfl))⟩
  | false =>
   replace HJ0 := hid (HJ0.out (by first | trivial | rfl));obtain ⟨_, _, _, _, c6, _⟩ := HJ.out _ W HJ0.out;go_wp2
   go_loopw [35] (fun vv wz => ∃ i : Nat, i ≤ n ∧ vv = .int .i64 i ∧ Hid (J (preA x a ++ (preB x b ++ (l.take i).filter (· != -1))) wz)) (fun vv _ => n - (intOf vv).toNat)
   case atStart => exact ⟨0, by omega, rfl, by simpa using HJ0⟩
   case round =>
    obtain ⟨i, hi, rfl, HI⟩ := hrel
    rename World => wz
    clear c6;obtain ⟨_, _, _, _, _, hil⟩ := HJ.out _ wz HI.out
    by_cases hin : i < n
    ·have j0 : (0 : Int) ≤ i := by omega
     have j1 : (i : Int) < n := by omega
     have hget := List.getElem?_eq_getElem (l := l) (show i < l.length by rw [← HN.out]; exact hin)
     generalize l[i]'(by rw [← HN.out]; exact hin) = y at hget
     obtain ⟨va2, vc2, hv2, _, _, h2⟩ := hil
     cases hv2
     obtain ⟨vb, vo, rfl, hc⟩ := h2 (fun e => by rw [e] at hget; simp at hget);have cx := hc i y hget;have HG := hid hget;clear hget hc h2
     cases hq : (y != -1) with
     | false =>
      have HI2 : Hid (J (preA x a ++ (preB x b ++ (l.take (i + 1)).filter (· != -1))) wz) := by
       show J _ _
       rw [filter_succ HG.out, if_neg (by simp only [hq]; simp), List.append_nil];exact HI.out
      go_wp2
      go_roundw
      case rel => exact ⟨i + 1, by omega, by simp, HI2⟩
      case measure => simp [intOf]; omega
     | true =>
      go_upto_region 4 with fail
      refine us_r4 l0 sb ib y wz _ _ _ _ _ _ _ _ _ _ _ _ _ _ _ _ _ _ _ _ _ _ _ _ _ _ _ _ _ _ _ _ _ _ _ _ _ _ _ _ _ _ _ _ _ _ (J (preA x a ++ (preB x b ++ (l.take (i + 1)).filter (· != -1)))) Jx hq ?_ ?_
      ·have hy := HY.out (preA x a ++ (preB x b ++ (l.take i).filter (· != -1))) y ((l.drop (i + 1)).filter (· != -1)) wz (by
        rw [usP_eq, filter_at HG.out, if_pos (by simpa using hq)];simp) HI.out
       have e : (preA x a ++ (preB x b ++ (l.take i).filter (· != -1))) ++ [y] = preA x a ++ (preB x b ++ (l.take (i + 1)).filter (· != -1)) := by
        rw [filter_succ HG.out, if_pos (by simpa using hq)];simp
       rw [e] at hy;exact hy
      ·intro stop W2 y39 y40 y41 y42 y43 y44 y45 h2
       have HS1 : Hid (stop = false → J (preA x a ++ (preB x b ++ (l.take (i + 1)).filter (· != -1))) W2) := h2.1;have HS2 : Hid (stop = true → Jx W2) := h2.2;clear h2 cx
       cases stop with
       | true =>
        go_wp2;refine bodyPost_ret (results_none rfl _ _ _) rfl ?_;exact ⟨rfl, .inr (HS2.out (by first | trivial | rfl))⟩
       | false =>
        go_wp2
        go_roundw
        case rel => exact ⟨i + 1, by omega, by simp, hid (HS1.out (by first | trivial | rfl))⟩
        case measure => simp [intOf]; omega
    ·obtain rfl : n = i := by omega
     have hfin : J (usP x a b l) wz := by
      have := HI.out;rw [HN.out, List.take_length] at this;exact this
     have HF := hid hfin;clear hfin hil;go_wp2;go_end0;exact ⟨rfl, .inl HF.out⟩

theorem uses1ft (l0 sb ib : Nat) (x : Sp) (a b : Int) (va : Option Addr) (n vc : Nat) (l : List Int) (w : World) (J : List Int → World → Prop) (Jx : World → Prop) (HN : Hid (n = l.length)) (hn : n * 8 ≤ 140737488355328) (H0 : Hid (J [] w))
  (HJ : Hid (∀ pre W, J pre W → UsBox W sb ib x a b (.slice va n vc) l))
  (HY : Hid (∀ pre y rest W, usP x a b l = pre ++ y :: rest → J pre W → YieldAt Fence.wide 0 prog l0 #[.int .i64 y] W (yieldEnd (J (pre ++ [y])) Jx))) (hA : readB x.a a = false) (hB : readB x.b b = true) :
  Calls prog 108 #[.func (.yield l0) #[] #[], .pointer (some ⟨sb, 0, none⟩), .pointer (some ⟨ib, 0, none⟩)] w fun e W => e = .returned (.tuple #[]) ∧ (J (usP x a b l) W ∨ Jx W) := by
 obtain ⟨c0, c1, c2, c3, _, _⟩ := HJ.out _ w H0.out;have HA := hid hA;have HB := hid hB;have EA : Hid (preA x a = []) := by show _ = _; unfold preA; rw [hA]; rfl
 have EB : Hid (preB x b = [b]) := by show _ = _; unfold preB; rw [hB]; rfl
 have hnm : (n : Int) ≤ 9223372036854775807 := by omega
 clear hA hB
 go_enter func108, ntmps108
 go_upto_region 0 with fail
 refine us_r0ft l0 sb ib x.a x.b a b w _ _ _ _ _ _ _ _ _ _ _ _ _ _ _ _ _ _ _ _ _ _ _ _ _ _ _ _ _ _ _ _ _ _ _ _ _ _ _ _ _ _ _ _ _ _ _ c0 c1 c2 c3 HA.out HB.out (J [b]) Jx (by have := HY.out [] b (l.filter (· != -1)) w (by rw [usP_eq, EA.out, EB.out]; rfl) H0.out; exact this) ?_
 ·intro stop W y6 y7 y8 y9 y10 y11 y12 y13 y14 y15 y16 y17 y18 y19 y20 y21 y22 y23 y24 y25 y26 y27 y28 y29 y30 hst
  have HJ0 : Hid (stop = false → J (preA x a ++ (preB x b ++ [])) W) := fun h => by rw [EA.out, EB.out]; exact hst.1 h
  have HX0 : Hid (stop = true → Jx W) := hst.2;clear hst
  cases stop with
  | true =>
   go_wp2;refine bodyPost_ret (results_none rfl _ _ _) rfl ?_;exact ⟨rfl, .inr (HX0.out (by first | trivial | rfl))⟩
  | false =>
   replace HJ0 := hid (HJ0.out (by first | trivial | rfl));obtain ⟨_, _, _, _, c6, _⟩ := HJ.out _ W HJ0.out;go_wp2
   go_loopw [35] (fun vv wz => ∃ i : Nat, i ≤ n ∧ vv = .int .i64 i ∧ Hid (J (preA x a ++ (preB x b ++ (l.take i).filter (· != -1))) wz)) (fun vv _ => n - (intOf vv).toNat)
   case atStart => exact ⟨0, by omega, rfl, by simpa using HJ0⟩
   case round =>
    obtain ⟨i, hi, rfl, HI⟩ := hrel
    rename World => wz
    clear c6;obtain ⟨_, _, _, _, _, hil⟩ := HJ.out _ wz HI.out
    by_cases hin : i < n
    ·have j0 : (0 : Int) ≤ i := by omega
     have j1 : (i : Int) < n := by omega
     have hget := List.getElem?_eq_getElem (l := l) (show i < l.length by rw [← HN.out]; exact hin)
     generalize l[i]'(by rw [← HN.out]; exact hin) = y at hget
     obtain ⟨va2, vc2, hv2, _, _, h2⟩ := hil
     cases hv2
     obtain ⟨vb, vo, rfl, hc⟩ := h2 (fun e => by rw [e] at hget; simp at hget);have cx := hc i y hget;have HG := hid hget;clear hget hc h2
     cases hq : (y != -1) with
     | false =>
      have HI2 : Hid (J (preA x a ++ (preB x b ++ (l.take (i + 1)).filter (· != -1))) wz) := by
       show J _ _
       rw [filter_succ HG.out, if_neg (by simp only [hq]; simp), List.append_nil];exact HI.out
      go_wp2
      go_roundw
      case rel => exact ⟨i + 1, by omega, by simp, HI2⟩
      case measure => simp [intOf]; omega
     | true =>
      go_upto_region 4 with fail
      refine us_r4 l0 sb ib y wz _ _ _ _ _ _ _ _ _ _ _ _ _ _ _ _ _ _ _ _ _ _ _ _ _ _ _ _ _ _ _ _ _ _ _ _ _ _ _ _ _ _ _ _ _ _ (J (preA x a ++ (preB x b ++ (l.take (i + 1)).filter (· != -1)))) Jx hq ?_ ?_
      ·have hy := HY.out (preA x a ++ (preB x b ++ (l.take i).filter (· != -1))) y ((l.drop (i + 1)).filter (· != -1)) wz (by
        rw [usP_eq, filter_at HG.out, if_pos (by simpa using hq)];simp) HI.out
       have e : (preA x a ++ (preB x b ++ (l.take i).filter (· != -1))) ++ [y] = preA x a ++ (preB x b ++ (l.take (i + 1)).filter (· != -1)) := by
        rw [filter_succ HG.out, if_pos (by simpa using hq)];simp
       rw [e] at hy;exact hy
      ·intro stop W2 y39 y40 y41 y42 y43 y44 y45 h2
       have HS1 : Hid (stop = false → J (preA x a ++ (preB x b ++ (l.take (i + 1)).filter (· != -1))) W2) := h2.1;have HS2 : Hid (stop = true → Jx W2) := h2.2;clear h2 cx
       cases stop with
       | true =>
        go_wp2;refine bodyPost_ret (results_none rfl _ _ _) rfl ?_;exact ⟨rfl, .inr (HS2.out (by first | trivial | rfl))⟩
       | false =>
        go_wp2
        go_roundw
        case rel => exact ⟨i + 1, by omega, by simp, hid (HS1.out (by first | trivial | rfl))⟩
        case measure => simp [intOf]; omega
    ·obtain rfl : n = i := by omega
     have hfin : J (usP x a b l) wz := by
      have := HI.out;rw [HN.out, List.take_length] at this;exact this
     have HF := hid hfin;clear hfin hil;go_wp2;go_end0;exact ⟨rfl, .inl HF.out⟩

theorem uses1tt (l0 sb ib : Nat) (x : Sp) (a b : Int) (va : Option Addr) (n vc : Nat) (l : List Int) (w : World) (J : List Int → World → Prop) (Jx : World → Prop) (HN : Hid (n = l.length)) (hn : n * 8 ≤ 140737488355328) (H0 : Hid (J [] w))
  (HJ : Hid (∀ pre W, J pre W → UsBox W sb ib x a b (.slice va n vc) l))
  (HY : Hid (∀ pre y rest W, usP x a b l = pre ++ y :: rest → J pre W → YieldAt Fence.wide 0 prog l0 #[.int .i64 y] W (yieldEnd (J (pre ++ [y])) Jx))) (hA : readB x.a a = true) (hB : readB x.b b = true) :
  Calls prog 108 #[.func (.yield l0) #[] #[], .pointer (some ⟨sb, 0, none⟩), .pointer (some ⟨ib, 0, none⟩)] w fun e W => e = .returned (.tuple #[]) ∧ (J (usP x a b l) W ∨ Jx W) := by
 obtain ⟨c0, c1, c2, c3, _, _⟩ := HJ.out _ w H0.out;have HA := hid hA;have HB := hid hB;have EA : Hid (preA x a = [a]) := by show _ = _; unfold preA; rw [hA]; rfl
 have EB : Hid (preB x b = [b]) := by show _ = _; unfold preB; rw [hB]; rfl
 have hnm : (n : Int) ≤ 9223372036854775807 := by omega
 clear hA hB
 go_enter func108, ntmps108
 go_upto_region 0 with fail
 refine us_r0tt l0 sb ib x.a x.b a b w _ _ _ _ _ _ _ _ _ _ _ _ _ _ _ _ _ _ _ _ _ _ _ _ _ _ _ _ _ _ _ _ _ _ _ _ _ _ _ _ _ _ _ _ _ _ _ c0 c1 c2 c3 HA.out HB.out (J [a]) (J [a, b]) Jx (by have := HY.out [] a (preB x b ++ l.filter (· != -1)) w (by rw [usP_eq, EA.out]; rfl) H0.out; exact this) (fun W hW => by have := HY.out [a] b (l.filter (· != -1)) W (by rw [usP_eq, EA.out, EB.out]; rfl) hW; exact this) (fun W hW => by obtain ⟨_, d1, _, d3, _, _⟩ := HJ.out _ W hW; exact ⟨d1, d3⟩) ?_
 ·intro stop W y6 y7 y8 y9 y10 y11 y12 y13 y14 y15 y16 y17 y18 y19 y20 y21 y22 y23 y24 y25 y26 y27 y28 y29 y30 hst
  have HJ0 : Hid (stop = false → J (preA x a ++ (preB x b ++ [])) W) := fun h => by rw [EA.out, EB.out]; exact hst.1 h
  have HX0 : Hid (stop = true → Jx W) := hst.2;clear hst
  cases stop with
  | true =>
   go_wp2;refine bodyPost_ret (results_none rfl _ _ _) rfl ?_;exact ⟨rfl, .inr (HX0.out (by first | trivial | rfl))⟩
  | false =>
   replace HJ0 := hid (HJ0.out (by first | trivial | rfl));obtain ⟨_, _, _, _, c6, _⟩ := HJ.out _ W HJ0.out;go_wp2
   go_loopw [35] (fun vv wz => ∃ i : Nat, i ≤ n ∧ vv = .int .i64 i ∧ Hid (J (preA x a ++ (preB x b ++ (l.take i).filter (· != -1))) wz)) (fun vv _ => n - (intOf vv).toNat)
   case atStart => exact ⟨0, by omega, rfl, by simpa using HJ0⟩
   case round =>
    obtain ⟨i, hi, rfl, HI⟩ := hrel
    rename World => wz
    clear c6;obtain ⟨_, _, _, _, _, hil⟩ := HJ.out _ wz HI.out
    by_cases hin : i < n
    ·have j0 : (0 : Int) ≤ i := by omega
     have j1 : (i : Int) < n := by omega
     have hget := List.getElem?_eq_getElem (l := l) (show i < l.length by rw [← HN.out]; exact hin)
     generalize l[i]'(by rw [← HN.out]; exact hin) = y at hget
     obtain ⟨va2, vc2, hv2, _, _, h2⟩ := hil
     cases hv2
     obtain ⟨vb, vo, rfl, hc⟩ := h2 (fun e => by rw [e] at hget; simp at hget);have cx := hc i y hget;have HG := hid hget;clear hget hc h2
     cases hq : (y != -1) with
     | false =>
      have HI2 : Hid (J (preA x a ++ (preB x b ++ (l.take (i + 1)).filter (· != -1))) wz) := by
       show J _ _
       rw [filter_succ HG.out, if_neg (by simp only [hq]; simp), List.append_nil];exact HI.out
      go_wp2
      go_roundw
      case rel => exact ⟨i + 1, by omega, by simp, HI2⟩
      case measure => simp [intOf]; omega
     | true =>
      go_upto_region 4 with fail
      refine us_r4 l0 sb ib y wz _ _ _ _ _ _ _ _ _ _ _ _ _ _ _ _ _ _ _ _ _ _ _ _ _ _ _ _ _ _ _ _ _ _ _ _ _ _ _ _ _ _ _ _ _ _ (J (preA x a ++ (preB x b ++ (l.take (i + 1)).filter (· != -1)))) Jx hq ?_ ?_
      ·have hy := HY.out (preA x a ++ (preB x b ++ (l.take i).filter (· != -1))) y ((l.drop (i + 1)).filter (· != -1)) wz (by
        rw [usP_eq, filter_at HG.out, if_pos (by simpa using hq)];simp) HI.out
       have e : (preA x a ++ (preB x b ++ (l.take i).filter (· != -1))) ++ [y] = preA x a ++ (preB x b ++ (l.take (i + 1)).filter (· != -1)) := by
        rw [filter_succ HG.out, if_pos (by simpa using hq)];simp
       rw [e] at hy;exact hy
      ·intro stop W2 y39 y40 y41 y42 y43 y44 y45 h2
       have HS1 : Hid (stop = false → J (preA x a ++ (preB x b ++ (l.take (i + 1)).filter (· != -1))) W2) := h2.1;have HS2 : Hid (stop = true → Jx W2) := h2.2;clear h2 cx
       cases stop with
       | true =>
        go_wp2;refine bodyPost_ret (results_none rfl _ _ _) rfl ?_;exact ⟨rfl, .inr (HS2.out (by first | trivial | rfl))⟩
       | false =>
        go_wp2
        go_roundw
        case rel => exact ⟨i + 1, by omega, by simp, hid (HS1.out (by first | trivial | rfl))⟩
        case measure => simp [intOf]; omega
    ·obtain rfl : n = i := by omega
     have hfin : J (usP x a b l) wz := by
      have := HI.out;rw [HN.out, List.take_length] at this;exact this
     have HF := hid hfin;clear hfin hil;go_wp2;go_end0;exact ⟨rfl, .inl HF.out⟩

theorem uses1_any (l0 sb ib : Nat) (x : Sp) (a b : Int) (va : Option Addr) (n vc : Nat) (l : List Int) (w : World) (J : List Int → World → Prop) (Jx : World → Prop) (HN : Hid (n = l.length)) (hn : n * 8 ≤ 140737488355328) (H0 : Hid (J [] w))
  (HJ : Hid (∀ pre W, J pre W → UsBox W sb ib x a b (.slice va n vc) l))
  (HY : Hid (∀ pre y rest W, usP x a b l = pre ++ y :: rest → J pre W → YieldAt Fence.wide 0 prog l0 #[.int .i64 y] W (yieldEnd (J (pre ++ [y])) Jx))) :
  Calls prog 108 #[.func (.yield l0) #[] #[], .pointer (some ⟨sb, 0, none⟩), .pointer (some ⟨ib, 0, none⟩)] w fun e W => e = .returned (.tuple #[]) ∧ (J (usP x a b l) W ∨ Jx W) := by
 cases hA : readB x.a a <;> cases hB : readB x.b b
 ·exact uses1ff l0 sb ib x a b va n vc l w J Jx HN hn H0 HJ HY hA hB
 ·exact uses1ft l0 sb ib x a b va n vc l w J Jx HN hn H0 HJ HY hA hB
 ·exact uses1tf l0 sb ib x a b va n vc l w J Jx HN hn H0 HJ HY hA hB
 ·exact uses1tt l0 sb ib x a b va n vc l w J Jx HN hn H0 HJ HY hA hB

theorem succs1_any (l0 ib : Nat) (op s t : Int) (w : World) (J : List Int → World → Prop) (Jx : World → Prop) (H0 : Hid (J [] w)) (HJ : Hid (∀ pre W, J pre W → SuBox W ib op s t))
  (HY : Hid (∀ pre y rest W, succsF op s t = pre ++ y :: rest → J pre W → YieldAt Fence.wide 0 prog l0 #[.int .i64 y] W (yieldEnd (J (pre ++ [y])) Jx))) :
  Calls prog 104 #[.func (.yield l0) #[] #[], .pointer (some ⟨ib, 0, none⟩)] w fun e W => e = .returned (.tuple #[]) ∧ (J (succsF op s t) W ∨ Jx W) := by
 obtain ⟨c0, c7, c8⟩ := HJ.out _ w H0.out
 by_cases h12 : op = 12
 ·subst h12
  go_enter func104, ntmps104
  go_wp2;refine bodyPost_ret (results_none rfl _ _ _) rfl ?_;exact ⟨rfl, .inl H0.out⟩
 ·have q12 : (op == 12) = false := by simpa using h12
  have E1 : Hid (op = 11 → succsF op s t = [s, t]) := fun h => by unfold succsF; rw [if_neg h12, if_pos h]
  have E2 : Hid (op ≠ 11 → succsF op s t = [s]) := fun h => by unfold succsF; rw [if_neg h12, if_neg h]
  have HY1 : YieldAt Fence.wide 0 prog l0 #[.int .i64 s] w (yieldEnd (J [s]) Jx) := by
   by_cases h : op = 11
   ·exact HY.out [] s [t] w (E1.out h) H0.out
   ·exact HY.out [] s [] w (E2.out h) H0.out
  clear h12
  go_enter func104, ntmps104
  go_upto_region 1 with fail
  refine su_r1 l0 ib op s w _ _ _ _ _ _ _ _ _ _ _ _ _ _ _ _ _ _ _ (J [s]) Jx c7 (fun W hW => (HJ.out _ W hW).1) HY1 ?_;intro go W y6 y7 y8 y9 y10 y11 y12 y13 hgo;have HG := hid hgo;clear hgo HY1
  by_cases h11 : op = 11
  ·have q : (op == 11) = true := by simpa using h11
   cases go with
   | true =>
    have HJ1 : Hid (J [s] W) := by
     rcases HG.out with h | h
     ·exact h.1
     ·exact absurd h.2 (by simp)
    have HY2 : YieldAt Fence.wide 0 prog l0 #[.int .i64 t] W (yieldEnd (J [s, t]) Jx) := HY.out [s] t [] W (E1.out h11) HJ1.out;have d8 := (HJ.out _ W HJ1.out).2.2;have ES := hid (E1.out h11);clear h11 c0 c7 c8
    go_upto_region 2 with fail
    refine su_r2 l0 ib t W _ _ _ _ _ _ _ _ _ _ _ _ _ _ _ _ _ _ (J [s, t]) Jx d8 HY2 ?_;intro W2 y15 y16 y17 y18 h2;have H2 := hid h2;clear h2 d8 HY2;go_wp2;go_end0;refine ⟨rfl, ?_⟩;rw [ES.out];exact H2.out
   | false =>
    have HX : Hid (Jx W) := by
     rcases HG.out with h | h
     ·exact absurd h.2 (by rw [q]; simp)
     ·exact h.1
    clear h11;go_wp2;go_end0;exact ⟨rfl, .inr HX.out⟩
  ·have q : (op == 11) = false := by simpa using h11
   have ES := hid (E2.out h11)
   have HG2 : Hid (go = false ∧ (J [s] W ∨ Jx W)) := by
    rcases HG.out with h | h
    ·exact ⟨by rw [h.2, q], .inl h.1⟩
    ·exact ⟨h.2, .inr h.1⟩
   obtain rfl := HG2.out.1;clear h11;go_wp2;go_end0;refine ⟨rfl, ?_⟩;rw [ES.out];exact HG2.out.2
end Go.Proofs.YtncondlfngeilaaGreatDoor
