import Derived.Test.YtlonbaefdffbeaaGreatDoorLWord1
namespace Go.Proofs.YtlonbaefdffbeaaGreatDoor
open Go.ChangeShapes Go.WideShapes Go.ChangeAt Go.RowKit Go.Proofs.Tryz
set_option linter.unusedSimpArgs false
set_option linter.unusedVariables false
set_option maxRecDepth 100000
set_option maxHeartbeats 8000000

structure WW where
 k : Int
 s : ByteArray
 n : Int
def noWW : WW := ⟨0, ⟨#[]⟩, 0⟩
def wordV (x : WW) : Value := .agg #[.int .i64 x.k, .string x.s, .int .i64 x.n, .int .i64 0, .int .i64 0]
def retW (x : WW) (ok : Bool) (w : World) : Ending → World → Prop := fun e w' => e = .returned (.tuple #[wordV x, .bool ok]) ∧ Below w.heap.size w w'
theorem end_W {P : Program} {fn : Func} {a : Act} {w w' : World} {x : WW} {ok : Bool} (hr : (results fn a.tmps).run P w' = .ok (.tuple #[.agg #[.int .i64 x.k, .string x.s, .int .i64 x.n, .int .i64 0, .int .i64 0], .bool ok]) w') (hd : a.defers = []) (hb : Below w.heap.size w w') :
  bodyPost P fn (retW x ok w) .ret a w' := bodyPost_ret hr hd ⟨rfl, hb⟩
def markR (t : ByteArray) : Option ByteArray := mkList.find? (fun m => Lib.hasPrefix t.data.toList m.data.toList)


theorem info59 : (prog.info? 143).map (·.size) = some 31 := by kernel_rfl
theorem mk_at (i : Nat) (hi : i < 31) (w : World) (ms : List Value) (hm : ms = mkList.map Value.string) : (Instr.index 143 (.agg ms.toArray) (.int .i64 (i : Int))).run prog w = .ok (.string (mkList[i]'hi)) w := by
 subst hm;exact mk_index i hi w
theorem markWord_walk (t : ByteArray) (w : World) (ms : List Value) (R : Ending → World → Prop) (HV : Hid (w.rangeAt 1 0 ms)) (HM : Hid (ms = mkList.map Value.string)) (g0 : 1 < w.heap.size) (HR1 : Hid (∀ m, markR t = some m → R = retW ⟨4, m, 0⟩ true w)) (HR0 : Hid (markR t = none → R = retW noWW false w)) :
  Calls prog 84 #[.string t] w R := by
 have HV2 : Hid ((w.alloc (.cells #[.int .i64 0, .string ⟨#[]⟩, .int .i64 0, .int .i64 0, .int .i64 0] 93)).rangeAt 1 0 ms) := fun j v hv => keep_cell ((Below.refl _ w).alloc (Nat.le_refl _) _) (HV.out j v hv)
 have HSZ : Hid ((prog.info? 143).map (·.size) = some ms.length) := by
  have h : ms.length = 31 := by rw [HM.out]; rfl
  have h2 := info59;rw [← h] at h2;exact h2
 have un59 := underlying143
 go_enter func84, ntmps84
 go_upto_region 1 with fail
 iterate 1 go_step
 refine wpList_load_mid (by rfl) 143 _ (by rfl) 1 0 (by rfl) ms (.array 31 9) HV2.out un59 (by rfl) HSZ.out ?_;clear un59;go_wp2
 go_loopw [7] (fun v wr => ∃ i : Nat, i ≤ 31 ∧ v = .int .i64 i ∧ Hid (∀ (j : Nat) (hj : j < mkList.length), j < i → Lib.hasPrefix t.data.toList (mkList[j]).data.toList = false) ∧ wr = w.alloc (.cells #[.int .i64 0, .string ⟨#[]⟩, .int .i64 0, .int .i64 0, .int .i64 0] 93)) (fun v _ => 31 - (intOf v).toNat)
 case atStart => exact ⟨0, by omega, rfl, fun j hj h => absurd h (by omega), by first | rfl | trivial⟩
 case round =>
  obtain ⟨i, hi, rfl, HK, rfl⟩ := hrel
  by_cases hin : i < 31
  ·have ix := fun W => mk_at i hin W ms HM.out
   have i0 : (0 : Int) ≤ i := by omega
   have i1 : (i : Int) < 31 := by omega
   obtain ⟨kk, hkk⟩ : ∃ kk, mkList[i]'hin = kk := ⟨_, rfl⟩;rw [hkk] at ix;have HKK : Hid (mkList[i]'hin = kk) := hkk;clear hkk
   cases he : Lib.hasPrefix t.data.toList kk.data.toList with
   | true =>
    have HF : Hid (R = retW ⟨4, kk, 0⟩ true w) := by
     have hf : markR t = some kk := by
      unfold markR;rw [List.find?_eq_some_iff_getElem];exact ⟨he, i, hin, HKK.out, fun j hj => by rw [HK.out j (Nat.lt_trans hj hin) hj]; rfl⟩
     exact HR1.out kk hf
    have HC : Hid (∀ W, Calls prog 114 #[.string t, .string kk] W fun e w' => e = .returned (.bool true) ∧ w' = W) := fun W => by have := Tryz.strings_HasPrefix t kk W; rw [he] at this; exact this
    clear he HK HKK HV2 HV HM HSZ
    go_wp2_with (go_at_call 114; refine (HC.out _).mono ?_; rintro e w' ⟨rfl, hw'⟩; replace hw' := hw'.symm; subst hw')
    rw [HF.out];exact end_W (by simp [results, results84, go_sem]) rfl (by repeat (first | with_reducible exact Below.refl _ _ | with_reducible refine bel_alloc ?_ _ | with_reducible refine bel_set ?_ (by first | exact Nat.le_refl _ | (simp; done) | (simp; omega)) _ | with_reducible refine Below.drew ?_ | refine bel_trans ?_ (by assumption)))
   | false =>
    have HN : Hid (∀ (j : Nat) (hj : j < mkList.length), j < i + 1 → Lib.hasPrefix t.data.toList (mkList[j]).data.toList = false) := fun j hj h => by
     by_cases e : j = i
     ·subst e
      rw [show mkList[j] = kk from HKK.out];exact he
     ·exact HK.out j hj (by omega)
    have HC : Hid (∀ W, Calls prog 114 #[.string t, .string kk] W fun e w' => e = .returned (.bool false) ∧ w' = W) := fun W => by have := Tryz.strings_HasPrefix t kk W; rw [he] at this; exact this
    clear he
    go_wp2_with (go_at_call 114; refine (HC.out _).mono ?_; rintro e w' ⟨rfl, hw'⟩; replace hw' := hw'.symm; subst hw')
    go_roundw
    case rel => exact ⟨i + 1, by omega, by simp, HN, by first | rfl | trivial⟩
    case measure => simp [intOf]; omega
  ·have hie : i = 31 := by omega
   subst hie
   have HF : Hid (R = retW noWW false w) := by
    have hf : markR t = none := by
     unfold markR;rw [List.find?_eq_none];intro x hx;obtain ⟨j, hj, rfl⟩ := List.getElem_of_mem hx;rw [HK.out j hj hj];simp
    exact HR0.out hf
   go_wp2;rw [HF.out];exact end_W (by simp [results, results84, go_sem, noWW]) rfl (by repeat (first | with_reducible exact Below.refl _ _ | with_reducible refine bel_alloc ?_ _ | with_reducible refine bel_set ?_ (by first | exact Nat.le_refl _ | (simp; done) | (simp; omega)) _ | with_reducible refine Below.drew ?_ | refine bel_trans ?_ (by assumption)))
def markW (t : ByteArray) : WW × Bool := match markR t with
 | some m => (⟨4, m, 0⟩, true)
 | none => (noWW, false)
theorem markWord_any (t : ByteArray) (w : World) (h : LexTab w) : Calls prog 84 #[.string t] w (retW (markW t).1 (markW t).2 w) := by
 refine markWord_walk t w (mkList.map Value.string) _ (fun j v hv => ?_) rfl ?_ (fun m hm => ?_) (fun hm => ?_)
 ·have hj : j < 31 := by
   have := (List.getElem?_eq_some_iff.1 hv).1;rw [List.length_map] at this;exact this
  rw [List.getElem?_map] at hv;rw [Nat.zero_add, h.ms j hj];exact hv
 ·exact block_lt_of_cell (a := ⟨1, 0, none⟩) (v := .string ⟨#[45, 62]⟩) (h.ms 0 (by omega))
 ·simp [markW, hm]
 ·simp [markW, hm]


theorem clone_any (s : ByteArray) (w : World) (hlim : s.size ≤ 281474976710656) : Calls prog 116 #[.string s] w (retP (.string s) w) := by
 have HC : Hid (∀ W, Calls prog 133 #[.string s] W (retP (.string s) W)) := fun W => Tryz.stringslite_Clone s W hlim
 go_enter func116, ntmps116
 go_wp2_with (go_at_call 133; refine (HC.out _).mono ?_; rintro e w1 ⟨rfl, hb1⟩)
 go_ret;exact ⟨rfl, hb1⟩
def isKw (s : ByteArray) : Bool := kwList.any (fun k => k.toList == s.toList)
def nameW (s : ByteArray) : WW × Bool := if 40 < s.size then (noWW, false) else (⟨if isKw s = true then 3 else 1, s, 0⟩, true)
theorem nameWord_any (s : ByteArray) (w : World) (h : LexTab w) : Calls prog 88 #[.string s] w (retW (nameW s).1 (nameW s).2 w) := by
 by_cases hl : 40 < s.size
 ·have e : nameW s = (noWW, false) := by simp [nameW, hl]
  rw [e];have l1 : (40 : Int) < (s.size : Int) := by omega
  clear h e hl
  go_enter func88, ntmps88
  go_wp2;exact end_W (by simp [results, results88, go_sem, noWW]) rfl (by repeat (first | with_reducible exact Below.refl _ _ | with_reducible refine bel_alloc ?_ _ | with_reducible refine bel_set ?_ (by first | exact Nat.le_refl _ | (simp; done) | (simp; omega)) _ | with_reducible refine Below.drew ?_ | refine bel_trans ?_ (by assumption)))
 ·have l1 : ¬ (40 : Int) < (s.size : Int) := by omega
  have l2 : s.size ≤ 281474976710656 := by omega
  have HC : Hid (∀ W, Calls prog 116 #[.string s] W (retP (.string s) W)) := fun W => clone_any s W l2;have HK : Hid (∀ W, Below w.heap.size w W → Calls prog 117 #[.string s] W fun e w' => e = .returned (.bool (isKw s)) ∧ w' = W) := fun W hW => isKeyword_any s W (h.keep hW)
  cases hk : isKw s with
  | true =>
   have e : nameW s = (⟨3, s, 0⟩, true) := by simp [nameW, hl, hk]
   rw [e];rw [hk] at HK;clear h e hl hk l2
   go_enter func88, ntmps88
   go_wp2_with (first
    | (go_at_call 117; refine (HK.out _ (by repeat (first | with_reducible exact Below.refl _ _ | with_reducible refine bel_alloc ?_ _ | with_reducible refine bel_set ?_ (by first | exact Nat.le_refl _ | (simp; done) | (simp; omega)) _ | with_reducible refine Below.drew ?_ | refine bel_trans ?_ (by assumption)))).mono ?_; rintro e w' ⟨rfl, hw'⟩; replace hw' := hw'.symm; subst hw')
    | (go_at_call 116; refine (HC.out _).mono ?_; rintro e w1 ⟨rfl, hb1⟩; have c0 := keep_cell hb1 (p := ⟨w.heap.size, 0, none⟩) (v := .int .i64 0) (by go_simp); have c1 := keep_cell hb1 (p := ⟨w.heap.size, 1, none⟩) (v := .string ⟨#[]⟩) (by go_simp); have c2 := keep_cell hb1 (p := ⟨w.heap.size, 2, none⟩) (v := .int .i64 0) (by go_simp); have c3 := keep_cell hb1 (p := ⟨w.heap.size, 3, none⟩) (v := .int .i64 0) (by go_simp); have c4 := keep_cell hb1 (p := ⟨w.heap.size, 4, none⟩) (v := .int .i64 0) (by go_simp); have f0 := keep_frozen hb1 (p := ⟨w.heap.size, 0, none⟩) (v := .int .i64 0) (by go_simp) (by go_simp); have f1 := keep_frozen hb1 (p := ⟨w.heap.size, 1, none⟩) (v := .string ⟨#[]⟩) (by go_simp) (by go_simp); have f2 := keep_frozen hb1 (p := ⟨w.heap.size, 2, none⟩) (v := .int .i64 0) (by go_simp) (by go_simp); have f3 := keep_frozen hb1 (p := ⟨w.heap.size, 3, none⟩) (v := .int .i64 0) (by go_simp) (by go_simp); have f4 := keep_frozen hb1 (p := ⟨w.heap.size, 4, none⟩) (v := .int .i64 0) (by go_simp) (by go_simp)))
   exact end_W (by simp [results, results88, go_sem, c0, c1, c2, c3, c4]) rfl (by repeat (first | with_reducible exact Below.refl _ _ | with_reducible refine bel_alloc ?_ _ | with_reducible refine bel_set ?_ (by first | exact Nat.le_refl _ | (simp; done) | (simp; omega)) _ | with_reducible refine Below.drew ?_ | refine bel_trans ?_ (by assumption)))
  | false =>
   have e : nameW s = (⟨1, s, 0⟩, true) := by simp [nameW, hl, hk]
   rw [e];rw [hk] at HK;clear h e hl hk l2
   go_enter func88, ntmps88
   go_wp2_with (first
    | (go_at_call 117; refine (HK.out _ (by repeat (first | with_reducible exact Below.refl _ _ | with_reducible refine bel_alloc ?_ _ | with_reducible refine bel_set ?_ (by first | exact Nat.le_refl _ | (simp; done) | (simp; omega)) _ | with_reducible refine Below.drew ?_ | refine bel_trans ?_ (by assumption)))).mono ?_; rintro e w' ⟨rfl, hw'⟩; replace hw' := hw'.symm; subst hw')
    | (go_at_call 116; refine (HC.out _).mono ?_; rintro e w1 ⟨rfl, hb1⟩; have c0 := keep_cell hb1 (p := ⟨w.heap.size, 0, none⟩) (v := .int .i64 0) (by go_simp); have c1 := keep_cell hb1 (p := ⟨w.heap.size, 1, none⟩) (v := .string ⟨#[]⟩) (by go_simp); have c2 := keep_cell hb1 (p := ⟨w.heap.size, 2, none⟩) (v := .int .i64 0) (by go_simp); have c3 := keep_cell hb1 (p := ⟨w.heap.size, 3, none⟩) (v := .int .i64 0) (by go_simp); have c4 := keep_cell hb1 (p := ⟨w.heap.size, 4, none⟩) (v := .int .i64 0) (by go_simp); have f0 := keep_frozen hb1 (p := ⟨w.heap.size, 0, none⟩) (v := .int .i64 0) (by go_simp) (by go_simp); have f1 := keep_frozen hb1 (p := ⟨w.heap.size, 1, none⟩) (v := .string ⟨#[]⟩) (by go_simp) (by go_simp); have f2 := keep_frozen hb1 (p := ⟨w.heap.size, 2, none⟩) (v := .int .i64 0) (by go_simp) (by go_simp); have f3 := keep_frozen hb1 (p := ⟨w.heap.size, 3, none⟩) (v := .int .i64 0) (by go_simp) (by go_simp); have f4 := keep_frozen hb1 (p := ⟨w.heap.size, 4, none⟩) (v := .int .i64 0) (by go_simp) (by go_simp)))
   exact end_W (by simp [results, results88, go_sem, c0, c1, c2, c3, c4]) rfl (by repeat (first | with_reducible exact Below.refl _ _ | with_reducible refine bel_alloc ?_ _ | with_reducible refine bel_set ?_ (by first | exact Nat.le_refl _ | (simp; done) | (simp; omega)) _ | with_reducible refine Below.drew ?_ | refine bel_trans ?_ (by assumption)))

end Go.Proofs.YtlonbaefdffbeaaGreatDoor
