
import Derived.Test.YtncondlfngeilaaGreatDoorTzA
import Derived.Test.YtncondlfngeilaaGreatDoorRRight
namespace Go.Proofs.YtncondlfngeilaaGreatDoor
open Go.ChangeShapes Go.WideShapes Go.ChangeAt Go.RowKit Go.Proofs.Tryz
set_option linter.unusedSimpArgs false
set_option linter.unusedVariables false
set_option maxRecDepth 100000
set_option maxHeartbeats 40000000

theorem CodeAt.parts {w : World} {v : Value} {l : List Ins} (h : CodeAt w v l) : ∃ (a : Option Addr) (cap b off : Nat), v = .slice a l.length cap ∧ l.length * 88 ≤ 140737488355328 ∧ (0 < l.length → a = some ⟨b, off, none⟩) ∧ ∀ (i : Nat) x, l[i]? = some x → InsAt w b (off + i * 9) x := by
 obtain ⟨a, cap, hv, h1, h0, h2⟩ := h
 by_cases hl : l = []
 ·exact ⟨a, cap, 0, 0, hv, h1, (fun h => by rw [hl] at h; simp at h), fun i x hx => by rw [hl] at hx; simp at hx⟩
 ·obtain ⟨b, off, e, hc⟩ := h2 hl
  exact ⟨a, cap, b, off, hv, h1, fun _ => e, hc⟩
theorem FnsAt.parts {w : World} {v : Value} {l : List Fn} (h : FnsAt w v l) : ∃ (a : Option Addr) (cap b off : Nat), v = .slice a l.length cap ∧ l.length * 88 ≤ 140737488355328 ∧ (0 < l.length → a = some ⟨b, off, none⟩) ∧ ∀ (i : Nat) x, l[i]? = some x → FnAt w b (off + i * 6) x := by
 obtain ⟨a, cap, hv, h1, h0, h2⟩ := h
 by_cases hl : l = []
 ·exact ⟨a, cap, 0, 0, hv, h1, (fun h => by rw [hl] at h; simp at h), fun i x hx => by rw [hl] at hx; simp at hx⟩
 ·obtain ⟨b, off, e, hc⟩ := h2 hl
  exact ⟨a, cap, b, off, hv, h1, fun _ => e, hc⟩
theorem fn_box {name : ByteArray} {pa ca : Option Addr} {np pcap n cap : Nat} {regs frame entry : Int} {w W : World} (hb : Below (w.alloc (.cells #[.string name, .slice pa np pcap, .int .i64 regs, .int .i64 frame, .int .i64 entry, .slice ca n cap] 25 (0, 0))).heap.size (w.alloc (.cells #[.string name, .slice pa np pcap, .int .i64 regs, .int .i64 frame, .int .i64 entry, .slice ca n cap] 25 (0, 0))) W) :
  W.cell? ⟨w.heap.size, 0, none⟩ = some (.string name) ∧ W.cell? ⟨w.heap.size, 1, none⟩ = some (.slice pa np pcap) ∧ W.cell? ⟨w.heap.size, 2, none⟩ = some (.int .i64 regs) ∧ W.cell? ⟨w.heap.size, 3, none⟩ = some (.int .i64 frame) ∧ W.cell? ⟨w.heap.size, 4, none⟩ = some (.int .i64 entry) ∧ W.cell? ⟨w.heap.size, 5, none⟩ = some (.slice ca n cap) := by
 refine ⟨keep_cell hb (by simp), keep_cell hb (by simp), keep_cell hb (by simp), keep_cell hb (by simp), keep_cell hb (by simp), keep_cell hb (by simp)⟩
theorem nodup_get {l : List Int} : l.Nodup ↔ ∀ (i j : Nat) x y, i < j → l[i]? = some x → l[j]? = some y → x ≠ y := by
 unfold List.Nodup;rw [List.pairwise_iff_getElem]
 constructor
 ·intro h i j x y hij hx hy
  obtain ⟨hi, rfl⟩ := List.getElem?_eq_some_iff.1 hx;obtain ⟨hj, rfl⟩ := List.getElem?_eq_some_iff.1 hy;exact h i j hi hj hij
 ·intro h i j hi hj hij
  exact h i j _ _ hij (List.getElem?_eq_getElem hi) (List.getElem?_eq_getElem hj)
def headL (regs frame entry n : Int) : Bool := decide (regs < 0) || (decide (5000 < regs) || (decide (5000 < n) || (decide (entry < 0) || (decide (n ≤ entry) || (decide (frame < 0) || decide (65536 < frame))))))
def parF (regs : Int) (l : List Int) : Bool := l.all (inB regs) && decide l.Nodup
def RightF (f : Fn) : Bool := !headL f.regs f.frame f.entry f.code.length && (parF f.regs f.params && f.code.all (rightF f.regs f.frame f.code.length))

theorem Right_walk (name : ByteArray) (pa ca : Option Addr) (np pcap n cap pb po cb co : Nat) (regs frame entry : Int) (params : List Int) (code : List Ins) (par cod r : Bool) (cf : Ins → Bool) (w : World)
  (hn : n * 88 ≤ 140737488355328) (hp : np * 8 ≤ 140737488355328) (HN : Hid (n = code.length)) (HNP : Hid (np = params.length)) (HPA : Hid (0 < np → pa = some ⟨pb, po, none⟩)) (HCA : Hid (0 < n → ca = some ⟨cb, co, none⟩))
  (HPC : Hid (∀ (i : Nat) x, params[i]? = some x → w.cell? ⟨pb, po + i, none⟩ = some (.int .i64 x)))
  (HCC : Hid (∀ (i : Nat) x, code[i]? = some x → InsAt w cb (co + i * 9) x))
  (HP1 : Hid (∀ (i : Nat) x, params[i]? = some x → inB regs x = false → par = false))
  (HP2 : Hid (∀ (i j : Nat) x, i < j → params[i]? = some x → params[j]? = some x → par = false))
  (HP3 : Hid ((∀ (i : Nat) x, i < np → params[i]? = some x → inB regs x = true) → (∀ (i j : Nat) x y, i < j → j < np → params[i]? = some x → params[j]? = some y → x ≠ y) → par = true))
  (HC1 : Hid (∀ (i : Nat) x, code[i]? = some x → cf x = false → cod = false))
  (HC3 : Hid ((∀ (i : Nat) x, i < n → code[i]? = some x → cf x = true) → cod = true))
  (HR1 : Hid (∀ W (i : Nat) x v, Below (w.alloc (.cells #[.string name, .slice pa np pcap, .int .i64 regs, .int .i64 frame, .int .i64 entry, .slice ca n cap] 25 (0, 0))).heap.size (w.alloc (.cells #[.string name, .slice pa np pcap, .int .i64 regs, .int .i64 frame, .int .i64 entry, .slice ca n cap] 25 (0, 0))) W → code[i]? = some x → IL W v x.args → Calls prog 19 #[.agg #[.string name, .slice pa np pcap, .int .i64 regs, .int .i64 frame, .int .i64 entry, .slice ca n cap], .agg #[.int .i64 x.op, .int .i64 x.sub, .int .i64 x.a, .int .i64 x.b, .int .i64 x.d, .int .i64 x.k, v, .int .i64 x.s, .int .i64 x.t]] W (retP (.bool (cf x)) W)))
  (HE : Hid (r = (!headL regs frame entry n && (par && cod)))) :
  Calls prog 8 #[.agg #[.string name, .slice pa np pcap, .int .i64 regs, .int .i64 frame, .int .i64 entry, .slice ca n cap]] w (retP (.bool r) w) := by
 by_cases h0 : regs < 0
 ·have q0 : decide (regs < 0) = true := by simpa using h0
  have er : r = false := by rw [HE.out]; simp [headL, h0]
  subst er;clear h0
  go_enter func8, ntmps8
  go_wp2;go_ret;exact ⟨rfl, (by repeat (first | with_reducible exact Below.refl _ _ | with_reducible refine bel_alloc ?_ _ | with_reducible refine bel_set ?_ (by first | exact Nat.le_refl _ | (simp; done) | (simp; omega)) _ | with_reducible refine Below.drew ?_ | refine bel_trans ?_ (by assumption)))⟩
 have q0 : decide (regs < 0) = false := by simpa using h0
 have HQ0 : Hid (¬ (regs < 0)) := h0;clear h0
 by_cases h1 : 5000 < regs
 ·have q1 : decide (5000 < regs) = true := by simpa using h1
  have er : r = false := by rw [HE.out]; simp [headL, h1]
  subst er;clear h1
  go_enter func8, ntmps8
  go_wp2;go_ret;exact ⟨rfl, (by repeat (first | with_reducible exact Below.refl _ _ | with_reducible refine bel_alloc ?_ _ | with_reducible refine bel_set ?_ (by first | exact Nat.le_refl _ | (simp; done) | (simp; omega)) _ | with_reducible refine Below.drew ?_ | refine bel_trans ?_ (by assumption)))⟩
 have q1 : decide (5000 < regs) = false := by simpa using h1
 have HQ1 : Hid (¬ (5000 < regs)) := h1;clear h1
 by_cases h2 : 5000 < (n : Int)
 ·have q2 : decide (5000 < (n : Int)) = true := by simpa using h2
  have er : r = false := by rw [HE.out]; simp [headL, h2]
  subst er;clear h2
  go_enter func8, ntmps8
  go_wp2;go_ret;exact ⟨rfl, (by repeat (first | with_reducible exact Below.refl _ _ | with_reducible refine bel_alloc ?_ _ | with_reducible refine bel_set ?_ (by first | exact Nat.le_refl _ | (simp; done) | (simp; omega)) _ | with_reducible refine Below.drew ?_ | refine bel_trans ?_ (by assumption)))⟩
 have q2 : decide (5000 < (n : Int)) = false := by simpa using h2
 have HQ2 : Hid (¬ (5000 < (n : Int))) := h2;clear h2
 by_cases h3 : entry < 0
 ·have q3 : decide (entry < 0) = true := by simpa using h3
  have er : r = false := by rw [HE.out]; simp [headL, h3]
  subst er;clear h3
  go_enter func8, ntmps8
  go_wp2;go_ret;exact ⟨rfl, (by repeat (first | with_reducible exact Below.refl _ _ | with_reducible refine bel_alloc ?_ _ | with_reducible refine bel_set ?_ (by first | exact Nat.le_refl _ | (simp; done) | (simp; omega)) _ | with_reducible refine Below.drew ?_ | refine bel_trans ?_ (by assumption)))⟩
 have q3 : decide (entry < 0) = false := by simpa using h3
 have HQ3 : Hid (¬ (entry < 0)) := h3;clear h3
 by_cases h4 : (n : Int) ≤ entry
 ·have q4 : decide ((n : Int) ≤ entry) = true := by simpa using h4
  have er : r = false := by rw [HE.out]; simp [headL, h4]
  subst er;clear h4
  go_enter func8, ntmps8
  go_wp2;go_ret;exact ⟨rfl, (by repeat (first | with_reducible exact Below.refl _ _ | with_reducible refine bel_alloc ?_ _ | with_reducible refine bel_set ?_ (by first | exact Nat.le_refl _ | (simp; done) | (simp; omega)) _ | with_reducible refine Below.drew ?_ | refine bel_trans ?_ (by assumption)))⟩
 have q4 : decide ((n : Int) ≤ entry) = false := by simpa using h4
 have HQ4 : Hid (¬ ((n : Int) ≤ entry)) := h4;clear h4
 by_cases h5 : frame < 0
 ·have q5 : decide (frame < 0) = true := by simpa using h5
  have er : r = false := by rw [HE.out]; simp [headL, h5]
  subst er;clear h5
  go_enter func8, ntmps8
  go_wp2;go_ret;exact ⟨rfl, (by repeat (first | with_reducible exact Below.refl _ _ | with_reducible refine bel_alloc ?_ _ | with_reducible refine bel_set ?_ (by first | exact Nat.le_refl _ | (simp; done) | (simp; omega)) _ | with_reducible refine Below.drew ?_ | refine bel_trans ?_ (by assumption)))⟩
 have q5 : decide (frame < 0) = false := by simpa using h5
 have HQ5 : Hid (¬ (frame < 0)) := h5;clear h5
 by_cases h6 : 65536 < frame
 ·have q6 : decide (65536 < frame) = true := by simpa using h6
  have er : r = false := by rw [HE.out]; simp [headL, h6]
  subst er;clear h6
  go_enter func8, ntmps8
  go_wp2;go_ret;exact ⟨rfl, (by repeat (first | with_reducible exact Below.refl _ _ | with_reducible refine bel_alloc ?_ _ | with_reducible refine bel_set ?_ (by first | exact Nat.le_refl _ | (simp; done) | (simp; omega)) _ | with_reducible refine Below.drew ?_ | refine bel_trans ?_ (by assumption)))⟩
 have q6 : decide (65536 < frame) = false := by simpa using h6
 have HQ6 : Hid (¬ (65536 < frame)) := h6;clear h6;have HE1 : Hid (r = (par && cod)) := by show _ = _; rw [HE.out]; simp only [headL, q0, q1, q2, q3, q4, q5, q6]; rfl
 clear HE;have HB0 : Hid (∀ (i : Nat) x, params[i]? = some x → inB regs x = false → r = false) := fun i x h1 h2 => by rw [HE1.out, HP1.out i x h1 h2]; rfl
 have HB2 : Hid (∀ (i j : Nat) x, i < j → params[i]? = some x → params[j]? = some x → r = false) := fun i j x h0 h1 h2 => by rw [HE1.out, HP2.out i j x h0 h1 h2]; rfl
 have hpm : (np : Int) ≤ 9223372036854775807 := by omega
 have hnm : (n : Int) ≤ 9223372036854775807 := by omega
 go_enter func8, ntmps8
 go_wp2
 go_loopw [3] (fun vv wz => ∃ i : Nat, i ≤ np ∧ vv = .int .i64 i ∧ Hid (∀ (j : Nat) x, j < i → params[j]? = some x → inB regs x = true) ∧ Hid (∀ (k j : Nat) x y, k < j → j < i → params[k]? = some x → params[j]? = some y → x ≠ y) ∧ Hid (Below (w.alloc (.cells #[.string name, .slice pa np pcap, .int .i64 regs, .int .i64 frame, .int .i64 entry, .slice ca n cap] 25 (0, 0))).heap.size (w.alloc (.cells #[.string name, .slice pa np pcap, .int .i64 regs, .int .i64 frame, .int .i64 entry, .slice ca n cap] 25 (0, 0))) wz)) (fun vv _ => np - (intOf vv).toNat)
 case atStart => exact ⟨0, by omega, rfl, fun j x hj => by omega, fun k j x y h1 h2 => by omega, Below.refl _ _⟩
 case round =>
  obtain ⟨i, hi, rfl, HI, HJ, HBz⟩ := hrel
  rename World => wz
  obtain ⟨f0, f1, f2, f3, f4, f5⟩ := fn_box HBz.out
  by_cases hin : i < np
  ·obtain rfl := HPA.out (by omega)
   have j0 : (0 : Int) ≤ i := by omega
   have j1 : (i : Int) < np := by omega
   have hget := List.getElem?_eq_getElem (l := params) (show i < params.length by rw [← HNP.out]; exact hin)
   generalize params[i]'(by rw [← HNP.out]; exact hin) = x at hget
   have cx := keep_cell HBz.out (keep_alloc (HPC.out i x hget) _);have HG : Hid (params[i]? = some x) := hget;clear hget
   by_cases hx0 : x < 0
   ·have q0 : decide (x < 0) = true := by simpa using hx0
    have er : r = false := HB0.out i x HG.out (by simp [inB, q0]);subst er;clear hx0;go_wp2_with fail
    go_quiet (fail)
    go_wp2;go_ret;exact ⟨rfl, (bel_trans (bel_alloc (Below.refl _ _) _) (bel_drewN HBz.out _))⟩
   ·have q0 : decide (x < 0) = false := by simpa using hx0
    clear hx0
    by_cases hx1 : regs ≤ x
    ·have q1 : decide (regs ≤ x) = true := by simpa using hx1
     have er : r = false := HB0.out i x HG.out (by simp [inB, q0, hx1]);subst er;go_wp2_with fail
     go_quiet (fail)
     go_wp2;go_ret;exact ⟨rfl, (bel_trans (bel_alloc (Below.refl _ _) _) (bel_drewN HBz.out _))⟩
    ·have q1 : decide (regs ≤ x) = false := by simpa using hx1
     have HI2 := hid (all_step HG.out (show inB regs x = true by simp [inB, q0]; omega) HI.out);clear hx1;go_wp2_with fail
     go_quiet (fail)
     go_wp2;rename_i nq;have HBq := hid (bel_drewN HBz.out nq)
     generalize wz.drewN nq = wy at *
     go_loopw [4] (fun vv wx => ∃ k : Nat, k ≤ i ∧ vv = .int .i64 k ∧ Hid (∀ (j : Nat) y, j < k → params[j]? = some y → y ≠ x) ∧ Hid (Below (w.alloc (.cells #[.string name, .slice (some ⟨pb, po, none⟩) np pcap, .int .i64 regs, .int .i64 frame, .int .i64 entry, .slice ca n cap] 25 (0, 0))).heap.size (w.alloc (.cells #[.string name, .slice (some ⟨pb, po, none⟩) np pcap, .int .i64 regs, .int .i64 frame, .int .i64 entry, .slice ca n cap] 25 (0, 0))) wx)) (fun vv _ => i - (intOf vv).toNat)
     case atStart => exact ⟨0, by omega, rfl, fun j x hj => by omega, HBq⟩
     case round =>
      obtain ⟨k, hk, rfl, HK, HBx⟩ := hrel
      rename World => wx
      clear f0 f1 f2 f3 f4 f5 cx;obtain ⟨f0, f1, f2, f3, f4, f5⟩ := fn_box HBx.out
      by_cases hkn : k < i
      ·have k0 : (0 : Int) ≤ k := by omega
       have k1 : (k : Int) < np := by omega
       have hget := List.getElem?_eq_getElem (l := params) (show k < params.length by rw [← HNP.out]; omega)
       generalize params[k]'(by rw [← HNP.out]; omega) = y at hget
       have cx := keep_cell HBx.out (keep_alloc (HPC.out i x HG.out) _);have cy := keep_cell HBx.out (keep_alloc (HPC.out k y hget) _);have HGK : Hid (params[k]? = some y) := hget;clear hget
       by_cases hxy : y = x
       ·have q2 : (y == x) = true := by simpa using hxy
        have er : r = false := HB2.out k i x hkn (hxy ▸ HGK.out) HG.out;subst er;clear hxy;go_wp2_with fail
        go_quiet (fail)
        go_wp2;go_ret;exact ⟨rfl, (bel_trans (bel_alloc (Below.refl _ _) _) (bel_drewN HBx.out _))⟩
       ·have q2 : (y == x) = false := by simpa using hxy
        have HK2 : Hid (∀ (j : Nat) z, j < k + 1 → params[j]? = some z → z ≠ x) := fun j z hj hz => by
         by_cases e : j = k
         ·subst e; rw [HGK.out] at hz; cases hz; exact hxy
         ·exact HK.out j z (by omega) hz
        clear hxy;go_wp2_with fail
        go_quiet (fail)
        go_wp2
        go_roundw
        case rel => exact ⟨k + 1, by omega, by simp, HK2, hid (bel_drewN HBx.out _)⟩
        case measure => simp [intOf]; omega
      ·obtain rfl : k = i := by omega
       have HJ2 : Hid (∀ (a j : Nat) x y, a < j → j < k + 1 → params[a]? = some x → params[j]? = some y → x ≠ y) := fun a j x' y' h1 h2 h3 h4 => by
        by_cases e : j = k
        ·subst e; rw [HG.out] at h4; cases h4; exact HK.out a x' h1 h3
        ·exact HJ.out a j x' y' h1 (by omega) h3 h4
       go_wp2
       go_roundw
       case rel => exact ⟨k + 1, by omega, by simp, HI2, HJ2, HBx⟩
       case measure => simp [intOf]; omega
  ·obtain rfl : np = i := by omega
   have HE2 : Hid (r = cod) := by show _ = _; rw [HE1.out, HP3.out HI.out HJ.out]; rfl
   have HB3 : Hid (∀ (i : Nat) x, code[i]? = some x → cf x = false → r = false) := fun i x h1 h2 => by rw [HE2.out, HC1.out i x h1 h2]
   clear HE1 HI HJ HB0 HB2 hin hi;go_wp2
   go_loopw [5] (fun vv wz => ∃ i : Nat, i ≤ n ∧ vv = .int .i64 i ∧ Hid (∀ (j : Nat) x, j < i → code[j]? = some x → cf x = true) ∧ Hid (Below (w.alloc (.cells #[.string name, .slice pa np pcap, .int .i64 regs, .int .i64 frame, .int .i64 entry, .slice ca n cap] 25 (0, 0))).heap.size (w.alloc (.cells #[.string name, .slice pa np pcap, .int .i64 regs, .int .i64 frame, .int .i64 entry, .slice ca n cap] 25 (0, 0))) wz)) (fun vv _ => n - (intOf vv).toNat)
   case atStart => exact ⟨0, by omega, rfl, fun j x hj => by omega, HBz⟩
   case round =>
    obtain ⟨i, hi, rfl, HI, HBz⟩ := hrel
    rename World => wz
    clear f0 f1 f2 f3 f4 f5;obtain ⟨f0, f1, f2, f3, f4, f5⟩ := fn_box HBz.out
    by_cases hin : i < n
    ·obtain rfl := HCA.out (by omega)
     have j0 : (0 : Int) ≤ i := by omega
     have j1 : (i : Int) < n := by omega
     have hget := List.getElem?_eq_getElem (l := code) (show i < code.length by rw [← HN.out]; exact hin)
     generalize code[i]'(by rw [← HN.out]; exact hin) = x at hget
     obtain ⟨v, hv, c0, c1, c2, c3, c4, c5, c6, c7, c8⟩ := (((HCC.out i x hget).keep (bel_alloc (Below.refl _ _) _)).keep HBz.out);have HV := hid hv;have HG : Hid (code[i]? = some x) := hget;clear hget hv;have hdB : ∀ {A0 A1 A2 A3 A4 A5 A6 A7 A8 A9 A10 A11 A12 A13 A14 : Prop} {x : World}, A0 ∧ A1 ∧ A2 ∧ A3 ∧ A4 ∧ A5 ∧ A6 ∧ A7 ∧ A8 ∧ A9 ∧ A10 ∧ A11 ∧ A12 ∧ A13 ∧ A14 ∧ Below wz.heap.size wz x → Below wz.heap.size wz x := fun h => h.2.2.2.2.2.2.2.2.2.2.2.2.2.2.2;have hdS : ∀ {u : World}, Below wz.heap.size wz u → (u.cell? ⟨w.heap.size, 0, none⟩ = some (.string name) ∧ u.cell? ⟨w.heap.size, 1, none⟩ = some (.slice pa np pcap) ∧ u.cell? ⟨w.heap.size, 2, none⟩ = some (.int .i64 regs) ∧ u.cell? ⟨w.heap.size, 3, none⟩ = some (.int .i64 frame) ∧ u.cell? ⟨w.heap.size, 4, none⟩ = some (.int .i64 entry) ∧ u.cell? ⟨w.heap.size, 5, none⟩ = some (.slice (some ⟨cb, co, none⟩) n cap) ∧ u.cell? ⟨cb, co + i * 9, none⟩ = some (.int .i64 x.op) ∧ u.cell? ⟨cb, co + i * 9 + 1, none⟩ = some (.int .i64 x.sub) ∧ u.cell? ⟨cb, co + i * 9 + 2, none⟩ = some (.int .i64 x.a) ∧ u.cell? ⟨cb, co + i * 9 + 3, none⟩ = some (.int .i64 x.b) ∧ u.cell? ⟨cb, co + i * 9 + 4, none⟩ = some (.int .i64 x.d) ∧ u.cell? ⟨cb, co + i * 9 + 5, none⟩ = some (.int .i64 x.k) ∧ u.cell? ⟨cb, co + i * 9 + 6, none⟩ = some (v) ∧ u.cell? ⟨cb, co + i * 9 + 7, none⟩ = some (.int .i64 x.s) ∧ u.cell? ⟨cb, co + i * 9 + 8, none⟩ = some (.int .i64 x.t) ∧ Below wz.heap.size wz u) := fun h => ⟨keep_cell h f0, keep_cell h f1, keep_cell h f2, keep_cell h f3, keep_cell h f4, keep_cell h f5, keep_cell h c0, keep_cell h c1, keep_cell h c2, keep_cell h c3, keep_cell h c4, keep_cell h c5, keep_cell h c6, keep_cell h c7, keep_cell h c8, h⟩;have HRD : Hid (cf x = false → r = false) := fun h => HB3.out i x HG.out h
     have HI2 : Hid (cf x = true → ∀ (j : Nat) y, j < i + 1 → code[j]? = some y → cf y = true) := fun h j y hj hy => by
      by_cases e : j = i
      ·subst e; rw [HG.out] at hy; cases hy; exact h
      ·exact HI.out j y (by omega) hy
     go_wp2_with fail
     refine wp_region_held_drew (S := (fun w' => w'.cell? ⟨w.heap.size, 0, none⟩ = some (.string name) ∧ w'.cell? ⟨w.heap.size, 1, none⟩ = some (.slice pa np pcap) ∧ w'.cell? ⟨w.heap.size, 2, none⟩ = some (.int .i64 regs) ∧ w'.cell? ⟨w.heap.size, 3, none⟩ = some (.int .i64 frame) ∧ w'.cell? ⟨w.heap.size, 4, none⟩ = some (.int .i64 entry) ∧ w'.cell? ⟨w.heap.size, 5, none⟩ = some (.slice (some ⟨cb, co, none⟩) n cap) ∧ w'.cell? ⟨cb, co + i * 9, none⟩ = some (.int .i64 x.op) ∧ w'.cell? ⟨cb, co + i * 9 + 1, none⟩ = some (.int .i64 x.sub) ∧ w'.cell? ⟨cb, co + i * 9 + 2, none⟩ = some (.int .i64 x.a) ∧ w'.cell? ⟨cb, co + i * 9 + 3, none⟩ = some (.int .i64 x.b) ∧ w'.cell? ⟨cb, co + i * 9 + 4, none⟩ = some (.int .i64 x.d) ∧ w'.cell? ⟨cb, co + i * 9 + 5, none⟩ = some (.int .i64 x.k) ∧ w'.cell? ⟨cb, co + i * 9 + 6, none⟩ = some (v) ∧ w'.cell? ⟨cb, co + i * 9 + 7, none⟩ = some (.int .i64 x.s) ∧ w'.cell? ⟨cb, co + i * 9 + 8, none⟩ = some (.int .i64 x.t) ∧ Below wz.heap.size wz w')) (by kernel_rfl) (hdS (Below.drew (Below.refl _ _))) (fun hHeld => ?_);refine wpAnyH_take (i := 0) (oi := ?oia0) (v := ?vva0) ?hia0 (by kernel_rfl) (by kernel_rfl) (by kernel_rfl) ?hqa0 ?hya0 hHeld ?_
     case hia0 => simp only [zga, zgs, zgz]; rfl
     case hqa0 => exact fun _ _ _ h => h
     case hya0 => refine .inl ⟨by rfl, ?_⟩; intro w' hSw; (try dsimp only at hSw); go_simp; try with_reducible rfl
     simp only [Act.put, zsa, zsz, zss];refine wpAnyH_take (i := 1) (oi := ?oia1) (v := ?vva1) ?hia1 (by kernel_rfl) (by kernel_rfl) (by kernel_rfl) ?hqa1 ?hya1 hHeld ?_
     case hia1 => simp only [zga, zgs, zgz]; rfl
     case hqa1 => exact fun _ _ _ h => h
     case hya1 => refine .inl ⟨by rfl, ?_⟩; intro w' hSw; (try dsimp only at hSw); go_simp; try with_reducible rfl
     simp only [Act.put, zsa, zsz, zss];refine wpAnyH_take (i := 2) (oi := ?oia2) (v := ?vva2) ?hia2 (by kernel_rfl) (by kernel_rfl) (by kernel_rfl) ?hqa2 ?hya2 hHeld ?_
     case hia2 => simp only [zga, zgs, zgz]; rfl
     case hqa2 => exact fun _ _ _ h => h
     case hya2 => refine .inl ⟨by rfl, ?_⟩; intro w' hSw; (try dsimp only at hSw); go_simp; try with_reducible rfl
     simp only [Act.put, zsa, zsz, zss];refine wpAnyH_take (i := 3) (oi := ?oia3) (v := ?vva3) ?hia3 (by kernel_rfl) (by kernel_rfl) (by kernel_rfl) ?hqa3 ?hya3 hHeld ?_
     case hia3 => simp only [zga, zgs, zgz]; rfl
     case hqa3 => exact fun _ _ _ h => h
     case hya3 => refine .inl ⟨by rfl, ?_⟩; intro w' hSw; (try dsimp only at hSw); go_simp; try with_reducible rfl
     simp only [Act.put, zsa, zsz, zss];refine wpAnyH_take (i := 4) (oi := ?oia4) (v := ?vva4) ?hia4 (by kernel_rfl) (by kernel_rfl) (by kernel_rfl) ?hqa4 ?hya4 hHeld ?_
     case hia4 => simp only [zga, zgs, zgz]; rfl
     case hqa4 => exact fun _ _ _ h => h
     case hya4 => refine .inl ⟨by rfl, ?_⟩; intro w' hSw; (try dsimp only at hSw); go_simp; try with_reducible rfl
     simp only [Act.put, zsa, zsz, zss];refine wpAnyH_take (i := 5) (oi := ?oia5) (v := ?vva5) ?hia5 (by kernel_rfl) (by kernel_rfl) (by kernel_rfl) ?hqa5 ?hya5 hHeld ?_
     case hia5 => simp only [zga, zgs, zgz]; rfl
     case hqa5 => exact fun _ _ _ h => h
     case hya5 => refine .inl ⟨by rfl, ?_⟩; intro w' hSw; (try dsimp only at hSw); go_simp; try with_reducible rfl
     simp only [Act.put, zsa, zsz, zss];refine wpAnyH_ready (rs := [6]) (by kernel_rfl) (by simp) ?_;refine AllReadyH.cons (o := ?oia6) ?hia6 (fun K hK => ?_) AllReadyH.nil
     case hia6 => simp only [zga, zgs, zgz]; rfl
     go_simp;refine (HR1.out _ i x v (bel_trans HBz.out (hdB hHeld)) HG.out (IL.keep HV.out (hdB hHeld))).mono ?_;rintro e v6 ⟨rfl, hv6⟩;go_wp2_with fail
     refine hK.out _ _ (hdS (bel_trans (hdB hHeld) hv6)) (fun hN => ?_);clear hK K hHeld;have hHeld := hN;clear hN
     try simp only [Act.put, zsa, zsz, zss]
     refine wpAnyH_take (i := 7) (oi := ?oia7) (v := ?vva7) ?hia7 (by kernel_rfl) (by kernel_rfl) (by kernel_rfl) ?hqa7 ?hya7 hHeld ?_
     case hia7 => simp only [zga, zgs, zgz]; rfl
     case hqa7 => exact fun _ _ _ h => h
     case hya7 => refine .inl ⟨by rfl, ?_⟩; intro w' hSw; (try dsimp only at hSw); go_simp; try with_reducible rfl
     simp only [Act.put, zsa, zsz, zss];refine wpAnyH_done (by kernel_rfl) ?_ _;have HBf := hid (bel_trans HBz.out (hdB hHeld));clear hHeld hdB hdS
     cases hcf : cf x with
     | false =>
      have er := HRD.out hcf;subst er;clear hcf;go_wp2;go_ret;exact ⟨rfl, bel_trans (bel_alloc (Below.refl _ _) _) HBf.out⟩
     | true =>
      have HI3 := hid (HI2.out hcf);clear hcf;go_wp2
      go_roundw
      case rel => exact ⟨i + 1, by omega, by simp, HI3, HBf⟩
      case measure => simp [intOf]; omega
    ·obtain rfl : n = i := by omega
     have er : r = true := by rw [HE2.out]; exact HC3.out HI.out
     subst er;go_wp2;go_ret;exact ⟨rfl, bel_trans (bel_alloc (Below.refl _ _) _) HBz.out⟩

theorem rRight_any {w : World} {fv : Value} {f : Fn} (hf : FnV w fv f) : Calls prog 8 #[fv] w (retP (.bool (RightF f)) w) := by
 have hf' := hf;obtain ⟨pv, cv, rfl, hp, hc, hnm⟩ := hf;obtain ⟨pa, pcap, pb, po, rfl, hpl, hpa, hpc⟩ := hp.parts;obtain ⟨ca, cap, cb, co, rfl, hcl, hca, hcc⟩ := hc.parts;refine Right_walk f.name pa ca f.params.length pcap f.code.length cap pb po cb co f.regs f.frame f.entry f.params f.code (parF f.regs f.params) (f.code.all (rightF f.regs f.frame f.code.length)) _ (rightF f.regs f.frame f.code.length) w hcl hpl rfl rfl hpa hca hpc hcc (fun i x h1 h2 => ?_) (fun i j x h0 h1 h2 => ?_) (fun h1 h2 => ?_) (fun i x h1 h2 => ?_) (fun h => ?_) (fun W i x v hW hx hv => ?_) rfl
 ·rw [parF, all_bad h1 h2]; rfl
 ·rw [parF, Bool.and_eq_false_iff]
  right
  rw [decide_eq_false_iff_not];intro hnd;exact nodup_get.1 hnd i j x x h0 h1 h2 rfl
 ·rw [parF, all_good rfl h1, Bool.true_and, decide_eq_true_eq]
  exact nodup_get.2 fun i j x y h3 h4 h5 => h2 i j x y h3 (List.getElem?_eq_some_iff.1 h5).1 h4 h5
 ·exact List.all_eq_false.2 ⟨x, List.mem_of_getElem? h1, by simp [h2]⟩
 ·refine List.all_eq_true.2 fun x hx => ?_
  obtain ⟨j, hj⟩ := List.getElem?_of_mem hx;exact h j x (List.getElem?_eq_some_iff.1 hj).1 hj
 ·exact rRight1_any (i := x) (hf'.keep (bel_trans (bel_alloc (Below.refl _ _) _) hW)) ⟨v, rfl, hv⟩

end Go.Proofs.YtncondlfngeilaaGreatDoor
