import Derived.Test.YtlonbaefdffbeaaGreatDoorALeaf4
namespace Go.Proofs.YtlonbaefdffbeaaGreatDoor
open Go.ChangeShapes Go.WideShapes Go.ChangeAt Go.RowKit Go.Proofs.Tryz
set_option linter.unusedSimpArgs false
set_option linter.unusedVariables false
set_option maxRecDepth 100000
set_option maxHeartbeats 2000000

def twList : List ByteArray := [⟨#[99, 104, 97, 114]⟩, ⟨#[105, 110, 116]⟩, ⟨#[108, 111, 110, 103]⟩, ⟨#[118, 111, 105, 100]⟩, ⟨#[115, 116, 114, 117, 99, 116]⟩]
structure TwTab (w : World) : Prop where
 tw : ∀ j, j < 5 → w.cell? ⟨2, j, none⟩ = (twList[j]?).map Value.string
theorem TwTab.keep {w w' : World} (h : TwTab w) (hb : ∀ k, k = 2 → w'.heap[k]? = w.heap[k]?) : TwTab w' := by
 refine ⟨fun j hj => ?_⟩;have := h.tw j hj;exact (World.cell?_of_block (hb 2 rfl)).trans this
theorem tw_index (i : Nat) (hi : i < 5) (w : World) : (Instr.index 147 (.agg #[.string ⟨#[99, 104, 97, 114]⟩, .string ⟨#[105, 110, 116]⟩, .string ⟨#[108, 111, 110, 103]⟩, .string ⟨#[118, 111, 105, 100]⟩, .string ⟨#[115, 116, 114, 117, 99, 116]⟩]) (.int .i64 (i : Int))).run prog w = .ok (.string (twList[i]'hi)) w := by
 have all : ∀ (i : Fin 5), (Instr.index 147 (.agg #[.string ⟨#[99, 104, 97, 114]⟩, .string ⟨#[105, 110, 116]⟩, .string ⟨#[108, 111, 110, 103]⟩, .string ⟨#[118, 111, 105, 100]⟩, .string ⟨#[115, 116, 114, 117, 99, 116]⟩]) (.int .i64 ((i.val : Nat) : Int))).run prog w = .ok (.string (twList[i.val]'i.isLt)) w := by
  intro i
  rcases i with ⟨i, hi⟩
  rcases i with _ | i
  ·kernel_rfl
  rcases i with _ | i
  ·kernel_rfl
  rcases i with _ | i
  ·kernel_rfl
  rcases i with _ | i
  ·kernel_rfl
  rcases i with _ | i
  ·kernel_rfl
  ·omega
 exact all ⟨i, hi⟩
def beginF (c : PC) (s : PSt) (n : Nat) : Bool := if s.e = 0 then (match c.ws[n]? with
 | some x => twList.any (fun k => x.s.toList == k.toList)
 | none => false) else false
theorem tw_none {f : ByteArray → Bool} {i : Nat} (h : ∀ (j : Nat) (hj : j < twList.length), j < i → f twList[j] = false) (hi : twList.length ≤ i) : twList.any f = false := by
 rw [List.any_eq_false];intro x hx;obtain ⟨j, hj, rfl⟩ := List.getElem_of_mem hx;rw [h j hj (by omega)];simp
theorem begins_any (c : PC) (s : PSt) (n : Nat) (w : World) (hp : PAt w c s) (ht : TwTab w) (hn : n ≤ 65537) : Calls prog 90 #[.pointer (some ⟨c.PB, 0, none⟩), .int .i64 (n : Int)] w (fun e W => e = .returned (.bool (beginF c s n)) ∧ W = w) := by
 have p0 := hp.c0;have p9 := hp.c9;have w9 : (c.ws.length : Int) ≤ 65536 := by have := hp.wds.lim; omega
 have n0 : (0 : Int) ≤ (n : Int) := by omega
 have n9 : (n : Int) ≤ 65537 := by omega
 have HP : Hid (PAt w c s) := hp;have m0 : w.cell? ⟨2, 0, none⟩ = some (.string ⟨#[99, 104, 97, 114]⟩) := ht.tw 0 (by omega);have m1 : w.cell? ⟨2, 1, none⟩ = some (.string ⟨#[105, 110, 116]⟩) := ht.tw 1 (by omega);have m2 : w.cell? ⟨2, 2, none⟩ = some (.string ⟨#[108, 111, 110, 103]⟩) := ht.tw 2 (by omega);have m3 : w.cell? ⟨2, 3, none⟩ = some (.string ⟨#[118, 111, 105, 100]⟩) := ht.tw 3 (by omega);have m4 : w.cell? ⟨2, 4, none⟩ = some (.string ⟨#[115, 116, 114, 117, 99, 116]⟩) := ht.tw 4 (by omega);unfold beginF
 by_cases h0 : s.e = 0
 ·rw [h0] at p9
  rw [if_pos h0]
  by_cases hi : n < c.ws.length
  ·have i1 : (n : Int) < (c.ws.length : Int) := by omega
   have g1 : decide ((c.ws.length : Int) ≤ (n : Int)) = false := by simp; omega
   have g2 : decide (c.ws.length ≤ n) = false := by simp; omega
   obtain ⟨x, hx⟩ : ∃ x, c.ws[n]? = some x := ⟨_, List.getElem?_eq_getElem hi⟩;rw [hx];dsimp only;have ha := HP.out.wds.adr (by intro h; rw [h] at hi; simp at hi);rw [ha] at p0;obtain ⟨x0, x1, x2, x3, x4⟩ := HP.out.wds.row _ _ hx;have hcap := HP.out.wds.cap;clear hx ha hp ht hn h0
   go_enter func90, ntmps90
   go_wp2;clear m0 m1 m2 m3 m4
   go_loopw [22] (fun v wr => ∃ i : Nat, i ≤ 5 ∧ v = .int .i64 i ∧ Hid (∀ (j : Nat) (hj : j < twList.length), j < i → (x.s.toList == twList[j].toList) = false) ∧ wr = w) (fun v _ => 5 - (intOf v).toNat)
   case atStart => exact ⟨0, by omega, rfl, fun j hj h => absurd h (by omega), rfl⟩
   case round =>
    obtain ⟨i, hi5, rfl, HK, rfl⟩ := hrel
    by_cases hin : i < 5
    ·have ix := tw_index i hin
     have j0 : (0 : Int) ≤ i := by omega
     have j1 : (i : Int) < 5 := by omega
     obtain ⟨kk, hkk⟩ : ∃ kk, twList[i]'hin = kk := ⟨_, rfl⟩;rw [hkk] at ix;have HKK : Hid (twList[i]'hin = kk) := hkk;clear hkk
     by_cases he : (x.s.toList == kk.toList) = true
     ·have HE : Hid (twList.any (fun k => x.s.toList == k.toList) = true) := by
       have h : twList.any (fun k => x.s.toList == k.toList) = true := by
        rw [List.any_eq_true];exact ⟨kk, by rw [← HKK.out]; exact List.getElem_mem _, he⟩
       exact h
      go_wp2;go_ret;exact ⟨by rw [HE.out]; rfl, rfl⟩
     ·have he' : (x.s.toList == kk.toList) = false := by simpa using he
      have HN : Hid (∀ (j : Nat) (hj : j < twList.length), j < i + 1 → (x.s.toList == twList[j].toList) = false) := fun j hj h => by
       by_cases e : j = i
       ·subst e
        rw [show twList[j] = kk from HKK.out];exact he'
       ·exact HK.out j hj (by omega)
      clear he;go_wp2
      go_roundw
      case rel => exact ⟨i + 1, by omega, by simp, HN, by first | rfl | trivial⟩
      case measure => simp [intOf]; omega
    ·have hie : i = 5 := by omega
     subst hie;have HE : Hid (twList.any (fun k => x.s.toList == k.toList) = false) := tw_none HK.out (Nat.le_refl _);go_wp2;go_ret;exact ⟨by rw [HE.out]; rfl, rfl⟩
  ·have i1 : (c.ws.length : Int) ≤ (n : Int) := by omega
   have g1 : decide ((c.ws.length : Int) ≤ (n : Int)) = true := by simp; omega
   have g2 : decide (c.ws.length ≤ n) = true := by simp; omega
   rw [List.getElem?_eq_none (by omega)];clear hp ht hn h0
   go_enter func90, ntmps90
   go_wp2;go_ret;exact ⟨rfl, rfl⟩
 ·have q0 : (s.e == 0) = false := by simpa using h0
  have q1 : (s.e != 0) = true := by simpa using h0
  rw [if_neg h0];clear hp ht hn
  go_enter func90, ntmps90
  go_wp2;go_ret;exact ⟨rfl, rfl⟩
end Go.Proofs.YtlonbaefdffbeaaGreatDoor
