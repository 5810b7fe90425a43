/- The document's own graphs: what a call reads; all together. -/
import Derived.Test.YthieicjnenlpfaaGreatDoorRUses
namespace Go.Proofs.YthieicjnenlpfaaGreatDoor
open Go.ChangeShapes Go.WideShapes Go.ChangeAt Go.RowKit
set_option linter.unusedSimpArgs false
set_option linter.unusedVariables false

set_option maxHeartbeats 4000000 in
theorem uses10n (sub a b d k : Int) (s t : Int) (w : World) : Calls Tryz.prog 19 #[insV 10 sub a b d k (.slice none 0 0) s t] w (retO [] w) := by
  obtain ⟨i0, hi, hz0, hz1, hz2⟩ : ∃ i0, Tryz.prog.info? 3 = some i0 ∧ i0.zero = some (.int .i64 0) ∧ i0.size = 1 ∧ i0.bytes = 8 := info_parts (by kernel_rfl)
  unfold insV
  go_enter Tryz.func19, Tryz.ntmps19
  go_wp2
  go_ret
  exact ⟨_, rfl, World.ownsRow_nil _ _ _ _, by simp, (by repeat (first | with_reducible exact Below.refl _ _ | with_reducible refine bel_alloc ?_ _ | with_reducible refine bel_set ?_ (by first | exact Nat.le_refl _ | (simp; done) | (simp; omega)) _ | with_reducible refine Below.drew ?_ | refine bel_trans ?_ (by assumption)))⟩
set_option maxHeartbeats 4000000 in
theorem uses10s (sub a b d k : Int) (ad : Addr) (n cap : Nat) (l : List Int) (s t : Int) (w : World) (HN : Hid (l.length = n)) (hn : n * 8 ≤ 140737488355328) (HC : Hid (∀ i x, l[i]? = some x → w.cell? (ad.add i) = some (.int .i64 x))) : Calls Tryz.prog 19 #[insV 10 sub a b d k (.slice (some ad) n cap) s t] w (retO l w) := by
  obtain ⟨i0, hi, hz0, hz1, hz2⟩ : ∃ i0, Tryz.prog.info? 3 = some i0 ∧ i0.zero = some (.int .i64 0) ∧ i0.size = 1 ∧ i0.bytes = 8 := info_parts (by kernel_rfl)
  unfold insV
  go_enter Tryz.func19, Tryz.ntmps19
  go_wp2_with (at_builtin; refine wpList_append_own _ rfl _ _ 22 rfl (w.heap.size + 1) 3 i0 (.int .i64 0) 1 8 Tryz.underlying22 hi hz0 hz1 hz2 rfl (by decide) _ 0 (ints []) rfl (World.ownsRow_nil _ _ _ _) ad n cap (ints l) rfl (by rw [ints_length, Nat.mul_one]; exact HN.out) ?c1 ?c2 ?c3 ?c4 ?c5 ?_)
  case c1 =>
    intro j u hj
    simp only [ints, List.getElem?_map, Option.map_eq_some_iff] at hj
    obtain ⟨x, hx, rfl⟩ := hj
    exact keep_alloc (HC.out j x hx) _
  case c2 => intro u hu; simp only [ints, List.mem_map] at hu; obtain ⟨x, _, rfl⟩ := hu; rfl
  case c3 => unfold maxLen; omega
  case c4 => omega
  case c5 => simp
  intro v1 w1 hown1 hgrow1 _
  have HO1 : Hid (w1.ownsRow (w.heap.size + 1) 3 1 v1 l.length (ints l)) := by
    show World.ownsRow _ _ _ _ _ _ _
    rw [HN.out]
    simpa [ints] using hown1
  have HB1 : Hid (Below w.heap.size w w1) := by
    show Below _ _ _
    exact ((Below.refl w.heap.size w).alloc (Nat.le_refl _) _).grown hgrow1 (by simp) (fun k hk => by simp [Value.ownBlock] at hk)
  clear hown1 hgrow1
  go_wp2
  go_ret
  exact ⟨_, rfl, HO1.out, (by rw [HN.out]; exact hn), HB1.out⟩
set_option maxHeartbeats 4000000 in
theorem usesX (op sub a b d k : Int) (v : Value) (s t : Int) (w : World) (ho : op < 1 ∨ 14 < op) : Calls Tryz.prog 19 #[insV op sub a b d k v s t] w (retO [] w) := by
  unfold insV
  have e1 : (op == 1) = false := by simp; omega
  have e2 : (op == 2) = false := by simp; omega
  have e3 : (op == 3) = false := by simp; omega
  have e4 : (op == 4) = false := by simp; omega
  have e5 : (op == 5) = false := by simp; omega
  have e6 : (op == 6) = false := by simp; omega
  have e7 : (op == 7) = false := by simp; omega
  have e8 : (op == 8) = false := by simp; omega
  have e9 : (op == 9) = false := by simp; omega
  have e10 : (op == 10) = false := by simp; omega
  have e11 : (op == 11) = false := by simp; omega
  have e12 : (op == 12) = false := by simp; omega
  have e13 : (op == 13) = false := by simp; omega
  have e14 : (op == 14) = false := by simp; omega
  clear ho
  go_enter Tryz.func19, Tryz.ntmps19
  go_wp2
  go_ret
  exact ⟨_, rfl, World.ownsRow_nil _ _ _ _, by simp, (by repeat (first | with_reducible exact Below.refl _ _ | with_reducible refine bel_alloc ?_ _ | with_reducible refine bel_set ?_ (by first | exact Nat.le_refl _ | (simp; done) | (simp; omega)) _ | with_reducible refine Below.drew ?_ | refine bel_trans ?_ (by assumption)))⟩
theorem rUsesO_any (op sub a b d k : Int) (v : Value) (args : List Int) (s t : Int) (w : World) (h : IL w v args) : Calls Tryz.prog 19 #[insV op sub a b d k v s t] w (retO (usesF op a b args) w) := by
  rcases op_cases op with rfl | rfl | rfl | rfl | rfl | rfl | rfl | rfl | rfl | rfl | rfl | rfl | rfl | rfl | ho
  · have hu : usesF 1 a b args = [] := by simp [usesF, useA, useB]
    rw [hu]
    exact uses1 sub a b d k v s t w
  · have hu : usesF 2 a b args = [] := by simp [usesF, useA, useB]
    rw [hu]
    exact uses2 sub a b d k v s t w
  · by_cases ha : a = -1
    · subst ha
      have hu : usesF 3 (-1) b args = [] := by simp [usesF, useA, useB]
      rw [hu]
      exact uses3 sub b d k v s t w
    · have hu : usesF 3 a b args = [a] := by simp [usesF, useA, useB, ha]
      rw [hu]
      exact uses3a sub a b d k v s t w (by simpa using ha) (by simpa using ha)
  · by_cases ha : a = -1
    · subst ha
      have hu : usesF 4 (-1) b args = [] := by simp [usesF, useA, useB]
      rw [hu]
      exact uses4 sub b d k v s t w
    · have hu : usesF 4 a b args = [a] := by simp [usesF, useA, useB, ha]
      rw [hu]
      exact uses4a sub a b d k v s t w (by simpa using ha) (by simpa using ha)
  · by_cases ha : a = -1
    · subst ha
      by_cases hb : b = -1
      · subst hb
        have hu : usesF 5 (-1) (-1) args = [] := by simp [usesF, useA, useB]
        rw [hu]
        exact uses5 sub d k v s t w
      · have hu : usesF 5 (-1) b args = [b] := by simp [usesF, useA, useB, hb]
        rw [hu]
        exact uses5b sub b d k v s t w (by simpa using hb) (by simpa using hb)
    · by_cases hb : b = -1
      · subst hb
        have hu : usesF 5 a (-1) args = [a] := by simp [usesF, useA, useB, ha]
        rw [hu]
        exact uses5a sub a d k v s t w (by simpa using ha) (by simpa using ha)
      · have hu : usesF 5 a b args = [a, b] := by simp [usesF, useA, useB, ha, hb]
        rw [hu]
        exact uses5ab sub a b d k v s t w (by simpa using ha) (by simpa using ha) (by simpa using hb) (by simpa using hb)
  · by_cases ha : a = -1
    · subst ha
      have hu : usesF 6 (-1) b args = [] := by simp [usesF, useA, useB]
      rw [hu]
      exact uses6 sub b d k v s t w
    · have hu : usesF 6 a b args = [a] := by simp [usesF, useA, useB, ha]
      rw [hu]
      exact uses6a sub a b d k v s t w (by simpa using ha) (by simpa using ha)
  · by_cases ha : a = -1
    · subst ha
      by_cases hb : b = -1
      · subst hb
        have hu : usesF 7 (-1) (-1) args = [] := by simp [usesF, useA, useB]
        rw [hu]
        exact uses7 sub d k v s t w
      · have hu : usesF 7 (-1) b args = [b] := by simp [usesF, useA, useB, hb]
        rw [hu]
        exact uses7b sub b d k v s t w (by simpa using hb) (by simpa using hb)
    · by_cases hb : b = -1
      · subst hb
        have hu : usesF 7 a (-1) args = [a] := by simp [usesF, useA, useB, ha]
        rw [hu]
        exact uses7a sub a d k v s t w (by simpa using ha) (by simpa using ha)
      · have hu : usesF 7 a b args = [a, b] := by simp [usesF, useA, useB, ha, hb]
        rw [hu]
        exact uses7ab sub a b d k v s t w (by simpa using ha) (by simpa using ha) (by simpa using hb) (by simpa using hb)
  · have hu : usesF 8 a b args = [] := by simp [usesF, useA, useB]
    rw [hu]
    exact uses8 sub a b d k v s t w
  · have hu : usesF 9 a b args = [] := by simp [usesF, useA, useB]
    rw [hu]
    exact uses9 sub a b d k v s t w
  · have hu : usesF 10 a b args = args := by simp [usesF, useA, useB]
    rw [hu]
    obtain ⟨ad, cap, rfl, h1, h0, h2⟩ := h
    cases ad with
    | none =>
      obtain ⟨rfl, rfl⟩ := h0 rfl
      exact uses10n sub a b d k s t w
    | some ad =>
      refine uses10s sub a b d k ad _ cap args s t w rfl h1 (fun i x hx => ?_)
      obtain ⟨b', off, e, hc⟩ := h2 (fun e => by rw [e] at hx; simp at hx)
      cases e
      rw [Addr.add_mid]
      exact hc i x hx
  · by_cases ha : a = -1
    · subst ha
      by_cases hb : b = -1
      · subst hb
        have hu : usesF 11 (-1) (-1) args = [] := by simp [usesF, useA, useB]
        rw [hu]
        exact uses11 sub d k v s t w
      · have hu : usesF 11 (-1) b args = [b] := by simp [usesF, useA, useB, hb]
        rw [hu]
        exact uses11b sub b d k v s t w (by simpa using hb) (by simpa using hb)
    · by_cases hb : b = -1
      · subst hb
        have hu : usesF 11 a (-1) args = [a] := by simp [usesF, useA, useB, ha]
        rw [hu]
        exact uses11a sub a d k v s t w (by simpa using ha) (by simpa using ha)
      · have hu : usesF 11 a b args = [a, b] := by simp [usesF, useA, useB, ha, hb]
        rw [hu]
        exact uses11ab sub a b d k v s t w (by simpa using ha) (by simpa using ha) (by simpa using hb) (by simpa using hb)
  · by_cases ha : a = -1
    · subst ha
      have hu : usesF 12 (-1) b args = [] := by simp [usesF, useA, useB]
      rw [hu]
      exact uses12 sub b d k v s t w
    · have hu : usesF 12 a b args = [a] := by simp [usesF, useA, useB, ha]
      rw [hu]
      exact uses12a sub a b d k v s t w (by simpa using ha) (by simpa using ha)
  · have hu : usesF 13 a b args = [] := by simp [usesF, useA, useB]
    rw [hu]
    exact uses13 sub a b d k v s t w
  · by_cases ha : a = -1
    · subst ha
      have hu : usesF 14 (-1) b args = [] := by simp [usesF, useA, useB]
      rw [hu]
      exact uses14 sub b d k v s t w
    · have hu : usesF 14 a b args = [a] := by simp [usesF, useA, useB, ha]
      rw [hu]
      exact uses14a sub a b d k v s t w (by simpa using ha) (by simpa using ha)
  · have hu : usesF op a b args = [] := by
      have h1 : useA op = false := by unfold useA; rw [decide_eq_false_iff_not]; simp; omega
      have h2 : useB op = false := by unfold useB; rw [decide_eq_false_iff_not]; simp; omega
      have h3 : ¬ op = 10 := by omega
      simp [usesF, h1, h2, h3]
    rw [hu]
    exact usesX op sub a b d k v s t w ho
theorem rUses_any (op sub a b d k : Int) (v : Value) (args : List Int) (s t : Int) (w : World) (h : IL w v args) : Calls Tryz.prog 19 #[insV op sub a b d k v s t] w (retI (usesF op a b args) w) := (rUsesO_any op sub a b d k v args s t w h).mono fun _ _ h => h.list
end Go.Proofs.YthieicjnenlpfaaGreatDoor

