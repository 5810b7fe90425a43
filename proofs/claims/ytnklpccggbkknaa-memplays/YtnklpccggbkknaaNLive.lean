/- Contract of the document's own Live, and a new memory of its. -/
import Derived.Test.YtnklpccggbkknaaNFree
namespace Go.Proofs.Ytnklpccggbkknaa
open Go.ChangeShapes Go.WideShapes Go.ChangeAt Go.RowKit Pl
set_option linter.unusedSimpArgs false
set_option linter.unusedVariables false

def liveN (L : List RB) : Int := ((L.filter fun a => !a.freed).length : Nat)
theorem liveN_take {L : List RB} {i : Nat} {rb : RB} (h : L[i]? = some rb) : liveN (L.take (i + 1)) = liveN (L.take i) + (if rb.freed = true then 0 else 1) := by
  have hi := lt_of_get h
  have e : L.take (i + 1) = L.take i ++ [rb] := by
    rw [List.take_add_one, h]
    rfl
  unfold liveN
  rw [e, List.filter_append, List.length_append]
  cases hf : rb.freed <;> simp [hf]
theorem liveN_bound (L : List RB) : 0 ≤ liveN L ∧ liveN L ≤ L.length := by
  unfold liveN
  have := List.length_filter_le (fun a : RB => !a.freed) L
  omega
set_option maxHeartbeats 1000000 in
theorem rlive_walk (p n cap g : Nat) (a : Option Addr) (L : List RB) (w : World) (c0 : w.cell? ⟨p, 0, none⟩ = some (.slice a n cap)) (HN : Hid (n = L.length)) (n1 : (n : Int) ≤ 100000) (HA : Hid (0 < n → a = some ⟨g, 0, none⟩)) (HF : Hid (∀ k rb, L[k]? = some rb → w.cell? ⟨g, k * 2 + 1, none⟩ = some (.bool rb.freed))) :
    Calls Try.prog 23 #[.pointer (some ⟨p, 0, none⟩)] w fun e w' => e = .returned (.int .i64 (liveN L)) ∧ w' = w := by
  obtain ⟨V, hV⟩ : ∃ V, liveN L = V := ⟨_, rfl⟩
  rw [hV]
  have HV : Hid (liveN L = V) := hV
  clear hV
  go_enter Try.func23, Try.ntmps23
  go_wp2
  go_loopw [3, 4] (fun s v wr => ∃ (i : Nat) (t : Int), i ≤ n ∧ v = .int .i64 i ∧ s = .int .i64 t ∧ 0 ≤ t ∧ t ≤ i ∧ Hid (t = liveN (L.take i)) ∧ wr = w) (fun _ v _ => n - (intOf v).toNat)
  case atStart => exact ⟨0, 0, by omega, rfl, rfl, by omega, by omega, by show _ = _; simp [liveN], rfl⟩
  case round =>
    obtain ⟨i, t, hi, rfl, rfl, t0, t1, HT, rfl⟩ := hrel
    by_cases hin : i < n
    · obtain rfl := HA.out (by omega)
      have i0 : (0 : Int) ≤ i := by omega
      have i1 : (i : Int) < n := by omega
      have hget := List.getElem?_eq_getElem (l := L) (show i < L.length by rw [← HN.out]; exact hin)
      generalize L[i]'(by rw [← HN.out]; exact hin) = rb at hget
      have cf := HF.out i rb hget
      have HT1 : Hid (liveN (L.take (i + 1)) = t + (if rb.freed = true then 0 else 1)) := by
        show _ = _
        rw [liveN_take hget, HT.out]
      clear hget
      cases hf : rb.freed
      · rw [hf] at cf HT1
        go_wp2
        go_roundw
        case rel => exact ⟨i + 1, t + 1, by omega, by simp, rfl, by omega, by omega, by have := HT1.out; simp at this; exact this.symm, trivial⟩
        case measure => simp [intOf]; omega
      · rw [hf] at cf HT1
        go_wp2
        go_roundw
        case rel => exact ⟨i + 1, t, by omega, by simp, rfl, by omega, by omega, by have := HT1.out; simp at this; exact this.symm, trivial⟩
        case measure => simp [intOf]; omega
    · have hie : i = n := by omega
      have e : t = V := by
        rw [HT.out, ← HV.out, hie, HN.out, List.take_length]
      subst hie e
      go_wp2
      go_ret
      exact ⟨rfl, rfl⟩
theorem rlive_any {w : World} {base p : Nat} {R : Nat → Option Role} {N : RM} (h : RMem w base p R N) :
    Calls Try.prog 23 #[.pointer (some ⟨p, 0, none⟩)] w fun e w' => e = .returned (.int .i64 (liveN N.L)) ∧ w' = w := by
  obtain ⟨a, cap, g, cur, a2, cap2, g2, cur2, h⟩ := h
  have hl := h.len
  refine rlive_walk p _ cap g a N.L w h.c0 rfl (by omega) (fun hpos => (h.has (List.getElem?_eq_getElem hpos)).1) (fun k rb hrb => ?_)
  obtain ⟨bb, _, h2, _⟩ := h.blk k rb hrb
  exact heap_cell (h.has hrb).2.2.1 h2
theorem rnew_mem (w : World) (base : Nat) (hb : base ≤ w.heap.size) : RMem (w.alloc (.cells #[.slice none 0 0, .slice none 0 0] 30)) base w.heap.size (oneR w.heap.size .mem) ⟨[], []⟩ := by
  refine ⟨none, 0, 0, #[], none, 0, 0, #[], heap_alloc_new w _, by simp [oneR], .inl ⟨rfl, rfl, rfl⟩, .inl ⟨rfl, rfl, rfl⟩, fun k ab h => by simp at h, fun k v h => by simp at h, fun b h => ?_, fun ab h => by simp at h, by simp⟩
  have : b = w.heap.size := by
    rcases Nat.decEq b w.heap.size with h1 | h1
    · simp [oneR, h1] at h
    · exact h1
  subst this
  exact ⟨hb, by simp⟩
end Go.Proofs.Ytnklpccggbkknaa
