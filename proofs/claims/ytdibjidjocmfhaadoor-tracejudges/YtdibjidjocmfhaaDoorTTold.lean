/- Contract of the document's own Told: a run's text. -/
import Derived.Test.YtdibjidjocmfhaaDoorTNum
namespace Go.Proofs.YtdibjidjocmfhaaDoor
open Go.ChangeShapes Go.WideShapes Go.ChangeAt Go.RowKit Go.Deep Pl
set_option linter.unusedSimpArgs false
set_option linter.unusedVariables false
theorem ret_str {a b : ByteArray} (h : a = b) : Ending.returned (.string a) = .returned (.string b) := by rw [h]


set_option maxHeartbeats 4000000 in
theorem told_walk (k x st : Int) (a : Option Addr) (n cap : Nat) (lk : Value) (es : List Ev) (w : World) (HN : Hid (n = es.length)) (hn : n ≤ 1000) (HE : Hid (EvL w a es)) (HO : Hid (EvOk es)) (x0 : -9223372036854775808 ≤ x) (x1 : x ≤ 9223372036854775807) :
    Calls Tryd.prog 24 #[.agg #[.int .i64 k, .int .i64 x, .slice a n cap, lk, .int .i64 st]] w (retP (.string ⟨(textL es ++ (endL k x ++ [10])).toArray⟩) w) := by
  have fin : ∀ wr, Below (w.alloc (.cells #[.int .i64 k, .int .i64 x, .slice a n cap, lk, .int .i64 st] 27)).heap.size (w.alloc (.cells #[.int .i64 k, .int .i64 x, .slice a n cap, lk, .int .i64 st] 27)) wr → Below w.heap.size w wr := fun wr h => bel_trans (bel_alloc (Below.refl _ _) _) h
  go_enter Tryd.func24, Tryd.ntmps24
  go_wp2
  go_loopw [3, 4] (fun s v wr => ∃ (i : Nat) (S : ByteArray), i ≤ n ∧ v = .int .i64 i ∧ s = .string S ∧ Hid (S = ⟨(textL (es.take i)).toArray⟩) ∧ Hid (Below (w.alloc (.cells #[.int .i64 k, .int .i64 x, .slice a n cap, lk, .int .i64 st] 27)).heap.size (w.alloc (.cells #[.int .i64 k, .int .i64 x, .slice a n cap, lk, .int .i64 st] 27)) wr)) (fun _ v _ => n - (intOf v).toNat)
  case atStart => exact ⟨0, _, by omega, rfl, rfl, by show _ = _; simp [textL], by show Below _ _ _; exact Below.refl _ _⟩
  case round =>
    obtain ⟨i, S, hi, rfl, rfl, HS, HB⟩ := hrel
    have hsz : S.size ≤ 26000 := by
      rw [HS.out, size_ofList]
      have := textL_length (es.take i) (fun y hy => HO.out y (List.mem_of_mem_take hy))
      rw [List.length_take] at this
      omega
    have t0 : wr.cell? ⟨w.heap.size, 0, none⟩ = some (.int .i64 k) := keep_cell HB.out (by go_simp)
    have t1 : wr.cell? ⟨w.heap.size, 1, none⟩ = some (.int .i64 x) := keep_cell HB.out (by go_simp)
    have t2 : wr.cell? ⟨w.heap.size, 2, none⟩ = some (.slice a n cap) := keep_cell HB.out (by go_simp)
    by_cases hin : i < n
    · have i0 : (0 : Int) ≤ i := by omega
      have i1 : (i : Int) < n := by omega
      have hget := List.getElem?_eq_getElem (l := es) (show i < es.length by rw [← HN.out]; exact hin)
      generalize es[i]'(by rw [← HN.out]; exact hin) = ev at hget
      obtain ⟨b, off, rfl, hc⟩ := HE.out (fun e => by rw [e] at hget; simp at hget)
      obtain ⟨ek, en⟩ := ev
      have c0 := keep_cell (fin _ HB.out) (hc i _ hget).1
      have c1 := keep_cell (fin _ HB.out) (hc i _ hget).2
      have ho := HO.out _ (List.mem_of_getElem? hget)
      simp only [] at ho c0 c1
      obtain ⟨o0, o1⟩ := ho
      have HG : Hid (textL (es.take (i + 1)) = textL (es.take i) ++ lineL (ek, en)) := textL_take hget
      obtain ⟨T, hT⟩ : ∃ T : ByteArray, T = ⟨(Lib.itoa en).toArray⟩ := ⟨_, rfl⟩
      have hTs : T.size ≤ 21 := by rw [hT, size_ofList]; exact Lib.itoa_length_le en o0 o1
      have HTT : Hid (T = ⟨(Lib.itoa en).toArray⟩) := hT
      clear hc hget hT
      have d0 : w.heap.size < wr.heap.size := block_lt_of_cell t0
      have fixed : ∀ w1, Below wr.heap.size wr w1 → w1.cell? ⟨w.heap.size, 2, none⟩ = some (.slice (some ⟨b, off, none⟩) n cap) := fun w1 h => keep_cell h t2
      clear fixed
      by_cases hk : ek = 2
      · subst hk
        have q1 : ¬ 9223372036854775807 < S.size + 4 := by omega
        have q2 : ¬ 9223372036854775807 < S.size + 4 + T.size := by omega
        have q3 : ¬ 9223372036854775807 < S.size + 4 + T.size + 1 := by omega
        go_wp2_with fail
        refine (num_as en _ T HTT o0 o1).mono ?_
        rintro e w1 ⟨rfl, hb1⟩
        have HB1 := bel_trans HB.out hb1
        have HB1 := (show Hid (Below _ _ _) from HB1)
        clear hb1
        go_wp2
        go_roundw
        case rel =>
          refine ⟨i + 1, _, by omega, by simp, rfl, ?_, HB1⟩
          show _ = _
          rw [HG.out, HS.out, HTT.out]
          apply ByteArray.ext
          simp [lineL, wordL]
        case measure => simp [intOf]; omega
      · have qk : (ek == 2) = false := by simpa using hk
        have q1 : ¬ 9223372036854775807 < S.size + 3 := by omega
        have q2 : ¬ 9223372036854775807 < S.size + 3 + T.size := by omega
        have q3 : ¬ 9223372036854775807 < S.size + 3 + T.size + 1 := by omega
        go_wp2_with fail
        refine (num_as en _ T HTT o0 o1).mono ?_
        rintro e w1 ⟨rfl, hb1⟩
        have HB1 := bel_trans HB.out hb1
        have HB1 := (show Hid (Below _ _ _) from HB1)
        clear hb1
        go_wp2
        go_roundw
        case rel =>
          refine ⟨i + 1, _, by omega, by simp, rfl, ?_, HB1⟩
          show _ = _
          rw [HG.out, HS.out, HTT.out]
          apply ByteArray.ext
          simp [lineL, wordL, hk]
        case measure => simp [intOf]; omega
    · have hie : i = n := by omega
      subst hie
      have HS' : Hid (S = ⟨(textL es).toArray⟩) := by
        show _ = _
        rw [HS.out, List.take_of_length_le (by rw [← HN.out]; omega)]
      clear HS
      have HS : Hid (S = ⟨(textL es).toArray⟩) := HS'
      clear HS'
      by_cases h1 : k = 1
      · subst h1
        obtain ⟨T, hT⟩ : ∃ T : ByteArray, T = ⟨(Lib.itoa x).toArray⟩ := ⟨_, rfl⟩
        have hTs : T.size ≤ 21 := by rw [hT, size_ofList]; exact Lib.itoa_length_le x x0 x1
        have HTT : Hid (T = ⟨(Lib.itoa x).toArray⟩) := hT
        clear hT
        have q1 : ¬ 9223372036854775807 < S.size + 5 := by omega
        have q2 : ¬ 9223372036854775807 < S.size + 5 + T.size := by omega
        have q3 : ¬ 9223372036854775807 < S.size + 5 + T.size + 1 := by omega
        go_wp2_with fail
        refine (num_as x _ T HTT x0 x1).mono ?_
        rintro e w1 ⟨rfl, hb1⟩
        have HB1 : Hid (Below w.heap.size w w1) := fin _ (bel_trans HB.out hb1)
        clear hb1
        go_wp2
        go_ret
        exact ⟨ret_str (by rw [HS.out, HTT.out]; apply ByteArray.ext; simp [endL]), HB1.out⟩
      have g1 : (k == 1) = false := by simpa using h1
      by_cases h2 : k = 2
      · subst h2
        clear g1
        have q1 : ¬ 9223372036854775807 < S.size + 5 := by omega
        go_wp2
        go_ret
        exact ⟨ret_str (by rw [HS.out]; apply ByteArray.ext; simp [endL]), fin _ HB.out⟩
      have g2 : (k == 2) = false := by simpa using h2
      by_cases h3 : k = 3
      · subst h3
        clear g1 g2
        have q1 : ¬ 9223372036854775807 < S.size + 6 := by omega
        go_wp2
        go_ret
        exact ⟨ret_str (by rw [HS.out]; apply ByteArray.ext; simp [endL]), fin _ HB.out⟩
      have g3 : (k == 3) = false := by simpa using h3
      by_cases h4 : k = 4
      · subst h4
        clear g1 g2 g3
        have q1 : ¬ 9223372036854775807 < S.size + 9 := by omega
        go_wp2
        go_ret
        exact ⟨ret_str (by rw [HS.out]; apply ByteArray.ext; simp [endL]), fin _ HB.out⟩
      have g4 : (k == 4) = false := by simpa using h4
      have q1 : ¬ 9223372036854775807 < S.size + 5 := by omega
      go_wp2
      go_ret
      exact ⟨ret_str (by rw [HS.out]; apply ByteArray.ext; simp [endL, h1, h2, h3, h4]), fin _ HB.out⟩

theorem told_run (r : RD) (w : World) (h : RunAt w r) (hn : r.es.length ≤ 1000) (ho : EvOk r.es) (x0 : -9223372036854775808 ≤ r.x) (x1 : r.x ≤ 9223372036854775807) : Calls Tryd.prog 24 #[r.v] w (retP (.string ⟨(textR r).toArray⟩) w) := by
  obtain ⟨k, x, ev, lk, st, es, ls⟩ := r
  obtain ⟨⟨a, cap, he, h1, h2, h3⟩, _⟩ := h
  simp only [] at he hn ho x0 x1
  subst he
  exact told_walk k x st a _ cap lk es w rfl hn h3 ho x0 x1

end Go.Proofs.YtdibjidjocmfhaaDoor
