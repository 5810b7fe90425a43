/- Contract of trace's Text. -/
import Derived.Test.YtokdnjnkgflbcaaDoorTRef
import Derived.Test.YtokdnjnkgflbcaaDoorTBuild
namespace Go.Proofs.YtokdnjnkgflbcaaDoor
open Go.ChangeShapes Go.WideShapes Go.ChangeAt Go.RowKit Pl
set_option linter.unusedSimpArgs false
set_option linter.unusedVariables false

def lineL (e : Ev) : List UInt8 := wordL e.1 ++ (Lib.itoa e.2 ++ [10])
def textL (l : List Ev) : List UInt8 := l.flatMap lineL
/-- A run's text. -/
def textR (r : RD) : List UInt8 := textL r.es ++ (endL r.k r.x ++ [10])
/-- All numbers of the events are int64s. -/
def EvOk (l : List Ev) : Prop := ∀ x ∈ l, -9223372036854775808 ≤ x.2 ∧ x.2 ≤ 9223372036854775807
theorem wordL_length (k : Int) : (wordL k).length ≤ 4 := by unfold wordL; split <;> simp
theorem lineL_length (e : Ev) (h : -9223372036854775808 ≤ e.2 ∧ e.2 ≤ 9223372036854775807) : (lineL e).length ≤ 26 := by
  have := wordL_length e.1
  have h2 := Lib.itoa_length_le e.2 h.1 h.2
  simp only [lineL, List.length_append, List.length_cons, List.length_nil]
  omega
theorem textL_take {l : List Ev} {i : Nat} {x : Ev} (h : l[i]? = some x) : textL (l.take (i + 1)) = textL (l.take i) ++ lineL x := by
  unfold textL
  rw [List.take_add_one, h]
  simp
theorem textL_length (l : List Ev) (h : EvOk l) : (textL l).length ≤ 26 * l.length := by
  unfold textL
  induction l with
  | nil => simp
  | cons x r ih =>
    have h1 := lineL_length x (h x (by simp))
    have h2 := ih (fun y hy => h y (by simp [hy]))
    simp only [List.flatMap_cons, List.length_append, List.length_cons]
    omega
theorem endL_length (k x : Int) (h0 : -9223372036854775808 ≤ x) (h1 : x ≤ 9223372036854775807) : (endL k x).length ≤ 26 := by
  have h2 := Lib.itoa_length_le x h0 h1
  unfold endL
  split
  · simp only [List.length_append, List.length_cons, List.length_nil]; omega
  · split
    · simp
    · split
      · simp
      · split <;> simp
theorem strC (l : List UInt8) : Lib.strCells ⟨l.toArray⟩ = Lib.byteCells l := rfl
theorem size_ofList (l : List UInt8) : (⟨l.toArray⟩ : ByteArray).size = l.length := by simp [ByteArray.size]
abbrev IsB (B b : Nat) (l : List UInt8) (w : World) : Prop := Lib.IsBuilder 45 5 B b (Lib.byteCells l) w
theorem IsB.lt {B b : Nat} {l : List UInt8} {w : World} (h : IsB B b l w) : b < w.heap.size := by rcases h with h | h <;> exact h.lt
theorem writeS {B b : Nat} {l m : List UInt8} {w : World} (h : IsB B b l w) (hlen : l.length + m.length ≤ 140737488355328) (hBw : B ≤ w.heap.size) :
    Calls Tryd.prog 25 #[.pointer (some ⟨b, 0, none⟩), .string ⟨m.toArray⟩] w fun e w' => e = .returned (.tuple #[.int .i64 (⟨m.toArray⟩ : ByteArray).size, .nilIface]) ∧ IsB B b (l ++ m) w' ∧ Below B w w' ∧ Lib.OthersKept 5 (some b) w w' := by
  refine (writeString_any B b _ ⟨m.toArray⟩ w h (by rw [Lib.byteCells_length, size_ofList]; exact hlen) hBw).mono ?_
  rintro e w' ⟨rfl, h1, h2, h3⟩
  rw [strC, ← Lib.byteCells_append] at h1
  exact ⟨rfl, h1, h2, h3⟩
theorem writeB {B b : Nat} {l : List UInt8} {w : World} (h : IsB B b l w) (hlen : l.length + 1 ≤ 140737488355328) (hBw : B ≤ w.heap.size) :
    Calls Tryd.prog 28 #[.pointer (some ⟨b, 0, none⟩), .int .u8 10] w fun e w' => e = .returned .nilIface ∧ IsB B b (l ++ [10]) w' ∧ Below B w w' ∧ Lib.OthersKept 5 (some b) w w' := by
  refine (writeByte_any B b _ 10 w h (by rw [Lib.byteCells_length]; exact hlen) hBw).mono ?_
  rintro e w' ⟨rfl, h1, h2, h3⟩
  exact ⟨rfl, by show Lib.IsBuilder _ _ _ _ _ _; rw [Lib.byteCells_append]; exact h1, h2, h3⟩
set_option maxHeartbeats 4000000 in
theorem text_walk (k x st : Int) (a : Option Addr) (n cap : Nat) (lk : Value) (es : List Ev) (ls : List Lk) (w : World) (HN : Hid (n = es.length)) (hn : n ≤ 1000) (HE : Hid (EvL w a es)) (HO : Hid (EvOk es)) (x0 : -9223372036854775808 ≤ x) (x1 : x ≤ 9223372036854775807) (HT : Hid (Tab w)) :
    Calls Tryd.prog 10 #[.agg #[.int .i64 k, .int .i64 x, .slice a n cap, lk, .int .i64 st]] w (retP (.string ⟨(textL es ++ (endL k x ++ [10])).toArray⟩) w) := by
  go_enter Tryd.func10, Tryd.ntmps10
  go_wp2
  go_loopw [9] (fun v wr => ∃ i : Nat, i ≤ n ∧ v = .int .i64 i ∧ Hid (IsB (w.heap.size + 1) (w.heap.size + 1) (textL (es.take i)) wr) ∧ Hid (Below (w.heap.size + 1) (w.alloc (.cells #[.int .i64 k, .int .i64 x, .slice a n cap, lk, .int .i64 st] 27)) wr)) (fun v _ => n - (intOf v).toNat)
  case atStart =>
    refine ⟨0, by omega, rfl, ?_, ?_⟩
    · have := Lib.fresh_isBuilder 45 5 (w.alloc (.cells #[.int .i64 k, .int .i64 x, .slice a n cap, lk, .int .i64 st] 27))
      simpa [IsB, Hid, textL, Lib.byteCells] using this
    · have := bel_alloc (Below.refl (w.alloc (.cells #[.int .i64 k, .int .i64 x, .slice a n cap, lk, .int .i64 st] 27)).heap.size (w.alloc (.cells #[.int .i64 k, .int .i64 x, .slice a n cap, lk, .int .i64 st] 27))) (.cells #[.pointer none, .slice none 0 0] 45)
      simpa [Hid] using this
  case round =>
    obtain ⟨i, hi, rfl, HI, HB⟩ := hrel
    have HW : Hid (Below w.heap.size w wr) := by
      have h1 := HB.out
      exact (bel_alloc (Below.refl w.heap.size w) _).trans (h1.mono (by omega))
    have hsz : w.heap.size + 1 < wr.heap.size := IsB.lt HI.out
    by_cases hin : i < n
    · have i0 : (0 : Int) ≤ i := by omega
      have i1 : (i : Int) < n := by omega
      have hget := List.getElem?_eq_getElem (l := es) (show i < es.length by rw [← HN.out]; exact hin)
      generalize es[i]'(by rw [← HN.out]; exact hin) = ev at hget
      obtain ⟨b, off, rfl, hc⟩ := HE.out (fun e => by rw [e] at hget; simp at hget)
      obtain ⟨ek, en⟩ := ev
      have c0 := keep_cell HW.out (hc i _ hget).1
      have c1 := keep_cell HW.out (hc i _ hget).2
      have ho := HO.out _ (List.mem_of_getElem? hget)
      simp only [] at ho c0 c1
      obtain ⟨o0, o1⟩ := ho
      have hl1 : (textL (es.take i)).length ≤ 26000 := by
        have := textL_length (es.take i) (fun y hy => HO.out y (List.mem_of_mem_take hy))
        rw [List.length_take] at this
        omega
      have hl2 := wordL_length ek
      have hl3 := Lib.itoa_length_le en o0 o1
      have HG : Hid (textL (es.take (i + 1)) = textL (es.take i) ++ lineL (ek, en)) := textL_take hget
      clear hc hget
      have HS1 : Hid ((wr.alloc (.cells #[.int .i64 ek, .int .i64 en] 39)).heap[wr.heap.size]? = some (.cells #[.int .i64 ek, .int .i64 en] 39 (0, 0))) := heap_alloc_new wr _
      go_wp2_with fail
      refine (eventWord_any _ _ _).mono ?_
      rintro e w1 ⟨rfl, hb1⟩
      have HB1 : Hid (Below wr.heap.size wr w1) := (by repeat (first | with_reducible exact Below.refl _ _ | with_reducible refine bel_alloc ?_ _ | with_reducible refine bel_set ?_ (by first | exact Nat.le_refl _ | (simp; done) | (simp; omega)) _ | with_reducible refine Below.drew ?_ | refine bel_trans ?_ (by assumption)))
      have HI1 : Hid (IsB (w.heap.size + 1) (w.heap.size + 1) (textL (es.take i)) w1) := IsB.keep HI.out HB1.out
      have HV1 : Hid (w1.heap[wr.heap.size]? = some (.cells #[.int .i64 ek, .int .i64 en] 39 (0, 0))) := heap_keep hb1 HS1.out
      have z1 := HB1.out.size
      clear hb1 HS1
      go_wp2_with fail
      refine (writeS HI1.out (by omega) (by omega)).mono ?_
      rintro e w2 ⟨rfl, hi2, hb2, hk2⟩
      have HI2 : Hid (IsB (w.heap.size + 1) (w.heap.size + 1) (textL (es.take i) ++ wordL ek) w2) := hi2
      have HB2 : Hid (Below (w.heap.size + 1) w1 w2) := hb2
      have HV2 : Hid (w2.heap[wr.heap.size]? = some (.cells #[.int .i64 ek, .int .i64 en] 39 (0, 0))) := other_keep hk2 HV1.out (by omega) (by decide)
      have d1 : w2.cell? ⟨wr.heap.size, 1, none⟩ = some (.int .i64 en) := by rw [Lib.cell_of_heap HV2.out]; rfl
      have z2 := HB2.out.size
      clear hi2 hb2 hk2
      have HT2 : Hid (Tab w2) := by
        have h1 := bel_trans HW.out HB1.out
        exact tab_keep HT.out (h1.trans (HB2.out.mono (by omega)))
      go_wp2_with fail
      refine (number_any en _ _ rfl o0 o1 HT2.out).mono ?_
      rintro e w3 ⟨rfl, hb3⟩
      have HB3 : Hid (Below w2.heap.size w2 w3) := hb3
      have HI3 : Hid (IsB (w.heap.size + 1) (w.heap.size + 1) (textL (es.take i) ++ wordL ek) w3) := IsB.keep HI2.out hb3
      have z3 := HB3.out.size
      clear hb3
      go_wp2_with fail
      refine (writeS HI3.out (by rw [List.length_append]; omega) (by omega)).mono ?_
      rintro e w4 ⟨rfl, hi4, hb4, hk4⟩
      have HI4 : Hid (IsB (w.heap.size + 1) (w.heap.size + 1) ((textL (es.take i) ++ wordL ek) ++ Lib.itoa en) w4) := hi4
      have HB4 : Hid (Below (w.heap.size + 1) w3 w4) := hb4
      have z4 := HB4.out.size
      clear hi4 hb4 hk4
      go_wp2_with fail
      refine (writeB HI4.out (by rw [List.length_append, List.length_append]; omega) (by omega)).mono ?_
      rintro e w5 ⟨rfl, hi5, hb5, hk5⟩
      have HI5 : Hid (IsB (w.heap.size + 1) (w.heap.size + 1) (textL (es.take (i + 1))) w5) := by
        show IsB _ _ _ _
        rw [HG.out, show textL (es.take i) ++ lineL (ek, en) = ((textL (es.take i) ++ wordL ek) ++ Lib.itoa en) ++ [10] by simp [lineL]]
        exact hi5
      have HB5 : Hid (Below (w.heap.size + 1) w4 w5) := hb5
      clear hi5 hb5 hk5
      go_wp2
      go_roundw
      case rel =>
        refine ⟨i + 1, by omega, by simp, HI5, ?_⟩
        exact ((((HB.out.trans (HB1.out.mono (by omega))).trans HB2.out).trans (HB3.out.mono (by omega))).trans HB4.out).trans HB5.out
      case measure => simp [intOf]; omega
    · have hie : i = n := by omega
      subst hie
      have q : es.take i = es := List.take_of_length_le (by rw [← HN.out]; omega)
      have HI' : Hid (IsB (w.heap.size + 1) (w.heap.size + 1) (textL es) wr) := by have := HI.out; rw [q] at this; exact this
      have hl1 : (textL es).length ≤ 26000 := by
        have h1 := textL_length es HO.out
        have := HN.out
        omega
      have hl2 := endL_length k x x0 x1
      clear q HI
      have t0 : wr.cell? ⟨w.heap.size, 0, none⟩ = some (.int .i64 k) := by rw [HB.out.cell (by show w.heap.size < _; omega)]; simp
      have t1 : wr.cell? ⟨w.heap.size, 1, none⟩ = some (.int .i64 x) := by rw [HB.out.cell (by show w.heap.size < _; omega)]; simp
      have t2 : wr.cell? ⟨w.heap.size, 2, none⟩ = some (.slice a i cap) := by rw [HB.out.cell (by show w.heap.size < _; omega)]; simp
      have t3 : wr.cell? ⟨w.heap.size, 3, none⟩ = some lk := by rw [HB.out.cell (by show w.heap.size < _; omega)]; simp
      have t4 : wr.cell? ⟨w.heap.size, 4, none⟩ = some (.int .i64 st) := by rw [HB.out.cell (by show w.heap.size < _; omega)]; simp
      go_wp2_with fail
      refine (end_any ⟨k, x, .slice a i cap, lk, st, es, ls⟩ _ x0 x1 (tab_keep HT.out HW.out)).mono ?_
      rintro e w1 ⟨rfl, hb1⟩
      have HB1 : Hid (Below wr.heap.size wr w1) := hb1
      have HI1 : Hid (IsB (w.heap.size + 1) (w.heap.size + 1) (textL es) w1) := IsB.keep HI'.out hb1
      have z1 := HB1.out.size
      clear hb1
      go_wp2_with fail
      refine (writeS HI1.out (by omega) (by omega)).mono ?_
      rintro e w2 ⟨rfl, hi2, hb2, hk2⟩
      have HI2 : Hid (IsB (w.heap.size + 1) (w.heap.size + 1) (textL es ++ endL k x) w2) := hi2
      have HB2 : Hid (Below (w.heap.size + 1) w1 w2) := hb2
      have z2 := HB2.out.size
      clear hi2 hb2 hk2
      go_wp2_with fail
      refine (writeB HI2.out (by rw [List.length_append]; omega) (by omega)).mono ?_
      rintro e w3 ⟨rfl, hi3, hb3, hk3⟩
      have HI3 : Hid (IsB (w.heap.size + 1) (w.heap.size + 1) (textL es ++ (endL k x ++ [10])) w3) := by
        show IsB _ _ _ _
        rw [← List.append_assoc]
        exact hi3
      have HB3 : Hid (Below (w.heap.size + 1) w2 w3) := hb3
      have z3 := HB3.out.size
      clear hi3 hb3 hk3
      go_wp2_with fail
      refine (Tryd.Builder_String_any _ _ _ _ HI3.out (by omega)).mono ?_
      rintro e w4 ⟨rfl, hb4⟩
      have HB4 : Hid (Below (w.heap.size + 1) w3 w4) := hb4
      clear hb4
      go_wp2
      go_ret
      exact ⟨rfl, (((((HW.out.trans (HB1.out.mono (by omega))).trans (HB2.out.mono (by omega))).trans (HB3.out.mono (by omega))).trans (HB4.out.mono (by omega))))⟩
theorem text_run (r : RD) (w : World) (h : RunAt w r) (hn : r.es.length ≤ 1000) (ho : EvOk r.es) (x0 : -9223372036854775808 ≤ r.x) (x1 : r.x ≤ 9223372036854775807) (ht : Tab w) : Calls Tryd.prog 10 #[r.v] w (retP (.string ⟨(textR r).toArray⟩) w) := by
  obtain ⟨k, x, ev, lk, st, es, ls⟩ := r
  obtain ⟨⟨a, cap, he, h1, h2, h3⟩, _⟩ := h
  simp only [] at he hn ho x0 x1
  subst he
  exact text_walk k x st a _ cap lk es ls w rfl hn h3 ho x0 x1 ht
end Go.Proofs.YtokdnjnkgflbcaaDoor
