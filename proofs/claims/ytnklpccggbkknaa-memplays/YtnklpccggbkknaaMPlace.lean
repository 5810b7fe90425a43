/- Contracts of blankPage, place. -/
import Derived.Test.YtnklpccggbkknaaMFree
namespace Go.Proofs.Ytnklpccggbkknaa
open Go.ChangeShapes Go.WideShapes Go.ChangeAt Go.RowKit Pl
set_option linter.unusedSimpArgs false
set_option linter.unusedVariables false

/-- The cells of a page's words. -/
def flat (f : Nat → WD) : Nat → List Value
  | 0 => []
  | n + 1 => flat f n ++ wcell (f n)
def zpage : Array Value := (flat (fun _ => noW) 64).toArray
theorem zv101 (w : World) : Sem.run Try.prog (zeroValue 93) w = .ok (.agg zpage) w := by kernel_rfl
theorem ia101 (w : World) : Sem.run Try.prog (isAgg 93) w = .ok true w := by kernel_rfl
theorem so101 (w : World) : Sem.run Try.prog (sizeOf 93) w = .ok 384 w := by kernel_rfl
theorem un101 : Try.prog.underlying 93 = some (.array 64 74) := by kernel_rfl
set_option maxHeartbeats 4000000 in
theorem bp_plain (g o : Nat) (x : Int) (w : World) (c2 : w.cell? ⟨g, o + 2, none⟩ = some (.bool false)) :
    Calls Try.prog 53 #[.pointer (some ⟨g, o, none⟩), .int .i64 x] w fun e w' => e = .returned (.pointer (some ⟨w.heap.size, 0, none⟩)) ∧ w' = w.alloc (.cells zpage 93) := by
  have gl : g < w.heap.size := block_lt_of_cell c2
  have z101 := zv101
  generalize zpage = zp at *
  go_enter Try.func53, Try.ntmps53
  go_wp2
  go_ret
  exact ⟨rfl, rfl⟩
theorem flat_len (f : Nat → WD) : ∀ n, (flat f n).length = n * 6
  | 0 => rfl
  | n + 1 => by rw [flat, List.length_append, flat_len f n]; simp [wcell]; omega
theorem flat_get (f : Nat → WD) (i r : Nat) (hr : r < 6) : ∀ n, i < n → (flat f n)[i * 6 + r]? = (wcell (f i))[r]?
  | 0, h => by omega
  | n + 1, h => by
    rw [flat, List.getElem?_append]
    by_cases hi : i < n
    · rw [if_pos (by rw [flat_len]; omega)]
      exact flat_get f i r hr n hi
    · have : i = n := by omega
      subst this
      rw [if_neg (by rw [flat_len]; omega), flat_len, show i * 6 + r - i * 6 = r by omega]
theorem page_of_flat {w : World} {q : Nat} {f : Nat → WD} {t : TypeId} (h : w.heap[q]? = some (.cells (flat f 64).toArray t (0, 0))) : PageIs w q f :=
  ⟨fun i hi => by
    have hg : ∀ r, r < 6 → ((flat f 64).toArray)[i * 6 + r]? = (wcell (f i))[r]? := fun r hr => by simpa using flat_get f i r hr 64 hi
    exact ⟨heap_cell h ((hg 0 (by omega)).trans rfl), heap_cell h ((hg 1 (by omega)).trans rfl), heap_cell h ((hg 2 (by omega)).trans rfl), heap_cell h ((hg 3 (by omega)).trans rfl), heap_cell h ((hg 4 (by omega)).trans rfl), heap_cell h ((hg 5 (by omega)).trans rfl)⟩,
   fun o => heap_frozen h⟩
/-- The page's words are turned one by one. -/
def upto (f : Nat → WD) (k : Nat) : Nat → WD := fun i => if i < k then f i else noW
theorem PageIs.step {w w' : World} {q k : Nat} {f : Nat → WD} (h : PageIs w q (upto f k)) (hf : WFr w w' q (k * 6)) (hx : WIs w' q (k * 6) (f k)) (hk : k < 64) : PageIs w' q (upto f (k + 1)) := by
  refine ⟨fun i hi => ?_, fun o => (hf.fz o).trans (h.fz o)⟩
  by_cases hik : i = k
  · subst hik
    simpa [upto] using hx
  · have e : upto f (k + 1) i = upto f k i := by
      unfold upto
      by_cases h1 : i < k
      · rw [if_pos h1, if_pos (by omega)]
      · rw [if_neg h1, if_neg (by omega)]
    rw [e]
    have h1 := h.c i hi
    exact ⟨(hf.old _ (by omega)).trans h1.c0, (hf.old _ (by omega)).trans h1.c1, (hf.old _ (by omega)).trans h1.c2, (hf.old _ (by omega)).trans h1.c3, (hf.old _ (by omega)).trans h1.c4, (hf.old _ (by omega)).trans h1.c5⟩
theorem WFr.toBelow {w w' : World} {q e : Nat} (h : WFr w w' q e) {W : World} (hW : Below q W w) (hq : q ≤ w.heap.size) : Below q W w' :=
  hW.trans ⟨h.os, h.tape, h.output, h.size, fun k hk => h.block k (by omega) (by omega)⟩
theorem bp_step {w wr w' : World} {f : Nat → WD} {k : Nat} (hb : Below w.heap.size w wr) (hq : w.heap.size < wr.heap.size) (hp : PageIs wr w.heap.size (upto f k)) (hk : k < 64)
    (hW : WFr wr w' w.heap.size (k * 6)) (hx : WIs w' w.heap.size (k * 6) (f k)) : Below w.heap.size w w' ∧ w.heap.size < w'.heap.size ∧ PageIs w' w.heap.size (upto f (k + 1)) :=
  ⟨hW.toBelow hb (Nat.le_of_lt hq), Nat.lt_of_lt_of_le hq hW.size, hp.step hW hx hk⟩
set_option maxHeartbeats 1000000 in
theorem bp_zero (g o s num : Nat) (w : World) (c0 : w.cell? ⟨g, o, none⟩ = some (.int .i64 s)) (c2 : w.cell? ⟨g, o + 2, none⟩ = some (.bool true)) (hs : s ≤ 65536) (hn : num ≤ 1000) :
    Calls Try.prog 53 #[.pointer (some ⟨g, o, none⟩), .int .i64 num] w fun e w' => e = .returned (.pointer (some ⟨w.heap.size, 0, none⟩)) ∧ Below w.heap.size w w' ∧ w.heap.size < w'.heap.size ∧ PageIs w' w.heap.size (fun i => blankF s true (num * 64 + i)) := by
  have gl : g < w.heap.size := block_lt_of_cell c0
  have z101 := zv101
  have hP0 : PageIs (w.alloc (.cells zpage 93)) w.heap.size (upto (fun i => blankF s true (num * 64 + i)) 0) := by
    have := page_of_flat (f := fun _ => noW) (heap_alloc_new w (.cells zpage 93))
    exact ⟨fun i hi => by simpa [upto] using this.c i hi, this.fz⟩
  have BC : Hid (∀ (W : World) (k : Nat), k < 64 → Below w.heap.size w W → Calls Try.prog 48 #[.pointer (some ⟨g, o, none⟩), .int .i64 ((num : Int) * 64 + (k : Int))] W (retW (blankF s true (num * 64 + k)) W)) := fun W k hk hW => by
    have := blank_any g o s (num * 64 + k) true W (keep_cell hW c0) (keep_cell hW c2) hs (by omega)
    rwa [show ((num * 64 + k : Nat) : Int) = (num : Int) * 64 + (k : Int) by push_cast; rfl] at this
  have HP : Hid (PageIs (w.alloc (.cells zpage 93)) w.heap.size (upto (fun i => blankF s true (num * 64 + i)) 0)) := hP0
  clear hP0
  generalize zpage = zp at *
  go_enter Try.func53, Try.ntmps53
  go_wp2
  go_loopw [13] (fun i wr => ∃ k : Nat, k ≤ 64 ∧ i = .int .i64 k ∧ Below w.heap.size w wr ∧ w.heap.size < wr.heap.size ∧ PageIs wr w.heap.size (upto (fun i => blankF s true (num * 64 + i)) k))
    (fun i _ => 64 - (intOf i).toNat)
  case atStart => exact ⟨0, by omega, rfl, (by repeat (first | with_reducible exact Below.refl _ _ | with_reducible refine bel_alloc ?_ _ | with_reducible refine bel_set ?_ (by first | exact Nat.le_refl _ | (simp; done) | (simp; omega)) _ | with_reducible refine Below.drew ?_ | refine bel_trans ?_ (by assumption))), by simp, HP.out⟩
  case round =>
    obtain ⟨k, hk, rfl, hb, hq, hp⟩ := hrel
    by_cases hk64 : k < 64
    · obtain ⟨p0, p1, p2, p3, p4, p5⟩ := hp.c k hk64
      have HPk : Hid (PageIs wr w.heap.size (upto (fun i => blankF s true (num * 64 + i)) k)) := hp
      have z0 := hp.fz (k * 6); have z1 := hp.fz (k * 6 + 1); have z2 := hp.fz (k * 6 + 2); have z3 := hp.fz (k * 6 + 3); have z4 := hp.fz (k * 6 + 4); have z5 := hp.fz (k * 6 + 5)
      have HB : Hid (Below w.heap.size w wr) := hb
      clear hp hb
      have k0 : (0 : Int) ≤ k := by omega
      have e1 : IntKind.i64.wrap ((num : Int) * 64) = (num : Int) * 64 := by rw [i64w]; unfold wrap64; omega
      have e2 : IntKind.i64.wrap ((num : Int) * 64 + (k : Int)) = (num : Int) * 64 + (k : Int) := by rw [i64w]; unfold wrap64; omega
      go_wp2
      go_region_with (go_at_call 48; refine (BC.out _ k hk64 (Below.drew HB.out)).mono ?_; rintro e w1 ⟨rfl, hb1⟩; have hz1 := bsize hb1; (try simp only [World.size_drew] at hz1); replace z0 := keep_frozen hb1 (show wr.drew.cell? _ = _ from p0) (show wr.drew.frozen? _ = _ from z0); replace z1 := keep_frozen hb1 (show wr.drew.cell? _ = _ from p1) (show wr.drew.frozen? _ = _ from z1); replace z2 := keep_frozen hb1 (show wr.drew.cell? _ = _ from p2) (show wr.drew.frozen? _ = _ from z2); replace z3 := keep_frozen hb1 (show wr.drew.cell? _ = _ from p3) (show wr.drew.frozen? _ = _ from z3); replace z4 := keep_frozen hb1 (show wr.drew.cell? _ = _ from p4) (show wr.drew.frozen? _ = _ from z4); replace z5 := keep_frozen hb1 (show wr.drew.cell? _ = _ from p5) (show wr.drew.frozen? _ = _ from z5); replace p0 := keep_cell hb1 (show wr.drew.cell? _ = _ from p0); replace p1 := keep_cell hb1 (show wr.drew.cell? _ = _ from p1); replace p2 := keep_cell hb1 (show wr.drew.cell? _ = _ from p2); replace p3 := keep_cell hb1 (show wr.drew.cell? _ = _ from p3); replace p4 := keep_cell hb1 (show wr.drew.cell? _ = _ from p4); replace p5 := keep_cell hb1 (show wr.drew.cell? _ = _ from p5))
      all_goals
        go_wp2
        go_roundw
        case rel =>
          exact ⟨k + 1, by omega, by simp, bp_step HB.out hq HPk.out hk64
            (by repeat (first | with_reducible exact WFr.refl _ _ _ | with_reducible refine WFr.set ?_ _ (by omega) _ | with_reducible refine WFr.drew ?_ | exact (WFr.refl wr _ _).drew.below hq hb1))
            (show WIs _ _ _ (blankF s true (num * 64 + k)) from ⟨by go_simp, by go_simp, by go_simp, by go_simp, by go_simp, by go_simp⟩)⟩
        case measure => simp [intOf]; omega
    · have hk' : k = 64 := by omega
      subst hk'
      have HPk : Hid (PageIs wr w.heap.size (upto (fun i => blankF s true (num * 64 + i)) 64)) := hp
      have HB : Hid (Below w.heap.size w wr) := hb
      clear hp hb
      go_wp2
      go_ret
      refine ⟨rfl, HB.out, hq, ⟨fun i hi => ?_, HPk.out.fz⟩⟩
      have := HPk.out.c i hi
      simpa [upto, hi] using this
theorem bp_any (g o s num : Nat) (z : Bool) (w : World) (c0 : w.cell? ⟨g, o, none⟩ = some (.int .i64 s)) (c2 : w.cell? ⟨g, o + 2, none⟩ = some (.bool z)) (hs : s ≤ 65536) (hn : num ≤ 1000) :
    Calls Try.prog 53 #[.pointer (some ⟨g, o, none⟩), .int .i64 num] w fun e w' => e = .returned (.pointer (some ⟨w.heap.size, 0, none⟩)) ∧ Below w.heap.size w w' ∧ w.heap.size < w'.heap.size ∧ PageIs w' w.heap.size (fun i => blankF s z (num * 64 + i)) := by
  cases z
  · refine (bp_plain g o num w c2).mono ?_
    rintro e w' ⟨rfl, rfl⟩
    have hP := page_of_flat (f := fun _ => noW) (heap_alloc_new w (.cells zpage 93))
    exact ⟨rfl, (Below.refl _ w).alloc (Nat.le_refl _) _, by simp, ⟨fun i hi => by simpa [blankF] using hP.c i hi, hP.fz⟩⟩
  · exact bp_zero g o s num w c0 c2 hs hn
end Go.Proofs.Ytnklpccggbkknaa
