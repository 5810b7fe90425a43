import Derived.Test.YtlonbaefdffbeaaGreatDoorATyp
import Derived.Deep.LoopGhost
namespace Go.Proofs.YtlonbaefdffbeaaGreatDoor
open Go.ChangeShapes Go.WideShapes Go.ChangeAt Go.RowKit Go.Proofs.Tryz
set_option linter.unusedSimpArgs false
set_option linter.unusedVariables false
set_option maxHeartbeats 2000000

def retNd (c : PC) (s : PSt) (d : ND) (w : World) : Ending → World → Prop := fun e W => ∃ b, e = .returned (.pointer (some ⟨b, 0, none⟩)) ∧ W.heap[b]? = some (.cells (nodeCells d (.slice none 0 0) 0) 87 (0, 0)) ∧ w.heap.size ≤ b ∧ PAt W c s ∧ Chg c.PB w W
def namedD (x : Wd) (t : Sh) : ND := ⟨0, x.pl, x.pc, x.s, ⟨#[]⟩, 0, t, false, 0⟩
theorem named_any (c : PC) (s : PSt) (t : Sh) (w : World) (hp : PAt w c s) : Calls prog 65 #[.pointer (some ⟨c.PB, 0, none⟩), shV t] w (retNd c (needKF c s 1).2 (namedD (needKF c s 1).1 t) w) := by
 unfold shV;have PL := hp.lt;have gz : w.heap.size ≠ c.PB := by omega
 have HA : Hid (Below w.heap.size w (w.alloc (.cells #[.string t.base, .int .i64 t.stars, .bool t.isList, .int .i64 t.count] 85))) := bel_alloc (Below.refl _ _) _;have HP : Hid (PAt w c s) := hp;have HK : Hid (∀ W, PAt W c s → Calls prog 92 #[pp c, .int .i64 1] W (retWP (needKF c s 1).1 c (needKF c s 1).2 W)) := fun W h => needKind_any c s 1 W h (by decide);obtain ⟨x, hx⟩ : ∃ x, (needKF c s 1).1 = x := ⟨_, rfl⟩;obtain ⟨s2, hs2⟩ : ∃ s2, (needKF c s 1).2 = s2 := ⟨_, rfl⟩;rw [hx, hs2] at HK ⊢;clear hp hx hs2
 go_enter func65, ntmps65
 go_wp2_with fail
 refine (HK.out _ (HP.out.below HA.out)).mono ?_;rintro e w1 ⟨rfl, hp1, hg1⟩;have HP1 : Hid (PAt w1 c s2) := hp1;have HG1 : Hid (Chg c.PB w w1) := (Chg.of HA.out).trans hg1;have b0 : w1.heap[w.heap.size]? = some (.cells #[.string t.base, .int .i64 t.stars, .bool t.isList, .int .i64 t.count] 85 (0, 0)) := zero_blk (World.alloc_heap_new w _) hg1 gz;have l1 : w.heap.size < w1.heap.size := (zge b0).1;have t0 : w1.cell? ⟨w.heap.size, 0, none⟩ = some (.string t.base) := heap_cell b0 (by simp);have gt0 : w1.frozen? ⟨w.heap.size, 0, none⟩ = false := heap_frozen b0;have t1 : w1.cell? ⟨w.heap.size, 1, none⟩ = some (.int .i64 t.stars) := heap_cell b0 (by simp);have gt1 : w1.frozen? ⟨w.heap.size, 1, none⟩ = false := heap_frozen b0;have t2 : w1.cell? ⟨w.heap.size, 2, none⟩ = some (.bool t.isList) := heap_cell b0 (by simp);have gt2 : w1.frozen? ⟨w.heap.size, 2, none⟩ = false := heap_frozen b0;have t3 : w1.cell? ⟨w.heap.size, 3, none⟩ = some (.int .i64 t.count) := heap_cell b0 (by simp);have gt3 : w1.frozen? ⟨w.heap.size, 3, none⟩ = false := heap_frozen b0;clear hp1 hg1;dsimp only;go_wp2;go_ret;refine ⟨_, rfl, ?_, by first | omega | (simp; omega), HP1.out.below (bel_alloc (bel_alloc (Below.refl _ _) _) _), (HG1.out.alloc _).alloc _⟩;have := World.alloc_heap_new (w1.alloc (.cells #[.int .i64 x.k, .string x.s, .int .i64 x.n, .int .i64 x.pl, .int .i64 x.pc] 93)) (.cells (nodeCells (namedD x t) (.slice none 0 0) 0) 87);rw [World.size_alloc] at this
 first | exact this | simpa using this
def starsF (c : PC) : Nat → PSt → Int → Int × PSt
 | 0, s, n => (n, s)
 | f + 1, s, n => if isF c s ⟨#[42]⟩ = true then starsF c f { s with i := s.i + 1 } (wrap64 (n + 1)) else (n, s)
def starsOf (c : PC) (s : PSt) (n : Int) : Int × PSt := starsF c (c.ws.length + 1 - s.i) s n
theorem starsOf_more (c : PC) (s : PSt) (n : Int) (h : isF c s ⟨#[42]⟩ = true) : starsOf c s n = starsOf c { s with i := s.i + 1 } (wrap64 (n + 1)) := by
 have hl := (isF_lt c s _ (by decide) h).2;unfold starsOf;dsimp only;rw [show c.ws.length + 1 - s.i = (c.ws.length + 1 - (s.i + 1)) + 1 by omega, starsF, if_pos h]
theorem starsOf_end (c : PC) (s : PSt) (n : Int) (hi : s.i ≤ c.ws.length) (h : isF c s ⟨#[42]⟩ = false) : starsOf c s n = (n, s) := by
 unfold starsOf;rw [show c.ws.length + 1 - s.i = (c.ws.length - s.i) + 1 by omega, starsF, if_neg (by rw [h]; decide)]
def baseF (c : PC) (s : PSt) : ByteArray × PSt :=
 if ((wordF c s).s.toList == (⟨#[115, 116, 114, 117, 99, 116]⟩ : ByteArray).toList) = true then ((wordF c s).s ++ (⟨#[32]⟩ ++ (needKF c { s with i := s.i + 1 } 1).1.s), (needKF c { s with i := s.i + 1 } 1).2) else ((wordF c s).s, { s with i := s.i + 1 })
def typF (c : PC) (s : PSt) : Sh × PSt :=
 if beginF c s s.i = true then (⟨(baseF c s).1, (starsOf c (baseF c s).2 0).1, false, 0⟩, (starsOf c (baseF c s).2 0).2) else (noSh, refuseF c s)
end Go.Proofs.YtlonbaefdffbeaaGreatDoor
