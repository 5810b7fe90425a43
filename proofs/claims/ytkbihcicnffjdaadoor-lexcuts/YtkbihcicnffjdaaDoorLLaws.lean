/- Words' answer as the laws look at it. -/
import Derived.Test.YtkbihcicnffjdaaDoorLMath
namespace Go.Proofs.YtkbihcicnffjdaaDoor
open Go.ChangeShapes Go.WideShapes Go.ChangeAt Go.RowKit
set_option linter.unusedSimpArgs false
set_option linter.unusedVariables false

/-- A slice of words. -/
structure WordsAt (W : World) (t : ByteArray) (a : Option Addr) (cap : Nat) (l : List (WW × Nat)) : Prop where
  cap : l.length ≤ cap
  row : l ≠ [] → ∃ g, a = some ⟨g, 0, none⟩ ∧ g < W.heap.size ∧ ∀ i x j, l[i]? = some (x, j) → WordCells W g i x (posOf t j)
theorem WordCells.keep {W W' : World} {g i : Nat} {x : WW} {p : Nat × Nat} (h : WordCells W g i x p) (hb : Below W.heap.size W W') : WordCells W' g i x p :=
  ⟨keep_cell hb h.c0, keep_cell hb h.c1, keep_cell hb h.c2, keep_cell hb h.c3, keep_cell hb h.c4⟩
theorem WordsAt.keep {W W' : World} {t : ByteArray} {a : Option Addr} {cap : Nat} {l : List (WW × Nat)} (h : WordsAt W t a cap l) (hb : Below W.heap.size W W') : WordsAt W' t a cap l :=
  ⟨h.cap, fun hne => match h.row hne with
    | ⟨g, h1, h2, h3⟩ => ⟨g, h1, Nat.lt_of_lt_of_le h2 hb.size, fun i x j hx => (h3 i x j hx).keep hb⟩⟩
theorem WordsAt.drew {W : World} {t : ByteArray} {a : Option Addr} {cap : Nat} {l : List (WW × Nat)} (h : WordsAt W t a cap l) : WordsAt W.drew t a cap l :=
  h.keep ((Below.refl _ _).drew)
theorem words_at {W : World} {base : Nat} {v : Value} {t : ByteArray} {l : List (WW × Nat)} (h : W.ownsRow base 30 5 v l.length (wordsCells t l)) :
    ∃ a cap, v = .slice a l.length cap ∧ WordsAt W t a cap l := by
  by_cases hne : l = []
  · subst hne
    rcases h.2 with ⟨h1, _⟩ | ⟨g, cap, cur, h1, _⟩
    · exact ⟨none, 0, h1, ⟨Nat.le_refl _, fun h => absurd rfl h⟩⟩
    · exact ⟨_, cap, h1, ⟨Nat.zero_le _, fun h => absurd rfl h⟩⟩
  · obtain ⟨g, cap, h1, h2, h3, h4, h5⟩ := words_row h hne
    exact ⟨_, cap, h1, ⟨h4, fun _ => ⟨g, rfl, h3, h5⟩⟩⟩
theorem words_ok (t : ByteArray) (w : World) (hl : LexTab w) (he : ErrTab w) (hs : t.size ≤ 65536) (hx : (lexAll t).2 = t.size) :
    Calls Tryd.prog 9 #[.string t] w fun e W => ∃ a cap, e = .returned (.tuple #[.slice a (lexAll t).1.length cap, .agg #[.int .i64 0, .int .i64 0], .int .i64 0]) ∧ WordsAt W t a cap (lexAll t).1 ∧ Below w.heap.size w W := by
  refine (words_any t w hl he).mono ?_
  rintro e W ⟨hb, h⟩
  rw [if_neg (by omega), hx, if_neg (by omega)] at h
  obtain ⟨v, rfl, ho⟩ := h
  obtain ⟨a, cap, rfl, h1⟩ := words_at ho
  exact ⟨a, cap, rfl, h1, hb⟩
theorem words_lim (t : ByteArray) (w : World) (hl : LexTab w) (he : ErrTab w) (hs : 65536 < t.size) :
    Calls Tryd.prog 9 #[.string t] w fun e W => e = .returned (.tuple #[.slice none 0 0, .agg #[.int .i64 0, .int .i64 0], .int .i64 2]) ∧ Below w.heap.size w W := by
  refine (words_any t w hl he).mono ?_
  rintro e W ⟨hb, h⟩
  rw [if_pos hs] at h
  exact ⟨h, hb⟩
/-- Words of a text that is not cut to its end. -/
theorem words_fault (t : ByteArray) (w : World) (hl : LexTab w) (he : ErrTab w) (hs : t.size ≤ 65536) (hx : ¬ (lexAll t).2 = t.size) :
    Calls Tryd.prog 9 #[.string t] w fun e W => (∃ pl pc : Nat, posOf t (lexAll t).2 = (pl, pc) ∧ e = .returned (.tuple #[.slice none 0 0, .agg #[.int .i64 pl, .int .i64 pc], .int .i64 3])) ∧ Below w.heap.size w W := by
  refine (words_any t w hl he).mono ?_
  rintro e W ⟨hb, h⟩
  have := lexAll_end t
  rw [if_neg (by omega), if_pos (by omega)] at h
  exact ⟨⟨_, _, rfl, h⟩, hb⟩
end Go.Proofs.YtkbihcicnffjdaaDoor
