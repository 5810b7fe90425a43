/- The contract of the document's own Bin, whole: it answers as val's. -/
import Derived.Test.YtfkalcfkbaimgaaDoorRef4
namespace Go.Proofs.YtfkalcfkbaimgaaDoor
open Go.ChangeShapes Go.WideShapes Go.ChangeAt Go.RowKit Pl
set_option linter.unusedSimpArgs false
set_option linter.unusedVariables false


theorem good_kind (k n b : Int) (h : goodF ⟨k, n, b⟩ = true) : k = 0 ∨ (k = 1 ∧ b = 0) ∨ k = 2 := by
  unfold goodF at h
  by_cases h0 : k = 0
  · exact .inl h0
  by_cases h1 : k = 1
  · simp [h1] at h; exact .inr (.inl ⟨h1, h⟩)
  by_cases h2 : k = 2
  · exact .inr (.inr h2)
  · simp [h0, h1, h2] at h
set_option maxHeartbeats 1000000 in
theorem rbin_any (op ak an ab bk bn bb : Int) (w : World) (an0 : -9223372036854775808 ≤ an) (an1 : an ≤ 9223372036854775807) (bn0 : -9223372036854775808 ≤ bn) (bn1 : bn ≤ 9223372036854775807) :
    Calls Tryd.prog 17 #[.int .i64 op, .agg #[.int .i64 ak, .int .i64 an, .int .i64 ab], .agg #[.int .i64 bk, .int .i64 bn, .int .i64 bb]] w (retV (binF op ⟨ak, an, ab⟩ ⟨bk, bn, bb⟩).1 (binF op ⟨ak, an, ab⟩ ⟨bk, bn, bb⟩).2 w) := by
  cases ga : goodF ⟨ak, an, ab⟩
  · exact rb_ng1 _ _ _ _ _ _ _ w ga
  cases gb : goodF ⟨bk, bn, bb⟩
  · exact rb_ng2 _ _ _ _ _ _ _ w ga gb
  rcases good_kind _ _ _ ga with rfl | ⟨rfl, rfl⟩ | rfl
  · exact rb_u1 _ _ _ _ _ _ w ga gb
  · rcases good_kind _ _ _ gb with rfl | ⟨rfl, rfl⟩ | rfl
    · exact rb_u2 _ _ _ _ _ _ w ga gb (by decide)
    · exact rb_ii _ _ _ w ga gb an0 an1 bn0 bn1
    · by_cases h11 : op = 11
      · subst h11; exact rb_ip11 _ _ _ w ga gb
      by_cases h12 : op = 12
      · subst h12; exact rb_ip12 _ _ _ w ga gb
      by_cases h21 : op = 21
      · subst h21
        by_cases hz : an = 0
        · subst hz; exact rb_ip21z _ _ w ga gb
        · exact rb_ip21n _ _ _ w ga gb hz (by simp [hz])
      by_cases h22 : op = 22
      · subst h22
        by_cases hz : an = 0
        · subst hz; exact rb_ip22z _ _ w ga gb
        · exact rb_ip22n _ _ _ w ga gb hz (by simp [hz])
      exact rb_ipx _ _ _ _ w ga gb h11 (by simp [h11]) (by simp [h11]) h12 (by simp [h12]) (by simp [h12]) h21 (by simp [h21]) (by simp [h21]) h22 (by simp [h22]) (by simp [h22])
  · rcases good_kind _ _ _ gb with rfl | ⟨rfl, rfl⟩ | rfl
    · exact rb_u2 _ _ _ _ _ _ w ga gb (by decide)
    · by_cases h11 : op = 11
      · subst h11; exact rb_pi11 _ _ _ w ga gb
      by_cases h12 : op = 12
      · subst h12; exact rb_pi12 _ _ _ w ga gb
      by_cases h21 : op = 21
      · subst h21
        by_cases hz : bn = 0
        · subst hz; exact rb_pi21z _ _ w ga gb
        · exact rb_pi21n _ _ _ w ga gb hz (by simp [hz])
      by_cases h22 : op = 22
      · subst h22
        by_cases hz : bn = 0
        · subst hz; exact rb_pi22z _ _ w ga gb
        · exact rb_pi22n _ _ _ w ga gb hz (by simp [hz])
      exact rb_pix _ _ _ _ w ga gb h11 (by simp [h11]) (by simp [h11]) h12 (by simp [h12]) (by simp [h12]) h21 (by simp [h21]) (by simp [h21]) h22 (by simp [h22]) (by simp [h22])
    · by_cases h11 : op = 11
      · subst h11; exact rb_pp11 _ _ _ _ w ga gb
      by_cases h12 : op = 12
      · subst h12; exact rb_pp12 _ _ _ _ w ga gb
      by_cases h21 : op = 21
      · subst h21
        by_cases hz : an = bn
        · subst hz
          by_cases hy : ab = bb
          · subst hy; exact rb_pp21e _ _ w ga
          · exact rb_pp21b _ _ _ w ga gb (by simp [hy])
        · exact rb_pp21n _ _ _ _ w ga gb (by simp [hz])
      by_cases h22 : op = 22
      · subst h22
        by_cases hz : an = bn
        · subst hz
          by_cases hy : ab = bb
          · subst hy; exact rb_pp22e _ _ w ga
          · exact rb_pp22b _ _ _ w ga gb (by simp [hy])
        · exact rb_pp22n _ _ _ _ w ga gb (by simp [hz])
      exact rb_ppx _ _ _ _ _ w ga gb h11 (by simp [h11]) (by simp [h11]) h12 (by simp [h12]) (by simp [h12]) h21 (by simp [h21]) (by simp [h21]) h22 (by simp [h22]) (by simp [h22])
theorem rbin_to (op ak an ab bk bn bb xk xn xb : Int) (ok : Bool) (w : World) (an0 : -9223372036854775808 ≤ an) (an1 : an ≤ 9223372036854775807) (bn0 : -9223372036854775808 ≤ bn) (bn1 : bn ≤ 9223372036854775807) (h : binF op ⟨ak, an, ab⟩ ⟨bk, bn, bb⟩ = (⟨xk, xn, xb⟩, ok)) :
    Calls Tryd.prog 17 #[.int .i64 op, .agg #[.int .i64 ak, .int .i64 an, .int .i64 ab], .agg #[.int .i64 bk, .int .i64 bn, .int .i64 bb]] w (retP (.tuple #[.agg #[.int .i64 xk, .int .i64 xn, .int .i64 xb], .bool ok]) w) := by
  have := rbin_any op ak an ab bk bn bb w an0 an1 bn0 bn1
  rw [h] at this
  exact this
theorem run_to (op ak an ab xk xn xb : Int) (ok : Bool) (w : World) (h : unF op ⟨ak, an, ab⟩ = (⟨xk, xn, xb⟩, ok)) :
    Calls Tryd.prog 16 #[.int .i64 op, .agg #[.int .i64 ak, .int .i64 an, .int .i64 ab]] w (retP (.tuple #[.agg #[.int .i64 xk, .int .i64 xn, .int .i64 xb], .bool ok]) w) := by
  have := run_any op ak an ab w
  rw [h] at this
  exact this

end Go.Proofs.YtfkalcfkbaimgaaDoor
