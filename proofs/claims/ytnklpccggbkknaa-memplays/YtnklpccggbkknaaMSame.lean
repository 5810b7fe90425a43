/- Contracts of samePage, same, Same. -/
import Derived.Test.YtnklpccggbkknaaMCopy
import Derived.Laws.StructEq
namespace Go.Proofs.Ytnklpccggbkknaa
open Go.ChangeShapes Go.WideShapes Go.ChangeAt Go.RowKit Pl
set_option linter.unusedSimpArgs false
set_option linter.unusedVariables false

theorem wd_ext {x y : WD} (h0 : x.kn = y.kn) (h1 : x.pt = y.pt) (h2 : x.bt = y.bt) (h3 : x.k = y.k) (h4 : x.n = y.n) (h5 : x.b = y.b) : x = y := by
  cases x; cases y; simp_all
abbrev wordC (g o : Nat) (x : Nat → WD) (w : World) (hi : Nat) : Prop :=
  Hid (∀ W t, Below w.heap.size w W → t < hi → Calls Try.prog 34 #[.pointer (some ⟨g, o, none⟩), .int .i64 ((t : Nat) : Int)] W (retW (x t) W))
def EqW (x y : Nat → WD) (i e : Nat) : Prop := ∀ t, i ≤ t → t < e → x t = y t
/-- The answer is whether that holds. -/
def retB (Q : Prop) (w : World) : Ending → World → Prop := fun e w' => ∃ r : Bool, e = .returned (.bool r) ∧ (r = true ↔ Q) ∧ Below w.heap.size w w'
set_option maxHeartbeats 1000000 in
theorem samePage_walk (g o g' o' i e nw : Nat) (z z' tt : Bool) (v1 v2 : Option Addr) (x y : Nat → WD) (w : World) (i1 : i < nw) (nw1 : nw ≤ 8192) (he : e = min (i + 64) nw)
    (c2 : w.cell? ⟨g, o + 2, none⟩ = some (.bool z)) (d2 : w.cell? ⟨g', o' + 2, none⟩ = some (.bool z')) (htt : tt = (v1.isNone && v2.isNone && (z == z')))
    (P1 : Hid (∀ W, Below w.heap.size w W → Calls Try.prog 47 #[.pointer (some ⟨g, o, none⟩), .int .i64 i] W fun e w' => e = .returned (.pointer v1) ∧ w' = W))
    (P2 : Hid (∀ W, Below w.heap.size w W → Calls Try.prog 47 #[.pointer (some ⟨g', o', none⟩), .int .i64 i] W fun e w' => e = .returned (.pointer v2) ∧ w' = W))
    (WC : Hid (∀ W, Below w.heap.size w W → Calls Try.prog 52 #[.pointer (some ⟨g, o, none⟩)] W fun e w' => e = .returned (.int .i64 nw) ∧ w' = W))
    (X : wordC g o x w e) (Y : wordC g' o' y w e) (HT : Hid (tt = true → EqW x y i e)) :
    Calls Try.prog 55 #[.pointer (some ⟨g, o, none⟩), .pointer (some ⟨g', o', none⟩), .int .i64 i] w (retB (EqW x y i e) w) := by
  have gl : g < w.heap.size := block_lt_of_cell c2
  have gl' : g' < w.heap.size := block_lt_of_cell d2
  have HE : Hid (e = min (i + 64) nw) := he
  have HTT : Hid (tt = (v1.isNone && v2.isNone && (z == z'))) := htt
  clear he htt
  go_enter Try.func55, Try.ntmps55
  go_wp2_with fail
  go_cut [28] (fun c wx => c = .bool tt ∧ Below w.heap.size w wx)
  case first =>
    have hb0 := Below.refl w.heap.size w
    cases v1 with
    | some q =>
      have ht : tt = false := by rw [HTT.out]; rfl
      subst ht
      go_quiet (first | (go_at_call 47; with_reducible exact Calls.quiet_of_same (P1.out _ (bel_drewN (Below.refl _ _) _))) | (go_at_call 47; with_reducible exact Calls.quiet_of_same (P2.out _ (bel_drewN (Below.refl _ _) _))))
      all_goals
        go_wp2
        go_meet
        case rel => exact ⟨rfl, (by repeat (first | with_reducible exact Below.refl _ _ | assumption | with_reducible refine bel_alloc ?_ _ | with_reducible refine Below.drew ?_ | with_reducible refine bel_drewN ?_ _ | with_reducible refine bel_set ?_ (by go_light; first | (simp; done) | (simp; omega) | omega) _ | refine bel_trans ?_ (by assumption)))⟩
    | none =>
      cases v2 with
      | some q =>
        have ht : tt = false := by rw [HTT.out]; rfl
        subst ht
        go_quiet (first | (go_at_call 47; with_reducible exact Calls.quiet_of_same (P1.out _ (bel_drewN (Below.refl _ _) _))) | (go_at_call 47; with_reducible exact Calls.quiet_of_same (P2.out _ (bel_drewN (Below.refl _ _) _))))
        all_goals
          go_wp2
          go_meet
          case rel => exact ⟨rfl, (by repeat (first | with_reducible exact Below.refl _ _ | assumption | with_reducible refine bel_alloc ?_ _ | with_reducible refine Below.drew ?_ | with_reducible refine bel_drewN ?_ _ | with_reducible refine bel_set ?_ (by go_light; first | (simp; done) | (simp; omega) | omega) _ | refine bel_trans ?_ (by assumption)))⟩
      | none =>
        cases z <;> cases z'
        · have ht : tt = true := by rw [HTT.out]; rfl
          subst ht
          go_quiet (first | (go_at_call 47; with_reducible exact Calls.quiet_of_same (P1.out _ (bel_drewN (Below.refl _ _) _))) | (go_at_call 47; with_reducible exact Calls.quiet_of_same (P2.out _ (bel_drewN (Below.refl _ _) _))))
          all_goals
            go_wp2
            go_meet
            case rel => exact ⟨rfl, (by repeat (first | with_reducible exact Below.refl _ _ | assumption | with_reducible refine bel_alloc ?_ _ | with_reducible refine Below.drew ?_ | with_reducible refine bel_drewN ?_ _ | with_reducible refine bel_set ?_ (by go_light; first | (simp; done) | (simp; omega) | omega) _ | refine bel_trans ?_ (by assumption)))⟩
        · have ht : tt = false := by rw [HTT.out]; rfl
          subst ht
          go_quiet (first | (go_at_call 47; with_reducible exact Calls.quiet_of_same (P1.out _ (bel_drewN (Below.refl _ _) _))) | (go_at_call 47; with_reducible exact Calls.quiet_of_same (P2.out _ (bel_drewN (Below.refl _ _) _))))
          all_goals
            go_wp2
            go_meet
            case rel => exact ⟨rfl, (by repeat (first | with_reducible exact Below.refl _ _ | assumption | with_reducible refine bel_alloc ?_ _ | with_reducible refine Below.drew ?_ | with_reducible refine bel_drewN ?_ _ | with_reducible refine bel_set ?_ (by go_light; first | (simp; done) | (simp; omega) | omega) _ | refine bel_trans ?_ (by assumption)))⟩
        · have ht : tt = false := by rw [HTT.out]; rfl
          subst ht
          go_quiet (first | (go_at_call 47; with_reducible exact Calls.quiet_of_same (P1.out _ (bel_drewN (Below.refl _ _) _))) | (go_at_call 47; with_reducible exact Calls.quiet_of_same (P2.out _ (bel_drewN (Below.refl _ _) _))))
          all_goals
            go_wp2
            go_meet
            case rel => exact ⟨rfl, (by repeat (first | with_reducible exact Below.refl _ _ | assumption | with_reducible refine bel_alloc ?_ _ | with_reducible refine Below.drew ?_ | with_reducible refine bel_drewN ?_ _ | with_reducible refine bel_set ?_ (by go_light; first | (simp; done) | (simp; omega) | omega) _ | refine bel_trans ?_ (by assumption)))⟩
        · have ht : tt = true := by rw [HTT.out]; rfl
          subst ht
          go_quiet (first | (go_at_call 47; with_reducible exact Calls.quiet_of_same (P1.out _ (bel_drewN (Below.refl _ _) _))) | (go_at_call 47; with_reducible exact Calls.quiet_of_same (P2.out _ (bel_drewN (Below.refl _ _) _))))
          all_goals
            go_wp2
            go_meet
            case rel => exact ⟨rfl, (by repeat (first | with_reducible exact Below.refl _ _ | assumption | with_reducible refine bel_alloc ?_ _ | with_reducible refine Below.drew ?_ | with_reducible refine bel_drewN ?_ _ | with_reducible refine bel_set ?_ (by go_light; first | (simp; done) | (simp; omega) | omega) _ | refine bel_trans ?_ (by assumption)))⟩
  case rest =>
    obtain ⟨rfl, hbc⟩ := hcut
    have HBC : Hid (Below w.heap.size w wc) := hbc
    clear hbc
    cases tt
    · have hemin : ((if (nw : Int) < (i : Int) + 64 then (nw : Int) else (i : Int) + 64)) = (e : Int) := by rw [HE.out]; split <;> omega
      go_wp2_with (first | (go_at_call 52; refine (WC.out _ HBC.out).mono ?_; rintro e w' ⟨rfl, hw'⟩; subst hw'))
      rename World => w1
      have hie : i ≤ e := by have := HE.out; omega
      have he1 : e ≤ 9000 := by have := HE.out; omega
      go_loopw [2] (fun v wr => ∃ t : Nat, i ≤ t ∧ t ≤ e ∧ v = .int .i64 t ∧ Hid (EqW x y i t) ∧ Hid (Below w.heap.size w wr)) (fun v _ => e - (intOf v).toNat)
      case atStart => exact ⟨i, Nat.le_refl _, hie, rfl, fun t h1 h2 => by omega, HBC⟩
      case round =>
        obtain ⟨t, ht0, ht1, rfl, HEQ, HBR⟩ := hrel
        by_cases hte : t < e
        · go_wp2_with fail
          refine (X.out _ t HBR.out hte).mono ?_
          rintro e2 w2 ⟨rfl, hb2⟩
          have HB2 : Hid (Below w.heap.size w w2) := HBR.out.trans (hb2.mono HBR.out.size)
          clear hb2
          go_wp2_with fail
          refine (Y.out _ t HB2.out hte).mono ?_
          rintro e3 w3 ⟨rfl, hb3⟩
          have HB3 : Hid (Below w.heap.size w w3) := HB2.out.trans (hb3.mono HB2.out.size)
          clear hb3
          by_cases hxy : x t = y t
          · have HXY : Hid (x t = y t) := hxy
            rw [hxy]
            clear hxy
            generalize hyt : y t = yt
            have HYT : Hid (y t = yt) := hyt
            clear hyt
            obtain ⟨y0, y1, y2, y3, y4, y5⟩ := yt
            simp only []
            go_wp2
            go_roundw
            case rel =>
              exact ⟨t + 1, by omega, by omega, by simp, fun u h1 h2 => by
                by_cases e : u = t
                · subst e; exact HXY.out
                · exact HEQ.out u h1 (by omega), HB3⟩
            case measure => simp [intOf]; omega
          · have HXY : Hid (¬ x t = y t) := hxy
            clear hxy
            go_wp2
            all_goals first
              | (go_ret; exact ⟨false, rfl, ⟨fun h => (by cases h), fun h => absurd (h t ht0 hte) HXY.out⟩, HB3.out⟩)
              | exact absurd (wd_ext (by assumption) (by assumption) (by assumption) (by assumption) (by assumption) (by assumption)) HXY.out
        · have hte' : t = e := by omega
          subst hte'
          go_wp2
          go_ret
          exact ⟨true, rfl, ⟨fun _ => HEQ.out, fun _ => rfl⟩, HBR.out⟩
    · go_wp2
      go_ret
      exact ⟨true, rfl, ⟨fun _ => HT.out (by simp), fun _ => rfl⟩, HBC.out⟩
/-- Two blocks of equal size, the words of one page: are they the same? -/
theorem samePage_blk {w : World} {R R' : Nat → Option Role} {cur cur' : Array Value} {k g k' g' : Nat} {ab ab' : AB} {t t' : TypeId} (h : BlkOk w R cur k ab) (hg : w.heap[g]? = some (.cells cur t (0, 0))) (h' : BlkOk w R' cur' k' ab') (hg' : w.heap[g']? = some (.cells cur' t' (0, 0)))
    (hlt : ∀ b r, R b = some r → b < w.heap.size) (hlt' : ∀ b r, R' b = some r → b < w.heap.size) (hs : ab.size ≤ 65536) (hss : ab'.size = ab.size) (i : Nat) (hi : i < ab.nw) (h64 : i % 64 = 0) :
    Calls Try.prog 55 #[.pointer (some ⟨g, k * 4, none⟩), .pointer (some ⟨g', k' * 4, none⟩), .int .i64 i] w (retB (EqW ab.wd ab'.wd i (min (i + 64) ab.nw)) w) := by
  have hnw : ab.nw ≤ 8192 := by unfold AB.nw; omega
  have hnp : ab'.np = ab.np := by unfold AB.np AB.nw; rw [hss]
  have hpg : ∀ t, t < min (i + 64) ab.nw → t / 64 < ab.np := fun t ht => by unfold AB.np; omega
  obtain ⟨v1, ho1, hP1⟩ := page_blk h hg i (hpg i (by omega)) (by omega)
  obtain ⟨v2, ho2, hP2⟩ := page_blk h' hg' i (by rw [hnp]; exact hpg i (by omega)) (by omega)
  obtain ⟨c0, c1, c2⟩ := h.cells hg
  obtain ⟨d0, d1, d2⟩ := h'.cells hg'
  obtain ⟨a1, hv1, hb1⟩ : ∃ a1, v1 = .pointer a1 ∧ (a1.isNone = true → ∀ r, r < 64 → ab.wd (i / 64 * 64 + r) = blankF ab.size ab.zeroed (i / 64 * 64 + r)) := by
    rcases ho1 with ⟨rfl, hb⟩ | ⟨q, rfl, _⟩
    · exact ⟨none, rfl, fun _ => hb⟩
    · exact ⟨_, rfl, fun h => by simp at h⟩
  obtain ⟨a2, hv2, hb2⟩ : ∃ a2, v2 = .pointer a2 ∧ (a2.isNone = true → ∀ r, r < 64 → ab'.wd (i / 64 * 64 + r) = blankF ab'.size ab'.zeroed (i / 64 * 64 + r)) := by
    rcases ho2 with ⟨rfl, hb⟩ | ⟨q, rfl, _⟩
    · exact ⟨none, rfl, fun _ => hb⟩
    · exact ⟨_, rfl, fun h => by simp at h⟩
  subst hv1 hv2
  have hdiv : i / 64 * 64 = i := by omega
  refine samePage_walk g (k * 4) g' (k' * 4) i (min (i + 64) ab.nw) ab.nw ab.zeroed ab'.zeroed _ a1 a2 ab.wd ab'.wd w hi hnw rfl c2 d2 rfl (fun W hW => hP1 W fun b o u hc => keep_cell hW hc) (fun W hW => hP2 W fun b o u hc => keep_cell hW hc)
    (fun W hW => words_any g (k * 4) ab.size W (keep_cell hW c0) hs) (fun W t hW ht => ?_) (fun W t hW ht => ?_) (fun htt t h1 h2 => ?_)
  · exact word_blk (h.keep (fun _ _ _ => rfl) (R' := R) (w' := W) (fun b r hr _ => ⟨hr, hW.block b (hlt b r hr)⟩)) ((hW.block g (block_lt_of_cell c0)).trans hg) hs t (hpg t ht) (by omega)
  · exact word_blk (h'.keep (fun _ _ _ => rfl) (R' := R') (w' := W) (fun b r hr _ => ⟨hr, hW.block b (hlt' b r hr)⟩)) ((hW.block g' (block_lt_of_cell d0)).trans hg') (by omega) t (by rw [hnp]; exact hpg t ht) (by omega)
  · simp only [Bool.and_eq_true, beq_iff_eq] at htt
    have e : i + (t - i) = t := by omega
    have x1 := hb1 htt.1.1 (t - i) (by omega)
    have x2 := hb2 htt.1.2 (t - i) (by omega)
    rw [hdiv, e] at x1 x2
    rw [x1, x2, hss, htt.2]
end Go.Proofs.Ytnklpccggbkknaa
