/- Contracts of a block's same, and of Same. -/
import Derived.Test.YtnklpccggbkknaaMSame
namespace Go.Proofs.Ytnklpccggbkknaa
open Go.ChangeShapes Go.WideShapes Go.ChangeAt Go.RowKit Pl
set_option linter.unusedSimpArgs false
set_option linter.unusedVariables false

set_option maxHeartbeats 1000000 in
theorem bsame_size (g o g' o' s s' : Nat) (f f' : Bool) (w : World) (c0 : w.cell? ⟨g, o, none⟩ = some (.int .i64 s)) (c1 : w.cell? ⟨g, o + 1, none⟩ = some (.bool f)) (d0 : w.cell? ⟨g', o', none⟩ = some (.int .i64 s')) (d1 : w.cell? ⟨g', o' + 1, none⟩ = some (.bool f'))
    (hne : ((s : Int) != (s' : Int)) = true) :
    Calls Try.prog 44 #[.pointer (some ⟨g, o, none⟩), .pointer (some ⟨g', o', none⟩)] w (retP (.bool false) w) := by
  go_enter Try.func44, Try.ntmps44
  go_wp2
  go_quiet (fail)
  go_wp2
  go_ret
  exact ⟨rfl, (by repeat (first | with_reducible exact Below.refl _ _ | assumption | with_reducible refine bel_alloc ?_ _ | with_reducible refine Below.drew ?_ | with_reducible refine bel_drewN ?_ _ | with_reducible refine bel_set ?_ (by go_light; first | (simp; done) | (simp; omega) | omega) _ | refine bel_trans ?_ (by assumption)))⟩
set_option maxHeartbeats 1000000 in
theorem bsame_freed (g o g' o' s : Nat) (f f' : Bool) (w : World) (c0 : w.cell? ⟨g, o, none⟩ = some (.int .i64 s)) (c1 : w.cell? ⟨g, o + 1, none⟩ = some (.bool f)) (d0 : w.cell? ⟨g', o', none⟩ = some (.int .i64 s)) (d1 : w.cell? ⟨g', o' + 1, none⟩ = some (.bool f'))
    (hf : f ≠ f' ∨ f = true) :
    Calls Try.prog 44 #[.pointer (some ⟨g, o, none⟩), .pointer (some ⟨g', o', none⟩)] w (retP (.bool (f == f')) w) := by
  cases f <;> cases f'
  · simp at hf
  all_goals
    go_enter Try.func44, Try.ntmps44
    go_wp2
    go_quiet (fail)
    go_wp2
    go_ret
    exact ⟨rfl, (by repeat (first | with_reducible exact Below.refl _ _ | assumption | with_reducible refine bel_alloc ?_ _ | with_reducible refine Below.drew ?_ | with_reducible refine bel_drewN ?_ _ | with_reducible refine bel_set ?_ (by go_light; first | (simp; done) | (simp; omega) | omega) _ | refine bel_trans ?_ (by assumption)))⟩
set_option maxHeartbeats 1000000 in
theorem bsame_walk (g o g' o' s nw : Nat) (x y : Nat → WD) (w : World) (nw1 : nw ≤ 8192) (c0 : w.cell? ⟨g, o, none⟩ = some (.int .i64 s)) (c1 : w.cell? ⟨g, o + 1, none⟩ = some (.bool false)) (d0 : w.cell? ⟨g', o', none⟩ = some (.int .i64 s)) (d1 : w.cell? ⟨g', o' + 1, none⟩ = some (.bool false))
    (WC : Hid (∀ W, Below w.heap.size w W → Calls Try.prog 52 #[.pointer (some ⟨g, o, none⟩)] W fun e w' => e = .returned (.int .i64 nw) ∧ w' = W))
    (SP : Hid (∀ W i, Below w.heap.size w W → i < nw → i % 64 = 0 → Calls Try.prog 55 #[.pointer (some ⟨g, o, none⟩), .pointer (some ⟨g', o', none⟩), .int .i64 ((i : Nat) : Int)] W (retB (EqW x y i (min (i + 64) nw)) W))) :
    Calls Try.prog 44 #[.pointer (some ⟨g, o, none⟩), .pointer (some ⟨g', o', none⟩)] w (retB (EqW x y 0 nw) w) := by
  go_enter Try.func44, Try.ntmps44
  go_wp2
  go_quiet (fail)
  go_wp2
  go_loopw [5] (fun v wr => ∃ i : Nat, i ≤ nw + 63 ∧ Hid (i % 64 = 0) ∧ v = .int .i64 i ∧ Hid (EqW x y 0 (min i nw)) ∧ Hid (Below w.heap.size w wr)) (fun v _ => nw - (intOf v).toNat)
  case atStart => exact ⟨0, by omega, rfl, rfl, fun t h1 h2 => by omega, show Below _ _ _ from (by repeat (first | with_reducible exact Below.refl _ _ | assumption | with_reducible refine bel_alloc ?_ _ | with_reducible refine Below.drew ?_ | with_reducible refine bel_drewN ?_ _ | with_reducible refine bel_set ?_ (by go_light; first | (simp; done) | (simp; omega) | omega) _ | refine bel_trans ?_ (by assumption)))⟩
  case round =>
    obtain ⟨i, hi, HI, rfl, HEQ, HB⟩ := hrel
    by_cases hin : i < nw
    · go_wp2_with fail
      refine (WC.out _ HB.out).mono ?_
      rintro e2 w2 ⟨rfl, hw2⟩
      subst hw2
      go_wp2_with fail
      refine (SP.out _ i HB.out hin HI.out).mono ?_
      rintro e3 w3 ⟨r, rfl, hr, hb3⟩
      have HB3 : Hid (Below w.heap.size w w3) := HB.out.trans (hb3.mono HB.out.size)
      have HR : Hid (r = true ↔ EqW x y i (min (i + 64) nw)) := hr
      clear hb3 hr
      cases r
      · go_wp2
        go_ret
        refine ⟨false, rfl, ⟨fun h => (by cases h), fun h => ?_⟩, HB3.out⟩
        exact HR.out.2 (fun t h1 h2 => h t (by omega) (by omega))
      · go_wp2
        go_roundw
        case rel =>
          refine ⟨i + 64, by omega, by show _ = _; have := HI.out; omega, by simp, fun t h1 h2 => ?_, HB3⟩
          by_cases ht : t < i
          · exact HEQ.out t h1 (by omega)
          · exact HR.out.1 (by simp) t (by omega) (by omega)
        case measure => simp [intOf]; omega
    · go_wp2_with fail
      refine (WC.out _ HB.out).mono ?_
      rintro e2 w2 ⟨rfl, hw2⟩
      subst hw2
      go_wp2
      go_ret
      refine ⟨true, rfl, ⟨fun _ t h1 h2 => HEQ.out t h1 (by omega), fun _ => rfl⟩, HB.out⟩
/-- Are two blocks the same? -/
def SameB (a b : AB) : Prop := a.size = b.size ∧ a.freed = b.freed ∧ (a.freed = false → EqW a.wd b.wd 0 a.nw)
theorem bsame_blk {w : World} {R R' : Nat → Option Role} {cur cur' : Array Value} {k g k' g' : Nat} {ab ab' : AB} {t t' : TypeId} (h : BlkOk w R cur k ab) (hg : w.heap[g]? = some (.cells cur t (0, 0))) (h' : BlkOk w R' cur' k' ab') (hg' : w.heap[g']? = some (.cells cur' t' (0, 0)))
    (hlt : ∀ b r, R b = some r → b < w.heap.size) (hlt' : ∀ b r, R' b = some r → b < w.heap.size) (hs : ab.size ≤ 65536) :
    Calls Try.prog 44 #[.pointer (some ⟨g, k * 4, none⟩), .pointer (some ⟨g', k' * 4, none⟩)] w (retB (SameB ab ab') w) := by
  obtain ⟨c0, c1, c2⟩ := h.cells hg
  obtain ⟨d0, d1, d2⟩ := h'.cells hg'
  by_cases hss : ab.size = ab'.size
  · rw [← hss] at d0
    cases hf : ab.freed with
    | true =>
      rw [hf] at c1
      refine (bsame_freed _ _ _ _ _ _ _ w c0 c1 d0 d1 (.inr rfl)).mono ?_
      rintro e w' ⟨rfl, hb⟩
      refine ⟨_, rfl, ⟨fun hr => ⟨hss, by rw [hf]; simpa using hr, fun h => by rw [hf] at h; cases h⟩, fun hr => ?_⟩, hb⟩
      have := hr.2.1
      rw [hf] at this
      simpa using this
    | false =>
      rw [hf] at c1
      cases hf' : ab'.freed with
      | true =>
        rw [hf'] at d1
        refine (bsame_freed _ _ _ _ _ _ _ w c0 c1 d0 d1 (.inl (by simp))).mono ?_
        rintro e w' ⟨rfl, hb⟩
        refine ⟨_, rfl, ⟨fun hr => (by simp at hr), fun hr => ?_⟩, hb⟩
        have := hr.2.1
        rw [hf, hf'] at this
        cases this
      | false =>
        rw [hf'] at d1
        have hnw : ab.nw ≤ 8192 := by unfold AB.nw; omega
        refine (bsame_walk g (k * 4) g' (k' * 4) ab.size ab.nw ab.wd ab'.wd w hnw c0 c1 d0 d1 (fun W hW => words_any g (k * 4) ab.size W (keep_cell hW c0) hs) (fun W i hW hi h64 => ?_)).mono ?_
        · exact samePage_blk (h.keep (fun _ _ _ => rfl) (R' := R) (w' := W) (fun b r hr _ => ⟨hr, hW.block b (hlt b r hr)⟩)) ((hW.block g (block_lt_of_cell c0)).trans hg) (h'.keep (fun _ _ _ => rfl) (R' := R') (w' := W) (fun b r hr _ => ⟨hr, hW.block b (hlt' b r hr)⟩)) ((hW.block g' (block_lt_of_cell d0)).trans hg')
            (fun b r hr => Nat.lt_of_lt_of_le (hlt b r hr) hW.size) (fun b r hr => Nat.lt_of_lt_of_le (hlt' b r hr) hW.size) hs hss.symm i hi h64
        · rintro e w' ⟨r, h1, h2, h3⟩
          exact ⟨r, h1, ⟨fun hr => ⟨hss, by rw [hf, hf'], fun _ => h2.1 hr⟩, fun hr => h2.2 (hr.2.2 hf)⟩, h3⟩
  · refine (bsame_size _ _ _ _ _ _ _ _ w c0 c1 d0 d1 (by simp; omega)).mono ?_
    rintro e w' ⟨rfl, hb⟩
    exact ⟨false, rfl, ⟨fun h => (by cases h), fun h => absurd h.1 hss⟩, hb⟩
set_option maxHeartbeats 1000000 in
theorem same_len (p p' n n' cap cap' : Nat) (a a' : Option Addr) (w : World) (c0 : w.cell? ⟨p, 0, none⟩ = some (.slice a n cap)) (d0 : w.cell? ⟨p', 0, none⟩ = some (.slice a' n' cap')) (hne : ((n : Int) != (n' : Int)) = true) :
    Calls Try.prog 24 #[.pointer (some ⟨p, 0, none⟩), .pointer (some ⟨p', 0, none⟩)] w (retP (.bool false) w) := by
  go_enter Try.func24, Try.ntmps24
  go_wp2
  go_quiet (fail)
  go_wp2
  go_ret
  exact ⟨rfl, (by repeat (first | with_reducible exact Below.refl _ _ | assumption | with_reducible refine bel_alloc ?_ _ | with_reducible refine Below.drew ?_ | with_reducible refine bel_drewN ?_ _ | with_reducible refine bel_set ?_ (by go_light; first | (simp; done) | (simp; omega) | omega) _ | refine bel_trans ?_ (by assumption)))⟩
set_option maxHeartbeats 1000000 in
theorem same_walk (p p' n g g' cap cap' : Nat) (a a' : Option Addr) (w : World) (Q : Nat → Prop) (hn : (n : Int) ≤ 100000) (c0 : w.cell? ⟨p, 0, none⟩ = some (.slice a n cap)) (d0 : w.cell? ⟨p', 0, none⟩ = some (.slice a' n cap'))
    (HA : Hid (0 < n → a = some ⟨g, 0, none⟩ ∧ a' = some ⟨g', 0, none⟩))
    (SB : Hid (∀ W k, Below w.heap.size w W → k < n → Calls Try.prog 44 #[.pointer (some ⟨g, k * 4, none⟩), .pointer (some ⟨g', k * 4, none⟩)] W (retB (Q k) W))) :
    Calls Try.prog 24 #[.pointer (some ⟨p, 0, none⟩), .pointer (some ⟨p', 0, none⟩)] w (retB (∀ k, k < n → Q k) w) := by
  have pl : p < w.heap.size := block_lt_of_cell c0
  have pl' : p' < w.heap.size := block_lt_of_cell d0
  generalize hG : (∀ k, k < n → Q k) = G
  have HG : Hid ((∀ k, k < n → Q k) = G) := hG
  clear hG
  go_enter Try.func24, Try.ntmps24
  go_wp2
  go_quiet (fail)
  go_wp2
  go_loopw [22] (fun v wr => ∃ i : Nat, i ≤ n ∧ v = .int .i64 i ∧ Hid (∀ k, k < i → Q k) ∧ Hid (Below w.heap.size w wr)) (fun v _ => n - (intOf v).toNat)
  case atStart => exact ⟨0, by omega, rfl, fun k h1 => by omega, show Below _ _ _ from (by repeat (first | with_reducible exact Below.refl _ _ | assumption | with_reducible refine bel_alloc ?_ _ | with_reducible refine Below.drew ?_ | with_reducible refine bel_drewN ?_ _ | with_reducible refine bel_set ?_ (by go_light; first | (simp; done) | (simp; omega) | omega) _ | refine bel_trans ?_ (by assumption)))⟩
  case round =>
    obtain ⟨i, hi, rfl, HEQ, HB⟩ := hrel
    by_cases hin : i < n
    · obtain ⟨rfl, rfl⟩ := HA.out (by omega)
      have j0 : (0 : Int) ≤ i := by omega
      have j1 : (i : Int) < n := by omega
      have c0r := keep_cell HB.out c0
      have d0r := keep_cell HB.out d0
      go_wp2
      go_region_held3 (fun w' => w'.cell? ⟨p, 0, none⟩ = some (.slice (some ⟨g, 0, none⟩) n cap) ∧ w'.cell? ⟨p', 0, none⟩ = some (.slice (some ⟨g', 0, none⟩) n cap')) (first | exact ⟨keep_cell HB3.out c0, keep_cell HB3.out d0⟩ | ((go_simp; done)))
        (first | (go_at_call 44; refine (SB.out _ i (Below.drew HB.out) hin).mono ?_; rintro e3 w3 ⟨r, rfl, hr, hb3⟩; have HB3 : Hid (Below w.heap.size w w3) := (Below.drew HB.out).trans (hb3.mono (Below.drew HB.out).size); have HR : Hid (r = true ↔ Q i) := hr; clear hb3 hr))
      all_goals
        cases r
        · go_wp2
          go_ret
          refine ⟨false, rfl, ⟨fun h => (by cases h), fun h => ?_⟩, HB3.out⟩
          rw [← HG.out] at h
          exact HR.out.2 (h i hin)
        · go_wp2
          go_roundw
          case rel =>
            refine ⟨i + 1, by omega, by simp, fun k h1 => ?_, HB3⟩
            by_cases e : k = i
            · subst e; exact HR.out.1 (by simp)
            · exact HEQ.out k (by omega)
          case measure => simp [intOf]; omega
    · have hin' : i = n := by omega
      subst hin'
      go_wp2
      go_ret
      refine ⟨true, rfl, ⟨fun _ => by rw [← HG.out]; exact HEQ.out, fun _ => rfl⟩, HB.out⟩
/-- Are two memories the same? -/
def SameM (M N : List AB) : Prop := M.length = N.length ∧ ∀ (k : Nat) (a b : AB), M[k]? = some a → N[k]? = some b → SameB a b
theorem same_any {w : World} {base p base' p' : Nat} {R R' : Nat → Option Role} {M N : List AB} (h : Mem w base p R M) (h' : Mem w base' p' R' N) :
    Calls Try.prog 24 #[.pointer (some ⟨p, 0, none⟩), .pointer (some ⟨p', 0, none⟩)] w (retB (SameM M N) w) := by
  obtain ⟨a, cap, g, cur, h⟩ := h
  obtain ⟨a', cap', g', cur', h'⟩ := h'
  by_cases hl : M.length = N.length
  · have d0 := h'.c0
    rw [← hl] at d0
    have hlen := h.len
    refine (same_walk p p' M.length g g' cap cap' a a' w (fun k => ∀ x y, M[k]? = some x → N[k]? = some y → SameB x y) (by omega) h.c0 d0 (fun hpos => ?_) (fun W k hW hk => ?_)).mono ?_
    · exact ⟨(h.has (List.getElem?_eq_getElem hpos)).1, (h'.has (List.getElem?_eq_getElem (hl ▸ hpos))).1⟩
    · have h1 := h.below hW
      have h2 := h'.below hW
      have hk' : k < N.length := by omega
      have e1 := List.getElem?_eq_getElem hk
      have e2 := List.getElem?_eq_getElem hk'
      refine (bsame_blk (h1.blk k _ e1) (h1.has e1).2.2.1 (h2.blk k _ e2) (h2.has e2).2.2.1 (fun b r hr => (h1.rng b (by rw [hr]; simp)).2) (fun b r hr => (h2.rng b (by rw [hr]; simp)).2) (h.sz _ (List.mem_of_getElem? e1))).mono ?_
      rintro e w' ⟨r, x1, x2, x3⟩
      refine ⟨r, x1, ⟨fun hr x y hx hy => ?_, fun hr => x2.2 (hr _ _ e1 e2)⟩, x3⟩
      rw [e1] at hx
      rw [e2] at hy
      cases hx
      cases hy
      exact x2.1 hr
    · rintro e w' ⟨r, x1, x2, x3⟩
      refine ⟨r, x1, ⟨fun hr => ⟨hl, fun k x y hx hy => x2.1 hr k (lt_of_get hx) x y hx hy⟩, fun hr => x2.2 (fun k _ x y hx hy => hr.2 k x y hx hy)⟩, x3⟩
  · refine (same_len p p' _ _ cap cap' a a' w h.c0 h'.c0 (by simp; omega)).mono ?_
    rintro e w' ⟨rfl, hb⟩
    exact ⟨false, rfl, ⟨fun h => (by cases h), fun h => absurd h.1 hl⟩, hb⟩
end Go.Proofs.Ytnklpccggbkknaa
