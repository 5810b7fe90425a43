/- FlowGrows: edges and one more. -/
import Derived.Test.YtiigfggebpmlnaaGreatDoorFlSolve
namespace Go.Proofs.YtiigfggebpmlnaaGreatDoor
open Go.ChangeShapes Go.WideShapes Go.ChangeAt Go.RowKit
set_option linter.unusedSimpArgs false
set_option linter.unusedVariables false

def pairs (l : List (Int × Int)) : List Value := l.flatMap fun e => [.int .i64 e.1, .int .i64 e.2]
theorem pairs_length : ∀ l : List (Int × Int), (pairs l).length = l.length * 2
  | [] => rfl
  | x :: l => by
    have := pairs_length l
    unfold pairs at this ⊢
    rw [List.flatMap_cons, List.length_append, this, List.length_cons]
    simp
    omega
theorem pairs_get : ∀ (l : List (Int × Int)) (i : Nat) (e : Int × Int), l[i]? = some e → (pairs l)[i * 2]? = some (.int .i64 e.1) ∧ (pairs l)[i * 2 + 1]? = some (.int .i64 e.2)
  | [], i, e, h => by simp at h
  | x :: l, 0, e, h => by
    have : x = e := by simpa using h
    subst this
    exact ⟨rfl, rfl⟩
  | x :: l, i + 1, e, h => by
    have h' : l[i]? = some e := by simpa using h
    have := pairs_get l i e h'
    unfold pairs at this ⊢
    rw [List.flatMap_cons, show (i + 1) * 2 = i * 2 + 2 by omega, show i * 2 + 2 + 1 = (i * 2 + 1) + 2 by omega]
    rw [List.getElem?_append_right (by simp), List.getElem?_append_right (by simp)]
    simpa using this
theorem pairs_one (l : List (Int × Int)) : ∀ u ∈ pairs l, u.oneCell' = true := by
  intro u hu
  unfold pairs at hu
  obtain ⟨e, _, h⟩ := List.mem_flatMap.1 hu
  rcases List.mem_cons.1 h with rfl | h
  · rfl
  · cases List.mem_singleton.1 h; rfl
theorem two_one (p q : Int) : ∀ u ∈ [Value.int .i64 p, Value.int .i64 q], u.oneCell' = true := by
  intro u hu
  rcases List.mem_cons.1 hu with rfl | h
  · rfl
  · cases List.mem_singleton.1 h; rfl
theorem EL.srow {w : World} {v : Value} {l : List (Int × Int)} (h : EL w v l) : Srow w v l.length (pairs l) := by
  obtain ⟨a, cap, rfl, h1, h0, h2⟩ := h
  cases a with
  | none =>
    obtain ⟨rfl, rfl⟩ := h0 rfl
    exact .inr ⟨rfl, rfl⟩
  | some ad =>
    refine .inl ⟨ad, cap, rfl, fun j u hj => ?_⟩
    have hlt : j < l.length * 2 := by rw [← pairs_length]; exact (List.getElem?_eq_some_iff.1 hj).1
    obtain ⟨b, off, e, hc⟩ := h2 (fun e => by rw [e] at hlt; simp at hlt)
    cases e
    have hi := List.getElem?_eq_getElem (l := l) (i := j / 2) (by omega)
    generalize l[j / 2]'(by omega) = e at hi
    have hg := pairs_get l (j / 2) e hi
    have hcc := hc (j / 2) e hi
    rw [show (⟨b, off, none⟩ : Addr).add j = ⟨b, off + j, none⟩ from Addr.add_mid _ _ _]
    rcases Nat.mod_two_eq_zero_or_one j with hm | hm
    · have ej : j / 2 * 2 = j := by omega
      rw [ej] at hg hcc
      rw [hg.1] at hj
      cases hj
      exact hcc.1
    · have ej : j / 2 * 2 + 1 = j := by omega
      rw [ej] at hg
      rw [hg.2] at hj
      cases hj
      have := hcc.2
      rw [Nat.add_assoc, ej] at this
      exact this
theorem EL.own2 {w : World} {B ne : Nat} {a : Option Addr} {c : Nat} {es : List (Int × Int)} {p q : Int} (hn : ne = es.length ∧ ne ≤ 1000000) (h : w.ownsRow B 28 2 (.slice a (ne + 1) c) (ne + 1) (pairs es ++ [.int .i64 p, .int .i64 q])) : EL w (.slice a (ne + 1) c) (es ++ [(p, q)]) := by
  have hl : (es ++ [(p, q)]).length = ne + 1 := by rw [List.length_append, hn.1]; rfl
  have hp : pairs es ++ [.int .i64 p, .int .i64 q] = pairs (es ++ [(p, q)]) := by unfold pairs; rw [List.flatMap_append]; rfl
  rw [hp] at h
  rcases h.2 with ⟨h1, h2⟩ | ⟨g, cap, cur, h1, h2, h3, h4, h5, h6, h7⟩
  · omega
  · cases h1
    refine ⟨_, c, by rw [hl], by rw [hl]; omega, (fun e => by cases e), fun _ => ⟨g, 0, rfl, fun i e he => ?_⟩⟩
    have hg := pairs_get _ i e he
    have k1 := h.cells (g := g) rfl _ _ hg.1
    have k2 := h.cells (g := g) rfl _ _ hg.2
    rw [show (⟨g, 0, none⟩ : Addr).add (i * 2) = ⟨g, 0 + i * 2, none⟩ from Addr.add_mid _ _ _] at k1
    rw [show (⟨g, 0, none⟩ : Addr).add (i * 2 + 1) = ⟨g, 0 + (i * 2 + 1), none⟩ from Addr.add_mid _ _ _, ← Nat.add_assoc] at k2
    exact ⟨k1, k2⟩
theorem one_srow (w : World) (p q : Int) (b : Nat) (hb : w.heap.size = b) : Srow (w.alloc (.cells #[.int .i64 p, .int .i64 q] 28)) (.slice (some ⟨b, 0, none⟩) 1 1) 1 [.int .i64 p, .int .i64 q] := by
  subst hb
  refine .inl ⟨_, _, rfl, fun j u hj => ?_⟩
  have h0 : (w.alloc (.cells #[.int .i64 p, .int .i64 q] 28)).cell? ⟨w.heap.size, 0, none⟩ = some (.int .i64 p) := by simp
  have h1 : (w.alloc (.cells #[.int .i64 p, .int .i64 q] 28)).cell? ⟨w.heap.size, 1, none⟩ = some (.int .i64 q) := by simp
  match j, hj with
  | 0, hj => cases hj; exact h0
  | 1, hj =>
    cases hj
    rw [show (⟨w.heap.size, 0, none⟩ : Addr).add 1 = ⟨w.heap.size, 0 + 1, none⟩ from Addr.add_mid _ _ _]
    exact h1
  | j + 2, hj => simp at hj
theorem Srow.al {w : World} {v : Value} {m : Nat} {l : List Value} (h : Srow w v m l) (o : Obj) : Srow (w.alloc o) v m l := by
  rcases h with ⟨ad, c, e, h⟩ | h
  · exact .inl ⟨ad, c, e, fun j u hj => keep_alloc (h j u hj) o⟩
  · exact .inr h
theorem srow_grown {w w' : World} {b m c : Nat} {l : List Value} {row : Option Nat} (h : Srow w (.slice (some ⟨b, 0, none⟩) m c) m l) (hg : w.grownBy w' row) (hne : some b ≠ row) : Srow w' (.slice (some ⟨b, 0, none⟩) m c) m l := by
  rcases h with ⟨ad, c, e, h⟩ | h
  · cases e
    refine .inl ⟨_, _, rfl, fun j u hj => ?_⟩
    exact hg.cell (h j u hj) (by rw [show (⟨b, 0, none⟩ : Addr).add j = ⟨b, 0 + j, none⟩ from Addr.add_mid _ _ _]; exact hne)
  · exact absurd h.1 (by intro e; cases e)
noncomputable def fgR8 : Code := ((Tryz.f4.body.bind (regionN 8)).getD .skip)
/-- What a call of Solve that is taken answers. -/
def retO (N : Nat) (es : List (Nat × Nat)) (st : List Int) (w : World) : Ending → World → Prop := fun e W => ∃ (LB : Nat) (x : Nat → Int), e = .returned (.tuple #[.slice (some ⟨LB, 0, none⟩) N N, .int .i64 0]) ∧ LAt W LB N x ∧ Least N es (fS st) x ∧ Below w.heap.size w W ∧ w.heap.size ≤ LB
set_option maxRecDepth 100000 in
set_option maxHeartbeats 8000000 in
theorem fg_r8 (N ne ec ns sc : Nat) (ea sa : Option Addr) (a b : Int) (A B : Int) (p q : Int) (es : List (Int × Int)) (es2 : List (Nat × Nat)) (st : List Int) (z5z z6z z7z z8z z9z z10z z11z z12z z13z z14z z15z z16z z17z z18z z19z z20z z21z z22z z23z z24z z25z z26z z27z z28z z29z z30z z31z z32z z33z z34z z35z z36z z37z z38z z39z z40z z41z z42z z43z z44z z45z z46z z47z z48z z49z z50z z51z z52z z53z z54z z55z z56z z57z z58z z59z z60z z61z z62z z63z z64z z65z z66z z67z z68z z69z z70z z71z z72z z73z z74z z75z z76z z77z z78z z79z z80z z81z z82z z83z z84z z85z z86z z87z z88z z89z z90z z91z z92z z93z z94z z95z z96z z97z z98z z99z z100z z101z z102z z103z z104z z105z z106z z107z z108z z109z z110z z111z z112z z113z z114z z115z z116z z117z z118z z119z z120z z121z z122z z123z z124z z125z z126z z127z z128z z129z z130z z131z z132z z133z z134z z135z z136z z137z z138z z139z z140z z141z z142z z143z z144z z145z z146z z147z z148z : Value) (K : Act → World → Prop) (Q0 : Exit → Act → World → Prop) (w1 : World)
    (hQ0 : ∀ c (a : Act) (dd : Option Tmp) v x, Q0 (.panic c) (a.put dd v) x → Q0 (.panic c) a x)
    (hA : bits .and .i64 a 1023 = A) (hB : bits .and .i64 b 1023 = B) (hN : ¬ N = 0) (hp : A.tmod (N : Int) = p) (hq : B.tmod (N : Int) = q)
    (HNE : Hid (ne = es.length ∧ ne ≤ 1000000)) (HE : Hid (∀ W, Below w1.heap.size w1 W → Srow W (.slice ea ne ec) ne (pairs es)))
    (HS8 : Hid (∀ W v2, Below w1.heap.size w1 W → EL W v2 (es ++ [(p, q)]) → Calls Tryz.prog 6 #[.int .i64 (N : Int), v2, .slice sa ns sc, .int .i64 1000000] W (retO N es2 st W)))
    (HK : Hid (∀ y50 y51 y52 y53 y54 y55 y56 y57 y58 y59 y60 y61 y62 y63 y64 y65 y66 y67 y68 y69 LB y W, Below w1.heap.size w1 W → LAt W LB N y → Least N es2 (fS st) y → w1.heap.size ≤ LB → K ⟨#[.int .i64 (N : Int), .slice ea ne ec, .slice sa ns sc, .int .i64 a, .int .i64 b, z5z, z6z, z7z, z8z, z9z, z10z, z11z, z12z, z13z, z14z, .slice (some ⟨LB, 0, none⟩) N N, .int .i64 0, z17z, z18z, z19z, z20z, z21z, z22z, z23z, z24z, z25z, z26z, z27z, z28z, z29z, z30z, z31z, z32z, z33z, z34z, z35z, z36z, z37z, z38z, z39z, z40z, z41z, z42z, z43z, z44z, z45z, z46z, z47z, z48z, z49z, y50, y51, y52, y53, y54, y55, y56, y57, y58, y59, y60, y61, y62, y63, y64, y65, y66, y67, y68, y69, z70z, z71z, z72z, z73z, z74z, z75z, z76z, z77z, z78z, z79z, z80z, z81z, z82z, z83z, z84z, z85z, z86z, z87z, z88z, z89z, z90z, z91z, z92z, z93z, z94z, z95z, z96z, z97z, z98z, z99z, z100z, z101z, z102z, z103z, z104z, z105z, z106z, z107z, z108z, z109z, z110z, z111z, z112z, z113z, z114z, z115z, z116z, z117z, z118z, z119z, z120z, z121z, z122z, z123z, z124z, z125z, z126z, z127z, z128z, z129z, z130z, z131z, z132z, z133z, z134z, z135z, z136z, z137z, z138z, z139z, z140z, z141z, z142z, z143z, z144z, z145z, z146z, z147z, z148z], []⟩ W)) :
    Code.wp Tryz.prog fgR8 (Exit.then K Q0) ⟨#[.int .i64 (N : Int), .slice ea ne ec, .slice sa ns sc, .int .i64 a, .int .i64 b, z5z, z6z, z7z, z8z, z9z, z10z, z11z, z12z, z13z, z14z, z15z, z16z, z17z, z18z, z19z, z20z, z21z, z22z, z23z, z24z, z25z, z26z, z27z, z28z, z29z, z30z, z31z, z32z, z33z, z34z, z35z, z36z, z37z, z38z, z39z, z40z, z41z, z42z, z43z, z44z, z45z, z46z, z47z, z48z, z49z, z50z, z51z, z52z, z53z, z54z, z55z, z56z, z57z, z58z, z59z, z60z, z61z, z62z, z63z, z64z, z65z, z66z, z67z, z68z, z69z, z70z, z71z, z72z, z73z, z74z, z75z, z76z, z77z, z78z, z79z, z80z, z81z, z82z, z83z, z84z, z85z, z86z, z87z, z88z, z89z, z90z, z91z, z92z, z93z, z94z, z95z, z96z, z97z, z98z, z99z, z100z, z101z, z102z, z103z, z104z, z105z, z106z, z107z, z108z, z109z, z110z, z111z, z112z, z113z, z114z, z115z, z116z, z117z, z118z, z119z, z120z, z121z, z122z, z123z, z124z, z125z, z126z, z127z, z128z, z129z, z130z, z131z, z132z, z133z, z134z, z135z, z136z, z137z, z138z, z139z, z140z, z141z, z142z, z143z, z144z, z145z, z146z, z147z, z148z], []⟩ w1 := by
  obtain ⟨i0, hi, hz0, hz1, hz2⟩ : ∃ i0, Tryz.prog.info? 28 = some i0 ∧ i0.zero = some (.agg #[.int .i64 0, .int .i64 0]) ∧ i0.size = 2 ∧ i0.bytes = 16 := info_parts (by kernel_rfl)
  have HI := hid (And.intro hi (And.intro hz0 (And.intro hz1 hz2)))
  clear hi hz0 hz1 hz2
  have HPL : Hid ((pairs es).length = ne * 2) := hid (by rw [pairs_length, HNE.out.1])
  have HM : Hid (0 + ne ≤ maxLen ∧ (0 + ne) * 16 ≤ 140737488355328 ∧ ne + 1 ≤ maxLen ∧ (ne + 1) * 16 ≤ 140737488355328) := hid (by have := HNE.out.2; unfold maxLen; exact ⟨by omega, by omega, by omega, by omega⟩)
  conv => arg 2; whnf
  refine wp_region_held_drew (S := (fun w' => Below w1.heap.size w1 w')) (by kernel_rfl) (Below.drew (Below.refl _ _)) (fun hHeld => ?_)
  refine wpAnyH_take (i := 0) (oi := ?oiC1x1x0) (v := ?vvC1x1x0) ?hiC1x1x0 (by kernel_rfl) (by kernel_rfl) (by kernel_rfl) ?hqC1x1x0 ?hyC1x1x0 hHeld ?_
  case hiC1x1x0 => simp only [List.getElem?_toArray, List.getElem?_cons_succ, List.getElem?_cons_zero]; rfl
  case hqC1x1x0 => exact fun _ _ _ h => hQ0 _ _ _ _ _ h
  case hyC1x1x0 => (refine Or.inl ⟨by rfl, ?_⟩; intro w' hSw; (try dsimp only at hSw); go_simp; (try (with_reducible rfl)))
  simp only [Act.put, List.setIfInBounds_toArray, List.set_cons_zero, List.set_cons_succ]
  refine wpAnyH_take (i := 2) (oi := ?oiC1x2x2) (v := ?vvC1x2x2) ?hiC1x2x2 (by kernel_rfl) (by kernel_rfl) (by kernel_rfl) ?hqC1x2x2 ?hyC1x2x2 hHeld ?_
  case hiC1x2x2 => simp only [List.getElem?_toArray, List.getElem?_cons_succ, List.getElem?_cons_zero]; rfl
  case hqC1x2x2 => exact fun _ _ _ h => hQ0 _ _ _ _ _ h
  case hyC1x2x2 => (refine Or.inl ⟨by rfl, ?_⟩; intro w' hSw; (try dsimp only at hSw); go_simp; (try (with_reducible rfl)))
  simp only [Act.put, List.setIfInBounds_toArray, List.set_cons_zero, List.set_cons_succ]
  refine wpAnyH_take (i := 4) (oi := ?oiC1x3x4) (v := ?vvC1x3x4) ?hiC1x3x4 (by kernel_rfl) (by kernel_rfl) (by kernel_rfl) ?hqC1x3x4 ?hyC1x3x4 hHeld ?_
  case hiC1x3x4 => simp only [List.getElem?_toArray, List.getElem?_cons_succ, List.getElem?_cons_zero]; rfl
  case hqC1x3x4 => exact fun _ _ _ h => hQ0 _ _ _ _ _ h
  case hyC1x3x4 => (refine Or.inl ⟨by rfl, ?_⟩; intro w' hSw; (try dsimp only at hSw); go_simp; (try (with_reducible rfl)))
  simp only [Act.put, List.setIfInBounds_toArray, List.set_cons_zero, List.set_cons_succ]
  refine wpAnyH_take (i := 5) (oi := ?oiC1x4x5) (v := ?vvC1x4x5) ?hiC1x4x5 (by kernel_rfl) (by kernel_rfl) (by kernel_rfl) ?hqC1x4x5 ?hyC1x4x5 hHeld ?_
  case hiC1x4x5 => simp only [List.getElem?_toArray, List.getElem?_cons_succ, List.getElem?_cons_zero]; rfl
  case hqC1x4x5 => exact fun _ _ _ h => hQ0 _ _ _ _ _ h
  case hyC1x4x5 => (refine Or.inl ⟨by rfl, ?_⟩; intro w' hSw; (try dsimp only at hSw); go_simp; (try (with_reducible rfl)))
  simp only [Act.put, List.setIfInBounds_toArray, List.set_cons_zero, List.set_cons_succ]
  refine wpAnyH_take (i := 6) (oi := ?oiC1x5x6) (v := ?vvC1x5x6) ?hiC1x5x6 (by kernel_rfl) (by kernel_rfl) (by kernel_rfl) ?hqC1x5x6 ?hyC1x5x6 hHeld ?_
  case hiC1x5x6 => simp only [List.getElem?_toArray, List.getElem?_cons_succ, List.getElem?_cons_zero]; rfl
  case hqC1x5x6 => exact fun _ _ _ h => hQ0 _ _ _ _ _ h
  case hyC1x5x6 => (refine Or.inl ⟨by rfl, ?_⟩; intro w' hSw; (try dsimp only at hSw); go_simp; (try (with_reducible rfl)))
  simp only [Act.put, List.setIfInBounds_toArray, List.set_cons_zero, List.set_cons_succ]
  refine wpAnyH_take (i := 7) (oi := ?oiC1x6x7) (v := ?vvC1x6x7) ?hiC1x6x7 (by kernel_rfl) (by kernel_rfl) (by kernel_rfl) ?hqC1x6x7 ?hyC1x6x7 hHeld ?_
  case hiC1x6x7 => simp only [List.getElem?_toArray, List.getElem?_cons_succ, List.getElem?_cons_zero]; rfl
  case hqC1x6x7 => exact fun _ _ _ h => hQ0 _ _ _ _ _ h
  case hyC1x6x7 => (refine Or.inl ⟨by rfl, ?_⟩; intro w' hSw; (try dsimp only at hSw); go_simp; (try (with_reducible rfl)))
  simp only [Act.put, List.setIfInBounds_toArray, List.set_cons_zero, List.set_cons_succ]
  refine wpAnyH_take (i := 8) (oi := ?oiC1x7x8) (v := ?vvC1x7x8) ?hiC1x7x8 (by kernel_rfl) (by kernel_rfl) (by kernel_rfl) ?hqC1x7x8 ?hyC1x7x8 hHeld ?_
  case hiC1x7x8 => simp only [List.getElem?_toArray, List.getElem?_cons_succ, List.getElem?_cons_zero]; rfl
  case hqC1x7x8 => exact fun _ _ _ h => hQ0 _ _ _ _ _ h
  case hyC1x7x8 => (refine Or.inl ⟨by rfl, ?_⟩; intro w' hSw; (try dsimp only at hSw); go_simp; (try (with_reducible rfl)))
  simp only [Act.put, List.setIfInBounds_toArray, List.set_cons_zero, List.set_cons_succ]
  refine wpAnyH_take (i := 9) (oi := ?oiC1x8x9) (v := ?vvC1x8x9) ?hiC1x8x9 (by kernel_rfl) (by kernel_rfl) (by kernel_rfl) ?hqC1x8x9 ?hyC1x8x9 hHeld ?_
  case hiC1x8x9 => simp only [List.getElem?_toArray, List.getElem?_cons_succ, List.getElem?_cons_zero]; rfl
  case hqC1x8x9 => exact fun _ _ _ h => hQ0 _ _ _ _ _ h
  case hyC1x8x9 => (refine Or.inl ⟨by rfl, ?_⟩; intro w' hSw; (try dsimp only at hSw); go_simp; (try (with_reducible rfl)))
  simp only [Act.put, List.setIfInBounds_toArray, List.set_cons_zero, List.set_cons_succ]
  refine wpAnyH_take (i := 10) (oi := ?oiC1x9x10) (v := ?vvC1x9x10) ?hiC1x9x10 (by kernel_rfl) (by kernel_rfl) (by kernel_rfl) ?hqC1x9x10 ?hyC1x9x10 hHeld ?_
  case hiC1x9x10 => simp only [List.getElem?_toArray, List.getElem?_cons_succ, List.getElem?_cons_zero]; rfl
  case hqC1x9x10 => exact fun _ _ _ h => hQ0 _ _ _ _ _ h
  case hyC1x9x10 => (refine Or.inl ⟨by rfl, ?_⟩; intro w' hSw; (try dsimp only at hSw); go_simp; (try (with_reducible rfl)))
  simp only [Act.put, List.setIfInBounds_toArray, List.set_cons_zero, List.set_cons_succ]
  refine wpAnyH_take (i := 11) (oi := ?oiC1x10x11) (v := ?vvC1x10x11) ?hiC1x10x11 (by kernel_rfl) (by kernel_rfl) (by kernel_rfl) ?hqC1x10x11 ?hyC1x10x11 hHeld ?_
  case hiC1x10x11 => simp only [List.getElem?_toArray, List.getElem?_cons_succ, List.getElem?_cons_zero]; rfl
  case hqC1x10x11 => exact fun _ _ _ h => hQ0 _ _ _ _ _ h
  case hyC1x10x11 => (refine Or.inl ⟨by rfl, ?_⟩; intro w' hSw; (try dsimp only at hSw); go_simp; (try (with_reducible rfl)))
  simp only [Act.put, List.setIfInBounds_toArray, List.set_cons_zero, List.set_cons_succ]
  refine wpAnyH_take (i := 12) (oi := ?oiC1x11x12) (v := ?vvC1x11x12) ?hiC1x11x12 (by kernel_rfl) (by kernel_rfl) (by kernel_rfl) ?hqC1x11x12 ?hyC1x11x12 hHeld ?_
  case hiC1x11x12 => simp only [List.getElem?_toArray, List.getElem?_cons_succ, List.getElem?_cons_zero]; rfl
  case hqC1x11x12 => exact fun _ _ _ h => hQ0 _ _ _ _ _ h
  case hyC1x11x12 => (refine Or.inl ⟨by rfl, ?_⟩; intro w' hSw; (try dsimp only at hSw); go_simp; (try (with_reducible rfl)))
  simp only [Act.put, List.setIfInBounds_toArray, List.set_cons_zero, List.set_cons_succ]
  refine wpAnyH_take (i := 15) (oi := ?oiC1x12x15) (v := ?vvC1x12x15) ?hiC1x12x15 (by kernel_rfl) (by kernel_rfl) (by kernel_rfl) ?hqC1x12x15 ?hyC1x12x15 hHeld ?_
  case hiC1x12x15 => simp only [List.getElem?_toArray, List.getElem?_cons_succ, List.getElem?_cons_zero]; rfl
  case hqC1x12x15 => exact fun _ _ _ h => hQ0 _ _ _ _ _ h
  case hyC1x12x15 => (refine Or.inl ⟨by rfl, ?_⟩; intro w' hSw; (try dsimp only at hSw); go_simp; (try (with_reducible rfl)))
  simp only [Act.put, List.setIfInBounds_toArray, List.set_cons_zero, List.set_cons_succ]
  refine wpAnyH_ready (rs := [1, 13]) (by kernel_rfl) (by simp) ?_
  refine (AllReadyH.cons (o := ?oiC1x13x1) ?hiC1x13x1 (fun K hK => ?gC1x13x1) (AllReadyH.cons (o := ?oiC1x13x13) ?hiC1x13x13 (fun K hK => ?gC1x13x13) AllReadyH.nil))
  case hiC1x13x1 => simp only [List.getElem?_toArray, List.getElem?_cons_succ, List.getElem?_cons_zero]; rfl
  case hiC1x13x13 => simp only [List.getElem?_toArray, List.getElem?_cons_succ, List.getElem?_cons_zero]; rfl
  case gC1x13x1 =>
    have HB1 : Hid (Below w1.heap.size w1 (w1.drew.alloc (.cells #[] 28))) := hid (bel_alloc hHeld _)
    go_simp
    refine hK.out _ _ (HB1.out) (fun hN => ?_)
    clear hK K hHeld
    have hHeld := hN
    clear hN
    try simp only [Act.put, List.setIfInBounds_toArray, List.set_cons_zero, List.set_cons_succ]
    refine wpAnyH_ready (rs := [3, 13]) (by kernel_rfl) (by simp) ?_
    refine (AllReadyH.cons (o := ?oiC1x14x3) ?hiC1x14x3 (fun K hK => ?gC1x14x3) (AllReadyH.cons (o := ?oiC1x14x13) ?hiC1x14x13 (fun K hK => ?gC1x14x13) AllReadyH.nil))
    case hiC1x14x3 => simp only [List.getElem?_toArray, List.getElem?_cons_succ, List.getElem?_cons_zero]; rfl
    case hiC1x14x13 => simp only [List.getElem?_toArray, List.getElem?_cons_succ, List.getElem?_cons_zero]; rfl
    case gC1x14x3 =>
      have HBx : Hid (w1.heap.size ≤ w1.drew.heap.size) := hid (by first | exact Nat.le_refl _ | (simp; done) | (simp; omega))
      have HOW : Hid ((w1.drew.alloc (.cells #[] 28)).ownsRow w1.heap.size 28 2 (.slice (some ⟨w1.heap.size, 0, none⟩) 0 0) 0 []) := hid (by first | exact World.ownsRow_made (e := 28) (size := 2) w1.drew #[] 0 HBx.out (by simp) (by rfl) | (have h := World.ownsRow_made (e := 28) (size := 2) w1.drew #[] 0 HBx.out (by simp) (by rfl); rw [show w1.drew.heap.size = w1.heap.size by simp] at h; exact h))
      have HSR : Hid (Srow (w1.drew.alloc (.cells #[] 28)) (.slice ea ne ec) ne (pairs es)) := HE.out (w1.drew.alloc (.cells #[] 28)) hHeld
      have HBY : Hid (w1.heap.size ≤ (w1.drew.alloc (.cells #[] 28)).heap.size) := hid hHeld.size
      refine step_append_any _ (by rfl) _ _ 22 (by rfl) w1.heap.size 28 i0 (.agg #[.int .i64 0, .int .i64 0]) 2 16 Tryz.underlying22 HI.out.1 HI.out.2.1 HI.out.2.2.1 HI.out.2.2.2 rfl (by decide) (.slice (some ⟨w1.heap.size, 0, none⟩) 0 0) 0 [] (by rfl) HOW.out (.slice ea ne ec) ne (pairs es) (by rfl) HPL.out HSR.out (pairs_one _) HM.out.1 HM.out.2.1 HBY.out _ rfl ?_
      intro a3 c3 w3 hown hgrow hblk
      have HO3 : Hid (w3.ownsRow w1.heap.size 28 2 (.slice a3 (0 + ne) c3) (0 + ne) ([] ++ pairs es)) := hown
      have HG3 : Hid ((w1.drew.alloc (.cells #[] 28)).grownBy w3 (Value.slice (some ⟨w1.heap.size, 0, none⟩) 0 0).ownBlock) := hgrow
      have HB3 : Hid (Below w1.heap.size w1 w3) := hid (hHeld.grown hgrow hHeld.size (fun k hk => (HOW.out.lt k hk).1))
      rw [Nat.zero_add, List.nil_append] at HO3
      simp only [Nat.zero_add]
      clear hown hgrow hblk
      refine hK.out _ _ (HB3.out) (fun hN => ?_)
      clear hK K hHeld
      have hHeld := hN
      clear hN
      try simp only [Act.put, List.setIfInBounds_toArray, List.set_cons_zero, List.set_cons_succ]
      refine wpAnyH_ready (rs := [13]) (by kernel_rfl) (by simp) ?_
      refine (AllReadyH.cons (o := ?oiC1x15x13) ?hiC1x15x13 (fun K hK => ?gC1x15x13) AllReadyH.nil)
      case hiC1x15x13 => simp only [List.getElem?_toArray, List.getElem?_cons_succ, List.getElem?_cons_zero]; rfl
      case gC1x15x13 =>
        have HB13 : Hid (Below w1.heap.size w1 (w3.alloc (.cells #[.int .i64 p, .int .i64 q] 28))) := hid (bel_alloc hHeld _)
        go_simp
        refine hK.out _ _ (HB13.out) (fun hN => ?_)
        clear hK K hHeld
        have hHeld := hN
        clear hN
        try simp only [Act.put, List.setIfInBounds_toArray, List.set_cons_zero, List.set_cons_succ]
        refine wpAnyH_ready (rs := [14]) (by kernel_rfl) (by simp) ?_
        refine (AllReadyH.cons (o := ?oiC1x16x14) ?hiC1x16x14 (fun K hK => ?gC1x16x14) AllReadyH.nil)
        case hiC1x16x14 => simp only [List.getElem?_toArray, List.getElem?_cons_succ, List.getElem?_cons_zero]; rfl
        case gC1x16x14 =>
          have HS1 : Hid (Srow (w3.alloc (.cells #[.int .i64 p, .int .i64 q] 28)) (.slice (some ⟨w3.heap.size, 0, none⟩) 1 1) 1 [.int .i64 p, .int .i64 q]) := hid (one_srow w3 p q _ rfl)
          have HOW4 : Hid ((w3.alloc (.cells #[.int .i64 p, .int .i64 q] 28)).ownsRow w1.heap.size 28 2 (.slice a3 ne c3) ne (pairs es)) := hid (HO3.out.alloc _)
          have HBY4 : Hid (w1.heap.size ≤ (w3.alloc (.cells #[.int .i64 p, .int .i64 q] 28)).heap.size) := hid hHeld.size
          refine step_append_any _ (by rfl) _ _ 22 (by rfl) w1.heap.size 28 i0 (.agg #[.int .i64 0, .int .i64 0]) 2 16 Tryz.underlying22 HI.out.1 HI.out.2.1 HI.out.2.2.1 HI.out.2.2.2 rfl (by decide) (.slice a3 ne c3) ne (pairs es) (by rfl) HOW4.out (.slice (some ⟨w3.heap.size, 0, none⟩) 1 1) 1 [.int .i64 p, .int .i64 q] (by rfl) (by rfl) HS1.out (two_one p q) HM.out.2.2.1 HM.out.2.2.2 HBY4.out _ rfl ?_
          intro a4 c4 w4 hown hgrow hblk
          have HO4 : Hid (w4.ownsRow w1.heap.size 28 2 (.slice a4 (ne + 1) c4) (ne + 1) (pairs es ++ [.int .i64 p, .int .i64 q])) := hown
          have HB4 : Hid (Below w1.heap.size w1 w4) := hid (hHeld.grown hgrow hHeld.size (fun k hk => (HOW4.out.lt k hk).1))
          clear hown hgrow hblk
          refine hK.out _ _ (HB4.out) (fun hN => ?_)
          clear hK K hHeld
          have hHeld := hN
          clear hN
          try simp only [Act.put, List.setIfInBounds_toArray, List.set_cons_zero, List.set_cons_succ]
          refine wpAnyH_ready (rs := [16]) (by kernel_rfl) (by simp) ?_
          refine (AllReadyH.cons (o := ?oiC1x17x16) ?hiC1x17x16 (fun K hK => ?gC1x17x16) AllReadyH.nil)
          case hiC1x17x16 => simp only [List.getElem?_toArray, List.getElem?_cons_succ, List.getElem?_cons_zero]; rfl
          case gC1x17x16 =>
            go_simp
            refine (HS8.out w4 _ HB4.out (EL.own2 HNE.out HO4.out)).mono ?_
            rintro e w5 ⟨LB, y, rfl, h5⟩
            have HB5 : Hid (Below w1.heap.size w1 w5) := hid (bel_trans HB4.out h5.2.2.1)
            have H5 := hid (And.intro HB4.out.size h5)
            clear h5
            go_wp2_with fail
            refine hK.out _ _ (HB5.out) (fun hN => ?_)
            clear hK K hHeld
            have hHeld := hN
            clear hN
            try simp only [Act.put, List.setIfInBounds_toArray, List.set_cons_zero, List.set_cons_succ]
            refine wpAnyH_take (i := 17) (oi := ?oiC1x18x17) (v := ?vvC1x18x17) ?hiC1x18x17 (by kernel_rfl) (by kernel_rfl) (by kernel_rfl) ?hqC1x18x17 ?hyC1x18x17 hHeld ?_
            case hiC1x18x17 => simp only [List.getElem?_toArray, List.getElem?_cons_succ, List.getElem?_cons_zero]; rfl
            case hqC1x18x17 => exact fun _ _ _ h => hQ0 _ _ _ _ _ h
            case hyC1x18x17 => (refine Or.inl ⟨by rfl, ?_⟩; intro w' hSw; (try dsimp only at hSw); go_simp; (try (with_reducible rfl)))
            simp only [Act.put, List.setIfInBounds_toArray, List.set_cons_zero, List.set_cons_succ]
            refine wpAnyH_take (i := 18) (oi := ?oiC1x19x18) (v := ?vvC1x19x18) ?hiC1x19x18 (by kernel_rfl) (by kernel_rfl) (by kernel_rfl) ?hqC1x19x18 ?hyC1x19x18 hHeld ?_
            case hiC1x19x18 => simp only [List.getElem?_toArray, List.getElem?_cons_succ, List.getElem?_cons_zero]; rfl
            case hqC1x19x18 => exact fun _ _ _ h => hQ0 _ _ _ _ _ h
            case hyC1x19x18 => (refine Or.inl ⟨by rfl, ?_⟩; intro w' hSw; (try dsimp only at hSw); go_simp; (try (with_reducible rfl)))
            simp only [Act.put, List.setIfInBounds_toArray, List.set_cons_zero, List.set_cons_succ]
            refine wpAnyH_take (i := 19) (oi := ?oiC1x20x19) (v := ?vvC1x20x19) ?hiC1x20x19 (by kernel_rfl) (by kernel_rfl) (by kernel_rfl) ?hqC1x20x19 ?hyC1x20x19 hHeld ?_
            case hiC1x20x19 => simp only [List.getElem?_toArray, List.getElem?_cons_succ, List.getElem?_cons_zero]; rfl
            case hqC1x20x19 => exact fun _ _ _ h => hQ0 _ _ _ _ _ h
            case hyC1x20x19 => (refine Or.inl ⟨by rfl, ?_⟩; intro w' hSw; (try dsimp only at hSw); go_simp; (try (with_reducible rfl)))
            simp only [Act.put, List.setIfInBounds_toArray, List.set_cons_zero, List.set_cons_succ]
            refine wpAnyH_take (i := 20) (oi := ?oiC1x21x20) (v := ?vvC1x21x20) ?hiC1x21x20 (by kernel_rfl) (by kernel_rfl) (by kernel_rfl) ?hqC1x21x20 ?hyC1x21x20 hHeld ?_
            case hiC1x21x20 => simp only [List.getElem?_toArray, List.getElem?_cons_succ, List.getElem?_cons_zero]; rfl
            case hqC1x21x20 => exact fun _ _ _ h => hQ0 _ _ _ _ _ h
            case hyC1x21x20 => (refine Or.inl ⟨by rfl, ?_⟩; intro w' hSw; (try dsimp only at hSw); go_simp; (try (with_reducible rfl)))
            simp only [Act.put, List.setIfInBounds_toArray, List.set_cons_zero, List.set_cons_succ]
            refine wpAnyH_take (i := 21) (oi := ?oiC1x22x21) (v := ?vvC1x22x21) ?hiC1x22x21 (by kernel_rfl) (by kernel_rfl) (by kernel_rfl) ?hqC1x22x21 ?hyC1x22x21 hHeld ?_
            case hiC1x22x21 => simp only [List.getElem?_toArray, List.getElem?_cons_succ, List.getElem?_cons_zero]; rfl
            case hqC1x22x21 => exact fun _ _ _ h => hQ0 _ _ _ _ _ h
            case hyC1x22x21 => (refine Or.inl ⟨by rfl, ?_⟩; intro w' hSw; (try dsimp only at hSw); go_simp; (try (with_reducible rfl)))
            simp only [Act.put, List.setIfInBounds_toArray, List.set_cons_zero, List.set_cons_succ]
            refine wpAnyH_done (by kernel_rfl) ?_ _
            exact HK.out _ _ _ _ _ _ _ _ _ _ _ _ _ _ _ _ _ _ _ _ LB y w5 HB5.out H5.out.2.1 H5.out.2.2.1 (Nat.le_trans H5.out.1 H5.out.2.2.2.2)
    case gC1x14x13 =>
      have HB13 : Hid (Below w1.heap.size w1 ((w1.drew.alloc (.cells #[] 28)).alloc (.cells #[.int .i64 p, .int .i64 q] 28))) := hid (bel_alloc hHeld _)
      go_simp
      refine hK.out _ _ (HB13.out) (fun hN => ?_)
      clear hK K hHeld
      have hHeld := hN
      clear hN
      try simp only [Act.put, List.setIfInBounds_toArray, List.set_cons_zero, List.set_cons_succ]
      refine wpAnyH_ready (rs := [3]) (by kernel_rfl) (by simp) ?_
      refine (AllReadyH.cons (o := ?oiC1x23x3) ?hiC1x23x3 (fun K hK => ?gC1x23x3) AllReadyH.nil)
      case hiC1x23x3 => simp only [List.getElem?_toArray, List.getElem?_cons_succ, List.getElem?_cons_zero]; rfl
      case gC1x23x3 =>
        have HBx : Hid (w1.heap.size ≤ w1.drew.heap.size) := hid (by first | exact Nat.le_refl _ | (simp; done) | (simp; omega))
        have HOW : Hid (((w1.drew.alloc (.cells #[] 28)).alloc (.cells #[.int .i64 p, .int .i64 q] 28)).ownsRow w1.heap.size 28 2 (.slice (some ⟨w1.heap.size, 0, none⟩) 0 0) 0 []) := hid (by first | exact (World.ownsRow_made (e := 28) (size := 2) w1.drew #[] 0 HBx.out (by simp) (by rfl)).alloc _ | (have h := (World.ownsRow_made (e := 28) (size := 2) w1.drew #[] 0 HBx.out (by simp) (by rfl)).alloc _; rw [show w1.drew.heap.size = w1.heap.size by simp] at h; exact h))
        have HSR : Hid (Srow ((w1.drew.alloc (.cells #[] 28)).alloc (.cells #[.int .i64 p, .int .i64 q] 28)) (.slice ea ne ec) ne (pairs es)) := HE.out ((w1.drew.alloc (.cells #[] 28)).alloc (.cells #[.int .i64 p, .int .i64 q] 28)) hHeld
        have HBY : Hid (w1.heap.size ≤ ((w1.drew.alloc (.cells #[] 28)).alloc (.cells #[.int .i64 p, .int .i64 q] 28)).heap.size) := hid hHeld.size
        refine step_append_any _ (by rfl) _ _ 22 (by rfl) w1.heap.size 28 i0 (.agg #[.int .i64 0, .int .i64 0]) 2 16 Tryz.underlying22 HI.out.1 HI.out.2.1 HI.out.2.2.1 HI.out.2.2.2 rfl (by decide) (.slice (some ⟨w1.heap.size, 0, none⟩) 0 0) 0 [] (by rfl) HOW.out (.slice ea ne ec) ne (pairs es) (by rfl) HPL.out HSR.out (pairs_one _) HM.out.1 HM.out.2.1 HBY.out _ rfl ?_
        intro a3 c3 w3 hown hgrow hblk
        have HO3 : Hid (w3.ownsRow w1.heap.size 28 2 (.slice a3 (0 + ne) c3) (0 + ne) ([] ++ pairs es)) := hown
        have HG3 : Hid (((w1.drew.alloc (.cells #[] 28)).alloc (.cells #[.int .i64 p, .int .i64 q] 28)).grownBy w3 (Value.slice (some ⟨w1.heap.size, 0, none⟩) 0 0).ownBlock) := hgrow
        have HB3 : Hid (Below w1.heap.size w1 w3) := hid (hHeld.grown hgrow hHeld.size (fun k hk => (HOW.out.lt k hk).1))
        rw [Nat.zero_add, List.nil_append] at HO3
        simp only [Nat.zero_add]
        clear hown hgrow hblk
        refine hK.out _ _ (HB3.out) (fun hN => ?_)
        clear hK K hHeld
        have hHeld := hN
        clear hN
        try simp only [Act.put, List.setIfInBounds_toArray, List.set_cons_zero, List.set_cons_succ]
        refine wpAnyH_ready (rs := [14]) (by kernel_rfl) (by simp) ?_
        refine (AllReadyH.cons (o := ?oiC1x24x14) ?hiC1x24x14 (fun K hK => ?gC1x24x14) AllReadyH.nil)
        case hiC1x24x14 => simp only [List.getElem?_toArray, List.getElem?_cons_succ, List.getElem?_cons_zero]; rfl
        case gC1x24x14 =>
          have HS1 : Hid (Srow w3 (.slice (some ⟨(w1.heap.size + 1), 0, none⟩) 1 1) 1 [.int .i64 p, .int .i64 q]) := hid (srow_grown ((one_srow (w1.drew.alloc (.cells #[] 28)) p q (w1.heap.size + 1) (by first | rfl | simp))) HG3.out (by simp [Value.ownBlock]))
          have HOW4 : Hid (w3.ownsRow w1.heap.size 28 2 (.slice a3 ne c3) ne (pairs es)) := hid (HO3.out)
          have HBY4 : Hid (w1.heap.size ≤ w3.heap.size) := hid hHeld.size
          refine step_append_any _ (by rfl) _ _ 22 (by rfl) w1.heap.size 28 i0 (.agg #[.int .i64 0, .int .i64 0]) 2 16 Tryz.underlying22 HI.out.1 HI.out.2.1 HI.out.2.2.1 HI.out.2.2.2 rfl (by decide) (.slice a3 ne c3) ne (pairs es) (by rfl) HOW4.out (.slice (some ⟨(w1.heap.size + 1), 0, none⟩) 1 1) 1 [.int .i64 p, .int .i64 q] (by rfl) (by rfl) HS1.out (two_one p q) HM.out.2.2.1 HM.out.2.2.2 HBY4.out _ rfl ?_
          intro a4 c4 w4 hown hgrow hblk
          have HO4 : Hid (w4.ownsRow w1.heap.size 28 2 (.slice a4 (ne + 1) c4) (ne + 1) (pairs es ++ [.int .i64 p, .int .i64 q])) := hown
          have HB4 : Hid (Below w1.heap.size w1 w4) := hid (hHeld.grown hgrow hHeld.size (fun k hk => (HOW4.out.lt k hk).1))
          clear hown hgrow hblk
          refine hK.out _ _ (HB4.out) (fun hN => ?_)
          clear hK K hHeld
          have hHeld := hN
          clear hN
          try simp only [Act.put, List.setIfInBounds_toArray, List.set_cons_zero, List.set_cons_succ]
          refine wpAnyH_ready (rs := [16]) (by kernel_rfl) (by simp) ?_
          refine (AllReadyH.cons (o := ?oiC1x25x16) ?hiC1x25x16 (fun K hK => ?gC1x25x16) AllReadyH.nil)
          case hiC1x25x16 => simp only [List.getElem?_toArray, List.getElem?_cons_succ, List.getElem?_cons_zero]; rfl
          case gC1x25x16 =>
            go_simp
            refine (HS8.out w4 _ HB4.out (EL.own2 HNE.out HO4.out)).mono ?_
            rintro e w5 ⟨LB, y, rfl, h5⟩
            have HB5 : Hid (Below w1.heap.size w1 w5) := hid (bel_trans HB4.out h5.2.2.1)
            have H5 := hid (And.intro HB4.out.size h5)
            clear h5
            go_wp2_with fail
            refine hK.out _ _ (HB5.out) (fun hN => ?_)
            clear hK K hHeld
            have hHeld := hN
            clear hN
            try simp only [Act.put, List.setIfInBounds_toArray, List.set_cons_zero, List.set_cons_succ]
            refine wpAnyH_take (i := 17) (oi := ?oiC1x26x17) (v := ?vvC1x26x17) ?hiC1x26x17 (by kernel_rfl) (by kernel_rfl) (by kernel_rfl) ?hqC1x26x17 ?hyC1x26x17 hHeld ?_
            case hiC1x26x17 => simp only [List.getElem?_toArray, List.getElem?_cons_succ, List.getElem?_cons_zero]; rfl
            case hqC1x26x17 => exact fun _ _ _ h => hQ0 _ _ _ _ _ h
            case hyC1x26x17 => (refine Or.inl ⟨by rfl, ?_⟩; intro w' hSw; (try dsimp only at hSw); go_simp; (try (with_reducible rfl)))
            simp only [Act.put, List.setIfInBounds_toArray, List.set_cons_zero, List.set_cons_succ]
            refine wpAnyH_take (i := 18) (oi := ?oiC1x27x18) (v := ?vvC1x27x18) ?hiC1x27x18 (by kernel_rfl) (by kernel_rfl) (by kernel_rfl) ?hqC1x27x18 ?hyC1x27x18 hHeld ?_
            case hiC1x27x18 => simp only [List.getElem?_toArray, List.getElem?_cons_succ, List.getElem?_cons_zero]; rfl
            case hqC1x27x18 => exact fun _ _ _ h => hQ0 _ _ _ _ _ h
            case hyC1x27x18 => (refine Or.inl ⟨by rfl, ?_⟩; intro w' hSw; (try dsimp only at hSw); go_simp; (try (with_reducible rfl)))
            simp only [Act.put, List.setIfInBounds_toArray, List.set_cons_zero, List.set_cons_succ]
            refine wpAnyH_take (i := 19) (oi := ?oiC1x28x19) (v := ?vvC1x28x19) ?hiC1x28x19 (by kernel_rfl) (by kernel_rfl) (by kernel_rfl) ?hqC1x28x19 ?hyC1x28x19 hHeld ?_
            case hiC1x28x19 => simp only [List.getElem?_toArray, List.getElem?_cons_succ, List.getElem?_cons_zero]; rfl
            case hqC1x28x19 => exact fun _ _ _ h => hQ0 _ _ _ _ _ h
            case hyC1x28x19 => (refine Or.inl ⟨by rfl, ?_⟩; intro w' hSw; (try dsimp only at hSw); go_simp; (try (with_reducible rfl)))
            simp only [Act.put, List.setIfInBounds_toArray, List.set_cons_zero, List.set_cons_succ]
            refine wpAnyH_take (i := 20) (oi := ?oiC1x29x20) (v := ?vvC1x29x20) ?hiC1x29x20 (by kernel_rfl) (by kernel_rfl) (by kernel_rfl) ?hqC1x29x20 ?hyC1x29x20 hHeld ?_
            case hiC1x29x20 => simp only [List.getElem?_toArray, List.getElem?_cons_succ, List.getElem?_cons_zero]; rfl
            case hqC1x29x20 => exact fun _ _ _ h => hQ0 _ _ _ _ _ h
            case hyC1x29x20 => (refine Or.inl ⟨by rfl, ?_⟩; intro w' hSw; (try dsimp only at hSw); go_simp; (try (with_reducible rfl)))
            simp only [Act.put, List.setIfInBounds_toArray, List.set_cons_zero, List.set_cons_succ]
            refine wpAnyH_take (i := 21) (oi := ?oiC1x30x21) (v := ?vvC1x30x21) ?hiC1x30x21 (by kernel_rfl) (by kernel_rfl) (by kernel_rfl) ?hqC1x30x21 ?hyC1x30x21 hHeld ?_
            case hiC1x30x21 => simp only [List.getElem?_toArray, List.getElem?_cons_succ, List.getElem?_cons_zero]; rfl
            case hqC1x30x21 => exact fun _ _ _ h => hQ0 _ _ _ _ _ h
            case hyC1x30x21 => (refine Or.inl ⟨by rfl, ?_⟩; intro w' hSw; (try dsimp only at hSw); go_simp; (try (with_reducible rfl)))
            simp only [Act.put, List.setIfInBounds_toArray, List.set_cons_zero, List.set_cons_succ]
            refine wpAnyH_done (by kernel_rfl) ?_ _
            exact HK.out _ _ _ _ _ _ _ _ _ _ _ _ _ _ _ _ _ _ _ _ LB y w5 HB5.out H5.out.2.1 H5.out.2.2.1 (Nat.le_trans H5.out.1 H5.out.2.2.2.2)
  case gC1x13x13 =>
    have HB13 : Hid (Below w1.heap.size w1 (w1.drew.alloc (.cells #[.int .i64 p, .int .i64 q] 28))) := hid (bel_alloc hHeld _)
    go_simp
    refine hK.out _ _ (HB13.out) (fun hN => ?_)
    clear hK K hHeld
    have hHeld := hN
    clear hN
    try simp only [Act.put, List.setIfInBounds_toArray, List.set_cons_zero, List.set_cons_succ]
    refine wpAnyH_ready (rs := [1]) (by kernel_rfl) (by simp) ?_
    refine (AllReadyH.cons (o := ?oiC1x31x1) ?hiC1x31x1 (fun K hK => ?gC1x31x1) AllReadyH.nil)
    case hiC1x31x1 => simp only [List.getElem?_toArray, List.getElem?_cons_succ, List.getElem?_cons_zero]; rfl
    case gC1x31x1 =>
      have HB1 : Hid (Below w1.heap.size w1 ((w1.drew.alloc (.cells #[.int .i64 p, .int .i64 q] 28)).alloc (.cells #[] 28))) := hid (bel_alloc hHeld _)
      go_simp
      refine hK.out _ _ (HB1.out) (fun hN => ?_)
      clear hK K hHeld
      have hHeld := hN
      clear hN
      try simp only [Act.put, List.setIfInBounds_toArray, List.set_cons_zero, List.set_cons_succ]
      refine wpAnyH_ready (rs := [3]) (by kernel_rfl) (by simp) ?_
      refine (AllReadyH.cons (o := ?oiC1x32x3) ?hiC1x32x3 (fun K hK => ?gC1x32x3) AllReadyH.nil)
      case hiC1x32x3 => simp only [List.getElem?_toArray, List.getElem?_cons_succ, List.getElem?_cons_zero]; rfl
      case gC1x32x3 =>
        have HBx : Hid (w1.heap.size ≤ (w1.drew.alloc (.cells #[.int .i64 p, .int .i64 q] 28)).heap.size) := hid (by first | exact Nat.le_refl _ | (simp; done) | (simp; omega))
        have HOW : Hid (((w1.drew.alloc (.cells #[.int .i64 p, .int .i64 q] 28)).alloc (.cells #[] 28)).ownsRow w1.heap.size 28 2 (.slice (some ⟨(w1.heap.size + 1), 0, none⟩) 0 0) 0 []) := hid (by first | exact World.ownsRow_made (e := 28) (size := 2) (w1.drew.alloc (.cells #[.int .i64 p, .int .i64 q] 28)) #[] 0 HBx.out (by simp) (by rfl) | (have h := World.ownsRow_made (e := 28) (size := 2) (w1.drew.alloc (.cells #[.int .i64 p, .int .i64 q] 28)) #[] 0 HBx.out (by simp) (by rfl); rw [show (w1.drew.alloc (.cells #[.int .i64 p, .int .i64 q] 28)).heap.size = (w1.heap.size + 1) by simp] at h; exact h))
        have HSR : Hid (Srow ((w1.drew.alloc (.cells #[.int .i64 p, .int .i64 q] 28)).alloc (.cells #[] 28)) (.slice ea ne ec) ne (pairs es)) := HE.out ((w1.drew.alloc (.cells #[.int .i64 p, .int .i64 q] 28)).alloc (.cells #[] 28)) hHeld
        have HBY : Hid (w1.heap.size ≤ ((w1.drew.alloc (.cells #[.int .i64 p, .int .i64 q] 28)).alloc (.cells #[] 28)).heap.size) := hid hHeld.size
        refine step_append_any _ (by rfl) _ _ 22 (by rfl) w1.heap.size 28 i0 (.agg #[.int .i64 0, .int .i64 0]) 2 16 Tryz.underlying22 HI.out.1 HI.out.2.1 HI.out.2.2.1 HI.out.2.2.2 rfl (by decide) (.slice (some ⟨(w1.heap.size + 1), 0, none⟩) 0 0) 0 [] (by rfl) HOW.out (.slice ea ne ec) ne (pairs es) (by rfl) HPL.out HSR.out (pairs_one _) HM.out.1 HM.out.2.1 HBY.out _ rfl ?_
        intro a3 c3 w3 hown hgrow hblk
        have HO3 : Hid (w3.ownsRow w1.heap.size 28 2 (.slice a3 (0 + ne) c3) (0 + ne) ([] ++ pairs es)) := hown
        have HG3 : Hid (((w1.drew.alloc (.cells #[.int .i64 p, .int .i64 q] 28)).alloc (.cells #[] 28)).grownBy w3 (Value.slice (some ⟨(w1.heap.size + 1), 0, none⟩) 0 0).ownBlock) := hgrow
        have HB3 : Hid (Below w1.heap.size w1 w3) := hid (hHeld.grown hgrow hHeld.size (fun k hk => (HOW.out.lt k hk).1))
        rw [Nat.zero_add, List.nil_append] at HO3
        simp only [Nat.zero_add]
        clear hown hgrow hblk
        refine hK.out _ _ (HB3.out) (fun hN => ?_)
        clear hK K hHeld
        have hHeld := hN
        clear hN
        try simp only [Act.put, List.setIfInBounds_toArray, List.set_cons_zero, List.set_cons_succ]
        refine wpAnyH_ready (rs := [14]) (by kernel_rfl) (by simp) ?_
        refine (AllReadyH.cons (o := ?oiC1x33x14) ?hiC1x33x14 (fun K hK => ?gC1x33x14) AllReadyH.nil)
        case hiC1x33x14 => simp only [List.getElem?_toArray, List.getElem?_cons_succ, List.getElem?_cons_zero]; rfl
        case gC1x33x14 =>
          have HS1 : Hid (Srow w3 (.slice (some ⟨w1.heap.size, 0, none⟩) 1 1) 1 [.int .i64 p, .int .i64 q]) := hid (srow_grown ((one_srow w1.drew p q w1.heap.size (by first | rfl | simp)).al _) HG3.out (by simp [Value.ownBlock]))
          have HOW4 : Hid (w3.ownsRow w1.heap.size 28 2 (.slice a3 ne c3) ne (pairs es)) := hid (HO3.out)
          have HBY4 : Hid (w1.heap.size ≤ w3.heap.size) := hid hHeld.size
          refine step_append_any _ (by rfl) _ _ 22 (by rfl) w1.heap.size 28 i0 (.agg #[.int .i64 0, .int .i64 0]) 2 16 Tryz.underlying22 HI.out.1 HI.out.2.1 HI.out.2.2.1 HI.out.2.2.2 rfl (by decide) (.slice a3 ne c3) ne (pairs es) (by rfl) HOW4.out (.slice (some ⟨w1.heap.size, 0, none⟩) 1 1) 1 [.int .i64 p, .int .i64 q] (by rfl) (by rfl) HS1.out (two_one p q) HM.out.2.2.1 HM.out.2.2.2 HBY4.out _ rfl ?_
          intro a4 c4 w4 hown hgrow hblk
          have HO4 : Hid (w4.ownsRow w1.heap.size 28 2 (.slice a4 (ne + 1) c4) (ne + 1) (pairs es ++ [.int .i64 p, .int .i64 q])) := hown
          have HB4 : Hid (Below w1.heap.size w1 w4) := hid (hHeld.grown hgrow hHeld.size (fun k hk => (HOW4.out.lt k hk).1))
          clear hown hgrow hblk
          refine hK.out _ _ (HB4.out) (fun hN => ?_)
          clear hK K hHeld
          have hHeld := hN
          clear hN
          try simp only [Act.put, List.setIfInBounds_toArray, List.set_cons_zero, List.set_cons_succ]
          refine wpAnyH_ready (rs := [16]) (by kernel_rfl) (by simp) ?_
          refine (AllReadyH.cons (o := ?oiC1x34x16) ?hiC1x34x16 (fun K hK => ?gC1x34x16) AllReadyH.nil)
          case hiC1x34x16 => simp only [List.getElem?_toArray, List.getElem?_cons_succ, List.getElem?_cons_zero]; rfl
          case gC1x34x16 =>
            go_simp
            refine (HS8.out w4 _ HB4.out (EL.own2 HNE.out HO4.out)).mono ?_
            rintro e w5 ⟨LB, y, rfl, h5⟩
            have HB5 : Hid (Below w1.heap.size w1 w5) := hid (bel_trans HB4.out h5.2.2.1)
            have H5 := hid (And.intro HB4.out.size h5)
            clear h5
            go_wp2_with fail
            refine hK.out _ _ (HB5.out) (fun hN => ?_)
            clear hK K hHeld
            have hHeld := hN
            clear hN
            try simp only [Act.put, List.setIfInBounds_toArray, List.set_cons_zero, List.set_cons_succ]
            refine wpAnyH_take (i := 17) (oi := ?oiC1x35x17) (v := ?vvC1x35x17) ?hiC1x35x17 (by kernel_rfl) (by kernel_rfl) (by kernel_rfl) ?hqC1x35x17 ?hyC1x35x17 hHeld ?_
            case hiC1x35x17 => simp only [List.getElem?_toArray, List.getElem?_cons_succ, List.getElem?_cons_zero]; rfl
            case hqC1x35x17 => exact fun _ _ _ h => hQ0 _ _ _ _ _ h
            case hyC1x35x17 => (refine Or.inl ⟨by rfl, ?_⟩; intro w' hSw; (try dsimp only at hSw); go_simp; (try (with_reducible rfl)))
            simp only [Act.put, List.setIfInBounds_toArray, List.set_cons_zero, List.set_cons_succ]
            refine wpAnyH_take (i := 18) (oi := ?oiC1x36x18) (v := ?vvC1x36x18) ?hiC1x36x18 (by kernel_rfl) (by kernel_rfl) (by kernel_rfl) ?hqC1x36x18 ?hyC1x36x18 hHeld ?_
            case hiC1x36x18 => simp only [List.getElem?_toArray, List.getElem?_cons_succ, List.getElem?_cons_zero]; rfl
            case hqC1x36x18 => exact fun _ _ _ h => hQ0 _ _ _ _ _ h
            case hyC1x36x18 => (refine Or.inl ⟨by rfl, ?_⟩; intro w' hSw; (try dsimp only at hSw); go_simp; (try (with_reducible rfl)))
            simp only [Act.put, List.setIfInBounds_toArray, List.set_cons_zero, List.set_cons_succ]
            refine wpAnyH_take (i := 19) (oi := ?oiC1x37x19) (v := ?vvC1x37x19) ?hiC1x37x19 (by kernel_rfl) (by kernel_rfl) (by kernel_rfl) ?hqC1x37x19 ?hyC1x37x19 hHeld ?_
            case hiC1x37x19 => simp only [List.getElem?_toArray, List.getElem?_cons_succ, List.getElem?_cons_zero]; rfl
            case hqC1x37x19 => exact fun _ _ _ h => hQ0 _ _ _ _ _ h
            case hyC1x37x19 => (refine Or.inl ⟨by rfl, ?_⟩; intro w' hSw; (try dsimp only at hSw); go_simp; (try (with_reducible rfl)))
            simp only [Act.put, List.setIfInBounds_toArray, List.set_cons_zero, List.set_cons_succ]
            refine wpAnyH_take (i := 20) (oi := ?oiC1x38x20) (v := ?vvC1x38x20) ?hiC1x38x20 (by kernel_rfl) (by kernel_rfl) (by kernel_rfl) ?hqC1x38x20 ?hyC1x38x20 hHeld ?_
            case hiC1x38x20 => simp only [List.getElem?_toArray, List.getElem?_cons_succ, List.getElem?_cons_zero]; rfl
            case hqC1x38x20 => exact fun _ _ _ h => hQ0 _ _ _ _ _ h
            case hyC1x38x20 => (refine Or.inl ⟨by rfl, ?_⟩; intro w' hSw; (try dsimp only at hSw); go_simp; (try (with_reducible rfl)))
            simp only [Act.put, List.setIfInBounds_toArray, List.set_cons_zero, List.set_cons_succ]
            refine wpAnyH_take (i := 21) (oi := ?oiC1x39x21) (v := ?vvC1x39x21) ?hiC1x39x21 (by kernel_rfl) (by kernel_rfl) (by kernel_rfl) ?hqC1x39x21 ?hyC1x39x21 hHeld ?_
            case hiC1x39x21 => simp only [List.getElem?_toArray, List.getElem?_cons_succ, List.getElem?_cons_zero]; rfl
            case hqC1x39x21 => exact fun _ _ _ h => hQ0 _ _ _ _ _ h
            case hyC1x39x21 => (refine Or.inl ⟨by rfl, ?_⟩; intro w' hSw; (try dsimp only at hSw); go_simp; (try (with_reducible rfl)))
            simp only [Act.put, List.setIfInBounds_toArray, List.set_cons_zero, List.set_cons_succ]
            refine wpAnyH_done (by kernel_rfl) ?_ _
            exact HK.out _ _ _ _ _ _ _ _ _ _ _ _ _ _ _ _ _ _ _ _ LB y w5 HB5.out H5.out.2.1 H5.out.2.2.1 (Nat.le_trans H5.out.1 H5.out.2.2.2.2)
end Go.Proofs.YtiigfggebpmlnaaGreatDoor

