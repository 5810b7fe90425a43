/- LexPlaces: each word that Words answers stands in the text at the place that it tells, and the places rise, whatever the text: the law answers true. -/
import Derived.Test.YtabkaiaajghafaaDoorLLaws
namespace Go.Proofs.YtabkaiaajghafaaDoor
open Go.ChangeShapes Go.WideShapes Go.ChangeAt Go.RowKit Go.Joins Go.Deep
set_option linter.unusedSimpArgs false
set_option linter.unusedVariables false

/-- Where the loop is: the words whose places are past, those that are to come. -/
structure PInv (t : ByteArray) (pre suf : List (WW × Nat)) (i : Nat) : Prop where
  all : (lexAll t).1 = pre ++ suf
  ok : ∃ b, LOk t b suf
  head : ∀ x j r, suf = (x, j) :: r → i ≤ j
  le : i ≤ t.size
theorem PInv.done {t : ByteArray} {pre suf : List (WW × Nat)} (h : PInv t pre suf t.size) : suf = [] := by
  cases suf with
  | nil => rfl
  | cons a r =>
    obtain ⟨x, j⟩ := a
    obtain ⟨b, ho⟩ := h.ok
    have := h.head x j r rfl
    have h1 := ho.2.1
    have h2 := ho.2.2.1
    omega
theorem PInv.hit {t : ByteArray} {pre r : List (WW × Nat)} {x : WW} {i : Nat} (h : PInv t pre ((x, i) :: r) i) (hi : i < t.size) : PInv t (pre ++ [(x, i)]) r (i + 1) := by
  obtain ⟨b, ho⟩ := h.ok
  refine ⟨by rw [h.all]; simp, ⟨_, ho.2.2.2.2⟩, fun y j r' e => ?_, hi⟩
  subst e
  have h1 := ho.2.1
  have h2 := ho.2.2.2.2.1
  omega
theorem PInv.miss {t : ByteArray} {pre r : List (WW × Nat)} {x : WW} {i j : Nat} (h : PInv t pre ((x, j) :: r) i) (hi : i < t.size) (hn : ¬ j = i) : PInv t pre ((x, j) :: r) (i + 1) := by
  refine ⟨h.all, h.ok, fun y k r' e => ?_, hi⟩
  have := h.head x j r rfl
  cases e
  omega
theorem PInv.text {t : ByteArray} {pre r : List (WW × Nat)} {x : WW} {i j : Nat} (h : PInv t pre ((x, j) :: r) i) : 0 < x.s.size ∧ j + x.s.size ≤ t.size ∧ x.s = t.extract j (j + x.s.size) := by
  obtain ⟨b, ho⟩ := h.ok
  exact ⟨ho.2.1, ho.2.2.1, ho.2.2.2.1⟩
theorem PInv.get {t : ByteArray} {pre r : List (WW × Nat)} {x : WW} {i j : Nat} (h : PInv t pre ((x, j) :: r) i) : (lexAll t).1[pre.length]? = some (x, j) ∧ pre.length < (lexAll t).1.length ∧ (lexAll t).1 ≠ [] := by
  rw [h.all]
  simp
set_option maxRecDepth 100000 in
set_option maxHeartbeats 16000000 in
theorem lexPlaces_walk (t : ByteArray) (w : World) (hl : LexTab w) (he : ErrTab w) : Calls Tryd.prog 6 #[.string t] w (retP (.bool true) w) := by
  have HL : Hid (∀ W, Below w.heap.size w W → LexTab W ∧ ErrTab W) := fun W h => ⟨hl.keep h, he.keep h⟩
  have HB0 : Hid (Below w.heap.size w w) := Below.refl _ _
  clear hl he
  go_enter Tryd.func6, Tryd.ntmps6
  go_wp2_with fail
  refine (awake_any _ (HL.out _ HB0.out).1 (HL.out _ HB0.out).2).mono ?_
  rintro e w1 ⟨rfl, hb1⟩
  have HB1 : Hid (Below w.heap.size w w1) := bel_trans HB0.out hb1
  clear hb1 HB0
  go_wp2_with fail
  by_cases h1 : 65536 < t.size
  · refine (words_lim t _ (HL.out _ HB1.out).1 (HL.out _ HB1.out).2 h1).mono ?_
    rintro e w2 ⟨rfl, hb2⟩
    go_wp2
    go_ret
    exact ⟨rfl, bel_alloc (bel_trans HB1.out hb2) _⟩
  by_cases h2 : (lexAll t).2 = t.size
  · refine (words_ok t _ (HL.out _ HB1.out).1 (HL.out _ HB1.out).2 (by omega) h2).mono ?_
    rintro e w2 ⟨a, cap, rfl, hat, hb2⟩
    have HB2 : Hid (Below w.heap.size w (w2.alloc (.cells #[.int .i64 0, .int .i64 0] 25))) := bel_alloc (bel_trans HB1.out hb2) _
    have HA : Hid (WordsAt (w2.alloc (.cells #[.int .i64 0, .int .i64 0] 25)) t a cap (lexAll t).1) := hat.keep ((Below.refl _ _).alloc (Nat.le_refl _) _)
    clear hb2 hat HB1 h2 h1
    have hlen := lexAll_len t
    obtain ⟨N, hN⟩ : ∃ N, (lexAll t).1.length = N := ⟨_, rfl⟩
    rw [hN] at hlen ⊢
    have HN : Hid ((lexAll t).1.length = N ∧ N ≤ t.size) := ⟨hN, hlen⟩
    clear hN hlen
    by_cases h5 : 5000 < t.size
    · have h6 : (5000 : Int) < (t.size : Int) := by omega
      go_wp2
      go_ret
      exact ⟨rfl, HB2.out⟩
    · have h6 : ¬ (5000 : Int) < (t.size : Int) := by omega
      have h7 : (t.size : Int) ≤ 5000 := by omega
      have N1 : (N : Int) ≤ 5000 := by have := HN.out.2; omega
      clear h5
      go_wp2
      go_loopw [6, 7, 8, 9] (fun vl vc va vi wr => ∃ (pre suf : List (WW × Nat)) (i : Nat), vl = .int .i64 ((posOf t i).1 : Int) ∧ vc = .int .i64 ((posOf t i).2 : Int) ∧ va = .int .i64 (pre.length : Int) ∧ vi = .int .i64 (i : Int) ∧ Hid (PInv t pre suf i ∧ WordsAt wr t a cap (lexAll t).1 ∧ Below w.heap.size w wr)) (fun _ _ _ vi _ => t.size - (intOf vi).toNat)
      case atStart => exact ⟨[], (lexAll t).1, 0, rfl, rfl, rfl, rfl, ⟨⟨rfl, ⟨0, lexAll_ok t⟩, fun _ _ _ _ => Nat.zero_le _, Nat.zero_le _⟩, HA.out, HB2.out⟩⟩
      case round =>
        obtain ⟨pre, suf, i, rfl, rfl, rfl, rfl, HI⟩ := hrel
        clear HA HB2
        have i0 : (0 : Int) ≤ (i : Int) := by omega
        obtain ⟨at', hat'⟩ : ∃ k, pre.length = k := ⟨_, rfl⟩
        have k0 : (0 : Int) ≤ (at' : Int) := by omega
        have hkN : at' + suf.length = N := by
          have := HN.out.1
          rw [HI.out.1.all] at this
          simp at this
          omega
        rw [hat']
        have HK : Hid (pre.length = at') := hat'
        clear hat'
        by_cases his : i < t.size
        · have i1 : (i : Int) < (t.size : Int) := by omega
          cases suf with
          | nil =>
            have k1 : ¬ (at' : Int) < (N : Int) := by simp at hkN; omega
            have k2 : (at' : Int) = (N : Int) := by simp at hkN; omega
            go_wp2
            go_ret
            exact ⟨rfl, HI.out.2.2⟩
          | cons b r =>
            obtain ⟨x, j⟩ := b
            have k1 : (at' : Int) < (N : Int) := by simp at hkN; omega
            obtain ⟨g, rfl, hg, hcells⟩ := HI.out.2.1.row HI.out.1.get.2.2
            have hc := hcells at' x j (by rw [← HK.out]; exact HI.out.1.get.1)
            have c1 := hc.c1
            have c3 := hc.c3
            have c4 := hc.c4
            have hcap : N ≤ cap := by rw [← HN.out.1]; exact HI.out.2.1.cap
            have ix := index_byte t i his
            obtain ⟨⟨pl, pc⟩, hp⟩ : ∃ p, posOf t i = p := ⟨_, rfl⟩
            have HP : Hid (posOf t i = (pl, pc)) := hp
            have hple := posOf_le t i
            rw [hp] at hple
            have pl1 : (pl : Int) ≤ 5001 := by omega
            have pc1 : (pc : Int) ≤ 5001 := by omega
            have pl0 : (0 : Int) ≤ (pl : Int) := by omega
            have pc0 : (0 : Int) ≤ (pc : Int) := by omega
            rw [hp]
            have at1 : (at' : Int) ≤ 5000 := by omega
            clear hc hcells hple
            by_cases hji : j = i
            · subst hji
              rw [hp] at c3 c4
              obtain ⟨n, hn⟩ : ∃ n, x.s.size = n := ⟨_, rfl⟩
              have htx := HI.out.1.text
              rw [hn] at htx
              have n0 : (1 : Int) ≤ (n : Int) := by omega
              have n1 : (n : Int) ≤ (t.size : Int) - (j : Int) := by omega
              have n2 : decide ((n : Int) < 1) = false := by simp; omega
              have n3 : decide ((t.size : Int) - (j : Int) < (n : Int)) = false := by simp; omega
              have sx : ∀ W, (Instr.slice 9 (.string t) (some (.int .i64 (j : Int))) (some (.int .i64 ((j : Int) + (n : Int)))) none).run Tryd.prog W = .ok (.string x.s) W := fun W => by
                rw [run_slice_string_if W 9 t .i64 .i64 _ _ Tryd.underlying9, if_pos ⟨by omega, by omega⟩, if_pos ⟨by omega, by omega⟩]
                have e1 : ((j : Int)).toNat = j := by omega
                have e2 : ((j : Int) + (n : Int)).toNat = j + n := by omega
                rw [e1, e2, ← htx.2.2]
              have nn : n ≤ t.size := by omega
              have wx1 : IntKind.i64.wrap ((t.size : Int) - (j : Int)) = (t.size : Int) - (j : Int) := by rw [IntKind.wrap_i64]; omega
              have wx2 : IntKind.i64.wrap ((j : Int) + (n : Int)) = (j : Int) + (n : Int) := by rw [IntKind.wrap_i64]; omega
              clear htx hp
              go_wp2_with fail
              refine wp_region_held_drew (S := (fun w' => w'.cell? ⟨g, at' * 5 + 1, none⟩ = some (.string x.s))) (by kernel_rfl) (c1) (fun hHeld => ?_)
              refine wpAnyH_take (i := 0) (oi := ?oia0) (v := ?vva0) ?hia0 (by kernel_rfl) (by kernel_rfl) (by kernel_rfl) ?hqa0 ?hya0 hHeld ?_
              case hia0 => simp only [List.getElem?_toArray, List.getElem?_cons_succ, List.getElem?_cons_zero]; rfl
              case hqa0 => exact fun _ _ _ h => h
              case hya0 => (refine Or.inl ⟨by rfl, ?_⟩; intro w' hSw; (try dsimp only at hSw); go_simp; (try (with_reducible rfl)))
              simp only [Act.put, List.setIfInBounds_toArray, List.set_cons_zero, List.set_cons_succ]
              refine wpAnyH_take (i := 1) (oi := ?oia1) (v := ?vva1) ?hia1 (by kernel_rfl) (by kernel_rfl) (by kernel_rfl) ?hqa1 ?hya1 hHeld ?_
              case hia1 => simp only [List.getElem?_toArray, List.getElem?_cons_succ, List.getElem?_cons_zero]; rfl
              case hqa1 => exact fun _ _ _ h => h
              case hya1 => (refine Or.inl ⟨by rfl, ?_⟩; intro w' hSw; (try dsimp only at hSw); go_simp; (try (with_reducible rfl)))
              simp only [Act.put, List.setIfInBounds_toArray, List.set_cons_zero, List.set_cons_succ]
              refine wpAnyH_take (i := 2) (oi := ?oia2) (v := ?vva2) ?hia2 (by kernel_rfl) (by kernel_rfl) (by kernel_rfl) ?hqa2 ?hya2 hHeld ?_
              case hia2 => simp only [List.getElem?_toArray, List.getElem?_cons_succ, List.getElem?_cons_zero]; rfl
              case hqa2 => exact fun _ _ _ h => h
              case hya2 => (refine Or.inl ⟨by rfl, ?_⟩; intro w' hSw; (try dsimp only at hSw); go_simp; (try (with_reducible rfl)))
              simp only [Act.put, List.setIfInBounds_toArray, List.set_cons_zero, List.set_cons_succ]
              refine wpAnyH_take (i := 3) (oi := ?oia3) (v := ?vva3) ?hia3 (by kernel_rfl) (by kernel_rfl) (by kernel_rfl) ?hqa3 ?hya3 hHeld ?_
              case hia3 => simp only [List.getElem?_toArray, List.getElem?_cons_succ, List.getElem?_cons_zero]; rfl
              case hqa3 => exact fun _ _ _ h => h
              case hya3 => (refine Or.inl ⟨by rfl, ?_⟩; intro w' hSw; (try dsimp only at hSw); go_simp; (try (with_reducible rfl)))
              simp only [Act.put, List.setIfInBounds_toArray, List.set_cons_zero, List.set_cons_succ]
              refine wpAnyH_take (i := 4) (oi := ?oia4) (v := ?vva4) ?hia4 (by kernel_rfl) (by kernel_rfl) (by kernel_rfl) ?hqa4 ?hya4 hHeld ?_
              case hia4 => simp only [List.getElem?_toArray, List.getElem?_cons_succ, List.getElem?_cons_zero]; rfl
              case hqa4 => exact fun _ _ _ h => h
              case hya4 => (refine Or.inl ⟨by rfl, ?_⟩; intro w' hSw; (try dsimp only at hSw); go_simp; (try (with_reducible rfl)))
              simp only [Act.put, List.setIfInBounds_toArray, List.set_cons_zero, List.set_cons_succ]
              refine wpAnyH_take (i := 5) (oi := ?oia5) (v := ?vva5) ?hia5 (by kernel_rfl) (by kernel_rfl) (by kernel_rfl) ?hqa5 ?hya5 hHeld ?_
              case hia5 => simp only [List.getElem?_toArray, List.getElem?_cons_succ, List.getElem?_cons_zero]; rfl
              case hqa5 => exact fun _ _ _ h => h
              case hya5 => (refine Or.inl ⟨by rfl, ?_⟩; intro w' hSw; (try dsimp only at hSw); go_simp; (try (with_reducible rfl)))
              simp only [Act.put, List.setIfInBounds_toArray, List.set_cons_zero, List.set_cons_succ]
              refine wpAnyH_take (i := 6) (oi := ?oia6) (v := ?vva6) ?hia6 (by kernel_rfl) (by kernel_rfl) (by kernel_rfl) ?hqa6 ?hya6 hHeld ?_
              case hia6 => simp only [List.getElem?_toArray, List.getElem?_cons_succ, List.getElem?_cons_zero]; rfl
              case hqa6 => exact fun _ _ _ h => h
              case hya6 => (refine Or.inl ⟨by rfl, ?_⟩; intro w' hSw; (try dsimp only at hSw); go_simp; (try (with_reducible rfl)))
              simp only [Act.put, List.setIfInBounds_toArray, List.set_cons_zero, List.set_cons_succ]
              refine wpAnyH_take (i := 7) (oi := ?oia7) (v := ?vva7) ?hia7 (by kernel_rfl) (by kernel_rfl) (by kernel_rfl) ?hqa7 ?hya7 hHeld ?_
              case hia7 => simp only [List.getElem?_toArray, List.getElem?_cons_succ, List.getElem?_cons_zero]; rfl
              case hqa7 => exact fun _ _ _ h => h
              case hya7 => (refine Or.inl ⟨by rfl, ?_⟩; intro w' hSw; (try dsimp only at hSw); go_simp; (try (with_reducible rfl)))
              simp only [Act.put, List.setIfInBounds_toArray, List.set_cons_zero, List.set_cons_succ]
              refine wpAnyH_take (i := 8) (oi := ?oia8) (v := ?vva8) ?hia8 (by kernel_rfl) (by kernel_rfl) (by kernel_rfl) ?hqa8 ?hya8 hHeld ?_
              case hia8 => simp only [List.getElem?_toArray, List.getElem?_cons_succ, List.getElem?_cons_zero]; rfl
              case hqa8 => exact fun _ _ _ h => h
              case hya8 => (refine Or.inl ⟨by rfl, ?_⟩; intro w' hSw; (try dsimp only at hSw); go_simp; (try (with_reducible rfl)))
              simp only [Act.put, List.setIfInBounds_toArray, List.set_cons_zero, List.set_cons_succ]
              refine wpAnyH_take (i := 9) (oi := ?oia9) (v := ?vva9) ?hia9 (by kernel_rfl) (by kernel_rfl) (by kernel_rfl) ?hqa9 ?hya9 hHeld ?_
              case hia9 => simp only [List.getElem?_toArray, List.getElem?_cons_succ, List.getElem?_cons_zero]; rfl
              case hqa9 => exact fun _ _ _ h => h
              case hya9 => (refine Or.inl ⟨by rfl, ?_⟩; intro w' hSw; (try dsimp only at hSw); go_simp; (try (with_reducible rfl)))
              simp only [Act.put, List.setIfInBounds_toArray, List.set_cons_zero, List.set_cons_succ]
              refine wpAnyH_take (i := 10) (oi := ?oia10) (v := ?vva10) ?hia10 (by kernel_rfl) (by kernel_rfl) (by kernel_rfl) ?hqa10 ?hya10 hHeld ?_
              case hia10 => simp only [List.getElem?_toArray, List.getElem?_cons_succ, List.getElem?_cons_zero]; rfl
              case hqa10 => exact fun _ _ _ h => h
              case hya10 => (refine Or.inl ⟨by rfl, ?_⟩; intro w' hSw; (try dsimp only at hSw); go_simp; (try (with_reducible rfl)))
              simp only [Act.put, List.setIfInBounds_toArray, List.set_cons_zero, List.set_cons_succ]
              refine wpAnyH_take (i := 11) (oi := ?oia11) (v := ?vva11) ?hia11 (by kernel_rfl) (by kernel_rfl) (by kernel_rfl) ?hqa11 ?hya11 hHeld ?_
              case hia11 => simp only [List.getElem?_toArray, List.getElem?_cons_succ, List.getElem?_cons_zero]; rfl
              case hqa11 => exact fun _ _ _ h => h
              case hya11 => (refine Or.inl ⟨by rfl, ?_⟩; intro w' hSw; (try dsimp only at hSw); go_simp; (try (with_reducible rfl)))
              simp only [Act.put, List.setIfInBounds_toArray, List.set_cons_zero, List.set_cons_succ]
              refine wpAnyH_take (i := 12) (oi := ?oia12) (v := ?vva12) ?hia12 (by kernel_rfl) (by kernel_rfl) (by kernel_rfl) ?hqa12 ?hya12 hHeld ?_
              case hia12 => simp only [List.getElem?_toArray, List.getElem?_cons_succ, List.getElem?_cons_zero]; rfl
              case hqa12 => exact fun _ _ _ h => h
              case hya12 => (refine Or.inl ⟨by rfl, ?_⟩; intro w' hSw; (try dsimp only at hSw); go_simp; (try (with_reducible rfl)))
              simp only [Act.put, List.setIfInBounds_toArray, List.set_cons_zero, List.set_cons_succ]
              refine wpAnyH_take (i := 13) (oi := ?oia13) (v := ?vva13) ?hia13 (by kernel_rfl) (by kernel_rfl) (by kernel_rfl) ?hqa13 ?hya13 hHeld ?_
              case hia13 => simp only [List.getElem?_toArray, List.getElem?_cons_succ, List.getElem?_cons_zero]; rfl
              case hqa13 => exact fun _ _ _ h => h
              case hya13 => (refine Or.inl ⟨by rfl, ?_⟩; intro w' hSw; (try dsimp only at hSw); go_simp; (try (with_reducible rfl)))
              simp only [Act.put, List.setIfInBounds_toArray, List.set_cons_zero, List.set_cons_succ]
              refine wpAnyH_take (i := 14) (oi := ?oia14) (v := ?vva14) ?hia14 (by kernel_rfl) (by kernel_rfl) (by kernel_rfl) ?hqa14 ?hya14 hHeld ?_
              case hia14 => simp only [List.getElem?_toArray, List.getElem?_cons_succ, List.getElem?_cons_zero]; rfl
              case hqa14 => exact fun _ _ _ h => h
              case hya14 => (refine Or.inl ⟨by rfl, ?_⟩; intro w' hSw; (try dsimp only at hSw); go_simp; (try (with_reducible rfl)))
              simp only [Act.put, List.setIfInBounds_toArray, List.set_cons_zero, List.set_cons_succ]
              refine wpAnyH_take (i := 15) (oi := ?oia15) (v := ?vva15) ?hia15 (by kernel_rfl) (by kernel_rfl) (by kernel_rfl) ?hqa15 ?hya15 hHeld ?_
              case hia15 => simp only [List.getElem?_toArray, List.getElem?_cons_succ, List.getElem?_cons_zero]; rfl
              case hqa15 => exact fun _ _ _ h => h
              case hya15 => (refine Or.inl ⟨by rfl, ?_⟩; intro w' hSw; (try dsimp only at hSw); go_simp; (try (with_reducible rfl)))
              simp only [Act.put, List.setIfInBounds_toArray, List.set_cons_zero, List.set_cons_succ]
              refine wpAnyH_take (i := 16) (oi := ?oia16) (v := ?vva16) ?hia16 (by kernel_rfl) (by kernel_rfl) (by kernel_rfl) ?hqa16 ?hya16 hHeld ?_
              case hia16 => simp only [List.getElem?_toArray, List.getElem?_cons_succ, List.getElem?_cons_zero]; rfl
              case hqa16 => exact fun _ _ _ h => h
              case hya16 => (refine Or.inl ⟨by rfl, ?_⟩; intro w' hSw; (try dsimp only at hSw); go_simp; (try (with_reducible rfl)))
              simp only [Act.put, List.setIfInBounds_toArray, List.set_cons_zero, List.set_cons_succ]
              refine wpAnyH_take (i := 17) (oi := ?oia17) (v := ?vva17) ?hia17 (by kernel_rfl) (by kernel_rfl) (by kernel_rfl) ?hqa17 ?hya17 hHeld ?_
              case hia17 => simp only [List.getElem?_toArray, List.getElem?_cons_succ, List.getElem?_cons_zero]; rfl
              case hqa17 => exact fun _ _ _ h => h
              case hya17 => (refine Or.inl ⟨by rfl, ?_⟩; intro w' hSw; (try dsimp only at hSw); go_simp; (try (with_reducible rfl)))
              simp only [Act.put, List.setIfInBounds_toArray, List.set_cons_zero, List.set_cons_succ]
              refine wpAnyH_take (i := 18) (oi := ?oia18) (v := ?vva18) ?hia18 (by kernel_rfl) (by kernel_rfl) (by kernel_rfl) ?hqa18 ?hya18 hHeld ?_
              case hia18 => simp only [List.getElem?_toArray, List.getElem?_cons_succ, List.getElem?_cons_zero]; rfl
              case hqa18 => exact fun _ _ _ h => h
              case hya18 => (refine Or.inl ⟨by rfl, ?_⟩; intro w' hSw; (try dsimp only at hSw); go_simp; (try (with_reducible rfl)))
              simp only [Act.put, List.setIfInBounds_toArray, List.set_cons_zero, List.set_cons_succ]
              refine wpAnyH_take (i := 19) (oi := ?oia19) (v := ?vva19) ?hia19 (by kernel_rfl) (by kernel_rfl) (by kernel_rfl) ?hqa19 ?hya19 hHeld ?_
              case hia19 => simp only [List.getElem?_toArray, List.getElem?_cons_succ, List.getElem?_cons_zero]; rfl
              case hqa19 => exact fun _ _ _ h => h
              case hya19 => (refine Or.inl ⟨by rfl, ?_⟩; intro w' hSw; (try dsimp only at hSw); go_simp; (try (with_reducible rfl)))
              simp only [Act.put, List.setIfInBounds_toArray, List.set_cons_zero, List.set_cons_succ]
              refine wpAnyH_take (i := 20) (oi := ?oia20) (v := ?vva20) ?hia20 (by kernel_rfl) (by kernel_rfl) (by kernel_rfl) ?hqa20 ?hya20 hHeld ?_
              case hia20 => simp only [List.getElem?_toArray, List.getElem?_cons_succ, List.getElem?_cons_zero]; rfl
              case hqa20 => exact fun _ _ _ h => h
              case hya20 => (refine Or.inl ⟨by rfl, ?_⟩; intro w' hSw; (try dsimp only at hSw); go_simp; (try (with_reducible rfl)))
              simp only [Act.put, List.setIfInBounds_toArray, List.set_cons_zero, List.set_cons_succ]
              refine wpAnyH_take (i := 21) (oi := ?oia21) (v := ?vva21) ?hia21 (by kernel_rfl) (by kernel_rfl) (by kernel_rfl) ?hqa21 ?hya21 hHeld ?_
              case hia21 => simp only [List.getElem?_toArray, List.getElem?_cons_succ, List.getElem?_cons_zero]; rfl
              case hqa21 => exact fun _ _ _ h => h
              case hya21 => (refine Or.inl ⟨by rfl, ?_⟩; intro w' hSw; (try dsimp only at hSw); go_simp; (try (with_reducible rfl)))
              simp only [Act.put, List.setIfInBounds_toArray, List.set_cons_zero, List.set_cons_succ]
              refine wpAnyH_take (i := 22) (oi := ?oia22) (v := ?vva22) ?hia22 (by kernel_rfl) (by kernel_rfl) (by kernel_rfl) ?hqa22 ?hya22 hHeld ?_
              case hia22 => simp only [List.getElem?_toArray, List.getElem?_cons_succ, List.getElem?_cons_zero]; rfl
              case hqa22 => exact fun _ _ _ h => h
              case hya22 => (refine Or.inl ⟨by rfl, ?_⟩; intro w' hSw; (try dsimp only at hSw); go_simp; (try (with_reducible rfl)))
              simp only [Act.put, List.setIfInBounds_toArray, List.set_cons_zero, List.set_cons_succ]
              refine wpAnyH_take (i := 23) (oi := ?oia23) (v := ?vva23) ?hia23 (by kernel_rfl) (by kernel_rfl) (by kernel_rfl) ?hqa23 ?hya23 hHeld ?_
              case hia23 => simp only [List.getElem?_toArray, List.getElem?_cons_succ, List.getElem?_cons_zero]; rfl
              case hqa23 => exact fun _ _ _ h => h
              case hya23 => (refine Or.inl ⟨by rfl, ?_⟩; intro w' hSw; (try dsimp only at hSw); go_simp; (try (with_reducible rfl)))
              simp only [Act.put, List.setIfInBounds_toArray, List.set_cons_zero, List.set_cons_succ]
              refine wpAnyH_done (by kernel_rfl) ?_ _
              clear hHeld
              by_cases hb : byteAt t j = 10
              · have q10 : (byteAt t j == 10) = true := by simpa using hb
                have HS : Hid (posOf t (j + 1) = (pl + 1, 1)) := by
                  show _ = _
                  rw [posOf_succ, if_pos hb, HP.out]
                clear hb
                go_wp2
                go_roundw
                case rel => exact ⟨_, _, j + 1, by rw [HS.out]; simp, by rw [HS.out]; simp, by rw [← HK.out]; simp, by simp, ⟨HI.out.1.hit (by omega), HI.out.2.1.drew, HI.out.2.2.drew⟩⟩
                case measure => simp [intOf]; omega
              · have q10 : (byteAt t j == 10) = false := by simpa using hb
                have HS : Hid (posOf t (j + 1) = (pl, pc + 1)) := by
                  show _ = _
                  rw [posOf_succ, if_neg hb, HP.out]
                clear hb
                go_wp2
                go_roundw
                case rel => exact ⟨_, _, j + 1, by rw [HS.out], by rw [HS.out]; simp, by rw [← HK.out]; simp, by simp, ⟨HI.out.1.hit (by omega), HI.out.2.1.drew, HI.out.2.2.drew⟩⟩
                case measure => simp [intOf]; omega
            · have HJ : Hid (¬ j = i) := hji
              obtain ⟨⟨ql, qc⟩, hq⟩ : ∃ p, posOf t j = p := ⟨_, rfl⟩
              have hpq : ¬ (ql = pl ∧ qc = pc) := fun h => hji (posOf_inj (by rw [hp, hq, h.1, h.2]))
              rw [hq] at c3 c4
              clear hp hq hji
              by_cases hll : ql = pl
              · have hcc : ((qc : Int) == (pc : Int)) = false := by simp; omega
                rw [hll] at c3
                clear hpq
                by_cases hb : byteAt t i = 10
                · have q10 : (byteAt t i == 10) = true := by simpa using hb
                  have HS : Hid (posOf t (i + 1) = (pl + 1, 1)) := by
                    show _ = _
                    rw [posOf_succ, if_pos hb, HP.out]
                  clear hb
                  go_wp2
                  go_roundw
                  case rel => exact ⟨_, _, i + 1, by rw [HS.out]; simp, by rw [HS.out]; simp, by rw [← HK.out], by simp, ⟨HI.out.1.miss (by omega) HJ.out, HI.out.2.1, HI.out.2.2⟩⟩
                  case measure => simp [intOf]; omega
                · have q10 : (byteAt t i == 10) = false := by simpa using hb
                  have HS : Hid (posOf t (i + 1) = (pl, pc + 1)) := by
                    show _ = _
                    rw [posOf_succ, if_neg hb, HP.out]
                  clear hb
                  go_wp2
                  go_roundw
                  case rel => exact ⟨_, _, i + 1, by rw [HS.out], by rw [HS.out]; simp, by rw [← HK.out], by simp, ⟨HI.out.1.miss (by omega) HJ.out, HI.out.2.1, HI.out.2.2⟩⟩
                  case measure => simp [intOf]; omega
              · have hcc : ((ql : Int) == (pl : Int)) = false := by simp; omega
                clear hpq
                by_cases hb : byteAt t i = 10
                · have q10 : (byteAt t i == 10) = true := by simpa using hb
                  have HS : Hid (posOf t (i + 1) = (pl + 1, 1)) := by
                    show _ = _
                    rw [posOf_succ, if_pos hb, HP.out]
                  clear hb
                  go_wp2
                  go_roundw
                  case rel => exact ⟨_, _, i + 1, by rw [HS.out]; simp, by rw [HS.out]; simp, by rw [← HK.out], by simp, ⟨HI.out.1.miss (by omega) HJ.out, HI.out.2.1, HI.out.2.2⟩⟩
                  case measure => simp [intOf]; omega
                · have q10 : (byteAt t i == 10) = false := by simpa using hb
                  have HS : Hid (posOf t (i + 1) = (pl, pc + 1)) := by
                    show _ = _
                    rw [posOf_succ, if_neg hb, HP.out]
                  clear hb
                  go_wp2
                  go_roundw
                  case rel => exact ⟨_, _, i + 1, by rw [HS.out], by rw [HS.out]; simp, by rw [← HK.out], by simp, ⟨HI.out.1.miss (by omega) HJ.out, HI.out.2.1, HI.out.2.2⟩⟩
                  case measure => simp [intOf]; omega
        · have ie : i = t.size := by have := HI.out.1.le; omega
          have i1 : ¬ (i : Int) < (t.size : Int) := by omega
          have k2 : (at' : Int) = (N : Int) := by
            subst ie
            have := HI.out.1.done
            subst this
            simp at hkN
            omega
          go_wp2
          go_ret
          exact ⟨rfl, HI.out.2.2⟩
  · refine (words_fault t _ (HL.out _ HB1.out).1 (HL.out _ HB1.out).2 (by omega) h2).mono ?_
    rintro e w2 ⟨⟨pl, pc, _, rfl⟩, hb2⟩
    go_wp2
    go_ret
    exact ⟨rfl, bel_alloc (bel_trans HB1.out hb2) _⟩

set_option maxRecDepth 100000 in
theorem lexPlaces_lifted (os : Os) (started : os.Started) (H : Type) (enc : TypeId × Value → H) :
    ReturnsInHanded {} Tryd.checked os 6 .any (fun w args => (Rows.lexPlacesSpec.pre enc Tryd.prog Tryd.f6 [] false w args ∧ laidMetH Tryd.prog laid7 w) ∧ sizedMet enc Tryd.prog Tryd.f6 (OpenSpec.ofChange Rows.lexPlacesSpec) false w args)
      (Rows.lexPlacesSpec.post enc Tryd.prog Tryd.f6 false true false false) := by
  refine returnsInHanded_of_change_and (C := Tryd.checked) (X := fun w _ => laidMetH Tryd.prog laid7 w) (fun _ _ _ hh h => h.of_heap hh) own started (by kernel_rfl) Tryd.func6
    (ChangeSpec.witness_shaped (enc := enc) (C := Tryd.checked) (os := os) (X := fun w _ => laidMetH Tryd.prog laid7 w) false (World.doorLaid Tryd.prog 400 os) #[.string ⟨#[]⟩] 8 rfl (World.shaped_of_RefB (by kernel_rfl) (by kernel_rfl)) (by kernel_rfl) (by kernel_rfl) (by kernel_rfl) (door_met os _)) ?_
  intro W base args ds gs before hval0 hW _ _ hL _
  have hval : ∀ (j : Nat) t v, Tryd.f6.params[j]? = some t → args[j]? = some v → Value.okWide Tryd.prog W .any base t v := hval0
  have hW' := hW
  obtain ⟨p, q, hA0, hV, rfl, hfz, hnd⟩ := hW
  have hA : DataW.TrodAll enc Tryd.prog W 0 (fun _ => true) true Tryd.f6.params.toList args.toList ds p := hA0
  rw [Tryd.params6] at hA hval
  obtain ⟨v0, vs0, d0, ds0, p0, q0, hargs, rfl, rfl, h0, r0⟩ := trodAll_cons hA
  obtain ⟨rfl, rfl, rfl⟩ := trodAll_nil r0
  obtain rfl : args = #[v0] := by cases args; simp_all
  obtain ⟨rfl, rfl⟩ := trodVars_none hV
  obtain ⟨t, rfl, rfl, rfl, hsz⟩ := Go.ChangeMaps.open_string Tryd.underlying9 (hval 0 9 v0 rfl rfl) h0
  clear hA0 hval0
  simp only [List.append_nil] at hW'
  refine (lexPlaces_walk t W (tabs_of_laid hL).1 (tabs_of_laid hL).2).mono fun e W' ⟨he, hb⟩ => ?_
  subst he
  exact ⟨_, rfl, _, _, _, [], _, [], hW', (trodAll_cons_mk (shut_bool Tryd.underlying4 _) trodAll_mk0), (trodAll_cons_mk (Go.ChangeMaps.shut_string Tryd.underlying9 hsz) trodAll_mk0), rfl, hb.frame _, fun h => by cases h⟩

theorem lexPlaces_row : Rows.LexPlacesSaid :=
  OpenClaim.holds_of_wide 6 Tryd.f6 rfl rfl rfl rfl rfl rfl rfl ⟨rfl, rfl, rfl, rfl, rfl⟩ rfl rfl rfl rfl rfl (by kernel_rfl) Tryd.func6 (by kernel_rfl)
    (of_decide_eq_true (by kernel_rfl)) (by unfold Func.isWrapper; first | (rw [if_pos (by decide +kernel)]; kernel_rfl) | (rw [if_neg (by decide +kernel)]; exact ⟨rfl, rfl⟩))
    (fun os started H enc _ => lexPlaces_lifted os started H enc)

/-- THE STATEMENT. -/
theorem lexPlaces_holds : Rows.LexPlacesCardSaid :=
  Claim7.holds_tied_plain_at .later [] [.data, .data, .data, .sentinel, .sentinel, .data, .data] true (true, "a2661baaf88c53e237696182aad5fe305074b58c818a1835c7059ad1bd0741a2") true
    lexPlaces_row (fun _ h => by cases h) (by kernel_rfl) (fun _ h => by cases h) lexPlaces_row_tie rfl ⟨rfl, rfl⟩ (by kernel_rfl) rfl
    (fun f fn hf hfn => by
      obtain rfl : f = 6 := Option.some.inj ((show Tryd.prog.funcNamed "plumbob/plumboblaw4.LexPlaces" = some 6 by kernel_rfl).symm.trans hf) |>.symm
      obtain rfl : fn = Tryd.f6 := (Option.some.inj (Tryd.func6.symm.trans hfn)).symm
      exact ⟨by kernel_rfl, fun j t ht => by
        rw [Tryd.params6] at ht
        have hm : t ∈ [9] := by simpa using Array.mem_of_getElem? ht
        have hall : ([9].all fun u => !Tryd.prog.wantsStandIn u) = true := by kernel_rfl
        exact (show Tryd.prog.wantsStandIn t = false by simpa using List.all_eq_true.1 hall t hm)⟩)
    (by kernel_rfl)
#print axioms lexPlaces_holds

end Go.Proofs.YtabkaiaajghafaaDoor
