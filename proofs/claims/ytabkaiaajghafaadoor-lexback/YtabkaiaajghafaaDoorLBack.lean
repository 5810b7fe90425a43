/- LexBack: the words of a text, with blanks or remarks between, are cut again as the same words, whatever the text and the gaps: the law answers true. -/
import Derived.Test.YtabkaiaajghafaaDoorLBackM
namespace Go.Proofs.YtabkaiaajghafaaDoor
open Go.ChangeShapes Go.WideShapes Go.ChangeAt Go.RowKit Go.Joins Go.Deep
set_option linter.unusedSimpArgs false
set_option linter.unusedVariables false

theorem and1023 (n : Int) : ∃ g : Nat, bits .and .i64 n 1023 = (g : Int) ∧ g ≤ 1023 := by
  have h : (BitVec.ofInt 64 n &&& BitVec.ofInt 64 1023).toNat ≤ 1023 := by
    rw [BitVec.toNat_and]
    exact Nat.and_le_right
  refine ⟨(BitVec.ofInt 64 n &&& BitVec.ofInt 64 1023).toNat, ?_, h⟩
  have e : bits .and .i64 n 1023 = IntKind.i64.wrap ((BitVec.ofInt 64 n &&& BitVec.ofInt 64 1023).toNat : Int) := rfl
  rw [e, IntKind.wrap_i64]
  omega
def dOf (gg i : Nat) : Nat := (gg + i) % 5
theorem backL_len (d : Nat → Nat) (t : ByteArray) : ∀ (l : List (WW × Nat)) (i b : Nat), LOk t b l → (backL d l i).length + b ≤ 8 * l.length + max b t.size
  | [], i, b, h => by simp [backL]; omega
  | (x, j) :: l, i, b, h => by
    have ih := backL_len d t l (i + 1) (j + x.s.size) h.2.2.2.2
    have hg : (gapL (d i)).length ≤ 8 := by unfold gapL; split <;> simp
    have h1 := h.1
    have h3 := h.2.2.1
    rw [backL]
    simp only [List.length_append, List.length_cons, size_list]
    omega
/-- The five gaps in memory; the words; nothing else has turned. -/
structure BW (w : World) (t : ByteArray) (xa : Option Addr) (xc G : Nat) (W : World) : Prop where
  wd : WordsAt W t xa xc (lexAll t).1
  bel : Below w.heap.size w W
  gp : ∀ m, m < 5 → W.cell? ⟨G, m, none⟩ = some (.string ⟨(gapL m).toArray⟩)
theorem BW.drew {w W : World} {t : ByteArray} {xa : Option Addr} {xc G : Nat} (h : BW w t xa xc G W) : BW w t xa xc G W.drew := ⟨h.wd.drew, h.bel.drew, h.gp⟩
set_option maxRecDepth 100000 in
set_option maxHeartbeats 16000000 in
theorem lexBack_walk (t : ByteArray) (gap : Int) (w : World) (hl : LexTab w) (he : ErrTab w) : Calls Tryd.prog 5 #[.string t, .int .i64 gap] w (retP (.bool true) w) := by
  have HL : Hid (∀ W, Below w.heap.size w W → LexTab W ∧ ErrTab W) := fun W h => ⟨hl.keep h, he.keep h⟩
  have HB0 : Hid (Below w.heap.size w w) := Below.refl _ _
  clear hl he
  go_enter Tryd.func5, Tryd.ntmps5
  go_wp2_with fail
  refine (awake_any _ (HL.out _ HB0.out).1 (HL.out _ HB0.out).2).mono ?_
  rintro e w1 ⟨rfl, hb1⟩
  have HB1 : Hid (Below w.heap.size w w1) := bel_trans HB0.out hb1
  clear hb1 HB0
  go_wp2_with fail
  by_cases h1 : 65536 < t.size
  · refine (words_lim t _ (HL.out _ HB1.out).1 (HL.out _ HB1.out).2 h1).mono ?_
    rintro e w2 ⟨rfl, hb2⟩
    go_wp2
    go_ret
    exact ⟨rfl, bel_alloc (bel_trans HB1.out hb2) _⟩
  by_cases h2 : (lexAll t).2 = t.size
  · refine (words_ok t _ (HL.out _ HB1.out).1 (HL.out _ HB1.out).2 (by omega) h2).mono ?_
    rintro e w2 ⟨xa, xc, rfl, hat, hb2⟩
    have HB2 : Hid (Below w.heap.size w w2) := bel_trans HB1.out hb2
    have HA : Hid (WordsAt w2 t xa xc (lexAll t).1) := hat
    clear hb2 hat HB1 h2 h1
    have hlen := lexAll_len t
    obtain ⟨N, hN⟩ : ∃ N, (lexAll t).1.length = N := ⟨_, rfl⟩
    rw [hN] at hlen ⊢
    have HN : Hid ((lexAll t).1.length = N ∧ N ≤ t.size) := ⟨hN, hlen⟩
    clear hN hlen
    by_cases h5 : 5000 < t.size
    · have h6 : (5000 : Int) < (t.size : Int) := by omega
      go_wp2
      go_ret
      exact ⟨rfl, bel_alloc HB2.out _⟩
    · have h6 : ¬ (5000 : Int) < (t.size : Int) := by omega
      have h7 : (t.size : Int) ≤ 5000 := by omega
      have N1 : (N : Int) ≤ 5000 := by have := HN.out.2; omega
      have HT : Hid (t.size ≤ 5000) := by show _ ≤ _; omega
      clear h5
      have HW0 : Hid (BW w t xa xc (w2.heap.size + 1) ((w2.alloc (.cells #[.int .i64 0, .int .i64 0] 25)).alloc (.cells #[.string ⟨#[32]⟩, .string ⟨#[10]⟩, .string ⟨#[9, 32]⟩, .string ⟨#[32, 47, 42, 32, 120, 32, 42, 47]⟩, .string ⟨#[32, 47, 47, 32, 121, 10]⟩] 9))) := by
        have hb : Below w2.heap.size w2 ((w2.alloc (.cells #[.int .i64 0, .int .i64 0] 25)).alloc (.cells #[.string ⟨#[32]⟩, .string ⟨#[10]⟩, .string ⟨#[9, 32]⟩, .string ⟨#[32, 47, 42, 32, 120, 32, 42, 47]⟩, .string ⟨#[32, 47, 47, 32, 121, 10]⟩] 9)) := ((Below.refl _ _).alloc (Nat.le_refl _) _).alloc (by simp) _
        have hg := World.alloc_heap_new (w2.alloc (.cells #[.int .i64 0, .int .i64 0] 25)) (.cells #[.string ⟨#[32]⟩, .string ⟨#[10]⟩, .string ⟨#[9, 32]⟩, .string ⟨#[32, 47, 42, 32, 120, 32, 42, 47]⟩, .string ⟨#[32, 47, 47, 32, 121, 10]⟩] 9)
        rw [World.size_alloc] at hg
        refine ⟨HA.out.keep hb, bel_trans HB2.out hb, fun m hm => heap_cell hg ?_⟩
        match m, hm with
        | 0, _ => rfl
        | 1, _ => rfl
        | 2, _ => rfl
        | 3, _ => rfl
        | 4, _ => rfl
      obtain ⟨gg, hgg, hgg2⟩ := and1023 gap
      have HG2 : Hid (gg ≤ 1023) := hgg2
      clear HB2 HA hgg2
      go_wp2
      obtain ⟨G, hG⟩ : ∃ G, w2.heap.size + 1 = G := ⟨_, rfl⟩
      rw [hG] at HW0 ⊢
      clear hG
      go_loopw [9, 10] (fun vs vi wr => ∃ (i : Nat) (S : ByteArray), i ≤ N ∧ vs = .string S ∧ vi = .int .i64 (i : Int) ∧ Hid (S.data.toList ++ backL (dOf gg) ((lexAll t).1.drop i) i = backL (dOf gg) (lexAll t).1 0 ∧ BW w t xa xc G wr)) (fun _ vi _ => N - (intOf vi).toNat)
      case atStart => exact ⟨0, ⟨#[]⟩, Nat.zero_le _, rfl, rfl, ⟨rfl, HW0.out⟩⟩
      case round =>
        obtain ⟨i, S, hiN, rfl, rfl, HI⟩ := hrel
        clear HW0
        have i0 : (0 : Int) ≤ (i : Int) := by omega
        by_cases hi : i < N
        · have i1 : (i : Int) < (N : Int) := by omega
          have hil : i < (lexAll t).1.length := by have := HN.out.1; omega
          obtain ⟨⟨x, j⟩, hxj⟩ : ∃ xj, (lexAll t).1[i]? = some xj := ⟨_, List.getElem?_eq_getElem hil⟩
          have hdr : (lexAll t).1.drop i = (x, j) :: (lexAll t).1.drop (i + 1) := by
            rw [List.drop_eq_getElem_cons hil]
            congr 1
            rw [List.getElem?_eq_getElem hil] at hxj
            exact Option.some.inj hxj
          have hne : (lexAll t).1 ≠ [] := fun h => by rw [h] at hxj; simp at hxj
          obtain ⟨g, rfl, hg, hcx⟩ := HI.out.2.wd.row hne
          have hxc : N ≤ xc := by have := HI.out.2.wd.cap; have := HN.out.1; omega
          have c1 := (hcx i x j hxj).c1
          obtain ⟨m, hm⟩ : ∃ m, (gg + i) % 5 = m := ⟨_, rfl⟩
          have m5 : m < 5 := by omega
          have cg := HI.out.2.gp m m5
          have HM : Hid (dOf gg i = m) := hm
          have HD : Hid ((lexAll t).1.drop i = (x, j) :: (lexAll t).1.drop (i + 1)) := hdr
          have wx1 : IntKind.i64.wrap ((gg : Int) + (i : Int)) = (gg : Int) + (i : Int) := by have := HG2.out; rw [IntKind.wrap_i64]; omega
          have tm : ((gg : Int) + (i : Int)).tmod 5 = (m : Int) := by rw [Int.tmod_eq_emod_of_nonneg (by omega)]; omega
          have wx2 : IntKind.i64.wrap (m : Int) = (m : Int) := by rw [IntKind.wrap_i64]; omega
          have m0 : (0 : Int) ≤ (m : Int) := by omega
          have m6 : (m : Int) < 5 := by omega
          have hsz : S.size + ((gapL m).length + x.s.size) ≤ 45000 := by
            have h3 := backL_len (dOf gg) t (lexAll t).1 0 0 (lexAll_ok t)
            have h4 := congrArg List.length HI.out.1
            rw [hdr, backL, show dOf gg i = m from hm] at h4
            simp only [List.length_append, size_list] at h4
            have := HN.out
            have := HT.out
            omega
          have sz1 : ¬ 9223372036854775807 < S.size + (gapL m).length := by omega
          have sz2 : ¬ 9223372036854775807 < S.size + (gapL m).length + x.s.size := by omega
          clear hil hxj hdr hne hcx hm hsz
          go_wp2_with fail
          refine wp_region_held_drew (S := (fun w' => w'.cell? ⟨G, m, none⟩ = some (.string ⟨(gapL m).toArray⟩) ∧ w'.cell? ⟨g, i * 5 + 1, none⟩ = some (.string x.s))) (by kernel_rfl) (⟨cg, c1⟩) (fun hHeld => ?_)
          refine wpAnyH_take (i := 0) (oi := ?oia0) (v := ?vva0) ?hia0 (by kernel_rfl) (by kernel_rfl) (by kernel_rfl) ?hqa0 ?hya0 hHeld ?_
          case hia0 => simp only [List.getElem?_toArray, List.getElem?_cons_succ, List.getElem?_cons_zero]; rfl
          case hqa0 => exact fun _ _ _ h => h
          case hya0 => (refine Or.inl ⟨by rfl, ?_⟩; intro w' hSw; (try dsimp only at hSw); go_simp; (try (with_reducible rfl)))
          simp only [Act.put, List.setIfInBounds_toArray, List.set_cons_zero, List.set_cons_succ]
          refine wpAnyH_take (i := 1) (oi := ?oia1) (v := ?vva1) ?hia1 (by kernel_rfl) (by kernel_rfl) (by kernel_rfl) ?hqa1 ?hya1 hHeld ?_
          case hia1 => simp only [List.getElem?_toArray, List.getElem?_cons_succ, List.getElem?_cons_zero]; rfl
          case hqa1 => exact fun _ _ _ h => h
          case hya1 => (refine Or.inl ⟨by rfl, ?_⟩; intro w' hSw; (try dsimp only at hSw); go_simp; (try (with_reducible rfl)))
          simp only [Act.put, List.setIfInBounds_toArray, List.set_cons_zero, List.set_cons_succ]
          refine wpAnyH_take (i := 2) (oi := ?oia2) (v := ?vva2) ?hia2 (by kernel_rfl) (by kernel_rfl) (by kernel_rfl) ?hqa2 ?hya2 hHeld ?_
          case hia2 => simp only [List.getElem?_toArray, List.getElem?_cons_succ, List.getElem?_cons_zero]; rfl
          case hqa2 => exact fun _ _ _ h => h
          case hya2 => (refine Or.inl ⟨by rfl, ?_⟩; intro w' hSw; (try dsimp only at hSw); go_simp; (try (with_reducible rfl)))
          simp only [Act.put, List.setIfInBounds_toArray, List.set_cons_zero, List.set_cons_succ]
          refine wpAnyH_take (i := 3) (oi := ?oia3) (v := ?vva3) ?hia3 (by kernel_rfl) (by kernel_rfl) (by kernel_rfl) ?hqa3 ?hya3 hHeld ?_
          case hia3 => simp only [List.getElem?_toArray, List.getElem?_cons_succ, List.getElem?_cons_zero]; rfl
          case hqa3 => exact fun _ _ _ h => h
          case hya3 => (refine Or.inl ⟨by rfl, ?_⟩; intro w' hSw; (try dsimp only at hSw); go_simp; (try (with_reducible rfl)))
          simp only [Act.put, List.setIfInBounds_toArray, List.set_cons_zero, List.set_cons_succ]
          refine wpAnyH_take (i := 4) (oi := ?oia4) (v := ?vva4) ?hia4 (by kernel_rfl) (by kernel_rfl) (by kernel_rfl) ?hqa4 ?hya4 hHeld ?_
          case hia4 => simp only [List.getElem?_toArray, List.getElem?_cons_succ, List.getElem?_cons_zero]; rfl
          case hqa4 => exact fun _ _ _ h => h
          case hya4 => (refine Or.inl ⟨by rfl, ?_⟩; intro w' hSw; (try dsimp only at hSw); go_simp; (try (with_reducible rfl)))
          simp only [Act.put, List.setIfInBounds_toArray, List.set_cons_zero, List.set_cons_succ]
          refine wpAnyH_take (i := 5) (oi := ?oia5) (v := ?vva5) ?hia5 (by kernel_rfl) (by kernel_rfl) (by kernel_rfl) ?hqa5 ?hya5 hHeld ?_
          case hia5 => simp only [List.getElem?_toArray, List.getElem?_cons_succ, List.getElem?_cons_zero]; rfl
          case hqa5 => exact fun _ _ _ h => h
          case hya5 => (refine Or.inl ⟨by rfl, ?_⟩; intro w' hSw; (try dsimp only at hSw); go_simp; (try (with_reducible rfl)))
          simp only [Act.put, List.setIfInBounds_toArray, List.set_cons_zero, List.set_cons_succ]
          refine wpAnyH_take (i := 6) (oi := ?oia6) (v := ?vva6) ?hia6 (by kernel_rfl) (by kernel_rfl) (by kernel_rfl) ?hqa6 ?hya6 hHeld ?_
          case hia6 => simp only [List.getElem?_toArray, List.getElem?_cons_succ, List.getElem?_cons_zero]; rfl
          case hqa6 => exact fun _ _ _ h => h
          case hya6 => (refine Or.inl ⟨by rfl, ?_⟩; intro w' hSw; (try dsimp only at hSw); go_simp; (try (with_reducible rfl)))
          simp only [Act.put, List.setIfInBounds_toArray, List.set_cons_zero, List.set_cons_succ]
          refine wpAnyH_take (i := 7) (oi := ?oia7) (v := ?vva7) ?hia7 (by kernel_rfl) (by kernel_rfl) (by kernel_rfl) ?hqa7 ?hya7 hHeld ?_
          case hia7 => simp only [List.getElem?_toArray, List.getElem?_cons_succ, List.getElem?_cons_zero]; rfl
          case hqa7 => exact fun _ _ _ h => h
          case hya7 => (refine Or.inl ⟨by rfl, ?_⟩; intro w' hSw; (try dsimp only at hSw); go_simp; (try (with_reducible rfl)))
          simp only [Act.put, List.setIfInBounds_toArray, List.set_cons_zero, List.set_cons_succ]
          refine wpAnyH_take (i := 8) (oi := ?oia8) (v := ?vva8) ?hia8 (by kernel_rfl) (by kernel_rfl) (by kernel_rfl) ?hqa8 ?hya8 hHeld ?_
          case hia8 => simp only [List.getElem?_toArray, List.getElem?_cons_succ, List.getElem?_cons_zero]; rfl
          case hqa8 => exact fun _ _ _ h => h
          case hya8 => (refine Or.inl ⟨by rfl, ?_⟩; intro w' hSw; (try dsimp only at hSw); go_simp; (try (with_reducible rfl)))
          simp only [Act.put, List.setIfInBounds_toArray, List.set_cons_zero, List.set_cons_succ]
          refine wpAnyH_take (i := 9) (oi := ?oia9) (v := ?vva9) ?hia9 (by kernel_rfl) (by kernel_rfl) (by kernel_rfl) ?hqa9 ?hya9 hHeld ?_
          case hia9 => simp only [List.getElem?_toArray, List.getElem?_cons_succ, List.getElem?_cons_zero]; rfl
          case hqa9 => exact fun _ _ _ h => h
          case hya9 => (refine Or.inl ⟨by rfl, ?_⟩; intro w' hSw; (try dsimp only at hSw); go_simp; (try (with_reducible rfl)))
          simp only [Act.put, List.setIfInBounds_toArray, List.set_cons_zero, List.set_cons_succ]
          refine wpAnyH_take (i := 10) (oi := ?oia10) (v := ?vva10) ?hia10 (by kernel_rfl) (by kernel_rfl) (by kernel_rfl) ?hqa10 ?hya10 hHeld ?_
          case hia10 => simp only [List.getElem?_toArray, List.getElem?_cons_succ, List.getElem?_cons_zero]; rfl
          case hqa10 => exact fun _ _ _ h => h
          case hya10 => (refine Or.inl ⟨by rfl, ?_⟩; intro w' hSw; (try dsimp only at hSw); go_simp; (try (with_reducible rfl)))
          simp only [Act.put, List.setIfInBounds_toArray, List.set_cons_zero, List.set_cons_succ]
          refine wpAnyH_take (i := 11) (oi := ?oia11) (v := ?vva11) ?hia11 (by kernel_rfl) (by kernel_rfl) (by kernel_rfl) ?hqa11 ?hya11 hHeld ?_
          case hia11 => simp only [List.getElem?_toArray, List.getElem?_cons_succ, List.getElem?_cons_zero]; rfl
          case hqa11 => exact fun _ _ _ h => h
          case hya11 => (refine Or.inl ⟨by rfl, ?_⟩; intro w' hSw; (try dsimp only at hSw); go_simp; (try (with_reducible rfl)))
          simp only [Act.put, List.setIfInBounds_toArray, List.set_cons_zero, List.set_cons_succ]
          refine wpAnyH_take (i := 12) (oi := ?oia12) (v := ?vva12) ?hia12 (by kernel_rfl) (by kernel_rfl) (by kernel_rfl) ?hqa12 ?hya12 hHeld ?_
          case hia12 => simp only [List.getElem?_toArray, List.getElem?_cons_succ, List.getElem?_cons_zero]; rfl
          case hqa12 => exact fun _ _ _ h => h
          case hya12 => (refine Or.inl ⟨by rfl, ?_⟩; intro w' hSw; (try dsimp only at hSw); go_simp; (try (with_reducible rfl)))
          simp only [Act.put, List.setIfInBounds_toArray, List.set_cons_zero, List.set_cons_succ]
          refine wpAnyH_take (i := 13) (oi := ?oia13) (v := ?vva13) ?hia13 (by kernel_rfl) (by kernel_rfl) (by kernel_rfl) ?hqa13 ?hya13 hHeld ?_
          case hia13 => simp only [List.getElem?_toArray, List.getElem?_cons_succ, List.getElem?_cons_zero]; rfl
          case hqa13 => exact fun _ _ _ h => h
          case hya13 => (refine Or.inl ⟨by rfl, ?_⟩; intro w' hSw; (try dsimp only at hSw); go_simp; (try (with_reducible rfl)))
          simp only [Act.put, List.setIfInBounds_toArray, List.set_cons_zero, List.set_cons_succ]
          refine wpAnyH_take (i := 14) (oi := ?oia14) (v := ?vva14) ?hia14 (by kernel_rfl) (by kernel_rfl) (by kernel_rfl) ?hqa14 ?hya14 hHeld ?_
          case hia14 => simp only [List.getElem?_toArray, List.getElem?_cons_succ, List.getElem?_cons_zero]; rfl
          case hqa14 => exact fun _ _ _ h => h
          case hya14 => (refine Or.inl ⟨by rfl, ?_⟩; intro w' hSw; (try dsimp only at hSw); go_simp; (try (with_reducible rfl)))
          simp only [Act.put, List.setIfInBounds_toArray, List.set_cons_zero, List.set_cons_succ]
          refine wpAnyH_take (i := 15) (oi := ?oia15) (v := ?vva15) ?hia15 (by kernel_rfl) (by kernel_rfl) (by kernel_rfl) ?hqa15 ?hya15 hHeld ?_
          case hia15 => simp only [List.getElem?_toArray, List.getElem?_cons_succ, List.getElem?_cons_zero]; rfl
          case hqa15 => exact fun _ _ _ h => h
          case hya15 => (refine Or.inl ⟨by rfl, ?_⟩; intro w' hSw; (try dsimp only at hSw); go_simp; (try (with_reducible rfl)))
          simp only [Act.put, List.setIfInBounds_toArray, List.set_cons_zero, List.set_cons_succ]
          refine wpAnyH_take (i := 16) (oi := ?oia16) (v := ?vva16) ?hia16 (by kernel_rfl) (by kernel_rfl) (by kernel_rfl) ?hqa16 ?hya16 hHeld ?_
          case hia16 => simp only [List.getElem?_toArray, List.getElem?_cons_succ, List.getElem?_cons_zero]; rfl
          case hqa16 => exact fun _ _ _ h => h
          case hya16 => (refine Or.inl ⟨by rfl, ?_⟩; intro w' hSw; (try dsimp only at hSw); go_simp; (try (with_reducible rfl)))
          simp only [Act.put, List.setIfInBounds_toArray, List.set_cons_zero, List.set_cons_succ]
          refine wpAnyH_done (by kernel_rfl) ?_ _
          clear hHeld
          go_wp2
          go_roundw
          case rel =>
            refine ⟨i + 1, _, by omega, rfl, by simp, ⟨?_, HI.out.2.drew⟩⟩
            have h0 := HI.out.1
            rw [HD.out, backL, HM.out] at h0
            rw [← h0]
            simp [ByteArray.data_append]
          case measure => simp [intOf]; omega
        · have ie : i = N := by omega
          have i1 : ¬ (i : Int) < (N : Int) := by omega
          have hS : S.data.toList = backL (dOf gg) (lexAll t).1 0 := by
            have h0 := HI.out.1
            rw [List.drop_of_length_le (by have := HN.out.1; omega), backL, List.append_nil] at h0
            exact h0
          have HW : Hid (BW w t xa xc G wr) := HI.out.2
          have hlx := back_lex (dOf gg) S (lexAll t).1 0 0 (S.size + 1) (fun xj h => lexF_self t _ 0 xj h) (by rw [List.drop_zero]; exact hS) (Nat.zero_le _) (by omega)
          have hSs : S.size ≤ 45000 := by
            have h3 := backL_len (dOf gg) t (lexAll t).1 0 0 (lexAll_ok t)
            rw [← hS, size_list] at h3
            have := HN.out
            have := HT.out
            omega
          have HK : Hid ((lexAll S).2 = S.size ∧ (lexAll S).1.map Prod.fst = (lexAll t).1.map Prod.fst ∧ S.size ≤ 45000) := ⟨hlx.1, hlx.2, hSs⟩
          clear HI hlx hSs hS
          go_wp2_with fail
          refine (words_ok S _ (HL.out _ HW.out.bel).1 (HL.out _ HW.out.bel).2 (by have := HK.out.2.2; omega) HK.out.1).mono ?_
          rintro e w3 ⟨ka, kc, rfl, hk3, hb3⟩
          obtain ⟨M, hM⟩ : ∃ M, (lexAll S).1.length = M := ⟨_, rfl⟩
          have hMN : M = N := by
            have := congrArg List.length HK.out.2.1
            simp only [List.length_map] at this
            have := HN.out.1
            omega
          have HKL : Hid ((lexAll S).1.length = N) := hM.trans hMN
          rw [hM, hMN]
          have HV : Hid (WordsAt (w3.alloc (.cells #[.int .i64 0, .int .i64 0] 25)) S ka kc (lexAll S).1 ∧ WordsAt (w3.alloc (.cells #[.int .i64 0, .int .i64 0] 25)) t xa xc (lexAll t).1 ∧ Below w.heap.size w (w3.alloc (.cells #[.int .i64 0, .int .i64 0] 25))) :=
            ⟨hk3.keep ((Below.refl _ _).alloc (Nat.le_refl _) _), (HW.out.wd.keep hb3).keep ((Below.refl _ _).alloc (Nat.le_refl _) _), bel_alloc (bel_trans HW.out.bel hb3) _⟩
          clear hk3 hb3 HW hM hMN
          go_wp2
          go_loopw [14] (fun vi wr => ∃ i : Nat, i ≤ N ∧ vi = .int .i64 (i : Int) ∧ Hid (WordsAt wr S ka kc (lexAll S).1 ∧ WordsAt wr t xa xc (lexAll t).1 ∧ Below w.heap.size w wr)) (fun vi _ => N - (intOf vi).toNat)
          case atStart => exact ⟨0, Nat.zero_le _, rfl, HV⟩
          case round =>
            obtain ⟨q, hqN, rfl, HQ⟩ := hrel
            clear HV
            have q0 : (0 : Int) ≤ (q : Int) := by omega
            by_cases hq : q < N
            · have q1 : (q : Int) < (N : Int) := by omega
              obtain ⟨⟨x, j⟩, hxj⟩ : ∃ xj, (lexAll t).1[q]? = some xj := ⟨_, List.getElem?_eq_getElem (by have := HN.out.1; omega)⟩
              obtain ⟨⟨y, k⟩, hyk⟩ : ∃ xj, (lexAll S).1[q]? = some xj := ⟨_, List.getElem?_eq_getElem (by have := HKL.out; omega)⟩
              have hxy : y = x := by
                have h0 := congrArg (fun l => l[q]?) HK.out.2.1
                simp only [List.getElem?_map, hxj, hyk, Option.map_some] at h0
                exact Option.some.inj h0
              subst hxy
              obtain ⟨gk, rfl, hgk, hck⟩ := HQ.out.1.row (fun h => by rw [h] at hyk; simp at hyk)
              obtain ⟨gx, rfl, hgx, hcx⟩ := HQ.out.2.1.row (fun h => by rw [h] at hxj; simp at hxj)
              have hkc : N ≤ kc := by have := HQ.out.1.cap; have := HKL.out; omega
              have hxc : N ≤ xc := by have := HQ.out.2.1.cap; have := HN.out.1; omega
              have ck := hck q y k hyk
              have cx := hcx q y j hxj
              have c0 := ck.c0
              have c1 := ck.c1
              have c2 := ck.c2
              have d0 := cx.c0
              have d1 := cx.c1
              have d2 := cx.c2
              clear hxj hyk hck hcx ck cx
              go_wp2_with fail
              refine wp_region_held_drew (S := (fun w' => w'.cell? ⟨gk, q * 5, none⟩ = some (.int .i64 y.k) ∧ w'.cell? ⟨gk, q * 5 + 1, none⟩ = some (.string y.s) ∧ w'.cell? ⟨gk, q * 5 + 2, none⟩ = some (.int .i64 y.n) ∧ w'.cell? ⟨gx, q * 5, none⟩ = some (.int .i64 y.k) ∧ w'.cell? ⟨gx, q * 5 + 1, none⟩ = some (.string y.s) ∧ w'.cell? ⟨gx, q * 5 + 2, none⟩ = some (.int .i64 y.n))) (by kernel_rfl) (⟨c0, c1, c2, d0, d1, d2⟩) (fun hHeld => ?_)
              refine wpAnyH_take (i := 0) (oi := ?oib0) (v := ?vvb0) ?hib0 (by kernel_rfl) (by kernel_rfl) (by kernel_rfl) ?hqb0 ?hyb0 hHeld ?_
              case hib0 => simp only [List.getElem?_toArray, List.getElem?_cons_succ, List.getElem?_cons_zero]; rfl
              case hqb0 => exact fun _ _ _ h => h
              case hyb0 => (refine Or.inl ⟨by rfl, ?_⟩; intro w' hSw; (try dsimp only at hSw); go_simp; (try (with_reducible rfl)))
              simp only [Act.put, List.setIfInBounds_toArray, List.set_cons_zero, List.set_cons_succ]
              refine wpAnyH_take (i := 1) (oi := ?oib1) (v := ?vvb1) ?hib1 (by kernel_rfl) (by kernel_rfl) (by kernel_rfl) ?hqb1 ?hyb1 hHeld ?_
              case hib1 => simp only [List.getElem?_toArray, List.getElem?_cons_succ, List.getElem?_cons_zero]; rfl
              case hqb1 => exact fun _ _ _ h => h
              case hyb1 => (refine Or.inl ⟨by rfl, ?_⟩; intro w' hSw; (try dsimp only at hSw); go_simp; (try (with_reducible rfl)))
              simp only [Act.put, List.setIfInBounds_toArray, List.set_cons_zero, List.set_cons_succ]
              refine wpAnyH_take (i := 2) (oi := ?oib2) (v := ?vvb2) ?hib2 (by kernel_rfl) (by kernel_rfl) (by kernel_rfl) ?hqb2 ?hyb2 hHeld ?_
              case hib2 => simp only [List.getElem?_toArray, List.getElem?_cons_succ, List.getElem?_cons_zero]; rfl
              case hqb2 => exact fun _ _ _ h => h
              case hyb2 => (refine Or.inl ⟨by rfl, ?_⟩; intro w' hSw; (try dsimp only at hSw); go_simp; (try (with_reducible rfl)))
              simp only [Act.put, List.setIfInBounds_toArray, List.set_cons_zero, List.set_cons_succ]
              refine wpAnyH_take (i := 3) (oi := ?oib3) (v := ?vvb3) ?hib3 (by kernel_rfl) (by kernel_rfl) (by kernel_rfl) ?hqb3 ?hyb3 hHeld ?_
              case hib3 => simp only [List.getElem?_toArray, List.getElem?_cons_succ, List.getElem?_cons_zero]; rfl
              case hqb3 => exact fun _ _ _ h => h
              case hyb3 => (refine Or.inl ⟨by rfl, ?_⟩; intro w' hSw; (try dsimp only at hSw); go_simp; (try (with_reducible rfl)))
              simp only [Act.put, List.setIfInBounds_toArray, List.set_cons_zero, List.set_cons_succ]
              refine wpAnyH_take (i := 4) (oi := ?oib4) (v := ?vvb4) ?hib4 (by kernel_rfl) (by kernel_rfl) (by kernel_rfl) ?hqb4 ?hyb4 hHeld ?_
              case hib4 => simp only [List.getElem?_toArray, List.getElem?_cons_succ, List.getElem?_cons_zero]; rfl
              case hqb4 => exact fun _ _ _ h => h
              case hyb4 => (refine Or.inl ⟨by rfl, ?_⟩; intro w' hSw; (try dsimp only at hSw); go_simp; (try (with_reducible rfl)))
              simp only [Act.put, List.setIfInBounds_toArray, List.set_cons_zero, List.set_cons_succ]
              refine wpAnyH_take (i := 5) (oi := ?oib5) (v := ?vvb5) ?hib5 (by kernel_rfl) (by kernel_rfl) (by kernel_rfl) ?hqb5 ?hyb5 hHeld ?_
              case hib5 => simp only [List.getElem?_toArray, List.getElem?_cons_succ, List.getElem?_cons_zero]; rfl
              case hqb5 => exact fun _ _ _ h => h
              case hyb5 => (refine Or.inl ⟨by rfl, ?_⟩; intro w' hSw; (try dsimp only at hSw); go_simp; (try (with_reducible rfl)))
              simp only [Act.put, List.setIfInBounds_toArray, List.set_cons_zero, List.set_cons_succ]
              refine wpAnyH_take (i := 6) (oi := ?oib6) (v := ?vvb6) ?hib6 (by kernel_rfl) (by kernel_rfl) (by kernel_rfl) ?hqb6 ?hyb6 hHeld ?_
              case hib6 => simp only [List.getElem?_toArray, List.getElem?_cons_succ, List.getElem?_cons_zero]; rfl
              case hqb6 => exact fun _ _ _ h => h
              case hyb6 => (refine Or.inl ⟨by rfl, ?_⟩; intro w' hSw; (try dsimp only at hSw); go_simp; (try (with_reducible rfl)))
              simp only [Act.put, List.setIfInBounds_toArray, List.set_cons_zero, List.set_cons_succ]
              refine wpAnyH_take (i := 7) (oi := ?oib7) (v := ?vvb7) ?hib7 (by kernel_rfl) (by kernel_rfl) (by kernel_rfl) ?hqb7 ?hyb7 hHeld ?_
              case hib7 => simp only [List.getElem?_toArray, List.getElem?_cons_succ, List.getElem?_cons_zero]; rfl
              case hqb7 => exact fun _ _ _ h => h
              case hyb7 => (refine Or.inl ⟨by rfl, ?_⟩; intro w' hSw; (try dsimp only at hSw); go_simp; (try (with_reducible rfl)))
              simp only [Act.put, List.setIfInBounds_toArray, List.set_cons_zero, List.set_cons_succ]
              refine wpAnyH_take (i := 8) (oi := ?oib8) (v := ?vvb8) ?hib8 (by kernel_rfl) (by kernel_rfl) (by kernel_rfl) ?hqb8 ?hyb8 hHeld ?_
              case hib8 => simp only [List.getElem?_toArray, List.getElem?_cons_succ, List.getElem?_cons_zero]; rfl
              case hqb8 => exact fun _ _ _ h => h
              case hyb8 => (refine Or.inl ⟨by rfl, ?_⟩; intro w' hSw; (try dsimp only at hSw); go_simp; (try (with_reducible rfl)))
              simp only [Act.put, List.setIfInBounds_toArray, List.set_cons_zero, List.set_cons_succ]
              refine wpAnyH_take (i := 9) (oi := ?oib9) (v := ?vvb9) ?hib9 (by kernel_rfl) (by kernel_rfl) (by kernel_rfl) ?hqb9 ?hyb9 hHeld ?_
              case hib9 => simp only [List.getElem?_toArray, List.getElem?_cons_succ, List.getElem?_cons_zero]; rfl
              case hqb9 => exact fun _ _ _ h => h
              case hyb9 => (refine Or.inl ⟨by rfl, ?_⟩; intro w' hSw; (try dsimp only at hSw); go_simp; (try (with_reducible rfl)))
              simp only [Act.put, List.setIfInBounds_toArray, List.set_cons_zero, List.set_cons_succ]
              refine wpAnyH_take (i := 10) (oi := ?oib10) (v := ?vvb10) ?hib10 (by kernel_rfl) (by kernel_rfl) (by kernel_rfl) ?hqb10 ?hyb10 hHeld ?_
              case hib10 => simp only [List.getElem?_toArray, List.getElem?_cons_succ, List.getElem?_cons_zero]; rfl
              case hqb10 => exact fun _ _ _ h => h
              case hyb10 => (refine Or.inl ⟨by rfl, ?_⟩; intro w' hSw; (try dsimp only at hSw); go_simp; (try (with_reducible rfl)))
              simp only [Act.put, List.setIfInBounds_toArray, List.set_cons_zero, List.set_cons_succ]
              refine wpAnyH_take (i := 11) (oi := ?oib11) (v := ?vvb11) ?hib11 (by kernel_rfl) (by kernel_rfl) (by kernel_rfl) ?hqb11 ?hyb11 hHeld ?_
              case hib11 => simp only [List.getElem?_toArray, List.getElem?_cons_succ, List.getElem?_cons_zero]; rfl
              case hqb11 => exact fun _ _ _ h => h
              case hyb11 => (refine Or.inl ⟨by rfl, ?_⟩; intro w' hSw; (try dsimp only at hSw); go_simp; (try (with_reducible rfl)))
              simp only [Act.put, List.setIfInBounds_toArray, List.set_cons_zero, List.set_cons_succ]
              refine wpAnyH_take (i := 12) (oi := ?oib12) (v := ?vvb12) ?hib12 (by kernel_rfl) (by kernel_rfl) (by kernel_rfl) ?hqb12 ?hyb12 hHeld ?_
              case hib12 => simp only [List.getElem?_toArray, List.getElem?_cons_succ, List.getElem?_cons_zero]; rfl
              case hqb12 => exact fun _ _ _ h => h
              case hyb12 => (refine Or.inl ⟨by rfl, ?_⟩; intro w' hSw; (try dsimp only at hSw); go_simp; (try (with_reducible rfl)))
              simp only [Act.put, List.setIfInBounds_toArray, List.set_cons_zero, List.set_cons_succ]
              refine wpAnyH_take (i := 13) (oi := ?oib13) (v := ?vvb13) ?hib13 (by kernel_rfl) (by kernel_rfl) (by kernel_rfl) ?hqb13 ?hyb13 hHeld ?_
              case hib13 => simp only [List.getElem?_toArray, List.getElem?_cons_succ, List.getElem?_cons_zero]; rfl
              case hqb13 => exact fun _ _ _ h => h
              case hyb13 => (refine Or.inl ⟨by rfl, ?_⟩; intro w' hSw; (try dsimp only at hSw); go_simp; (try (with_reducible rfl)))
              simp only [Act.put, List.setIfInBounds_toArray, List.set_cons_zero, List.set_cons_succ]
              refine wpAnyH_take (i := 14) (oi := ?oib14) (v := ?vvb14) ?hib14 (by kernel_rfl) (by kernel_rfl) (by kernel_rfl) ?hqb14 ?hyb14 hHeld ?_
              case hib14 => simp only [List.getElem?_toArray, List.getElem?_cons_succ, List.getElem?_cons_zero]; rfl
              case hqb14 => exact fun _ _ _ h => h
              case hyb14 => (refine Or.inl ⟨by rfl, ?_⟩; intro w' hSw; (try dsimp only at hSw); go_simp; (try (with_reducible rfl)))
              simp only [Act.put, List.setIfInBounds_toArray, List.set_cons_zero, List.set_cons_succ]
              refine wpAnyH_take (i := 15) (oi := ?oib15) (v := ?vvb15) ?hib15 (by kernel_rfl) (by kernel_rfl) (by kernel_rfl) ?hqb15 ?hyb15 hHeld ?_
              case hib15 => simp only [List.getElem?_toArray, List.getElem?_cons_succ, List.getElem?_cons_zero]; rfl
              case hqb15 => exact fun _ _ _ h => h
              case hyb15 => (refine Or.inl ⟨by rfl, ?_⟩; intro w' hSw; (try dsimp only at hSw); go_simp; (try (with_reducible rfl)))
              simp only [Act.put, List.setIfInBounds_toArray, List.set_cons_zero, List.set_cons_succ]
              refine wpAnyH_take (i := 16) (oi := ?oib16) (v := ?vvb16) ?hib16 (by kernel_rfl) (by kernel_rfl) (by kernel_rfl) ?hqb16 ?hyb16 hHeld ?_
              case hib16 => simp only [List.getElem?_toArray, List.getElem?_cons_succ, List.getElem?_cons_zero]; rfl
              case hqb16 => exact fun _ _ _ h => h
              case hyb16 => (refine Or.inl ⟨by rfl, ?_⟩; intro w' hSw; (try dsimp only at hSw); go_simp; (try (with_reducible rfl)))
              simp only [Act.put, List.setIfInBounds_toArray, List.set_cons_zero, List.set_cons_succ]
              refine wpAnyH_take (i := 17) (oi := ?oib17) (v := ?vvb17) ?hib17 (by kernel_rfl) (by kernel_rfl) (by kernel_rfl) ?hqb17 ?hyb17 hHeld ?_
              case hib17 => simp only [List.getElem?_toArray, List.getElem?_cons_succ, List.getElem?_cons_zero]; rfl
              case hqb17 => exact fun _ _ _ h => h
              case hyb17 => (refine Or.inl ⟨by rfl, ?_⟩; intro w' hSw; (try dsimp only at hSw); go_simp; (try (with_reducible rfl)))
              simp only [Act.put, List.setIfInBounds_toArray, List.set_cons_zero, List.set_cons_succ]
              refine wpAnyH_take (i := 18) (oi := ?oib18) (v := ?vvb18) ?hib18 (by kernel_rfl) (by kernel_rfl) (by kernel_rfl) ?hqb18 ?hyb18 hHeld ?_
              case hib18 => simp only [List.getElem?_toArray, List.getElem?_cons_succ, List.getElem?_cons_zero]; rfl
              case hqb18 => exact fun _ _ _ h => h
              case hyb18 => (refine Or.inl ⟨by rfl, ?_⟩; intro w' hSw; (try dsimp only at hSw); go_simp; (try (with_reducible rfl)))
              simp only [Act.put, List.setIfInBounds_toArray, List.set_cons_zero, List.set_cons_succ]
              refine wpAnyH_take (i := 19) (oi := ?oib19) (v := ?vvb19) ?hib19 (by kernel_rfl) (by kernel_rfl) (by kernel_rfl) ?hqb19 ?hyb19 hHeld ?_
              case hib19 => simp only [List.getElem?_toArray, List.getElem?_cons_succ, List.getElem?_cons_zero]; rfl
              case hqb19 => exact fun _ _ _ h => h
              case hyb19 => (refine Or.inl ⟨by rfl, ?_⟩; intro w' hSw; (try dsimp only at hSw); go_simp; (try (with_reducible rfl)))
              simp only [Act.put, List.setIfInBounds_toArray, List.set_cons_zero, List.set_cons_succ]
              refine wpAnyH_take (i := 20) (oi := ?oib20) (v := ?vvb20) ?hib20 (by kernel_rfl) (by kernel_rfl) (by kernel_rfl) ?hqb20 ?hyb20 hHeld ?_
              case hib20 => simp only [List.getElem?_toArray, List.getElem?_cons_succ, List.getElem?_cons_zero]; rfl
              case hqb20 => exact fun _ _ _ h => h
              case hyb20 => (refine Or.inl ⟨by rfl, ?_⟩; intro w' hSw; (try dsimp only at hSw); go_simp; (try (with_reducible rfl)))
              simp only [Act.put, List.setIfInBounds_toArray, List.set_cons_zero, List.set_cons_succ]
              refine wpAnyH_take (i := 21) (oi := ?oib21) (v := ?vvb21) ?hib21 (by kernel_rfl) (by kernel_rfl) (by kernel_rfl) ?hqb21 ?hyb21 hHeld ?_
              case hib21 => simp only [List.getElem?_toArray, List.getElem?_cons_succ, List.getElem?_cons_zero]; rfl
              case hqb21 => exact fun _ _ _ h => h
              case hyb21 => (refine Or.inl ⟨by rfl, ?_⟩; intro w' hSw; (try dsimp only at hSw); go_simp; (try (with_reducible rfl)))
              simp only [Act.put, List.setIfInBounds_toArray, List.set_cons_zero, List.set_cons_succ]
              refine wpAnyH_take (i := 22) (oi := ?oib22) (v := ?vvb22) ?hib22 (by kernel_rfl) (by kernel_rfl) (by kernel_rfl) ?hqb22 ?hyb22 hHeld ?_
              case hib22 => simp only [List.getElem?_toArray, List.getElem?_cons_succ, List.getElem?_cons_zero]; rfl
              case hqb22 => exact fun _ _ _ h => h
              case hyb22 => (refine Or.inl ⟨by rfl, ?_⟩; intro w' hSw; (try dsimp only at hSw); go_simp; (try (with_reducible rfl)))
              simp only [Act.put, List.setIfInBounds_toArray, List.set_cons_zero, List.set_cons_succ]
              refine wpAnyH_take (i := 23) (oi := ?oib23) (v := ?vvb23) ?hib23 (by kernel_rfl) (by kernel_rfl) (by kernel_rfl) ?hqb23 ?hyb23 hHeld ?_
              case hib23 => simp only [List.getElem?_toArray, List.getElem?_cons_succ, List.getElem?_cons_zero]; rfl
              case hqb23 => exact fun _ _ _ h => h
              case hyb23 => (refine Or.inl ⟨by rfl, ?_⟩; intro w' hSw; (try dsimp only at hSw); go_simp; (try (with_reducible rfl)))
              simp only [Act.put, List.setIfInBounds_toArray, List.set_cons_zero, List.set_cons_succ]
              refine wpAnyH_take (i := 24) (oi := ?oib24) (v := ?vvb24) ?hib24 (by kernel_rfl) (by kernel_rfl) (by kernel_rfl) ?hqb24 ?hyb24 hHeld ?_
              case hib24 => simp only [List.getElem?_toArray, List.getElem?_cons_succ, List.getElem?_cons_zero]; rfl
              case hqb24 => exact fun _ _ _ h => h
              case hyb24 => (refine Or.inl ⟨by rfl, ?_⟩; intro w' hSw; (try dsimp only at hSw); go_simp; (try (with_reducible rfl)))
              simp only [Act.put, List.setIfInBounds_toArray, List.set_cons_zero, List.set_cons_succ]
              refine wpAnyH_take (i := 25) (oi := ?oib25) (v := ?vvb25) ?hib25 (by kernel_rfl) (by kernel_rfl) (by kernel_rfl) ?hqb25 ?hyb25 hHeld ?_
              case hib25 => simp only [List.getElem?_toArray, List.getElem?_cons_succ, List.getElem?_cons_zero]; rfl
              case hqb25 => exact fun _ _ _ h => h
              case hyb25 => (refine Or.inl ⟨by rfl, ?_⟩; intro w' hSw; (try dsimp only at hSw); go_simp; (try (with_reducible rfl)))
              simp only [Act.put, List.setIfInBounds_toArray, List.set_cons_zero, List.set_cons_succ]
              refine wpAnyH_take (i := 26) (oi := ?oib26) (v := ?vvb26) ?hib26 (by kernel_rfl) (by kernel_rfl) (by kernel_rfl) ?hqb26 ?hyb26 hHeld ?_
              case hib26 => simp only [List.getElem?_toArray, List.getElem?_cons_succ, List.getElem?_cons_zero]; rfl
              case hqb26 => exact fun _ _ _ h => h
              case hyb26 => (refine Or.inl ⟨by rfl, ?_⟩; intro w' hSw; (try dsimp only at hSw); go_simp; (try (with_reducible rfl)))
              simp only [Act.put, List.setIfInBounds_toArray, List.set_cons_zero, List.set_cons_succ]
              refine wpAnyH_take (i := 27) (oi := ?oib27) (v := ?vvb27) ?hib27 (by kernel_rfl) (by kernel_rfl) (by kernel_rfl) ?hqb27 ?hyb27 hHeld ?_
              case hib27 => simp only [List.getElem?_toArray, List.getElem?_cons_succ, List.getElem?_cons_zero]; rfl
              case hqb27 => exact fun _ _ _ h => h
              case hyb27 => (refine Or.inl ⟨by rfl, ?_⟩; intro w' hSw; (try dsimp only at hSw); go_simp; (try (with_reducible rfl)))
              simp only [Act.put, List.setIfInBounds_toArray, List.set_cons_zero, List.set_cons_succ]
              refine wpAnyH_take (i := 28) (oi := ?oib28) (v := ?vvb28) ?hib28 (by kernel_rfl) (by kernel_rfl) (by kernel_rfl) ?hqb28 ?hyb28 hHeld ?_
              case hib28 => simp only [List.getElem?_toArray, List.getElem?_cons_succ, List.getElem?_cons_zero]; rfl
              case hqb28 => exact fun _ _ _ h => h
              case hyb28 => (refine Or.inl ⟨by rfl, ?_⟩; intro w' hSw; (try dsimp only at hSw); go_simp; (try (with_reducible rfl)))
              simp only [Act.put, List.setIfInBounds_toArray, List.set_cons_zero, List.set_cons_succ]
              refine wpAnyH_take (i := 29) (oi := ?oib29) (v := ?vvb29) ?hib29 (by kernel_rfl) (by kernel_rfl) (by kernel_rfl) ?hqb29 ?hyb29 hHeld ?_
              case hib29 => simp only [List.getElem?_toArray, List.getElem?_cons_succ, List.getElem?_cons_zero]; rfl
              case hqb29 => exact fun _ _ _ h => h
              case hyb29 => (refine Or.inl ⟨by rfl, ?_⟩; intro w' hSw; (try dsimp only at hSw); go_simp; (try (with_reducible rfl)))
              simp only [Act.put, List.setIfInBounds_toArray, List.set_cons_zero, List.set_cons_succ]
              refine wpAnyH_take (i := 30) (oi := ?oib30) (v := ?vvb30) ?hib30 (by kernel_rfl) (by kernel_rfl) (by kernel_rfl) ?hqb30 ?hyb30 hHeld ?_
              case hib30 => simp only [List.getElem?_toArray, List.getElem?_cons_succ, List.getElem?_cons_zero]; rfl
              case hqb30 => exact fun _ _ _ h => h
              case hyb30 => (refine Or.inl ⟨by rfl, ?_⟩; intro w' hSw; (try dsimp only at hSw); go_simp; (try (with_reducible rfl)))
              simp only [Act.put, List.setIfInBounds_toArray, List.set_cons_zero, List.set_cons_succ]
              refine wpAnyH_take (i := 31) (oi := ?oib31) (v := ?vvb31) ?hib31 (by kernel_rfl) (by kernel_rfl) (by kernel_rfl) ?hqb31 ?hyb31 hHeld ?_
              case hib31 => simp only [List.getElem?_toArray, List.getElem?_cons_succ, List.getElem?_cons_zero]; rfl
              case hqb31 => exact fun _ _ _ h => h
              case hyb31 => (refine Or.inl ⟨by rfl, ?_⟩; intro w' hSw; (try dsimp only at hSw); go_simp; (try (with_reducible rfl)))
              simp only [Act.put, List.setIfInBounds_toArray, List.set_cons_zero, List.set_cons_succ]
              refine wpAnyH_take (i := 32) (oi := ?oib32) (v := ?vvb32) ?hib32 (by kernel_rfl) (by kernel_rfl) (by kernel_rfl) ?hqb32 ?hyb32 hHeld ?_
              case hib32 => simp only [List.getElem?_toArray, List.getElem?_cons_succ, List.getElem?_cons_zero]; rfl
              case hqb32 => exact fun _ _ _ h => h
              case hyb32 => (refine Or.inl ⟨by rfl, ?_⟩; intro w' hSw; (try dsimp only at hSw); go_simp; (try (with_reducible rfl)))
              simp only [Act.put, List.setIfInBounds_toArray, List.set_cons_zero, List.set_cons_succ]
              refine wpAnyH_take (i := 33) (oi := ?oib33) (v := ?vvb33) ?hib33 (by kernel_rfl) (by kernel_rfl) (by kernel_rfl) ?hqb33 ?hyb33 hHeld ?_
              case hib33 => simp only [List.getElem?_toArray, List.getElem?_cons_succ, List.getElem?_cons_zero]; rfl
              case hqb33 => exact fun _ _ _ h => h
              case hyb33 => (refine Or.inl ⟨by rfl, ?_⟩; intro w' hSw; (try dsimp only at hSw); go_simp; (try (with_reducible rfl)))
              simp only [Act.put, List.setIfInBounds_toArray, List.set_cons_zero, List.set_cons_succ]
              refine wpAnyH_take (i := 34) (oi := ?oib34) (v := ?vvb34) ?hib34 (by kernel_rfl) (by kernel_rfl) (by kernel_rfl) ?hqb34 ?hyb34 hHeld ?_
              case hib34 => simp only [List.getElem?_toArray, List.getElem?_cons_succ, List.getElem?_cons_zero]; rfl
              case hqb34 => exact fun _ _ _ h => h
              case hyb34 => (refine Or.inl ⟨by rfl, ?_⟩; intro w' hSw; (try dsimp only at hSw); go_simp; (try (with_reducible rfl)))
              simp only [Act.put, List.setIfInBounds_toArray, List.set_cons_zero, List.set_cons_succ]
              refine wpAnyH_take (i := 35) (oi := ?oib35) (v := ?vvb35) ?hib35 (by kernel_rfl) (by kernel_rfl) (by kernel_rfl) ?hqb35 ?hyb35 hHeld ?_
              case hib35 => simp only [List.getElem?_toArray, List.getElem?_cons_succ, List.getElem?_cons_zero]; rfl
              case hqb35 => exact fun _ _ _ h => h
              case hyb35 => (refine Or.inl ⟨by rfl, ?_⟩; intro w' hSw; (try dsimp only at hSw); go_simp; (try (with_reducible rfl)))
              simp only [Act.put, List.setIfInBounds_toArray, List.set_cons_zero, List.set_cons_succ]
              refine wpAnyH_take (i := 36) (oi := ?oib36) (v := ?vvb36) ?hib36 (by kernel_rfl) (by kernel_rfl) (by kernel_rfl) ?hqb36 ?hyb36 hHeld ?_
              case hib36 => simp only [List.getElem?_toArray, List.getElem?_cons_succ, List.getElem?_cons_zero]; rfl
              case hqb36 => exact fun _ _ _ h => h
              case hyb36 => (refine Or.inl ⟨by rfl, ?_⟩; intro w' hSw; (try dsimp only at hSw); go_simp; (try (with_reducible rfl)))
              simp only [Act.put, List.setIfInBounds_toArray, List.set_cons_zero, List.set_cons_succ]
              refine wpAnyH_done (by kernel_rfl) ?_ _
              clear hHeld
              go_wp2
              go_roundw
              case rel => exact ⟨q + 1, by omega, by simp, ⟨HQ.out.1.drew, HQ.out.2.1.drew, HQ.out.2.2.drew⟩⟩
              case measure => simp [intOf]; omega
            · have qe : q = N := by omega
              have q1 : ¬ (q : Int) < (N : Int) := by omega
              go_wp2
              go_ret
              exact ⟨rfl, HQ.out.2.2⟩
  · refine (words_fault t _ (HL.out _ HB1.out).1 (HL.out _ HB1.out).2 (by omega) h2).mono ?_
    rintro e w2 ⟨⟨pl, pc, _, rfl⟩, hb2⟩
    go_wp2
    go_ret
    exact ⟨rfl, bel_alloc (bel_trans HB1.out hb2) _⟩

set_option maxRecDepth 100000 in
theorem lexBack_lifted (os : Os) (started : os.Started) (H : Type) (enc : TypeId × Value → H) :
    ReturnsInHanded {} Tryd.checked os 5 .any (fun w args => (Rows.lexBackSpec.pre enc Tryd.prog Tryd.f5 [] false w args ∧ laidMetH Tryd.prog laid7 w) ∧ sizedMet enc Tryd.prog Tryd.f5 (OpenSpec.ofChange Rows.lexBackSpec) false w args)
      (Rows.lexBackSpec.post enc Tryd.prog Tryd.f5 false true false false) := by
  refine returnsInHanded_of_change_and (C := Tryd.checked) (X := fun w _ => laidMetH Tryd.prog laid7 w) (fun _ _ _ hh h => h.of_heap hh) own started (by kernel_rfl) Tryd.func5
    (ChangeSpec.witness_shaped (enc := enc) (C := Tryd.checked) (os := os) (X := fun w _ => laidMetH Tryd.prog laid7 w) false (World.doorLaid Tryd.prog 400 os) #[.string ⟨#[]⟩, .int .i64 0] 8 rfl (World.shaped_of_RefB (by kernel_rfl) (by kernel_rfl)) (by kernel_rfl) (by kernel_rfl) (by kernel_rfl) (door_met os _)) ?_
  intro W base args ds gs before hval0 hW _ _ hL _
  have hval : ∀ (j : Nat) t v, Tryd.f5.params[j]? = some t → args[j]? = some v → Value.okWide Tryd.prog W .any base t v := hval0
  have hW' := hW
  obtain ⟨p, q, hA0, hV, rfl, hfz, hnd⟩ := hW
  have hA : DataW.TrodAll enc Tryd.prog W 0 (fun _ => true) true Tryd.f5.params.toList args.toList ds p := hA0
  rw [Tryd.params5] at hA hval
  obtain ⟨v0, vs0, d0, ds0, p0, q0, hargs, rfl, rfl, h0, r0⟩ := trodAll_cons hA
  obtain ⟨v1, vs1, d1, ds1, p1, q1, rfl, rfl, rfl, h1, r1⟩ := trodAll_cons r0
  obtain ⟨rfl, rfl, rfl⟩ := trodAll_nil r1
  obtain rfl : args = #[v0, v1] := by cases args; simp_all
  obtain ⟨rfl, rfl⟩ := trodVars_none hV
  obtain ⟨t0, rfl, rfl, rfl, hsz0⟩ := Go.ChangeMaps.open_string Tryd.underlying9 (hval 0 9 v0 rfl rfl) h0
  obtain ⟨n1, rfl, rfl, rfl, wn1⟩ := open_int Tryd.underlying3 (hval 1 3 v1 rfl rfl) h1
  clear hA0 hval0
  simp only [List.append_nil] at hW'
  refine (lexBack_walk t0 n1 W (tabs_of_laid hL).1 (tabs_of_laid hL).2).mono fun e W' ⟨he, hb⟩ => ?_
  subst he
  exact ⟨_, rfl, _, _, _, [], _, [], hW', (trodAll_cons_mk (shut_bool Tryd.underlying4 _) trodAll_mk0), (trodAll_cons_mk (Go.ChangeMaps.shut_string Tryd.underlying9 hsz0) (trodAll_cons_mk (shut_int Tryd.underlying3 wn1) trodAll_mk0)), rfl, hb.frame _, fun h => by cases h⟩

theorem lexBack_row : Rows.LexBackSaid :=
  OpenClaim.holds_of_wide 5 Tryd.f5 rfl rfl rfl rfl rfl rfl rfl ⟨rfl, rfl, rfl, rfl, rfl⟩ rfl rfl rfl rfl rfl (by kernel_rfl) Tryd.func5 (by kernel_rfl)
    (of_decide_eq_true (by kernel_rfl)) (by unfold Func.isWrapper; first | (rw [if_pos (by decide +kernel)]; kernel_rfl) | (rw [if_neg (by decide +kernel)]; exact ⟨rfl, rfl⟩))
    (fun os started H enc _ => lexBack_lifted os started H enc)

/-- THE STATEMENT. -/
theorem lexBack_holds : Rows.LexBackCardSaid :=
  Claim7.holds_tied_plain_at .later [] [.data, .data, .data, .sentinel, .sentinel, .data, .data] true (true, "a2661baaf88c53e237696182aad5fe305074b58c818a1835c7059ad1bd0741a2") true
    lexBack_row (fun _ h => by cases h) (by kernel_rfl) (fun _ h => by cases h) lexBack_row_tie rfl ⟨rfl, rfl⟩ (by kernel_rfl) rfl
    (fun f fn hf hfn => by
      obtain rfl : f = 5 := Option.some.inj ((show Tryd.prog.funcNamed "plumbob/plumboblaw4.LexBack" = some 5 by kernel_rfl).symm.trans hf) |>.symm
      obtain rfl : fn = Tryd.f5 := (Option.some.inj (Tryd.func5.symm.trans hfn)).symm
      exact ⟨by kernel_rfl, fun j t ht => by
        rw [Tryd.params5] at ht
        have hm : t ∈ [9, 3] := by simpa using Array.mem_of_getElem? ht
        have hall : ([9, 3].all fun u => !Tryd.prog.wantsStandIn u) = true := by kernel_rfl
        exact (show Tryd.prog.wantsStandIn t = false by simpa using List.all_eq_true.1 hall t hm)⟩)
    (by kernel_rfl)
#print axioms lexBack_holds

end Go.Proofs.YtabkaiaajghafaaDoor
