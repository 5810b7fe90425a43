/- LexJoins: two texts with a line's end between are cut into the words of the first one and those of the second one, whatever the texts: the law answers true. -/
import Derived.Test.YtabkaiaajghafaaDoorLJoinN
namespace Go.Proofs.YtabkaiaajghafaaDoor
open Go.ChangeShapes Go.WideShapes Go.ChangeAt Go.RowKit Go.Joins Go.Deep
set_option linter.unusedSimpArgs false
set_option linter.unusedVariables false

theorem joined_is (a b : ByteArray) : Joined a b (a ++ ⟨#[10]⟩ ++ b) := by
  unfold Joined
  simp [ByteArray.data_append]
theorem jw_keep {w W W' : World} {a b c : ByteArray} {xa ya za : Option Addr} {xc yc zc : Nat} {la lb lc : List (WW × Nat)} (h : WordsAt W a xa xc la ∧ WordsAt W b ya yc lb ∧ WordsAt W c za zc lc ∧ Below w.heap.size w W) (hb : Below W.heap.size W W') :
    WordsAt W' a xa xc la ∧ WordsAt W' b ya yc lb ∧ WordsAt W' c za zc lc ∧ Below w.heap.size w W' := ⟨h.1.keep hb, h.2.1.keep hb, h.2.2.1.keep hb, bel_trans h.2.2.2 hb⟩
set_option maxRecDepth 100000 in
set_option maxHeartbeats 16000000 in
theorem lexJoins_walk (a b : ByteArray) (w : World) (hl : LexTab w) (he : ErrTab w) : Calls Tryd.prog 7 #[.string a, .string b] w (retP (.bool true) w) := by
  have HL : Hid (∀ W, Below w.heap.size w W → LexTab W ∧ ErrTab W) := fun W h => ⟨hl.keep h, he.keep h⟩
  have HB0 : Hid (Below w.heap.size w w) := Below.refl _ _
  clear hl he
  go_enter Tryd.func7, Tryd.ntmps7
  go_wp2_with fail
  refine (awake_any _ (HL.out _ HB0.out).1 (HL.out _ HB0.out).2).mono ?_
  rintro e w1 ⟨rfl, hb1⟩
  have HB1 : Hid (Below w.heap.size w w1) := bel_trans HB0.out hb1
  clear hb1 HB0
  by_cases ha : 3000 < a.size
  · have ha' : (3000 : Int) < (a.size : Int) := by omega
    go_wp2
    go_ret
    exact ⟨rfl, HB1.out⟩
  by_cases hb : 3000 < b.size
  · have hb' : (3000 : Int) < (b.size : Int) := by omega
    have ha' : (a.size : Int) ≤ 3000 := by omega
    go_wp2
    go_ret
    exact ⟨rfl, HB1.out⟩
  have ha' : (a.size : Int) ≤ 3000 := by omega
  have hb' : (b.size : Int) ≤ 3000 := by omega
  have HS : Hid (a.size ≤ 3000 ∧ b.size ≤ 3000) := ⟨by omega, by omega⟩
  clear ha hb
  obtain ⟨c, hc⟩ : ∃ c, a ++ ⟨#[10]⟩ ++ b = c := ⟨_, rfl⟩
  have HC : Hid (Joined a b c) := hc ▸ joined_is a b
  go_wp2_with fail
  by_cases ea : (lexAll a).2 = a.size
  · refine (words_ok a _ (HL.out _ HB1.out).1 (HL.out _ HB1.out).2 (by have := HS.out; omega) ea).mono ?_
    rintro e w2 ⟨xa, xcap, rfl, hx, hb2⟩
    have HB2 : Hid (Below w.heap.size w (w2.alloc (.cells #[.int .i64 0, .int .i64 0] 25))) := bel_alloc (bel_trans HB1.out hb2) _
    have HX2 : Hid (WordsAt (w2.alloc (.cells #[.int .i64 0, .int .i64 0] 25)) a xa xcap (lexAll a).1) := hx.keep ((Below.refl _ _).alloc (Nat.le_refl _) _)
    clear hb2 HB1 hx
    go_wp2_with fail
    by_cases eb : (lexAll b).2 = b.size
    · refine (words_ok b _ (HL.out _ HB2.out).1 (HL.out _ HB2.out).2 (by have := HS.out; omega) eb).mono ?_
      rintro e w3 ⟨ya, ycap, rfl, hy, hb3⟩
      have HB3 : Hid (Below w.heap.size w (w3.alloc (.cells #[.int .i64 0, .int .i64 0] 25))) := bel_alloc (bel_trans HB2.out hb3) _
      have HX3 : Hid (WordsAt (w3.alloc (.cells #[.int .i64 0, .int .i64 0] 25)) a xa xcap (lexAll a).1) := (HX2.out.keep hb3).keep ((Below.refl _ _).alloc (Nat.le_refl _) _)
      have HY3 : Hid (WordsAt (w3.alloc (.cells #[.int .i64 0, .int .i64 0] 25)) b ya ycap (lexAll b).1) := hy.keep ((Below.refl _ _).alloc (Nat.le_refl _) _)
      have HLX : Hid (lexAll c = ((lexAll a).1 ++ shiftW (a.size + 1) (lexAll b).1, a.size + 1 + (lexAll b).2)) := HC.out.lex ea
      have ec : (lexAll c).2 = c.size := by
        rw [HLX.out, HC.out.size, ← eb]
      clear hb3 HB2 HX2 hy
      go_wp2_with fail
      refine (words_ok c _ (HL.out _ HB3.out).1 (HL.out _ HB3.out).2 (by have := HS.out; have := HC.out.size; omega) ec).mono ?_
      rintro e w4 ⟨za, zcap, rfl, hz, hb4⟩
      have HW4 : Hid (WordsAt (w4.alloc (.cells #[.int .i64 0, .int .i64 0] 25)) a xa xcap (lexAll a).1 ∧ WordsAt (w4.alloc (.cells #[.int .i64 0, .int .i64 0] 25)) b ya ycap (lexAll b).1 ∧ WordsAt (w4.alloc (.cells #[.int .i64 0, .int .i64 0] 25)) c za zcap (lexAll c).1 ∧ Below w.heap.size w (w4.alloc (.cells #[.int .i64 0, .int .i64 0] 25))) :=
        ⟨(HX3.out.keep hb4).keep ((Below.refl _ _).alloc (Nat.le_refl _) _), (HY3.out.keep hb4).keep ((Below.refl _ _).alloc (Nat.le_refl _) _), hz.keep ((Below.refl _ _).alloc (Nat.le_refl _) _), bel_alloc (bel_trans HB3.out hb4) _⟩
      obtain ⟨X, hX⟩ : ∃ X, (lexAll a).1.length = X := ⟨_, rfl⟩
      obtain ⟨Y, hY⟩ : ∃ Y, (lexAll b).1.length = Y := ⟨_, rfl⟩
      obtain ⟨Z, hZ⟩ : ∃ Z, (lexAll c).1.length = Z := ⟨_, rfl⟩
      have hZXY : Z = X + Y := by rw [← hX, ← hY, ← hZ, HLX.out]; simp [shiftW]
      have hX1 : X ≤ 3000 := by rw [← hX]; have := lexAll_len a; have := HS.out; omega
      have hY1 : Y ≤ 3000 := by rw [← hY]; have := lexAll_len b; have := HS.out; omega
      have HN : Hid ((lexAll a).1.length = X ∧ (lexAll b).1.length = Y ∧ (lexAll c).1.length = Z ∧ Z = X + Y ∧ X ≤ 3000 ∧ Y ≤ 3000) := ⟨hX, hY, hZ, hZXY, hX1, hY1⟩
      rw [hX, hY, hZ]
      have x0 : (0 : Int) ≤ (X : Int) := by omega
      have x1 : (X : Int) ≤ 3000 := by omega
      have y0 : (0 : Int) ≤ (Y : Int) := by omega
      have y1 : (Y : Int) ≤ 3000 := by omega
      have z1 : (Z : Int) = (X : Int) + (Y : Int) := by omega
      have z2 : ((X : Int) + (Y : Int) == (X : Int) + (Y : Int)) = true := by simp
      clear hb4 HB3 HX3 HY3 hz hX hY hZ hZXY hX1 hY1 ec ea eb ha' hb' hc
      go_wp2
      clear z1 z2
      go_loopw [14] (fun vi wr => ∃ i : Nat, i ≤ Z ∧ vi = .int .i64 (i : Int) ∧ Hid (WordsAt wr a xa xcap (lexAll a).1 ∧ WordsAt wr b ya ycap (lexAll b).1 ∧ WordsAt wr c za zcap (lexAll c).1 ∧ Below w.heap.size w wr)) (fun vi _ => Z - (intOf vi).toNat)
      case atStart => exact ⟨0, Nat.zero_le _, rfl, HW4⟩
      case round =>
        obtain ⟨i, hiZ, rfl, HI⟩ := hrel
        clear HW4
        have i0 : (0 : Int) ≤ (i : Int) := by omega
        have Z1 : (Z : Int) ≤ 6000 := by have := HN.out; omega
        by_cases hi : i < Z
        · have i1 : (i : Int) < (Z : Int) := by omega
          have hne : (lexAll c).1 ≠ [] := fun h => by have := HN.out.2.2.1; rw [h] at this; simp at this; omega
          obtain ⟨gz, rfl, hgz, hcz⟩ := HI.out.2.2.1.row hne
          have hzc : Z ≤ zcap := by have := HI.out.2.2.1.cap; have := HN.out; omega
          clear hne
          by_cases hx : i < X
          · have i2 : (i : Int) < (X : Int) := by omega
            obtain ⟨⟨x, j⟩, hxj⟩ : ∃ xj, (lexAll a).1[i]? = some xj := ⟨_, List.getElem?_eq_getElem (by have := HN.out.1; omega)⟩
            have hzj : (lexAll c).1[i]? = some (x, j) := by rw [HLX.out]; show ((lexAll a).1 ++ _)[i]? = _; rw [List.getElem?_append_left (by have := HN.out.1; omega)]; exact hxj
            have hne : (lexAll a).1 ≠ [] := fun h => by rw [h] at hxj; simp at hxj
            obtain ⟨gx, rfl, hgx, hcx⟩ := HI.out.1.row hne
            have hxc : X ≤ xcap := by have := HI.out.1.cap; have := HN.out; omega
            have cz := hcz i x j hzj
            have cx := hcx i x j hxj
            have c0 := cz.c0
            have c1 := cz.c1
            have c2 := cz.c2
            have d0 := cx.c0
            have d1 := cx.c1
            have d2 := cx.c2
            have d3 := cx.c3
            have d4 := cx.c4
            clear hne hzj hxj cz cx hcz hcx
            go_upto_region 21 with fail
            refine wp_region_held_drew (S := (fun w' => w'.cell? ⟨gz, i * 5, none⟩ = some (.int .i64 x.k) ∧ w'.cell? ⟨gz, i * 5 + 1, none⟩ = some (.string x.s) ∧ w'.cell? ⟨gz, i * 5 + 2, none⟩ = some (.int .i64 x.n) ∧ w'.cell? ⟨wr.heap.size, 0, none⟩ = some (.int .i64 x.k) ∧ w'.cell? ⟨wr.heap.size, 1, none⟩ = some (.string x.s) ∧ w'.cell? ⟨wr.heap.size, 2, none⟩ = some (.int .i64 x.n))) (by kernel_rfl) (⟨by go_simp, by go_simp, by go_simp, by go_simp, by go_simp, by go_simp⟩) (fun hHeld => ?_)
            refine wpAnyH_take (i := 0) (oi := ?oia0) (v := ?vva0) ?hia0 (by kernel_rfl) (by kernel_rfl) (by kernel_rfl) ?hqa0 ?hya0 hHeld ?_
            case hia0 => simp only [List.getElem?_toArray, List.getElem?_cons_succ, List.getElem?_cons_zero]; rfl
            case hqa0 => exact fun _ _ _ h => h
            case hya0 => (refine Or.inl ⟨by rfl, ?_⟩; intro w' hSw; (try dsimp only at hSw); go_simp; (try (with_reducible rfl)))
            simp only [Act.put, List.setIfInBounds_toArray, List.set_cons_zero, List.set_cons_succ]
            refine wpAnyH_take (i := 1) (oi := ?oia1) (v := ?vva1) ?hia1 (by kernel_rfl) (by kernel_rfl) (by kernel_rfl) ?hqa1 ?hya1 hHeld ?_
            case hia1 => simp only [List.getElem?_toArray, List.getElem?_cons_succ, List.getElem?_cons_zero]; rfl
            case hqa1 => exact fun _ _ _ h => h
            case hya1 => (refine Or.inl ⟨by rfl, ?_⟩; intro w' hSw; (try dsimp only at hSw); go_simp; (try (with_reducible rfl)))
            simp only [Act.put, List.setIfInBounds_toArray, List.set_cons_zero, List.set_cons_succ]
            refine wpAnyH_take (i := 2) (oi := ?oia2) (v := ?vva2) ?hia2 (by kernel_rfl) (by kernel_rfl) (by kernel_rfl) ?hqa2 ?hya2 hHeld ?_
            case hia2 => simp only [List.getElem?_toArray, List.getElem?_cons_succ, List.getElem?_cons_zero]; rfl
            case hqa2 => exact fun _ _ _ h => h
            case hya2 => (refine Or.inl ⟨by rfl, ?_⟩; intro w' hSw; (try dsimp only at hSw); go_simp; (try (with_reducible rfl)))
            simp only [Act.put, List.setIfInBounds_toArray, List.set_cons_zero, List.set_cons_succ]
            refine wpAnyH_take (i := 3) (oi := ?oia3) (v := ?vva3) ?hia3 (by kernel_rfl) (by kernel_rfl) (by kernel_rfl) ?hqa3 ?hya3 hHeld ?_
            case hia3 => simp only [List.getElem?_toArray, List.getElem?_cons_succ, List.getElem?_cons_zero]; rfl
            case hqa3 => exact fun _ _ _ h => h
            case hya3 => (refine Or.inl ⟨by rfl, ?_⟩; intro w' hSw; (try dsimp only at hSw); go_simp; (try (with_reducible rfl)))
            simp only [Act.put, List.setIfInBounds_toArray, List.set_cons_zero, List.set_cons_succ]
            refine wpAnyH_take (i := 4) (oi := ?oia4) (v := ?vva4) ?hia4 (by kernel_rfl) (by kernel_rfl) (by kernel_rfl) ?hqa4 ?hya4 hHeld ?_
            case hia4 => simp only [List.getElem?_toArray, List.getElem?_cons_succ, List.getElem?_cons_zero]; rfl
            case hqa4 => exact fun _ _ _ h => h
            case hya4 => (refine Or.inl ⟨by rfl, ?_⟩; intro w' hSw; (try dsimp only at hSw); go_simp; (try (with_reducible rfl)))
            simp only [Act.put, List.setIfInBounds_toArray, List.set_cons_zero, List.set_cons_succ]
            refine wpAnyH_take (i := 5) (oi := ?oia5) (v := ?vva5) ?hia5 (by kernel_rfl) (by kernel_rfl) (by kernel_rfl) ?hqa5 ?hya5 hHeld ?_
            case hia5 => simp only [List.getElem?_toArray, List.getElem?_cons_succ, List.getElem?_cons_zero]; rfl
            case hqa5 => exact fun _ _ _ h => h
            case hya5 => (refine Or.inl ⟨by rfl, ?_⟩; intro w' hSw; (try dsimp only at hSw); go_simp; (try (with_reducible rfl)))
            simp only [Act.put, List.setIfInBounds_toArray, List.set_cons_zero, List.set_cons_succ]
            refine wpAnyH_take (i := 6) (oi := ?oia6) (v := ?vva6) ?hia6 (by kernel_rfl) (by kernel_rfl) (by kernel_rfl) ?hqa6 ?hya6 hHeld ?_
            case hia6 => simp only [List.getElem?_toArray, List.getElem?_cons_succ, List.getElem?_cons_zero]; rfl
            case hqa6 => exact fun _ _ _ h => h
            case hya6 => (refine Or.inl ⟨by rfl, ?_⟩; intro w' hSw; (try dsimp only at hSw); go_simp; (try (with_reducible rfl)))
            simp only [Act.put, List.setIfInBounds_toArray, List.set_cons_zero, List.set_cons_succ]
            refine wpAnyH_take (i := 7) (oi := ?oia7) (v := ?vva7) ?hia7 (by kernel_rfl) (by kernel_rfl) (by kernel_rfl) ?hqa7 ?hya7 hHeld ?_
            case hia7 => simp only [List.getElem?_toArray, List.getElem?_cons_succ, List.getElem?_cons_zero]; rfl
            case hqa7 => exact fun _ _ _ h => h
            case hya7 => (refine Or.inl ⟨by rfl, ?_⟩; intro w' hSw; (try dsimp only at hSw); go_simp; (try (with_reducible rfl)))
            simp only [Act.put, List.setIfInBounds_toArray, List.set_cons_zero, List.set_cons_succ]
            refine wpAnyH_take (i := 8) (oi := ?oia8) (v := ?vva8) ?hia8 (by kernel_rfl) (by kernel_rfl) (by kernel_rfl) ?hqa8 ?hya8 hHeld ?_
            case hia8 => simp only [List.getElem?_toArray, List.getElem?_cons_succ, List.getElem?_cons_zero]; rfl
            case hqa8 => exact fun _ _ _ h => h
            case hya8 => (refine Or.inl ⟨by rfl, ?_⟩; intro w' hSw; (try dsimp only at hSw); go_simp; (try (with_reducible rfl)))
            simp only [Act.put, List.setIfInBounds_toArray, List.set_cons_zero, List.set_cons_succ]
            refine wpAnyH_take (i := 9) (oi := ?oia9) (v := ?vva9) ?hia9 (by kernel_rfl) (by kernel_rfl) (by kernel_rfl) ?hqa9 ?hya9 hHeld ?_
            case hia9 => simp only [List.getElem?_toArray, List.getElem?_cons_succ, List.getElem?_cons_zero]; rfl
            case hqa9 => exact fun _ _ _ h => h
            case hya9 => (refine Or.inl ⟨by rfl, ?_⟩; intro w' hSw; (try dsimp only at hSw); go_simp; (try (with_reducible rfl)))
            simp only [Act.put, List.setIfInBounds_toArray, List.set_cons_zero, List.set_cons_succ]
            refine wpAnyH_take (i := 10) (oi := ?oia10) (v := ?vva10) ?hia10 (by kernel_rfl) (by kernel_rfl) (by kernel_rfl) ?hqa10 ?hya10 hHeld ?_
            case hia10 => simp only [List.getElem?_toArray, List.getElem?_cons_succ, List.getElem?_cons_zero]; rfl
            case hqa10 => exact fun _ _ _ h => h
            case hya10 => (refine Or.inl ⟨by rfl, ?_⟩; intro w' hSw; (try dsimp only at hSw); go_simp; (try (with_reducible rfl)))
            simp only [Act.put, List.setIfInBounds_toArray, List.set_cons_zero, List.set_cons_succ]
            refine wpAnyH_take (i := 11) (oi := ?oia11) (v := ?vva11) ?hia11 (by kernel_rfl) (by kernel_rfl) (by kernel_rfl) ?hqa11 ?hya11 hHeld ?_
            case hia11 => simp only [List.getElem?_toArray, List.getElem?_cons_succ, List.getElem?_cons_zero]; rfl
            case hqa11 => exact fun _ _ _ h => h
            case hya11 => (refine Or.inl ⟨by rfl, ?_⟩; intro w' hSw; (try dsimp only at hSw); go_simp; (try (with_reducible rfl)))
            simp only [Act.put, List.setIfInBounds_toArray, List.set_cons_zero, List.set_cons_succ]
            refine wpAnyH_take (i := 12) (oi := ?oia12) (v := ?vva12) ?hia12 (by kernel_rfl) (by kernel_rfl) (by kernel_rfl) ?hqa12 ?hya12 hHeld ?_
            case hia12 => simp only [List.getElem?_toArray, List.getElem?_cons_succ, List.getElem?_cons_zero]; rfl
            case hqa12 => exact fun _ _ _ h => h
            case hya12 => (refine Or.inl ⟨by rfl, ?_⟩; intro w' hSw; (try dsimp only at hSw); go_simp; (try (with_reducible rfl)))
            simp only [Act.put, List.setIfInBounds_toArray, List.set_cons_zero, List.set_cons_succ]
            refine wpAnyH_take (i := 13) (oi := ?oia13) (v := ?vva13) ?hia13 (by kernel_rfl) (by kernel_rfl) (by kernel_rfl) ?hqa13 ?hya13 hHeld ?_
            case hia13 => simp only [List.getElem?_toArray, List.getElem?_cons_succ, List.getElem?_cons_zero]; rfl
            case hqa13 => exact fun _ _ _ h => h
            case hya13 => (refine Or.inl ⟨by rfl, ?_⟩; intro w' hSw; (try dsimp only at hSw); go_simp; (try (with_reducible rfl)))
            simp only [Act.put, List.setIfInBounds_toArray, List.set_cons_zero, List.set_cons_succ]
            refine wpAnyH_take (i := 14) (oi := ?oia14) (v := ?vva14) ?hia14 (by kernel_rfl) (by kernel_rfl) (by kernel_rfl) ?hqa14 ?hya14 hHeld ?_
            case hia14 => simp only [List.getElem?_toArray, List.getElem?_cons_succ, List.getElem?_cons_zero]; rfl
            case hqa14 => exact fun _ _ _ h => h
            case hya14 => (refine Or.inl ⟨by rfl, ?_⟩; intro w' hSw; (try dsimp only at hSw); go_simp; (try (with_reducible rfl)))
            simp only [Act.put, List.setIfInBounds_toArray, List.set_cons_zero, List.set_cons_succ]
            refine wpAnyH_take (i := 15) (oi := ?oia15) (v := ?vva15) ?hia15 (by kernel_rfl) (by kernel_rfl) (by kernel_rfl) ?hqa15 ?hya15 hHeld ?_
            case hia15 => simp only [List.getElem?_toArray, List.getElem?_cons_succ, List.getElem?_cons_zero]; rfl
            case hqa15 => exact fun _ _ _ h => h
            case hya15 => (refine Or.inl ⟨by rfl, ?_⟩; intro w' hSw; (try dsimp only at hSw); go_simp; (try (with_reducible rfl)))
            simp only [Act.put, List.setIfInBounds_toArray, List.set_cons_zero, List.set_cons_succ]
            refine wpAnyH_take (i := 16) (oi := ?oia16) (v := ?vva16) ?hia16 (by kernel_rfl) (by kernel_rfl) (by kernel_rfl) ?hqa16 ?hya16 hHeld ?_
            case hia16 => simp only [List.getElem?_toArray, List.getElem?_cons_succ, List.getElem?_cons_zero]; rfl
            case hqa16 => exact fun _ _ _ h => h
            case hya16 => (refine Or.inl ⟨by rfl, ?_⟩; intro w' hSw; (try dsimp only at hSw); go_simp; (try (with_reducible rfl)))
            simp only [Act.put, List.setIfInBounds_toArray, List.set_cons_zero, List.set_cons_succ]
            refine wpAnyH_take (i := 17) (oi := ?oia17) (v := ?vva17) ?hia17 (by kernel_rfl) (by kernel_rfl) (by kernel_rfl) ?hqa17 ?hya17 hHeld ?_
            case hia17 => simp only [List.getElem?_toArray, List.getElem?_cons_succ, List.getElem?_cons_zero]; rfl
            case hqa17 => exact fun _ _ _ h => h
            case hya17 => (refine Or.inl ⟨by rfl, ?_⟩; intro w' hSw; (try dsimp only at hSw); go_simp; (try (with_reducible rfl)))
            simp only [Act.put, List.setIfInBounds_toArray, List.set_cons_zero, List.set_cons_succ]
            refine wpAnyH_take (i := 18) (oi := ?oia18) (v := ?vva18) ?hia18 (by kernel_rfl) (by kernel_rfl) (by kernel_rfl) ?hqa18 ?hya18 hHeld ?_
            case hia18 => simp only [List.getElem?_toArray, List.getElem?_cons_succ, List.getElem?_cons_zero]; rfl
            case hqa18 => exact fun _ _ _ h => h
            case hya18 => (refine Or.inl ⟨by rfl, ?_⟩; intro w' hSw; (try dsimp only at hSw); go_simp; (try (with_reducible rfl)))
            simp only [Act.put, List.setIfInBounds_toArray, List.set_cons_zero, List.set_cons_succ]
            refine wpAnyH_take (i := 19) (oi := ?oia19) (v := ?vva19) ?hia19 (by kernel_rfl) (by kernel_rfl) (by kernel_rfl) ?hqa19 ?hya19 hHeld ?_
            case hia19 => simp only [List.getElem?_toArray, List.getElem?_cons_succ, List.getElem?_cons_zero]; rfl
            case hqa19 => exact fun _ _ _ h => h
            case hya19 => (refine Or.inl ⟨by rfl, ?_⟩; intro w' hSw; (try dsimp only at hSw); go_simp; (try (with_reducible rfl)))
            simp only [Act.put, List.setIfInBounds_toArray, List.set_cons_zero, List.set_cons_succ]
            refine wpAnyH_take (i := 20) (oi := ?oia20) (v := ?vva20) ?hia20 (by kernel_rfl) (by kernel_rfl) (by kernel_rfl) ?hqa20 ?hya20 hHeld ?_
            case hia20 => simp only [List.getElem?_toArray, List.getElem?_cons_succ, List.getElem?_cons_zero]; rfl
            case hqa20 => exact fun _ _ _ h => h
            case hya20 => (refine Or.inl ⟨by rfl, ?_⟩; intro w' hSw; (try dsimp only at hSw); go_simp; (try (with_reducible rfl)))
            simp only [Act.put, List.setIfInBounds_toArray, List.set_cons_zero, List.set_cons_succ]
            refine wpAnyH_take (i := 21) (oi := ?oia21) (v := ?vva21) ?hia21 (by kernel_rfl) (by kernel_rfl) (by kernel_rfl) ?hqa21 ?hya21 hHeld ?_
            case hia21 => simp only [List.getElem?_toArray, List.getElem?_cons_succ, List.getElem?_cons_zero]; rfl
            case hqa21 => exact fun _ _ _ h => h
            case hya21 => (refine Or.inl ⟨by rfl, ?_⟩; intro w' hSw; (try dsimp only at hSw); go_simp; (try (with_reducible rfl)))
            simp only [Act.put, List.setIfInBounds_toArray, List.set_cons_zero, List.set_cons_succ]
            refine wpAnyH_take (i := 22) (oi := ?oia22) (v := ?vva22) ?hia22 (by kernel_rfl) (by kernel_rfl) (by kernel_rfl) ?hqa22 ?hya22 hHeld ?_
            case hia22 => simp only [List.getElem?_toArray, List.getElem?_cons_succ, List.getElem?_cons_zero]; rfl
            case hqa22 => exact fun _ _ _ h => h
            case hya22 => (refine Or.inl ⟨by rfl, ?_⟩; intro w' hSw; (try dsimp only at hSw); go_simp; (try (with_reducible rfl)))
            simp only [Act.put, List.setIfInBounds_toArray, List.set_cons_zero, List.set_cons_succ]
            refine wpAnyH_take (i := 23) (oi := ?oia23) (v := ?vva23) ?hia23 (by kernel_rfl) (by kernel_rfl) (by kernel_rfl) ?hqa23 ?hya23 hHeld ?_
            case hia23 => simp only [List.getElem?_toArray, List.getElem?_cons_succ, List.getElem?_cons_zero]; rfl
            case hqa23 => exact fun _ _ _ h => h
            case hya23 => (refine Or.inl ⟨by rfl, ?_⟩; intro w' hSw; (try dsimp only at hSw); go_simp; (try (with_reducible rfl)))
            simp only [Act.put, List.setIfInBounds_toArray, List.set_cons_zero, List.set_cons_succ]
            refine wpAnyH_take (i := 24) (oi := ?oia24) (v := ?vva24) ?hia24 (by kernel_rfl) (by kernel_rfl) (by kernel_rfl) ?hqa24 ?hya24 hHeld ?_
            case hia24 => simp only [List.getElem?_toArray, List.getElem?_cons_succ, List.getElem?_cons_zero]; rfl
            case hqa24 => exact fun _ _ _ h => h
            case hya24 => (refine Or.inl ⟨by rfl, ?_⟩; intro w' hSw; (try dsimp only at hSw); go_simp; (try (with_reducible rfl)))
            simp only [Act.put, List.setIfInBounds_toArray, List.set_cons_zero, List.set_cons_succ]
            refine wpAnyH_take (i := 25) (oi := ?oia25) (v := ?vva25) ?hia25 (by kernel_rfl) (by kernel_rfl) (by kernel_rfl) ?hqa25 ?hya25 hHeld ?_
            case hia25 => simp only [List.getElem?_toArray, List.getElem?_cons_succ, List.getElem?_cons_zero]; rfl
            case hqa25 => exact fun _ _ _ h => h
            case hya25 => (refine Or.inl ⟨by rfl, ?_⟩; intro w' hSw; (try dsimp only at hSw); go_simp; (try (with_reducible rfl)))
            simp only [Act.put, List.setIfInBounds_toArray, List.set_cons_zero, List.set_cons_succ]
            refine wpAnyH_take (i := 26) (oi := ?oia26) (v := ?vva26) ?hia26 (by kernel_rfl) (by kernel_rfl) (by kernel_rfl) ?hqa26 ?hya26 hHeld ?_
            case hia26 => simp only [List.getElem?_toArray, List.getElem?_cons_succ, List.getElem?_cons_zero]; rfl
            case hqa26 => exact fun _ _ _ h => h
            case hya26 => (refine Or.inl ⟨by rfl, ?_⟩; intro w' hSw; (try dsimp only at hSw); go_simp; (try (with_reducible rfl)))
            simp only [Act.put, List.setIfInBounds_toArray, List.set_cons_zero, List.set_cons_succ]
            refine wpAnyH_take (i := 27) (oi := ?oia27) (v := ?vva27) ?hia27 (by kernel_rfl) (by kernel_rfl) (by kernel_rfl) ?hqa27 ?hya27 hHeld ?_
            case hia27 => simp only [List.getElem?_toArray, List.getElem?_cons_succ, List.getElem?_cons_zero]; rfl
            case hqa27 => exact fun _ _ _ h => h
            case hya27 => (refine Or.inl ⟨by rfl, ?_⟩; intro w' hSw; (try dsimp only at hSw); go_simp; (try (with_reducible rfl)))
            simp only [Act.put, List.setIfInBounds_toArray, List.set_cons_zero, List.set_cons_succ]
            refine wpAnyH_done (by kernel_rfl) ?_ _
            clear hHeld
            go_wp2
            go_roundw
            case rel =>
              refine ⟨i + 1, by omega, by simp, jw_keep HI.out ?_⟩
              (repeat (first | with_reducible exact Below.refl _ _ | with_reducible refine bel_alloc ?_ _ | with_reducible refine bel_set ?_ (by first | exact Nat.le_refl _ | (simp; done) | (simp; omega)) _ | with_reducible refine Below.drew ?_))
            case measure => simp [intOf]; omega
          · obtain ⟨k, hk⟩ : ∃ k, i = X + k := ⟨i - X, by omega⟩
            have i2 : ¬ (i : Int) < (X : Int) := by omega
            have hik : (i : Int) - (X : Int) = (k : Int) := by omega
            have k0 : (0 : Int) ≤ (k : Int) := by omega
            have k1 : (k : Int) < (Y : Int) := by have := HN.out; omega
            obtain ⟨⟨x, j⟩, hxj⟩ : ∃ xj, (lexAll b).1[k]? = some xj := ⟨_, List.getElem?_eq_getElem (by have := HN.out; omega)⟩
            have hzj : (lexAll c).1[i]? = some (x, a.size + 1 + j) := by
              rw [hk, HLX.out]
              show ((lexAll a).1 ++ _)[X + k]? = _
              rw [List.getElem?_append_right (by have := HN.out.1; omega), show X + k - (lexAll a).1.length = k by have := HN.out.1; omega]
              unfold shiftW
              rw [List.getElem?_map, hxj]
              rfl
            have hne : (lexAll b).1 ≠ [] := fun h => by rw [h] at hxj; simp at hxj
            obtain ⟨gy, rfl, hgy, hcy⟩ := HI.out.2.1.row hne
            have hyc : Y ≤ ycap := by have := HI.out.2.1.cap; have := HN.out; omega
            have cz := hcz i x _ hzj
            have cy := hcy k x j hxj
            have c0 := cz.c0
            have c1 := cz.c1
            have c2 := cz.c2
            have d0 := cy.c0
            have d1 := cy.c1
            have d2 := cy.c2
            have d3 := cy.c3
            have d4 := cy.c4
            clear hne hzj hxj cz cy hcz hcy hk
            go_upto_region 21 with fail
            refine wp_region_held_drew (S := (fun w' => w'.cell? ⟨gz, i * 5, none⟩ = some (.int .i64 x.k) ∧ w'.cell? ⟨gz, i * 5 + 1, none⟩ = some (.string x.s) ∧ w'.cell? ⟨gz, i * 5 + 2, none⟩ = some (.int .i64 x.n) ∧ w'.cell? ⟨wr.heap.size, 0, none⟩ = some (.int .i64 x.k) ∧ w'.cell? ⟨wr.heap.size, 1, none⟩ = some (.string x.s) ∧ w'.cell? ⟨wr.heap.size, 2, none⟩ = some (.int .i64 x.n))) (by kernel_rfl) (⟨by go_simp, by go_simp, by go_simp, by go_simp, by go_simp, by go_simp⟩) (fun hHeld => ?_)
            refine wpAnyH_take (i := 0) (oi := ?oib0) (v := ?vvb0) ?hib0 (by kernel_rfl) (by kernel_rfl) (by kernel_rfl) ?hqb0 ?hyb0 hHeld ?_
            case hib0 => simp only [List.getElem?_toArray, List.getElem?_cons_succ, List.getElem?_cons_zero]; rfl
            case hqb0 => exact fun _ _ _ h => h
            case hyb0 => (refine Or.inl ⟨by rfl, ?_⟩; intro w' hSw; (try dsimp only at hSw); go_simp; (try (with_reducible rfl)))
            simp only [Act.put, List.setIfInBounds_toArray, List.set_cons_zero, List.set_cons_succ]
            refine wpAnyH_take (i := 1) (oi := ?oib1) (v := ?vvb1) ?hib1 (by kernel_rfl) (by kernel_rfl) (by kernel_rfl) ?hqb1 ?hyb1 hHeld ?_
            case hib1 => simp only [List.getElem?_toArray, List.getElem?_cons_succ, List.getElem?_cons_zero]; rfl
            case hqb1 => exact fun _ _ _ h => h
            case hyb1 => (refine Or.inl ⟨by rfl, ?_⟩; intro w' hSw; (try dsimp only at hSw); go_simp; (try (with_reducible rfl)))
            simp only [Act.put, List.setIfInBounds_toArray, List.set_cons_zero, List.set_cons_succ]
            refine wpAnyH_take (i := 2) (oi := ?oib2) (v := ?vvb2) ?hib2 (by kernel_rfl) (by kernel_rfl) (by kernel_rfl) ?hqb2 ?hyb2 hHeld ?_
            case hib2 => simp only [List.getElem?_toArray, List.getElem?_cons_succ, List.getElem?_cons_zero]; rfl
            case hqb2 => exact fun _ _ _ h => h
            case hyb2 => (refine Or.inl ⟨by rfl, ?_⟩; intro w' hSw; (try dsimp only at hSw); go_simp; (try (with_reducible rfl)))
            simp only [Act.put, List.setIfInBounds_toArray, List.set_cons_zero, List.set_cons_succ]
            refine wpAnyH_take (i := 3) (oi := ?oib3) (v := ?vvb3) ?hib3 (by kernel_rfl) (by kernel_rfl) (by kernel_rfl) ?hqb3 ?hyb3 hHeld ?_
            case hib3 => simp only [List.getElem?_toArray, List.getElem?_cons_succ, List.getElem?_cons_zero]; rfl
            case hqb3 => exact fun _ _ _ h => h
            case hyb3 => (refine Or.inl ⟨by rfl, ?_⟩; intro w' hSw; (try dsimp only at hSw); go_simp; (try (with_reducible rfl)))
            simp only [Act.put, List.setIfInBounds_toArray, List.set_cons_zero, List.set_cons_succ]
            refine wpAnyH_take (i := 4) (oi := ?oib4) (v := ?vvb4) ?hib4 (by kernel_rfl) (by kernel_rfl) (by kernel_rfl) ?hqb4 ?hyb4 hHeld ?_
            case hib4 => simp only [List.getElem?_toArray, List.getElem?_cons_succ, List.getElem?_cons_zero]; rfl
            case hqb4 => exact fun _ _ _ h => h
            case hyb4 => (refine Or.inl ⟨by rfl, ?_⟩; intro w' hSw; (try dsimp only at hSw); go_simp; (try (with_reducible rfl)))
            simp only [Act.put, List.setIfInBounds_toArray, List.set_cons_zero, List.set_cons_succ]
            refine wpAnyH_take (i := 5) (oi := ?oib5) (v := ?vvb5) ?hib5 (by kernel_rfl) (by kernel_rfl) (by kernel_rfl) ?hqb5 ?hyb5 hHeld ?_
            case hib5 => simp only [List.getElem?_toArray, List.getElem?_cons_succ, List.getElem?_cons_zero]; rfl
            case hqb5 => exact fun _ _ _ h => h
            case hyb5 => (refine Or.inl ⟨by rfl, ?_⟩; intro w' hSw; (try dsimp only at hSw); go_simp; (try (with_reducible rfl)))
            simp only [Act.put, List.setIfInBounds_toArray, List.set_cons_zero, List.set_cons_succ]
            refine wpAnyH_take (i := 6) (oi := ?oib6) (v := ?vvb6) ?hib6 (by kernel_rfl) (by kernel_rfl) (by kernel_rfl) ?hqb6 ?hyb6 hHeld ?_
            case hib6 => simp only [List.getElem?_toArray, List.getElem?_cons_succ, List.getElem?_cons_zero]; rfl
            case hqb6 => exact fun _ _ _ h => h
            case hyb6 => (refine Or.inl ⟨by rfl, ?_⟩; intro w' hSw; (try dsimp only at hSw); go_simp; (try (with_reducible rfl)))
            simp only [Act.put, List.setIfInBounds_toArray, List.set_cons_zero, List.set_cons_succ]
            refine wpAnyH_take (i := 7) (oi := ?oib7) (v := ?vvb7) ?hib7 (by kernel_rfl) (by kernel_rfl) (by kernel_rfl) ?hqb7 ?hyb7 hHeld ?_
            case hib7 => simp only [List.getElem?_toArray, List.getElem?_cons_succ, List.getElem?_cons_zero]; rfl
            case hqb7 => exact fun _ _ _ h => h
            case hyb7 => (refine Or.inl ⟨by rfl, ?_⟩; intro w' hSw; (try dsimp only at hSw); go_simp; (try (with_reducible rfl)))
            simp only [Act.put, List.setIfInBounds_toArray, List.set_cons_zero, List.set_cons_succ]
            refine wpAnyH_take (i := 8) (oi := ?oib8) (v := ?vvb8) ?hib8 (by kernel_rfl) (by kernel_rfl) (by kernel_rfl) ?hqb8 ?hyb8 hHeld ?_
            case hib8 => simp only [List.getElem?_toArray, List.getElem?_cons_succ, List.getElem?_cons_zero]; rfl
            case hqb8 => exact fun _ _ _ h => h
            case hyb8 => (refine Or.inl ⟨by rfl, ?_⟩; intro w' hSw; (try dsimp only at hSw); go_simp; (try (with_reducible rfl)))
            simp only [Act.put, List.setIfInBounds_toArray, List.set_cons_zero, List.set_cons_succ]
            refine wpAnyH_take (i := 9) (oi := ?oib9) (v := ?vvb9) ?hib9 (by kernel_rfl) (by kernel_rfl) (by kernel_rfl) ?hqb9 ?hyb9 hHeld ?_
            case hib9 => simp only [List.getElem?_toArray, List.getElem?_cons_succ, List.getElem?_cons_zero]; rfl
            case hqb9 => exact fun _ _ _ h => h
            case hyb9 => (refine Or.inl ⟨by rfl, ?_⟩; intro w' hSw; (try dsimp only at hSw); go_simp; (try (with_reducible rfl)))
            simp only [Act.put, List.setIfInBounds_toArray, List.set_cons_zero, List.set_cons_succ]
            refine wpAnyH_take (i := 10) (oi := ?oib10) (v := ?vvb10) ?hib10 (by kernel_rfl) (by kernel_rfl) (by kernel_rfl) ?hqb10 ?hyb10 hHeld ?_
            case hib10 => simp only [List.getElem?_toArray, List.getElem?_cons_succ, List.getElem?_cons_zero]; rfl
            case hqb10 => exact fun _ _ _ h => h
            case hyb10 => (refine Or.inl ⟨by rfl, ?_⟩; intro w' hSw; (try dsimp only at hSw); go_simp; (try (with_reducible rfl)))
            simp only [Act.put, List.setIfInBounds_toArray, List.set_cons_zero, List.set_cons_succ]
            refine wpAnyH_take (i := 11) (oi := ?oib11) (v := ?vvb11) ?hib11 (by kernel_rfl) (by kernel_rfl) (by kernel_rfl) ?hqb11 ?hyb11 hHeld ?_
            case hib11 => simp only [List.getElem?_toArray, List.getElem?_cons_succ, List.getElem?_cons_zero]; rfl
            case hqb11 => exact fun _ _ _ h => h
            case hyb11 => (refine Or.inl ⟨by rfl, ?_⟩; intro w' hSw; (try dsimp only at hSw); go_simp; (try (with_reducible rfl)))
            simp only [Act.put, List.setIfInBounds_toArray, List.set_cons_zero, List.set_cons_succ]
            refine wpAnyH_take (i := 12) (oi := ?oib12) (v := ?vvb12) ?hib12 (by kernel_rfl) (by kernel_rfl) (by kernel_rfl) ?hqb12 ?hyb12 hHeld ?_
            case hib12 => simp only [List.getElem?_toArray, List.getElem?_cons_succ, List.getElem?_cons_zero]; rfl
            case hqb12 => exact fun _ _ _ h => h
            case hyb12 => (refine Or.inl ⟨by rfl, ?_⟩; intro w' hSw; (try dsimp only at hSw); go_simp; (try (with_reducible rfl)))
            simp only [Act.put, List.setIfInBounds_toArray, List.set_cons_zero, List.set_cons_succ]
            refine wpAnyH_take (i := 13) (oi := ?oib13) (v := ?vvb13) ?hib13 (by kernel_rfl) (by kernel_rfl) (by kernel_rfl) ?hqb13 ?hyb13 hHeld ?_
            case hib13 => simp only [List.getElem?_toArray, List.getElem?_cons_succ, List.getElem?_cons_zero]; rfl
            case hqb13 => exact fun _ _ _ h => h
            case hyb13 => (refine Or.inl ⟨by rfl, ?_⟩; intro w' hSw; (try dsimp only at hSw); go_simp; (try (with_reducible rfl)))
            simp only [Act.put, List.setIfInBounds_toArray, List.set_cons_zero, List.set_cons_succ]
            refine wpAnyH_take (i := 14) (oi := ?oib14) (v := ?vvb14) ?hib14 (by kernel_rfl) (by kernel_rfl) (by kernel_rfl) ?hqb14 ?hyb14 hHeld ?_
            case hib14 => simp only [List.getElem?_toArray, List.getElem?_cons_succ, List.getElem?_cons_zero]; rfl
            case hqb14 => exact fun _ _ _ h => h
            case hyb14 => (refine Or.inl ⟨by rfl, ?_⟩; intro w' hSw; (try dsimp only at hSw); go_simp; (try (with_reducible rfl)))
            simp only [Act.put, List.setIfInBounds_toArray, List.set_cons_zero, List.set_cons_succ]
            refine wpAnyH_take (i := 15) (oi := ?oib15) (v := ?vvb15) ?hib15 (by kernel_rfl) (by kernel_rfl) (by kernel_rfl) ?hqb15 ?hyb15 hHeld ?_
            case hib15 => simp only [List.getElem?_toArray, List.getElem?_cons_succ, List.getElem?_cons_zero]; rfl
            case hqb15 => exact fun _ _ _ h => h
            case hyb15 => (refine Or.inl ⟨by rfl, ?_⟩; intro w' hSw; (try dsimp only at hSw); go_simp; (try (with_reducible rfl)))
            simp only [Act.put, List.setIfInBounds_toArray, List.set_cons_zero, List.set_cons_succ]
            refine wpAnyH_take (i := 16) (oi := ?oib16) (v := ?vvb16) ?hib16 (by kernel_rfl) (by kernel_rfl) (by kernel_rfl) ?hqb16 ?hyb16 hHeld ?_
            case hib16 => simp only [List.getElem?_toArray, List.getElem?_cons_succ, List.getElem?_cons_zero]; rfl
            case hqb16 => exact fun _ _ _ h => h
            case hyb16 => (refine Or.inl ⟨by rfl, ?_⟩; intro w' hSw; (try dsimp only at hSw); go_simp; (try (with_reducible rfl)))
            simp only [Act.put, List.setIfInBounds_toArray, List.set_cons_zero, List.set_cons_succ]
            refine wpAnyH_take (i := 17) (oi := ?oib17) (v := ?vvb17) ?hib17 (by kernel_rfl) (by kernel_rfl) (by kernel_rfl) ?hqb17 ?hyb17 hHeld ?_
            case hib17 => simp only [List.getElem?_toArray, List.getElem?_cons_succ, List.getElem?_cons_zero]; rfl
            case hqb17 => exact fun _ _ _ h => h
            case hyb17 => (refine Or.inl ⟨by rfl, ?_⟩; intro w' hSw; (try dsimp only at hSw); go_simp; (try (with_reducible rfl)))
            simp only [Act.put, List.setIfInBounds_toArray, List.set_cons_zero, List.set_cons_succ]
            refine wpAnyH_take (i := 18) (oi := ?oib18) (v := ?vvb18) ?hib18 (by kernel_rfl) (by kernel_rfl) (by kernel_rfl) ?hqb18 ?hyb18 hHeld ?_
            case hib18 => simp only [List.getElem?_toArray, List.getElem?_cons_succ, List.getElem?_cons_zero]; rfl
            case hqb18 => exact fun _ _ _ h => h
            case hyb18 => (refine Or.inl ⟨by rfl, ?_⟩; intro w' hSw; (try dsimp only at hSw); go_simp; (try (with_reducible rfl)))
            simp only [Act.put, List.setIfInBounds_toArray, List.set_cons_zero, List.set_cons_succ]
            refine wpAnyH_take (i := 19) (oi := ?oib19) (v := ?vvb19) ?hib19 (by kernel_rfl) (by kernel_rfl) (by kernel_rfl) ?hqb19 ?hyb19 hHeld ?_
            case hib19 => simp only [List.getElem?_toArray, List.getElem?_cons_succ, List.getElem?_cons_zero]; rfl
            case hqb19 => exact fun _ _ _ h => h
            case hyb19 => (refine Or.inl ⟨by rfl, ?_⟩; intro w' hSw; (try dsimp only at hSw); go_simp; (try (with_reducible rfl)))
            simp only [Act.put, List.setIfInBounds_toArray, List.set_cons_zero, List.set_cons_succ]
            refine wpAnyH_take (i := 20) (oi := ?oib20) (v := ?vvb20) ?hib20 (by kernel_rfl) (by kernel_rfl) (by kernel_rfl) ?hqb20 ?hyb20 hHeld ?_
            case hib20 => simp only [List.getElem?_toArray, List.getElem?_cons_succ, List.getElem?_cons_zero]; rfl
            case hqb20 => exact fun _ _ _ h => h
            case hyb20 => (refine Or.inl ⟨by rfl, ?_⟩; intro w' hSw; (try dsimp only at hSw); go_simp; (try (with_reducible rfl)))
            simp only [Act.put, List.setIfInBounds_toArray, List.set_cons_zero, List.set_cons_succ]
            refine wpAnyH_take (i := 21) (oi := ?oib21) (v := ?vvb21) ?hib21 (by kernel_rfl) (by kernel_rfl) (by kernel_rfl) ?hqb21 ?hyb21 hHeld ?_
            case hib21 => simp only [List.getElem?_toArray, List.getElem?_cons_succ, List.getElem?_cons_zero]; rfl
            case hqb21 => exact fun _ _ _ h => h
            case hyb21 => (refine Or.inl ⟨by rfl, ?_⟩; intro w' hSw; (try dsimp only at hSw); go_simp; (try (with_reducible rfl)))
            simp only [Act.put, List.setIfInBounds_toArray, List.set_cons_zero, List.set_cons_succ]
            refine wpAnyH_take (i := 22) (oi := ?oib22) (v := ?vvb22) ?hib22 (by kernel_rfl) (by kernel_rfl) (by kernel_rfl) ?hqb22 ?hyb22 hHeld ?_
            case hib22 => simp only [List.getElem?_toArray, List.getElem?_cons_succ, List.getElem?_cons_zero]; rfl
            case hqb22 => exact fun _ _ _ h => h
            case hyb22 => (refine Or.inl ⟨by rfl, ?_⟩; intro w' hSw; (try dsimp only at hSw); go_simp; (try (with_reducible rfl)))
            simp only [Act.put, List.setIfInBounds_toArray, List.set_cons_zero, List.set_cons_succ]
            refine wpAnyH_take (i := 23) (oi := ?oib23) (v := ?vvb23) ?hib23 (by kernel_rfl) (by kernel_rfl) (by kernel_rfl) ?hqb23 ?hyb23 hHeld ?_
            case hib23 => simp only [List.getElem?_toArray, List.getElem?_cons_succ, List.getElem?_cons_zero]; rfl
            case hqb23 => exact fun _ _ _ h => h
            case hyb23 => (refine Or.inl ⟨by rfl, ?_⟩; intro w' hSw; (try dsimp only at hSw); go_simp; (try (with_reducible rfl)))
            simp only [Act.put, List.setIfInBounds_toArray, List.set_cons_zero, List.set_cons_succ]
            refine wpAnyH_take (i := 24) (oi := ?oib24) (v := ?vvb24) ?hib24 (by kernel_rfl) (by kernel_rfl) (by kernel_rfl) ?hqb24 ?hyb24 hHeld ?_
            case hib24 => simp only [List.getElem?_toArray, List.getElem?_cons_succ, List.getElem?_cons_zero]; rfl
            case hqb24 => exact fun _ _ _ h => h
            case hyb24 => (refine Or.inl ⟨by rfl, ?_⟩; intro w' hSw; (try dsimp only at hSw); go_simp; (try (with_reducible rfl)))
            simp only [Act.put, List.setIfInBounds_toArray, List.set_cons_zero, List.set_cons_succ]
            refine wpAnyH_take (i := 25) (oi := ?oib25) (v := ?vvb25) ?hib25 (by kernel_rfl) (by kernel_rfl) (by kernel_rfl) ?hqb25 ?hyb25 hHeld ?_
            case hib25 => simp only [List.getElem?_toArray, List.getElem?_cons_succ, List.getElem?_cons_zero]; rfl
            case hqb25 => exact fun _ _ _ h => h
            case hyb25 => (refine Or.inl ⟨by rfl, ?_⟩; intro w' hSw; (try dsimp only at hSw); go_simp; (try (with_reducible rfl)))
            simp only [Act.put, List.setIfInBounds_toArray, List.set_cons_zero, List.set_cons_succ]
            refine wpAnyH_take (i := 26) (oi := ?oib26) (v := ?vvb26) ?hib26 (by kernel_rfl) (by kernel_rfl) (by kernel_rfl) ?hqb26 ?hyb26 hHeld ?_
            case hib26 => simp only [List.getElem?_toArray, List.getElem?_cons_succ, List.getElem?_cons_zero]; rfl
            case hqb26 => exact fun _ _ _ h => h
            case hyb26 => (refine Or.inl ⟨by rfl, ?_⟩; intro w' hSw; (try dsimp only at hSw); go_simp; (try (with_reducible rfl)))
            simp only [Act.put, List.setIfInBounds_toArray, List.set_cons_zero, List.set_cons_succ]
            refine wpAnyH_take (i := 27) (oi := ?oib27) (v := ?vvb27) ?hib27 (by kernel_rfl) (by kernel_rfl) (by kernel_rfl) ?hqb27 ?hyb27 hHeld ?_
            case hib27 => simp only [List.getElem?_toArray, List.getElem?_cons_succ, List.getElem?_cons_zero]; rfl
            case hqb27 => exact fun _ _ _ h => h
            case hyb27 => (refine Or.inl ⟨by rfl, ?_⟩; intro w' hSw; (try dsimp only at hSw); go_simp; (try (with_reducible rfl)))
            simp only [Act.put, List.setIfInBounds_toArray, List.set_cons_zero, List.set_cons_succ]
            refine wpAnyH_done (by kernel_rfl) ?_ _
            clear hHeld
            go_wp2
            go_roundw
            case rel =>
              refine ⟨i + 1, by omega, by simp, jw_keep HI.out ?_⟩
              (repeat (first | with_reducible exact Below.refl _ _ | with_reducible refine bel_alloc ?_ _ | with_reducible refine bel_set ?_ (by first | exact Nat.le_refl _ | (simp; done) | (simp; omega)) _ | with_reducible refine Below.drew ?_))
            case measure => simp [intOf]; omega
        · have ie : i = Z := by omega
          have i1 : ¬ (i : Int) < (Z : Int) := by omega
          go_wp2
          go_ret
          exact ⟨rfl, HI.out.2.2.2⟩
    · refine (words_fault b _ (HL.out _ HB2.out).1 (HL.out _ HB2.out).2 (by have := HS.out; omega) eb).mono ?_
      rintro e w3 ⟨⟨pl, pc, _, rfl⟩, hb3⟩
      have HB3 : Hid (Below w.heap.size w (w3.alloc (.cells #[.int .i64 pl, .int .i64 pc] 25))) := bel_alloc (bel_trans HB2.out hb3) _
      clear hb3 HB2 HX2
      go_wp2_with fail
      have ec : ¬ (lexAll c).2 = c.size := by
        have h1 := HC.out.lex ea
        have h2 := HC.out.size
        have h3 := lexAll_end b
        rw [h1, h2]
        show ¬ a.size + 1 + (lexAll b).2 = _
        omega
      refine (words_fault c _ (HL.out _ HB3.out).1 (HL.out _ HB3.out).2 (by have := HS.out; have := HC.out.size; omega) ec).mono ?_
      rintro e w4 ⟨⟨ql, qc, _, rfl⟩, hb4⟩
      go_wp2
      go_ret
      exact ⟨rfl, bel_alloc (bel_trans HB3.out hb4) _⟩
  · refine (words_fault a _ (HL.out _ HB1.out).1 (HL.out _ HB1.out).2 (by have := HS.out; omega) ea).mono ?_
    rintro e w2 ⟨⟨pl, pc, _, rfl⟩, hb2⟩
    have HB2 : Hid (Below w.heap.size w (w2.alloc (.cells #[.int .i64 pl, .int .i64 pc] 25))) := bel_alloc (bel_trans HB1.out hb2) _
    clear hb2 HB1
    go_wp2_with fail
    refine (words_any b _ (HL.out _ HB2.out).1 (HL.out _ HB2.out).2).mono ?_
    rintro e w3 ⟨hb3, h3⟩
    have p0 : w3.cell? ⟨w2.heap.size, 0, none⟩ = some (.int .i64 pl) := keep_cell hb3 (by go_simp)
    have p1 : w3.cell? ⟨w2.heap.size, 1, none⟩ = some (.int .i64 pc) := keep_cell hb3 (by go_simp)
    have n23 : w2.heap.size < w3.heap.size := by have := hb3.size; simp at this; omega
    obtain ⟨v, pl3, pc3, e3, rfl⟩ : ∃ v pl3 pc3 e3, e = .returned (.tuple #[v, .agg #[.int .i64 pl3, .int .i64 pc3], .int .i64 e3]) := by
      split at h3
      · exact ⟨_, _, _, _, h3⟩
      · split at h3
        · exact ⟨_, _, _, _, h3⟩
        · obtain ⟨v, rfl, _⟩ := h3; exact ⟨_, _, _, _, rfl⟩
    have HB3 : Hid (Below w.heap.size w (w3.alloc (.cells #[.int .i64 pl3, .int .i64 pc3] 25))) := bel_alloc (bel_trans HB2.out hb3) _
    clear hb3 HB2 h3
    go_wp2_with fail
    by_cases ec : (lexAll c).2 = c.size
    · refine (words_ok c _ (HL.out _ HB3.out).1 (HL.out _ HB3.out).2 (by have := HS.out; have := HC.out.size; omega) ec).mono ?_
      rintro e w4 ⟨za, zcap, rfl, hz, hb4⟩
      go_wp2
      go_ret
      exact ⟨rfl, bel_alloc (bel_trans HB3.out hb4) _⟩
    · refine (words_fault c _ (HL.out _ HB3.out).1 (HL.out _ HB3.out).2 (by have := HS.out; have := HC.out.size; omega) ec).mono ?_
      rintro e w4 ⟨⟨ql, qc, _, rfl⟩, hb4⟩
      have p2 : w4.cell? ⟨w2.heap.size, 0, none⟩ = some (.int .i64 pl) := keep_cell hb4 (by go_simp)
      have p3 : w4.cell? ⟨w2.heap.size, 1, none⟩ = some (.int .i64 pc) := keep_cell hb4 (by go_simp)
      have n34 : w3.heap.size < w4.heap.size := by have := hb4.size; simp at this; omega
      have n24 : w2.heap.size < w4.heap.size := by omega
      have HB4 : Hid (Below w.heap.size w w4) := bel_trans HB3.out hb4
      clear hb4 HB3 p0 p1
      by_cases h1 : (pl : Int) = (ql : Int)
      · by_cases h2 : (pc : Int) = (qc : Int)
        · rw [← h1, ← h2]
          go_wp2
          go_ret
          exact ⟨rfl, bel_alloc HB4.out _⟩
        · have h3 : ((pc : Int) == (qc : Int)) = false := by simpa using h2
          rw [← h1]
          go_wp2
          go_ret
          exact ⟨rfl, bel_alloc HB4.out _⟩
      · have h3 : ((pl : Int) == (ql : Int)) = false := by simpa using h1
        go_wp2
        go_ret
        exact ⟨rfl, bel_alloc HB4.out _⟩

set_option maxRecDepth 100000 in
theorem lexJoins_lifted (os : Os) (started : os.Started) (H : Type) (enc : TypeId × Value → H) :
    ReturnsInHanded {} Tryd.checked os 7 .any (fun w args => (Rows.lexJoinsSpec.pre enc Tryd.prog Tryd.f7 [] false w args ∧ laidMetH Tryd.prog laid7 w) ∧ sizedMet enc Tryd.prog Tryd.f7 (OpenSpec.ofChange Rows.lexJoinsSpec) false w args)
      (Rows.lexJoinsSpec.post enc Tryd.prog Tryd.f7 false true false false) := by
  refine returnsInHanded_of_change_and (C := Tryd.checked) (X := fun w _ => laidMetH Tryd.prog laid7 w) (fun _ _ _ hh h => h.of_heap hh) own started (by kernel_rfl) Tryd.func7
    (ChangeSpec.witness_shaped (enc := enc) (C := Tryd.checked) (os := os) (X := fun w _ => laidMetH Tryd.prog laid7 w) false (World.doorLaid Tryd.prog 400 os) #[.string ⟨#[]⟩, .string ⟨#[]⟩] 8 rfl (World.shaped_of_RefB (by kernel_rfl) (by kernel_rfl)) (by kernel_rfl) (by kernel_rfl) (by kernel_rfl) (door_met os _)) ?_
  intro W base args ds gs before hval0 hW _ _ hL _
  have hval : ∀ (j : Nat) t v, Tryd.f7.params[j]? = some t → args[j]? = some v → Value.okWide Tryd.prog W .any base t v := hval0
  have hW' := hW
  obtain ⟨p, q, hA0, hV, rfl, hfz, hnd⟩ := hW
  have hA : DataW.TrodAll enc Tryd.prog W 0 (fun _ => true) true Tryd.f7.params.toList args.toList ds p := hA0
  rw [Tryd.params7] at hA hval
  obtain ⟨v0, vs0, d0, ds0, p0, q0, hargs, rfl, rfl, h0, r0⟩ := trodAll_cons hA
  obtain ⟨v1, vs1, d1, ds1, p1, q1, rfl, rfl, rfl, h1, r1⟩ := trodAll_cons r0
  obtain ⟨rfl, rfl, rfl⟩ := trodAll_nil r1
  obtain rfl : args = #[v0, v1] := by cases args; simp_all
  obtain ⟨rfl, rfl⟩ := trodVars_none hV
  obtain ⟨t0, rfl, rfl, rfl, hsz0⟩ := Go.ChangeMaps.open_string Tryd.underlying9 (hval 0 9 v0 rfl rfl) h0
  obtain ⟨t1, rfl, rfl, rfl, hsz1⟩ := Go.ChangeMaps.open_string Tryd.underlying9 (hval 1 9 v1 rfl rfl) h1
  clear hA0 hval0
  simp only [List.append_nil] at hW'
  refine (lexJoins_walk t0 t1 W (tabs_of_laid hL).1 (tabs_of_laid hL).2).mono fun e W' ⟨he, hb⟩ => ?_
  subst he
  exact ⟨_, rfl, _, _, _, [], _, [], hW', (trodAll_cons_mk (shut_bool Tryd.underlying4 _) trodAll_mk0), (trodAll_cons_mk (Go.ChangeMaps.shut_string Tryd.underlying9 hsz0) (trodAll_cons_mk (Go.ChangeMaps.shut_string Tryd.underlying9 hsz1) trodAll_mk0)), rfl, hb.frame _, fun h => by cases h⟩

theorem lexJoins_row : Rows.LexJoinsSaid :=
  OpenClaim.holds_of_wide 7 Tryd.f7 rfl rfl rfl rfl rfl rfl rfl ⟨rfl, rfl, rfl, rfl, rfl⟩ rfl rfl rfl rfl rfl (by kernel_rfl) Tryd.func7 (by kernel_rfl)
    (of_decide_eq_true (by kernel_rfl)) (by unfold Func.isWrapper; first | (rw [if_pos (by decide +kernel)]; kernel_rfl) | (rw [if_neg (by decide +kernel)]; exact ⟨rfl, rfl⟩))
    (fun os started H enc _ => lexJoins_lifted os started H enc)

/-- THE STATEMENT. -/
theorem lexJoins_holds : Rows.LexJoinsCardSaid :=
  Claim7.holds_tied_plain_at .later [] [.data, .data, .data, .sentinel, .sentinel, .data, .data] true (true, "a2661baaf88c53e237696182aad5fe305074b58c818a1835c7059ad1bd0741a2") true
    lexJoins_row (fun _ h => by cases h) (by kernel_rfl) (fun _ h => by cases h) lexJoins_row_tie rfl ⟨rfl, rfl⟩ (by kernel_rfl) rfl
    (fun f fn hf hfn => by
      obtain rfl : f = 7 := Option.some.inj ((show Tryd.prog.funcNamed "plumbob/plumboblaw4.LexJoins" = some 7 by kernel_rfl).symm.trans hf) |>.symm
      obtain rfl : fn = Tryd.f7 := (Option.some.inj (Tryd.func7.symm.trans hfn)).symm
      exact ⟨by kernel_rfl, fun j t ht => by
        rw [Tryd.params7] at ht
        have hm : t ∈ [9, 9] := by simpa using Array.mem_of_getElem? ht
        have hall : ([9, 9].all fun u => !Tryd.prog.wantsStandIn u) = true := by kernel_rfl
        exact (show Tryd.prog.wantsStandIn t = false by simpa using List.all_eq_true.1 hall t hm)⟩)
    (by kernel_rfl)
#print axioms lexJoins_holds

end Go.Proofs.YtabkaiaajghafaaDoor
