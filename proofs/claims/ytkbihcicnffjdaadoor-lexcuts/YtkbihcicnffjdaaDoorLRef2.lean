/- The document's own lexer: contract of mark. -/
import Derived.Test.YtkbihcicnffjdaaDoorLRef1
namespace Go.Proofs.YtkbihcicnffjdaaDoor
open Go.ChangeShapes Go.WideShapes Go.ChangeAt Go.RowKit
set_option linter.unusedSimpArgs false
set_option linter.unusedVariables false

def markP (t : ByteArray) : ByteArray := (markR t).getD ⟨#[]⟩
theorem find_at {α : Type} (p : α → Bool) : ∀ (l : List α) (n : Nat) (x : α), l[n]? = some x → p x = true → (∀ k y, k < n → l[k]? = some y → p y = false) → l.find? p = some x
  | [], n, x, h, _, _ => by simp at h
  | a :: l, 0, x, h, hp, _ => by
    simp at h
    subst h
    rw [List.find?_cons, hp]
  | a :: l, n + 1, x, h, hp, hk => by
    rw [List.find?_cons, hk 0 a (by omega) rfl]
    exact find_at p l n x (by simpa using h) hp (fun k y h1 h2 => hk (k + 1) y (by omega) (by simpa using h2))
def isPre (t m : ByteArray) : Bool := Lib.hasPrefix t.data.toList m.data.toList
theorem mark_hit (t : ByteArray) (n : Nat) (m : ByteArray) (h : mkList[n]? = some m) (hp : isPre t m = true) (hk : ∀ k y, k < n → mkList[k]? = some y → isPre t y = false) : markP t = m := by
  have := find_at (isPre t) mkList n m h hp hk
  unfold markP
  rw [show markR t = some m from this]
  rfl
theorem mark_none (t : ByteArray) (hk : ∀ k y, k < 31 → mkList[k]? = some y → isPre t y = false) : markP t = ⟨#[]⟩ := by
  have : mkList.find? (isPre t) = none := by
    rw [List.find?_eq_none]
    intro m hm
    obtain ⟨j, hj, rfl⟩ := List.getElem_of_mem hm
    have hl : mkList.length = 31 := rfl
    have := hk j _ (by omega) (List.getElem?_eq_getElem hj)
    simp [this]
  unfold markP
  rw [show markR t = none from this]
  rfl
theorem pre2 (t m : ByteArray) (h2 : m.size = 2) : isPre t m = (decide (2 ≤ t.size) && ((t.extract 0 2).toList == m.toList)) := by
  rw [ByteArray.toList_eq, ByteArray.toList_eq, ext_list, List.drop_zero, Nat.sub_zero, Bool.eq_iff_iff]
  unfold isPre Lib.hasPrefix
  rw [List.isPrefixOf_iff_prefix]
  simp only [Bool.and_eq_true, decide_eq_true_eq, beq_iff_eq]
  constructor
  · rintro ⟨r, hr⟩
    have h3 := congrArg List.length hr
    simp only [List.length_append, size_list] at h3
    refine ⟨by omega, ?_⟩
    rw [← hr]
    exact List.take_left' (by rw [size_list]; exact h2)
  · rintro ⟨_, h⟩
    exact ⟨t.data.toList.drop 2, by rw [← h, List.take_append_drop]⟩
theorem pre1 (t m : ByteArray) (b : UInt8) (hm : m.data.toList = [b]) (ht : 0 < t.size) : isPre t m = (byteAt t 0 == (b.toNat : Int)) := by
  unfold isPre Lib.hasPrefix byteAt
  rw [hm]
  cases hl : t.data.toList with
  | nil => have h5 : t.size = 0 := (by rw [← size_list, hl]; rfl); omega
  | cons a l =>
    simp only [List.isPrefixOf, List.getElem?_cons_zero, Option.map_some, Option.getD_some, Bool.and_true]
    rw [Bool.eq_iff_iff]
    simp only [beq_iff_eq]
    constructor
    · intro h; rw [h]
    · intro h; exact UInt8.toNat_inj.1 (by omega)
def oneB : ByteArray := ⟨#[40, 41, 123, 125, 91, 93, 59, 44, 46, 61, 60, 62, 43, 45, 42, 47, 37, 38, 124, 94, 126, 33]⟩
theorem one_is : ∀ i : Fin 22, mkList[9 + i.val]? = some ⟨#[(oneB.data.toList)[i.val]?.getD 0]⟩ := by decide
theorem two_size : ∀ i : Fin 9, ∃ m, mkList[i.val]? = some m ∧ m.size = 2 := by
  intro i
  match i with
  | 0 => exact ⟨_, rfl, rfl⟩
  | 1 => exact ⟨_, rfl, rfl⟩
  | 2 => exact ⟨_, rfl, rfl⟩
  | 3 => exact ⟨_, rfl, rfl⟩
  | 4 => exact ⟨_, rfl, rfl⟩
  | 5 => exact ⟨_, rfl, rfl⟩
  | 6 => exact ⟨_, rfl, rfl⟩
  | 7 => exact ⟨_, rfl, rfl⟩
  | 8 => exact ⟨_, rfl, rfl⟩
theorem take1 (t : ByteArray) (b : UInt8) (ht : 0 < t.size) (hb : byteAt t 0 = (b.toNat : Int)) : t.extract 0 1 = ⟨#[b]⟩ := by
  apply bytes_ext
  rw [ext_list]
  unfold byteAt at hb
  cases hl : t.data.toList with
  | nil => have h5 : t.size = 0 := (by rw [← size_list, hl]; rfl); omega
  | cons a l =>
    rw [hl] at hb
    simp at hb ⊢
    exact UInt8.toNat_inj.1 (by omega)
set_option maxHeartbeats 4000000 in
set_option maxRecDepth 100000 in
theorem mark_any (t : ByteArray) (w : World) (ht : 0 < t.size) (hs : t.size ≤ 65536) : Calls Tryd.prog 19 #[.string t] w (retP (.string (markP t)) w) := by
  have HG : Hid (∀ (i : Nat) (m : ByteArray), i < 9 → mkList[i]? = some m → (w.alloc (.cells #[.string ⟨#[45, 62]⟩, .string ⟨#[61, 61]⟩, .string ⟨#[33, 61]⟩, .string ⟨#[60, 61]⟩, .string ⟨#[62, 61]⟩, .string ⟨#[60, 60]⟩, .string ⟨#[62, 62]⟩, .string ⟨#[38, 38]⟩, .string ⟨#[124, 124]⟩] 9)).cell? ⟨w.heap.size, i, none⟩ = some (.string m)) := fun i m hi hm => by
    refine heap_cell (World.alloc_heap_new w (.cells #[.string ⟨#[45, 62]⟩, .string ⟨#[61, 61]⟩, .string ⟨#[33, 61]⟩, .string ⟨#[60, 61]⟩, .string ⟨#[62, 61]⟩, .string ⟨#[60, 60]⟩, .string ⟨#[62, 62]⟩, .string ⟨#[38, 38]⟩, .string ⟨#[124, 124]⟩] 9)) ?_
    have hk : (mkList.take 9).map Value.string = [.string ⟨#[45, 62]⟩, .string ⟨#[61, 61]⟩, .string ⟨#[33, 61]⟩, .string ⟨#[60, 61]⟩, .string ⟨#[62, 61]⟩, .string ⟨#[60, 60]⟩, .string ⟨#[62, 62]⟩, .string ⟨#[38, 38]⟩, .string ⟨#[124, 124]⟩] := rfl
    have h1 := congrArg (fun l => l[i]?) hk
    simp only [List.getElem?_map, List.getElem?_take, if_pos hi, hm, Option.map_some] at h1
    rw [List.getElem?_toArray]
    exact h1.symm
  have HB : Hid (Below w.heap.size w (w.alloc (.cells #[.string ⟨#[45, 62]⟩, .string ⟨#[61, 61]⟩, .string ⟨#[33, 61]⟩, .string ⟨#[60, 61]⟩, .string ⟨#[62, 61]⟩, .string ⟨#[60, 60]⟩, .string ⟨#[62, 62]⟩, .string ⟨#[38, 38]⟩, .string ⟨#[124, 124]⟩] 9))) := (Below.refl _ _).alloc (Nat.le_refl _) _
  have HT : Hid (0 < t.size) := ht
  have t0 : (0 : Int) < (t.size : Int) := by omega
  have t1 : (t.size : Int) ≤ 65536 := by omega
  have ix0 : ∀ W, (Instr.index 9 (.string t) (.int .i64 (0 : Int))).run Tryd.prog W = .ok (.int .u8 (byteAt t 0)) W := fun W => index_byte t 0 ht W
  clear ht hs
  go_enter Tryd.func19, Tryd.ntmps19
  go_wp2
  obtain ⟨W0, hW0⟩ : ∃ W0, w.alloc (.cells #[.string ⟨#[45, 62]⟩, .string ⟨#[61, 61]⟩, .string ⟨#[33, 61]⟩, .string ⟨#[60, 61]⟩, .string ⟨#[62, 61]⟩, .string ⟨#[60, 60]⟩, .string ⟨#[62, 62]⟩, .string ⟨#[38, 38]⟩, .string ⟨#[124, 124]⟩] 9) = W0 := ⟨_, rfl⟩
  rw [hW0] at HG HB ⊢
  clear hW0
  go_loopw [4] (fun v wr => ∃ i : Nat, i ≤ 9 ∧ v = .int .i64 i ∧ Hid ((∀ k y, k < i → mkList[k]? = some y → isPre t y = false) ∧ (∀ (i : Nat) (m : ByteArray), i < 9 → mkList[i]? = some m → wr.cell? ⟨w.heap.size, i, none⟩ = some (.string m)) ∧ Below w.heap.size w wr)) (fun v _ => 9 - (intOf v).toNat)
  case atStart => exact ⟨0, by omega, rfl, ⟨fun k y h => absurd h (by omega), HG.out, HB.out⟩⟩
  case round =>
    obtain ⟨i, hi, rfl, HK⟩ := hrel
    clear HG HB
    by_cases hin : i < 9
    · have i0 : (0 : Int) ≤ i := by omega
      have i1 : (i : Int) < 9 := by omega
      obtain ⟨m, hm, hm2⟩ := two_size ⟨i, hin⟩
      have hm' : mkList[i]? = some m := hm
      have cm := HK.out.2.1 i m hin hm'
      have HP : Hid (isPre t m = (decide (2 ≤ t.size) && ((t.extract 0 2).toList == m.toList))) := pre2 t m hm2
      have HM : Hid (mkList[i]? = some m) := hm'
      clear hm hm2 hm'
      by_cases h2 : 2 ≤ t.size
      · have g1 : decide ((2 : Int) ≤ (t.size : Int)) = true := by simp; omega
        have sx : ∀ W, (Instr.slice 9 (.string t) none (some (.int .i64 2)) none).run Tryd.prog W = .ok (.string (t.extract 0 2)) W := fun W => by
          rw [run_slice_string_to_if W 9 t .i64 _ Tryd.underlying9, if_pos ⟨by omega, by omega⟩]
          rfl
        by_cases he : ((t.extract 0 2).toList == m.toList) = true
        · have HH : Hid (markP t = m) := mark_hit t i m HM.out (by rw [HP.out, he, decide_eq_true h2]; rfl) HK.out.1
          clear h2
          go_wp2_with fail
          refine wp_region_held_drew (S := (fun w' => w'.cell? ⟨w.heap.size, i, none⟩ = some (.string m))) (by kernel_rfl) (cm) (fun hHeld => ?_)
          refine wpAnyH_take (i := 0) (oi := ?oia0) (v := ?vva0) ?hia0 (by kernel_rfl) (by kernel_rfl) (by kernel_rfl) ?hqa0 ?hya0 hHeld ?_
          case hia0 => simp only [List.getElem?_toArray, List.getElem?_cons_succ, List.getElem?_cons_zero]; rfl
          case hqa0 => exact fun _ _ _ h => h
          case hya0 => (refine Or.inl ⟨by rfl, ?_⟩; intro w' hSw; (try dsimp only at hSw); go_simp; (try (with_reducible rfl)))
          simp only [Act.put, List.setIfInBounds_toArray, List.set_cons_zero, List.set_cons_succ]
          refine wpAnyH_take (i := 1) (oi := ?oia1) (v := ?vva1) ?hia1 (by kernel_rfl) (by kernel_rfl) (by kernel_rfl) ?hqa1 ?hya1 hHeld ?_
          case hia1 => simp only [List.getElem?_toArray, List.getElem?_cons_succ, List.getElem?_cons_zero]; rfl
          case hqa1 => exact fun _ _ _ h => h
          case hya1 => (refine Or.inl ⟨by rfl, ?_⟩; intro w' hSw; (try dsimp only at hSw); go_simp; (try (with_reducible rfl)))
          simp only [Act.put, List.setIfInBounds_toArray, List.set_cons_zero, List.set_cons_succ]
          refine wpAnyH_take (i := 2) (oi := ?oia2) (v := ?vva2) ?hia2 (by kernel_rfl) (by kernel_rfl) (by kernel_rfl) ?hqa2 ?hya2 hHeld ?_
          case hia2 => simp only [List.getElem?_toArray, List.getElem?_cons_succ, List.getElem?_cons_zero]; rfl
          case hqa2 => exact fun _ _ _ h => h
          case hya2 => (refine Or.inl ⟨by rfl, ?_⟩; intro w' hSw; (try dsimp only at hSw); go_simp; (try (with_reducible rfl)))
          simp only [Act.put, List.setIfInBounds_toArray, List.set_cons_zero, List.set_cons_succ]
          refine wpAnyH_take (i := 3) (oi := ?oia3) (v := ?vva3) ?hia3 (by kernel_rfl) (by kernel_rfl) (by kernel_rfl) ?hqa3 ?hya3 hHeld ?_
          case hia3 => simp only [List.getElem?_toArray, List.getElem?_cons_succ, List.getElem?_cons_zero]; rfl
          case hqa3 => exact fun _ _ _ h => h
          case hya3 => (refine Or.inl ⟨by rfl, ?_⟩; intro w' hSw; (try dsimp only at hSw); go_simp; (try (with_reducible rfl)))
          simp only [Act.put, List.setIfInBounds_toArray, List.set_cons_zero, List.set_cons_succ]
          refine wpAnyH_take (i := 4) (oi := ?oia4) (v := ?vva4) ?hia4 (by kernel_rfl) (by kernel_rfl) (by kernel_rfl) ?hqa4 ?hya4 hHeld ?_
          case hia4 => simp only [List.getElem?_toArray, List.getElem?_cons_succ, List.getElem?_cons_zero]; rfl
          case hqa4 => exact fun _ _ _ h => h
          case hya4 => (refine Or.inl ⟨by rfl, ?_⟩; intro w' hSw; (try dsimp only at hSw); go_simp; (try (with_reducible rfl)))
          simp only [Act.put, List.setIfInBounds_toArray, List.set_cons_zero, List.set_cons_succ]
          refine wpAnyH_take (i := 5) (oi := ?oia5) (v := ?vva5) ?hia5 (by kernel_rfl) (by kernel_rfl) (by kernel_rfl) ?hqa5 ?hya5 hHeld ?_
          case hia5 => simp only [List.getElem?_toArray, List.getElem?_cons_succ, List.getElem?_cons_zero]; rfl
          case hqa5 => exact fun _ _ _ h => h
          case hya5 => (refine Or.inl ⟨by rfl, ?_⟩; intro w' hSw; (try dsimp only at hSw); go_simp; (try (with_reducible rfl)))
          simp only [Act.put, List.setIfInBounds_toArray, List.set_cons_zero, List.set_cons_succ]
          refine wpAnyH_take (i := 6) (oi := ?oia6) (v := ?vva6) ?hia6 (by kernel_rfl) (by kernel_rfl) (by kernel_rfl) ?hqa6 ?hya6 hHeld ?_
          case hia6 => simp only [List.getElem?_toArray, List.getElem?_cons_succ, List.getElem?_cons_zero]; rfl
          case hqa6 => exact fun _ _ _ h => h
          case hya6 => (refine Or.inl ⟨by rfl, ?_⟩; intro w' hSw; (try dsimp only at hSw); go_simp; (try (with_reducible rfl)))
          simp only [Act.put, List.setIfInBounds_toArray, List.set_cons_zero, List.set_cons_succ]
          refine wpAnyH_take (i := 7) (oi := ?oia7) (v := ?vva7) ?hia7 (by kernel_rfl) (by kernel_rfl) (by kernel_rfl) ?hqa7 ?hya7 hHeld ?_
          case hia7 => simp only [List.getElem?_toArray, List.getElem?_cons_succ, List.getElem?_cons_zero]; rfl
          case hqa7 => exact fun _ _ _ h => h
          case hya7 => (refine Or.inl ⟨by rfl, ?_⟩; intro w' hSw; (try dsimp only at hSw); go_simp; (try (with_reducible rfl)))
          simp only [Act.put, List.setIfInBounds_toArray, List.set_cons_zero, List.set_cons_succ]
          refine wpAnyH_take (i := 8) (oi := ?oia8) (v := ?vva8) ?hia8 (by kernel_rfl) (by kernel_rfl) (by kernel_rfl) ?hqa8 ?hya8 hHeld ?_
          case hia8 => simp only [List.getElem?_toArray, List.getElem?_cons_succ, List.getElem?_cons_zero]; rfl
          case hqa8 => exact fun _ _ _ h => h
          case hya8 => (refine Or.inl ⟨by rfl, ?_⟩; intro w' hSw; (try dsimp only at hSw); go_simp; (try (with_reducible rfl)))
          simp only [Act.put, List.setIfInBounds_toArray, List.set_cons_zero, List.set_cons_succ]
          refine wpAnyH_take (i := 9) (oi := ?oia9) (v := ?vva9) ?hia9 (by kernel_rfl) (by kernel_rfl) (by kernel_rfl) ?hqa9 ?hya9 hHeld ?_
          case hia9 => simp only [List.getElem?_toArray, List.getElem?_cons_succ, List.getElem?_cons_zero]; rfl
          case hqa9 => exact fun _ _ _ h => h
          case hya9 => (refine Or.inl ⟨by rfl, ?_⟩; intro w' hSw; (try dsimp only at hSw); go_simp; (try (with_reducible rfl)))
          simp only [Act.put, List.setIfInBounds_toArray, List.set_cons_zero, List.set_cons_succ]
          refine wpAnyH_take (i := 10) (oi := ?oia10) (v := ?vva10) ?hia10 (by kernel_rfl) (by kernel_rfl) (by kernel_rfl) ?hqa10 ?hya10 hHeld ?_
          case hia10 => simp only [List.getElem?_toArray, List.getElem?_cons_succ, List.getElem?_cons_zero]; rfl
          case hqa10 => exact fun _ _ _ h => h
          case hya10 => (refine Or.inl ⟨by rfl, ?_⟩; intro w' hSw; (try dsimp only at hSw); go_simp; (try (with_reducible rfl)))
          simp only [Act.put, List.setIfInBounds_toArray, List.set_cons_zero, List.set_cons_succ]
          refine wpAnyH_take (i := 11) (oi := ?oia11) (v := ?vva11) ?hia11 (by kernel_rfl) (by kernel_rfl) (by kernel_rfl) ?hqa11 ?hya11 hHeld ?_
          case hia11 => simp only [List.getElem?_toArray, List.getElem?_cons_succ, List.getElem?_cons_zero]; rfl
          case hqa11 => exact fun _ _ _ h => h
          case hya11 => (refine Or.inl ⟨by rfl, ?_⟩; intro w' hSw; (try dsimp only at hSw); go_simp; (try (with_reducible rfl)))
          simp only [Act.put, List.setIfInBounds_toArray, List.set_cons_zero, List.set_cons_succ]
          refine wpAnyH_done (by kernel_rfl) ?_ _
          clear hHeld
          go_wp2
          go_ret
          exact ⟨by rw [HH.out]; rfl, HK.out.2.2.drew⟩
        · have he' : ((t.extract 0 2).toList == m.toList) = false := by simpa using he
          have HN : Hid (∀ k y, k < i + 1 → mkList[k]? = some y → isPre t y = false) := fun k y h1 h3 => by
            by_cases e : k = i
            · subst e
              rw [HM.out] at h3
              cases h3
              rw [HP.out, he']
              simp
            · exact HK.out.1 k y (by omega) h3
          clear he h2
          go_wp2_with fail
          refine wp_region_held_drew (S := (fun w' => w'.cell? ⟨w.heap.size, i, none⟩ = some (.string m))) (by kernel_rfl) (cm) (fun hHeld => ?_)
          refine wpAnyH_take (i := 0) (oi := ?oib0) (v := ?vvb0) ?hib0 (by kernel_rfl) (by kernel_rfl) (by kernel_rfl) ?hqb0 ?hyb0 hHeld ?_
          case hib0 => simp only [List.getElem?_toArray, List.getElem?_cons_succ, List.getElem?_cons_zero]; rfl
          case hqb0 => exact fun _ _ _ h => h
          case hyb0 => (refine Or.inl ⟨by rfl, ?_⟩; intro w' hSw; (try dsimp only at hSw); go_simp; (try (with_reducible rfl)))
          simp only [Act.put, List.setIfInBounds_toArray, List.set_cons_zero, List.set_cons_succ]
          refine wpAnyH_take (i := 1) (oi := ?oib1) (v := ?vvb1) ?hib1 (by kernel_rfl) (by kernel_rfl) (by kernel_rfl) ?hqb1 ?hyb1 hHeld ?_
          case hib1 => simp only [List.getElem?_toArray, List.getElem?_cons_succ, List.getElem?_cons_zero]; rfl
          case hqb1 => exact fun _ _ _ h => h
          case hyb1 => (refine Or.inl ⟨by rfl, ?_⟩; intro w' hSw; (try dsimp only at hSw); go_simp; (try (with_reducible rfl)))
          simp only [Act.put, List.setIfInBounds_toArray, List.set_cons_zero, List.set_cons_succ]
          refine wpAnyH_take (i := 2) (oi := ?oib2) (v := ?vvb2) ?hib2 (by kernel_rfl) (by kernel_rfl) (by kernel_rfl) ?hqb2 ?hyb2 hHeld ?_
          case hib2 => simp only [List.getElem?_toArray, List.getElem?_cons_succ, List.getElem?_cons_zero]; rfl
          case hqb2 => exact fun _ _ _ h => h
          case hyb2 => (refine Or.inl ⟨by rfl, ?_⟩; intro w' hSw; (try dsimp only at hSw); go_simp; (try (with_reducible rfl)))
          simp only [Act.put, List.setIfInBounds_toArray, List.set_cons_zero, List.set_cons_succ]
          refine wpAnyH_take (i := 3) (oi := ?oib3) (v := ?vvb3) ?hib3 (by kernel_rfl) (by kernel_rfl) (by kernel_rfl) ?hqb3 ?hyb3 hHeld ?_
          case hib3 => simp only [List.getElem?_toArray, List.getElem?_cons_succ, List.getElem?_cons_zero]; rfl
          case hqb3 => exact fun _ _ _ h => h
          case hyb3 => (refine Or.inl ⟨by rfl, ?_⟩; intro w' hSw; (try dsimp only at hSw); go_simp; (try (with_reducible rfl)))
          simp only [Act.put, List.setIfInBounds_toArray, List.set_cons_zero, List.set_cons_succ]
          refine wpAnyH_take (i := 4) (oi := ?oib4) (v := ?vvb4) ?hib4 (by kernel_rfl) (by kernel_rfl) (by kernel_rfl) ?hqb4 ?hyb4 hHeld ?_
          case hib4 => simp only [List.getElem?_toArray, List.getElem?_cons_succ, List.getElem?_cons_zero]; rfl
          case hqb4 => exact fun _ _ _ h => h
          case hyb4 => (refine Or.inl ⟨by rfl, ?_⟩; intro w' hSw; (try dsimp only at hSw); go_simp; (try (with_reducible rfl)))
          simp only [Act.put, List.setIfInBounds_toArray, List.set_cons_zero, List.set_cons_succ]
          refine wpAnyH_take (i := 5) (oi := ?oib5) (v := ?vvb5) ?hib5 (by kernel_rfl) (by kernel_rfl) (by kernel_rfl) ?hqb5 ?hyb5 hHeld ?_
          case hib5 => simp only [List.getElem?_toArray, List.getElem?_cons_succ, List.getElem?_cons_zero]; rfl
          case hqb5 => exact fun _ _ _ h => h
          case hyb5 => (refine Or.inl ⟨by rfl, ?_⟩; intro w' hSw; (try dsimp only at hSw); go_simp; (try (with_reducible rfl)))
          simp only [Act.put, List.setIfInBounds_toArray, List.set_cons_zero, List.set_cons_succ]
          refine wpAnyH_take (i := 6) (oi := ?oib6) (v := ?vvb6) ?hib6 (by kernel_rfl) (by kernel_rfl) (by kernel_rfl) ?hqb6 ?hyb6 hHeld ?_
          case hib6 => simp only [List.getElem?_toArray, List.getElem?_cons_succ, List.getElem?_cons_zero]; rfl
          case hqb6 => exact fun _ _ _ h => h
          case hyb6 => (refine Or.inl ⟨by rfl, ?_⟩; intro w' hSw; (try dsimp only at hSw); go_simp; (try (with_reducible rfl)))
          simp only [Act.put, List.setIfInBounds_toArray, List.set_cons_zero, List.set_cons_succ]
          refine wpAnyH_take (i := 7) (oi := ?oib7) (v := ?vvb7) ?hib7 (by kernel_rfl) (by kernel_rfl) (by kernel_rfl) ?hqb7 ?hyb7 hHeld ?_
          case hib7 => simp only [List.getElem?_toArray, List.getElem?_cons_succ, List.getElem?_cons_zero]; rfl
          case hqb7 => exact fun _ _ _ h => h
          case hyb7 => (refine Or.inl ⟨by rfl, ?_⟩; intro w' hSw; (try dsimp only at hSw); go_simp; (try (with_reducible rfl)))
          simp only [Act.put, List.setIfInBounds_toArray, List.set_cons_zero, List.set_cons_succ]
          refine wpAnyH_take (i := 8) (oi := ?oib8) (v := ?vvb8) ?hib8 (by kernel_rfl) (by kernel_rfl) (by kernel_rfl) ?hqb8 ?hyb8 hHeld ?_
          case hib8 => simp only [List.getElem?_toArray, List.getElem?_cons_succ, List.getElem?_cons_zero]; rfl
          case hqb8 => exact fun _ _ _ h => h
          case hyb8 => (refine Or.inl ⟨by rfl, ?_⟩; intro w' hSw; (try dsimp only at hSw); go_simp; (try (with_reducible rfl)))
          simp only [Act.put, List.setIfInBounds_toArray, List.set_cons_zero, List.set_cons_succ]
          refine wpAnyH_take (i := 9) (oi := ?oib9) (v := ?vvb9) ?hib9 (by kernel_rfl) (by kernel_rfl) (by kernel_rfl) ?hqb9 ?hyb9 hHeld ?_
          case hib9 => simp only [List.getElem?_toArray, List.getElem?_cons_succ, List.getElem?_cons_zero]; rfl
          case hqb9 => exact fun _ _ _ h => h
          case hyb9 => (refine Or.inl ⟨by rfl, ?_⟩; intro w' hSw; (try dsimp only at hSw); go_simp; (try (with_reducible rfl)))
          simp only [Act.put, List.setIfInBounds_toArray, List.set_cons_zero, List.set_cons_succ]
          refine wpAnyH_take (i := 10) (oi := ?oib10) (v := ?vvb10) ?hib10 (by kernel_rfl) (by kernel_rfl) (by kernel_rfl) ?hqb10 ?hyb10 hHeld ?_
          case hib10 => simp only [List.getElem?_toArray, List.getElem?_cons_succ, List.getElem?_cons_zero]; rfl
          case hqb10 => exact fun _ _ _ h => h
          case hyb10 => (refine Or.inl ⟨by rfl, ?_⟩; intro w' hSw; (try dsimp only at hSw); go_simp; (try (with_reducible rfl)))
          simp only [Act.put, List.setIfInBounds_toArray, List.set_cons_zero, List.set_cons_succ]
          refine wpAnyH_take (i := 11) (oi := ?oib11) (v := ?vvb11) ?hib11 (by kernel_rfl) (by kernel_rfl) (by kernel_rfl) ?hqb11 ?hyb11 hHeld ?_
          case hib11 => simp only [List.getElem?_toArray, List.getElem?_cons_succ, List.getElem?_cons_zero]; rfl
          case hqb11 => exact fun _ _ _ h => h
          case hyb11 => (refine Or.inl ⟨by rfl, ?_⟩; intro w' hSw; (try dsimp only at hSw); go_simp; (try (with_reducible rfl)))
          simp only [Act.put, List.setIfInBounds_toArray, List.set_cons_zero, List.set_cons_succ]
          refine wpAnyH_done (by kernel_rfl) ?_ _
          clear hHeld
          go_wp2
          go_roundw
          case rel => exact ⟨i + 1, by omega, by simp, ⟨HN.out, HK.out.2.1, HK.out.2.2.drew⟩⟩
          case measure => simp [intOf]; omega
      · have g1 : decide ((2 : Int) ≤ (t.size : Int)) = false := by simp; omega
        have HN : Hid (∀ k y, k < i + 1 → mkList[k]? = some y → isPre t y = false) := fun k y h1 h3 => by
          by_cases e : k = i
          · subst e
            rw [HM.out] at h3
            cases h3
            rw [HP.out, decide_eq_false h2]
            rfl
          · exact HK.out.1 k y (by omega) h3
        clear h2
        go_wp2_with fail
        refine wp_region_held_drew (S := (fun w' => w'.cell? ⟨w.heap.size, i, none⟩ = some (.string m))) (by kernel_rfl) (cm) (fun hHeld => ?_)
        refine wpAnyH_take (i := 0) (oi := ?oic0) (v := ?vvc0) ?hic0 (by kernel_rfl) (by kernel_rfl) (by kernel_rfl) ?hqc0 ?hyc0 hHeld ?_
        case hic0 => simp only [List.getElem?_toArray, List.getElem?_cons_succ, List.getElem?_cons_zero]; rfl
        case hqc0 => exact fun _ _ _ h => h
        case hyc0 => (refine Or.inl ⟨by rfl, ?_⟩; intro w' hSw; (try dsimp only at hSw); go_simp; (try (with_reducible rfl)))
        simp only [Act.put, List.setIfInBounds_toArray, List.set_cons_zero, List.set_cons_succ]
        refine wpAnyH_take (i := 1) (oi := ?oic1) (v := ?vvc1) ?hic1 (by kernel_rfl) (by kernel_rfl) (by kernel_rfl) ?hqc1 ?hyc1 hHeld ?_
        case hic1 => simp only [List.getElem?_toArray, List.getElem?_cons_succ, List.getElem?_cons_zero]; rfl
        case hqc1 => exact fun _ _ _ h => h
        case hyc1 => (refine Or.inl ⟨by rfl, ?_⟩; intro w' hSw; (try dsimp only at hSw); go_simp; (try (with_reducible rfl)))
        simp only [Act.put, List.setIfInBounds_toArray, List.set_cons_zero, List.set_cons_succ]
        refine wpAnyH_take (i := 2) (oi := ?oic2) (v := ?vvc2) ?hic2 (by kernel_rfl) (by kernel_rfl) (by kernel_rfl) ?hqc2 ?hyc2 hHeld ?_
        case hic2 => simp only [List.getElem?_toArray, List.getElem?_cons_succ, List.getElem?_cons_zero]; rfl
        case hqc2 => exact fun _ _ _ h => h
        case hyc2 => (refine Or.inl ⟨by rfl, ?_⟩; intro w' hSw; (try dsimp only at hSw); go_simp; (try (with_reducible rfl)))
        simp only [Act.put, List.setIfInBounds_toArray, List.set_cons_zero, List.set_cons_succ]
        refine wpAnyH_take (i := 3) (oi := ?oic3) (v := ?vvc3) ?hic3 (by kernel_rfl) (by kernel_rfl) (by kernel_rfl) ?hqc3 ?hyc3 hHeld ?_
        case hic3 => simp only [List.getElem?_toArray, List.getElem?_cons_succ, List.getElem?_cons_zero]; rfl
        case hqc3 => exact fun _ _ _ h => h
        case hyc3 => (refine Or.inl ⟨by rfl, ?_⟩; intro w' hSw; (try dsimp only at hSw); go_simp; (try (with_reducible rfl)))
        simp only [Act.put, List.setIfInBounds_toArray, List.set_cons_zero, List.set_cons_succ]
        refine wpAnyH_take (i := 4) (oi := ?oic4) (v := undef) ?hic4 (by kernel_rfl) (by kernel_rfl) (by kernel_rfl) ?hqc4 ?hyc4 hHeld ?_
        case hic4 => simp only [List.getElem?_toArray, List.getElem?_cons_succ, List.getElem?_cons_zero]; rfl
        case hqc4 => exact fun _ _ _ h => h
        case hyc4 => exact Or.inr ⟨by rfl, rfl⟩
        simp only [Act.put, List.setIfInBounds_toArray, List.set_cons_zero, List.set_cons_succ]
        refine wpAnyH_take (i := 5) (oi := ?oic5) (v := undef) ?hic5 (by kernel_rfl) (by kernel_rfl) (by kernel_rfl) ?hqc5 ?hyc5 hHeld ?_
        case hic5 => simp only [List.getElem?_toArray, List.getElem?_cons_succ, List.getElem?_cons_zero]; rfl
        case hqc5 => exact fun _ _ _ h => h
        case hyc5 => exact Or.inr ⟨by rfl, rfl⟩
        simp only [Act.put, List.setIfInBounds_toArray, List.set_cons_zero, List.set_cons_succ]
        refine wpAnyH_take (i := 6) (oi := ?oic6) (v := undef) ?hic6 (by kernel_rfl) (by kernel_rfl) (by kernel_rfl) ?hqc6 ?hyc6 hHeld ?_
        case hic6 => simp only [List.getElem?_toArray, List.getElem?_cons_succ, List.getElem?_cons_zero]; rfl
        case hqc6 => exact fun _ _ _ h => h
        case hyc6 => exact Or.inr ⟨by rfl, rfl⟩
        simp only [Act.put, List.setIfInBounds_toArray, List.set_cons_zero, List.set_cons_succ]
        refine wpAnyH_take (i := 7) (oi := ?oic7) (v := undef) ?hic7 (by kernel_rfl) (by kernel_rfl) (by kernel_rfl) ?hqc7 ?hyc7 hHeld ?_
        case hic7 => simp only [List.getElem?_toArray, List.getElem?_cons_succ, List.getElem?_cons_zero]; rfl
        case hqc7 => exact fun _ _ _ h => h
        case hyc7 => exact Or.inr ⟨by rfl, rfl⟩
        simp only [Act.put, List.setIfInBounds_toArray, List.set_cons_zero, List.set_cons_succ]
        refine wpAnyH_take (i := 8) (oi := ?oic8) (v := undef) ?hic8 (by kernel_rfl) (by kernel_rfl) (by kernel_rfl) ?hqc8 ?hyc8 hHeld ?_
        case hic8 => simp only [List.getElem?_toArray, List.getElem?_cons_succ, List.getElem?_cons_zero]; rfl
        case hqc8 => exact fun _ _ _ h => h
        case hyc8 => exact Or.inr ⟨by rfl, rfl⟩
        simp only [Act.put, List.setIfInBounds_toArray, List.set_cons_zero, List.set_cons_succ]
        refine wpAnyH_take (i := 9) (oi := ?oic9) (v := undef) ?hic9 (by kernel_rfl) (by kernel_rfl) (by kernel_rfl) ?hqc9 ?hyc9 hHeld ?_
        case hic9 => simp only [List.getElem?_toArray, List.getElem?_cons_succ, List.getElem?_cons_zero]; rfl
        case hqc9 => exact fun _ _ _ h => h
        case hyc9 => exact Or.inr ⟨by rfl, rfl⟩
        simp only [Act.put, List.setIfInBounds_toArray, List.set_cons_zero, List.set_cons_succ]
        refine wpAnyH_take (i := 10) (oi := ?oic10) (v := undef) ?hic10 (by kernel_rfl) (by kernel_rfl) (by kernel_rfl) ?hqc10 ?hyc10 hHeld ?_
        case hic10 => simp only [List.getElem?_toArray, List.getElem?_cons_succ, List.getElem?_cons_zero]; rfl
        case hqc10 => exact fun _ _ _ h => h
        case hyc10 => exact Or.inr ⟨by rfl, rfl⟩
        simp only [Act.put, List.setIfInBounds_toArray, List.set_cons_zero, List.set_cons_succ]
        refine wpAnyH_take (i := 11) (oi := ?oic11) (v := ?vvc11) ?hic11 (by kernel_rfl) (by kernel_rfl) (by kernel_rfl) ?hqc11 ?hyc11 hHeld ?_
        case hic11 => simp only [List.getElem?_toArray, List.getElem?_cons_succ, List.getElem?_cons_zero]; rfl
        case hqc11 => exact fun _ _ _ h => h
        case hyc11 => (refine Or.inl ⟨by rfl, ?_⟩; intro w' hSw; (try dsimp only at hSw); go_simp; (try (with_reducible rfl)))
        simp only [Act.put, List.setIfInBounds_toArray, List.set_cons_zero, List.set_cons_succ]
        refine wpAnyH_done (by kernel_rfl) ?_ _
        clear hHeld
        go_wp2
        go_roundw
        case rel => exact ⟨i + 1, by omega, by simp, ⟨HN.out, HK.out.2.1, HK.out.2.2.drew⟩⟩
        case measure => simp [intOf]; omega
    · have hie : i = 9 := by omega
      subst hie
      go_wp2
      go_loopw [6] (fun v wr => ∃ j : Nat, j ≤ 22 ∧ v = .int .i64 j ∧ Hid ((∀ k y, k < 9 + j → mkList[k]? = some y → isPre t y = false) ∧ Below w.heap.size w wr)) (fun v _ => 22 - (intOf v).toNat)
      case atStart => exact ⟨0, by omega, rfl, ⟨HK.out.1, HK.out.2.2⟩⟩
      case round =>
        obtain ⟨j, hj, rfl, HJ⟩ := hrel
        clear HK
        by_cases hjn : j < 22
        · have j0 : (0 : Int) ≤ j := by omega
          have j1 : (j : Int) < 22 := by omega
          obtain ⟨b, hb⟩ : ∃ b, (oneB.data.toList)[j]?.getD 0 = b := ⟨_, rfl⟩
          have hm : mkList[9 + j]? = some ⟨#[b]⟩ := by rw [← hb]; exact one_is ⟨j, hjn⟩
          have ix := index_byte oneB j hjn
          have hbb : byteAt oneB j = (b.toNat : Int) := by
            unfold byteAt
            rw [← hb]
            have hl : j < oneB.data.toList.length := hjn
            rw [List.getElem?_eq_getElem hl]
            rfl
          rw [hbb] at ix
          have HP : Hid (isPre t ⟨#[b]⟩ = (byteAt t 0 == (b.toNat : Int))) := pre1 t _ b rfl HT.out
          have HM : Hid (mkList[9 + j]? = some ⟨#[b]⟩) := hm
          obtain ⟨c, hc⟩ : ∃ c : Int, byteAt t 0 = c := ⟨_, rfl⟩
          have HC : Hid (byteAt t 0 = c) := hc
          have ix1 := ix0
          rw [hc] at ix1
          obtain ⟨bb, hb3⟩ : ∃ bb : Int, (b.toNat : Int) = bb := ⟨_, rfl⟩
          rw [hb3] at ix
          have HB3 : Hid ((b.toNat : Int) = bb) := hb3
          clear hb hm hbb hc hb3
          unfold oneB at ix
          by_cases he : (c == bb) = true
          · have HE : Hid (markP t = ⟨#[b]⟩ ∧ t.extract 0 1 = ⟨#[b]⟩) := ⟨mark_hit t (9 + j) _ HM.out (by rw [HP.out, HC.out, HB3.out]; exact he) HJ.out.1, take1 t b HT.out (by rw [HC.out, HB3.out]; simpa using he)⟩
            have sx : ∀ W, (Instr.slice 9 (.string t) none (some (.int .i64 1)) none).run Tryd.prog W = .ok (.string (t.extract 0 1)) W := fun W => by
              rw [run_slice_string_to_if W 9 t .i64 _ Tryd.underlying9, if_pos ⟨by omega, by omega⟩]
              rfl
            have cb : c = bb := by simpa using he
            subst cb
            clear ix0 he
            go_wp2_with fail
            refine wp_region_held_drew (S := (fun _ => True)) (by kernel_rfl) (trivial) (fun hHeld => ?_)
            refine wpAnyH_take (i := 0) (oi := ?oid0) (v := ?vvd0) ?hid0 (by kernel_rfl) (by kernel_rfl) (by kernel_rfl) ?hqd0 ?hyd0 hHeld ?_
            case hid0 => simp only [List.getElem?_toArray, List.getElem?_cons_succ, List.getElem?_cons_zero]; rfl
            case hqd0 => exact fun _ _ _ h => h
            case hyd0 => (refine Or.inl ⟨by rfl, ?_⟩; intro w' hSw; (try dsimp only at hSw); go_simp; (try (with_reducible rfl)))
            simp only [Act.put, List.setIfInBounds_toArray, List.set_cons_zero, List.set_cons_succ]
            refine wpAnyH_take (i := 1) (oi := ?oid1) (v := ?vvd1) ?hid1 (by kernel_rfl) (by kernel_rfl) (by kernel_rfl) ?hqd1 ?hyd1 hHeld ?_
            case hid1 => simp only [List.getElem?_toArray, List.getElem?_cons_succ, List.getElem?_cons_zero]; rfl
            case hqd1 => exact fun _ _ _ h => h
            case hyd1 => (refine Or.inl ⟨by rfl, ?_⟩; intro w' hSw; (try dsimp only at hSw); go_simp; (try (with_reducible rfl)))
            simp only [Act.put, List.setIfInBounds_toArray, List.set_cons_zero, List.set_cons_succ]
            refine wpAnyH_take (i := 2) (oi := ?oid2) (v := ?vvd2) ?hid2 (by kernel_rfl) (by kernel_rfl) (by kernel_rfl) ?hqd2 ?hyd2 hHeld ?_
            case hid2 => simp only [List.getElem?_toArray, List.getElem?_cons_succ, List.getElem?_cons_zero]; rfl
            case hqd2 => exact fun _ _ _ h => h
            case hyd2 => (refine Or.inl ⟨by rfl, ?_⟩; intro w' hSw; (try dsimp only at hSw); go_simp; (try (with_reducible rfl)))
            simp only [Act.put, List.setIfInBounds_toArray, List.set_cons_zero, List.set_cons_succ]
            refine wpAnyH_take (i := 3) (oi := ?oid3) (v := ?vvd3) ?hid3 (by kernel_rfl) (by kernel_rfl) (by kernel_rfl) ?hqd3 ?hyd3 hHeld ?_
            case hid3 => simp only [List.getElem?_toArray, List.getElem?_cons_succ, List.getElem?_cons_zero]; rfl
            case hqd3 => exact fun _ _ _ h => h
            case hyd3 => (refine Or.inl ⟨by rfl, ?_⟩; intro w' hSw; (try dsimp only at hSw); go_simp; (try (with_reducible rfl)))
            simp only [Act.put, List.setIfInBounds_toArray, List.set_cons_zero, List.set_cons_succ]
            refine wpAnyH_take (i := 4) (oi := ?oid4) (v := ?vvd4) ?hid4 (by kernel_rfl) (by kernel_rfl) (by kernel_rfl) ?hqd4 ?hyd4 hHeld ?_
            case hid4 => simp only [List.getElem?_toArray, List.getElem?_cons_succ, List.getElem?_cons_zero]; rfl
            case hqd4 => exact fun _ _ _ h => h
            case hyd4 => (refine Or.inl ⟨by rfl, ?_⟩; intro w' hSw; (try dsimp only at hSw); go_simp; (try (with_reducible rfl)))
            simp only [Act.put, List.setIfInBounds_toArray, List.set_cons_zero, List.set_cons_succ]
            refine wpAnyH_take (i := 5) (oi := ?oid5) (v := ?vvd5) ?hid5 (by kernel_rfl) (by kernel_rfl) (by kernel_rfl) ?hqd5 ?hyd5 hHeld ?_
            case hid5 => simp only [List.getElem?_toArray, List.getElem?_cons_succ, List.getElem?_cons_zero]; rfl
            case hqd5 => exact fun _ _ _ h => h
            case hyd5 => (refine Or.inl ⟨by rfl, ?_⟩; intro w' hSw; (try dsimp only at hSw); go_simp; (try (with_reducible rfl)))
            simp only [Act.put, List.setIfInBounds_toArray, List.set_cons_zero, List.set_cons_succ]
            refine wpAnyH_done (by kernel_rfl) ?_ _
            clear hHeld
            go_wp2
            go_ret
            exact ⟨by rw [HE.out.1, ← HE.out.2]; rfl, HJ.out.2.drew⟩
          · have he' : (c == bb) = false := by simpa using he
            have HN : Hid (∀ k y, k < 9 + (j + 1) → mkList[k]? = some y → isPre t y = false) := fun k y h1 h3 => by
              by_cases e : k = 9 + j
              · subst e
                rw [HM.out] at h3
                cases h3
                rw [HP.out, HC.out, HB3.out]
                exact he'
              · exact HJ.out.1 k y (by omega) h3
            clear he ix0
            go_wp2_with fail
            refine wp_region_held_drew (S := (fun _ => True)) (by kernel_rfl) (trivial) (fun hHeld => ?_)
            refine wpAnyH_take (i := 0) (oi := ?oie0) (v := ?vve0) ?hie0 (by kernel_rfl) (by kernel_rfl) (by kernel_rfl) ?hqe0 ?hye0 hHeld ?_
            case hie0 => simp only [List.getElem?_toArray, List.getElem?_cons_succ, List.getElem?_cons_zero]; rfl
            case hqe0 => exact fun _ _ _ h => h
            case hye0 => (refine Or.inl ⟨by rfl, ?_⟩; intro w' hSw; (try dsimp only at hSw); go_simp; (try (with_reducible rfl)))
            simp only [Act.put, List.setIfInBounds_toArray, List.set_cons_zero, List.set_cons_succ]
            refine wpAnyH_take (i := 1) (oi := ?oie1) (v := ?vve1) ?hie1 (by kernel_rfl) (by kernel_rfl) (by kernel_rfl) ?hqe1 ?hye1 hHeld ?_
            case hie1 => simp only [List.getElem?_toArray, List.getElem?_cons_succ, List.getElem?_cons_zero]; rfl
            case hqe1 => exact fun _ _ _ h => h
            case hye1 => (refine Or.inl ⟨by rfl, ?_⟩; intro w' hSw; (try dsimp only at hSw); go_simp; (try (with_reducible rfl)))
            simp only [Act.put, List.setIfInBounds_toArray, List.set_cons_zero, List.set_cons_succ]
            refine wpAnyH_take (i := 2) (oi := ?oie2) (v := ?vve2) ?hie2 (by kernel_rfl) (by kernel_rfl) (by kernel_rfl) ?hqe2 ?hye2 hHeld ?_
            case hie2 => simp only [List.getElem?_toArray, List.getElem?_cons_succ, List.getElem?_cons_zero]; rfl
            case hqe2 => exact fun _ _ _ h => h
            case hye2 => (refine Or.inl ⟨by rfl, ?_⟩; intro w' hSw; (try dsimp only at hSw); go_simp; (try (with_reducible rfl)))
            simp only [Act.put, List.setIfInBounds_toArray, List.set_cons_zero, List.set_cons_succ]
            refine wpAnyH_take (i := 3) (oi := ?oie3) (v := ?vve3) ?hie3 (by kernel_rfl) (by kernel_rfl) (by kernel_rfl) ?hqe3 ?hye3 hHeld ?_
            case hie3 => simp only [List.getElem?_toArray, List.getElem?_cons_succ, List.getElem?_cons_zero]; rfl
            case hqe3 => exact fun _ _ _ h => h
            case hye3 => (refine Or.inl ⟨by rfl, ?_⟩; intro w' hSw; (try dsimp only at hSw); go_simp; (try (with_reducible rfl)))
            simp only [Act.put, List.setIfInBounds_toArray, List.set_cons_zero, List.set_cons_succ]
            refine wpAnyH_take (i := 4) (oi := ?oie4) (v := ?vve4) ?hie4 (by kernel_rfl) (by kernel_rfl) (by kernel_rfl) ?hqe4 ?hye4 hHeld ?_
            case hie4 => simp only [List.getElem?_toArray, List.getElem?_cons_succ, List.getElem?_cons_zero]; rfl
            case hqe4 => exact fun _ _ _ h => h
            case hye4 => (refine Or.inl ⟨by rfl, ?_⟩; intro w' hSw; (try dsimp only at hSw); go_simp; (try (with_reducible rfl)))
            simp only [Act.put, List.setIfInBounds_toArray, List.set_cons_zero, List.set_cons_succ]
            refine wpAnyH_take (i := 5) (oi := ?oie5) (v := ?vve5) ?hie5 (by kernel_rfl) (by kernel_rfl) (by kernel_rfl) ?hqe5 ?hye5 hHeld ?_
            case hie5 => simp only [List.getElem?_toArray, List.getElem?_cons_succ, List.getElem?_cons_zero]; rfl
            case hqe5 => exact fun _ _ _ h => h
            case hye5 => (refine Or.inl ⟨by rfl, ?_⟩; intro w' hSw; (try dsimp only at hSw); go_simp; (try (with_reducible rfl)))
            simp only [Act.put, List.setIfInBounds_toArray, List.set_cons_zero, List.set_cons_succ]
            refine wpAnyH_done (by kernel_rfl) ?_ _
            clear hHeld
            go_wp2
            go_roundw
            case rel => exact ⟨j + 1, by omega, by simp, ⟨HN.out, HJ.out.2.drew⟩⟩
            case measure => simp [intOf]; omega
        · have hje : j = 22 := by omega
          subst hje
          have HE : Hid (markP t = ⟨#[]⟩) := mark_none t HJ.out.1
          go_wp2
          go_ret
          exact ⟨by rw [HE.out]; rfl, HJ.out.2⟩
end Go.Proofs.YtkbihcicnffjdaaDoor
