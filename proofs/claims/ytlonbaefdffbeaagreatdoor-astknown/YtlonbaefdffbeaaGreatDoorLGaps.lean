import Derived.Test.YtlonbaefdffbeaaGreatDoorLCut
import Derived.WalkMore
namespace Go.Proofs.YtlonbaefdffbeaaGreatDoor
open Go.ChangeShapes Go.WideShapes Go.ChangeAt Go.RowKit Go.Proofs.Tryz
set_option linter.unusedSimpArgs false
set_option linter.unusedVariables false
set_option maxRecDepth 100000
set_option maxHeartbeats 8000000

def preAt (t : ByteArray) (i : Nat) (p : List UInt8) : Bool := Lib.hasPrefix (t.extract i t.size).data.toList p
theorem rest_list (t : ByteArray) (i : Nat) : (t.extract i t.size).data.toList = t.data.toList.drop i := by
 rw [ByteArray.data_extract, Array.toList_extract, List.extract_eq_take_drop]
 apply List.take_of_length_le
 rw [List.length_drop];exact Nat.le_refl _
theorem preAt_two (t : ByteArray) (i : Nat) (a b : UInt8) : preAt t i [a, b] = true ↔ i + 2 ≤ t.size ∧ byteAt t i = (a.toNat : Int) ∧ byteAt t (i + 1) = (b.toNat : Int) := by
 unfold preAt Lib.hasPrefix byteAt;rw [rest_list, List.isPrefixOf_iff_prefix];have hs : t.size = t.data.toList.length := rfl;rw [hs]
 generalize t.data.toList = l
 constructor
 ·rintro ⟨r, hr⟩
  have h0 : l[i]? = some a := by
   have := congrArg (fun x => x[0]?) hr;simp at this;exact this.symm
  have h1 : l[i + 1]? = some b := by
   have := congrArg (fun x => x[1]?) hr;simp at this;exact this.symm
  rw [h0, h1];have := (List.getElem?_eq_some_iff.1 h1).1;exact ⟨by omega, rfl, rfl⟩
 ·rintro ⟨hl, h0, h1⟩
  have g0 := List.getElem?_eq_getElem (l := l) (i := i) (by omega);have g1 := List.getElem?_eq_getElem (l := l) (i := i + 1) (by omega);rw [g0] at h0;rw [g1] at h1;simp only [Option.map_some, Option.getD_some] at h0 h1;have e0 : l[i] = a := UInt8.toNat_inj.1 (by omega);have e1 : l[i + 1] = b := UInt8.toNat_inj.1 (by omega);refine ⟨l.drop (i + 2), ?_⟩;rw [List.drop_eq_getElem_cons (show i < l.length by omega), List.drop_eq_getElem_cons (show i + 1 < l.length by omega), e0, e1]
  rfl
theorem slice_rest (t : ByteArray) (i : Nat) (hi : i ≤ t.size) (w : World) : (Instr.slice 9 (.string t) (some (.int .i64 (i : Int))) none none).run prog w = .ok (.string (t.extract i t.size)) w := by
 have h1 : (0 : Int) ≤ i ∧ (i : Int) ≤ (t.size : Int) := by omega
 simp [Instr.slice, Instr.sliceBounds, Instr.sliceBound, asIntOf, run_underlying underlying9, h1];intro hlt
 omega
def lineTo (t : ByteArray) : Nat → Nat → Nat
 | 0, i => i
 | f + 1, i => if byteAt t i = 10 then i else lineTo t f (i + 1)
theorem lineTo_succ (t : ByteArray) (f i : Nat) : lineTo t (f + 1) i = if byteAt t i = 10 then i else lineTo t f (i + 1) := rfl
def remTo (t : ByteArray) : Nat → Nat → Option Nat
 | 0, _ => none
 | f + 1, i => if preAt t i [42, 47] = true then some (i + 2) else remTo t f (i + 1)
theorem remTo_succ (t : ByteArray) (f i : Nat) : remTo t (f + 1) i = if preAt t i [42, 47] = true then some (i + 2) else remTo t f (i + 1) := rfl
def gaps (t : ByteArray) : Nat → Nat → Nat × Bool
 | 0, i => (i, true)
 | f + 1, i => if i < t.size then
   if blankB (byteAt t i) = true then gaps t f (i + 1)
   else if preAt t i [47, 47] = true then gaps t f (lineTo t (t.size - i) i)
   else if preAt t i [47, 42] = true then (match remTo t (t.size - (i + 2)) (i + 2) with
    | none => (i, false)
    | some j => gaps t f j)
   else (i, true)
  else (i, true)
def leftC (cb : Nat) (t : ByteArray) (w : World) : Nat := t.size - (match w.cell? ⟨cb, 1, none⟩ with
 | some (.int _ x) => x.toNat
 | _ => 0)
theorem leftC_is {cb : Nat} {t : ByteArray} {w : World} {i : Nat} (h : CutIs w cb t i) : leftC cb t w = t.size - i := by
 unfold leftC;rw [h.c1];simp


theorem lbegins_any (cb i : Nat) (t p : ByteArray) (w : World) (c0 : w.cell? ⟨cb, 0, none⟩ = some (.string t)) (c1 : w.cell? ⟨cb, 1, none⟩ = some (.int .i64 (i : Int))) (hi : i ≤ t.size) :
  Calls prog 82 #[.pointer (some ⟨cb, 0, none⟩), .string p] w fun e w' => e = .returned (.bool (preAt t i p.data.toList)) ∧ w' = w.drew := by
 have sl := slice_rest t i hi;have HP : Hid (∀ W, Calls prog 114 #[.string (t.extract i t.size), .string p] W fun e w' => e = .returned (.bool (preAt t i p.data.toList)) ∧ w' = W) := fun W => Tryz.strings_HasPrefix _ _ W
 go_enter func82, ntmps82
 go_wp2_with fail
 refine wp_region_held_drew (S := (fun w' => w'.cell? ⟨cb, 0, none⟩ = some (.string t) ∧ w'.cell? ⟨cb, 1, none⟩ = some (.int .i64 (i : Int)))) (by kernel_rfl) (⟨c0, c1⟩) (fun hHeld => ?_);refine wpAnyH_take (i := 0) (oi := ?oia0) (v := ?vva0) ?hia0 (by kernel_rfl) (by kernel_rfl) (by kernel_rfl) ?hqa0 ?hya0 hHeld ?_
 case hia0 => simp only [zga, zgs, zgz]; rfl
 case hqa0 => exact fun _ _ _ h => h
 case hya0 => refine .inl ⟨by rfl, ?_⟩; intro w' hSw; (try dsimp only at hSw); go_simp; try with_reducible rfl
 simp only [Act.put, zsa, zsz, zss];refine wpAnyH_take (i := 1) (oi := ?oia1) (v := ?vva1) ?hia1 (by kernel_rfl) (by kernel_rfl) (by kernel_rfl) ?hqa1 ?hya1 hHeld ?_
 case hia1 => simp only [zga, zgs, zgz]; rfl
 case hqa1 => exact fun _ _ _ h => h
 case hya1 => refine .inl ⟨by rfl, ?_⟩; intro w' hSw; (try dsimp only at hSw); go_simp; try with_reducible rfl
 simp only [Act.put, zsa, zsz, zss];refine wpAnyH_take (i := 2) (oi := ?oia2) (v := ?vva2) ?hia2 (by kernel_rfl) (by kernel_rfl) (by kernel_rfl) ?hqa2 ?hya2 hHeld ?_
 case hia2 => simp only [zga, zgs, zgz]; rfl
 case hqa2 => exact fun _ _ _ h => h
 case hya2 => refine .inl ⟨by rfl, ?_⟩; intro w' hSw; (try dsimp only at hSw); go_simp; try with_reducible rfl
 simp only [Act.put, zsa, zsz, zss];refine wpAnyH_take (i := 3) (oi := ?oia3) (v := ?vva3) ?hia3 (by kernel_rfl) (by kernel_rfl) (by kernel_rfl) ?hqa3 ?hya3 hHeld ?_
 case hia3 => simp only [zga, zgs, zgz]; rfl
 case hqa3 => exact fun _ _ _ h => h
 case hya3 => refine .inl ⟨by rfl, ?_⟩; intro w' hSw; (try dsimp only at hSw); go_simp; try with_reducible rfl
 simp only [Act.put, zsa, zsz, zss];refine wpAnyH_take (i := 4) (oi := ?oia4) (v := ?vva4) ?hia4 (by kernel_rfl) (by kernel_rfl) (by kernel_rfl) ?hqa4 ?hya4 hHeld ?_
 case hia4 => simp only [zga, zgs, zgz]; rfl
 case hqa4 => exact fun _ _ _ h => h
 case hya4 => refine .inl ⟨by rfl, ?_⟩; intro w' hSw; (try dsimp only at hSw); go_simp; try with_reducible rfl
 simp only [Act.put, zsa, zsz, zss];refine wpAnyH_take (i := 5) (oi := ?oia5) (v := ?vva5) ?hia5 (by kernel_rfl) (by kernel_rfl) (by kernel_rfl) ?hqa5 ?hya5 hHeld ?_
 case hia5 => simp only [zga, zgs, zgz]; rfl
 case hqa5 => exact fun _ _ _ h => h
 case hya5 => refine .inl ⟨by rfl, ?_⟩; intro w' hSw; (try dsimp only at hSw); go_simp; try with_reducible rfl
 simp only [Act.put, zsa, zsz, zss];refine wpAnyH_take (i := 6) (oi := ?oia6) (v := ?vva6) ?hia6 (by kernel_rfl) (by kernel_rfl) (by kernel_rfl) ?hqa6 ?hya6 hHeld ?_
 case hia6 => simp only [zga, zgs, zgz]; rfl
 case hqa6 => exact fun _ _ _ h => h
 case hya6 => refine .inl ⟨by rfl, ?_⟩; intro w' hSw; (try dsimp only at hSw); go_simp; try with_reducible rfl
 simp only [Act.put, zsa, zsz, zss];refine wpAnyH_take (i := 7) (oi := ?oia7) (v := ?vva7) ?hia7 (by kernel_rfl) (by kernel_rfl) (by kernel_rfl) ?hqa7 ?hya7 hHeld ?_
 case hia7 => simp only [zga, zgs, zgz]; rfl
 case hqa7 => exact fun _ _ _ h => h
 case hya7 => refine .inl ⟨by rfl, ?_⟩; intro w' hSw; (try dsimp only at hSw); go_simp; try with_reducible rfl
 simp only [Act.put, zsa, zsz, zss];refine wpAnyH_take (i := 8) (oi := ?oia8) (v := ?vva8) ?hia8 (by kernel_rfl) (by kernel_rfl) (by kernel_rfl) ?hqa8 ?hya8 hHeld ?_
 case hia8 => simp only [zga, zgs, zgz]; rfl
 case hqa8 => exact fun _ _ _ h => h
 case hya8 => refine .inl ⟨by rfl, ?_⟩; intro w' hSw; (try dsimp only at hSw); go_simp; try with_reducible rfl
 simp only [Act.put, zsa, zsz, zss];refine wpAnyH_take (i := 9) (oi := ?oia9) (v := ?vva9) ?hia9 (by kernel_rfl) (by kernel_rfl) (by kernel_rfl) ?hqa9 ?hya9 hHeld ?_
 case hia9 => simp only [zga, zgs, zgz]; rfl
 case hqa9 => exact fun _ _ _ h => h
 case hya9 => refine .inl ⟨by rfl, ?_⟩; intro w' hSw; (try dsimp only at hSw); go_simp; try with_reducible rfl
 simp only [Act.put, zsa, zsz, zss];refine wpAnyH_ready (rs := [10]) (by kernel_rfl) (by simp) ?_;refine AllReadyH.cons (o := ?oia10) ?hia10 (fun K hK => ?_) AllReadyH.nil
 case hia10 => simp only [zga, zgs, zgz]; rfl
 go_simp;refine (HP.out _).mono ?_;rintro e v10 ⟨rfl, rfl⟩;go_wp2_with fail
 refine hK.out _ _ (hHeld) (fun hN => ?_);clear hK K hHeld;have hHeld := hN;clear hN
 try simp only [Act.put, zsa, zsz, zss]
 refine wpAnyH_take (i := 11) (oi := ?oia11) (v := ?vva11) ?hia11 (by kernel_rfl) (by kernel_rfl) (by kernel_rfl) ?hqa11 ?hya11 hHeld ?_
 case hia11 => simp only [zga, zgs, zgz]; rfl
 case hqa11 => exact fun _ _ _ h => h
 case hya11 => refine .inl ⟨by rfl, ?_⟩; intro w' hSw; (try dsimp only at hSw); go_simp; try with_reducible rfl
 simp only [Act.put, zsa, zsz, zss];refine wpAnyH_done (by kernel_rfl) ?_ _;go_wp2;go_ret;exact ⟨rfl, rfl⟩


theorem gaps_walk (cb i : Nat) (t : ByteArray) (w : World) (G : Nat × Bool) (H0 : Hid (CutIs w cb t i ∧ Moved cb w w)) (hi : i ≤ t.size) (HT : Hid ((t.size : Int) ≤ 4611686018427387904)) (HG : Hid (gaps t (t.size + 1 - i) i = G)) :
  Calls prog 53 #[.pointer (some ⟨cb, 0, none⟩)] w fun e w' => e = .returned (.bool G.2) ∧ CutIs w' cb t G.1 ∧ Moved cb w w' := by
 have HI : Hid (i ≤ t.size) := hi;clear hi
 go_enter func53, ntmps53
 go_wp2
 go_step3
 go_wp2
 go_step3
 go_wp2
 go_loopw [2] (fun v wr => v = .bool false ∧ ∃ p f : Nat, Hid (p ≤ t.size ∧ t.size - p < f ∧ gaps t f p = G) ∧ Hid (CutIs wr cb t p ∧ Moved cb w wr)) (fun _ wr => leftC cb t wr)
 case atStart => exact ⟨rfl, i, t.size + 1 - i, ⟨HI.out, by have := HI.out; omega, HG.out⟩, H0⟩
 case round =>
  obtain ⟨rfl, p, f, HP0, HA⟩ := hrel;have HL : Hid (leftC cb t wr = t.size - p) := leftC_is HA.out.1;obtain ⟨f0, hf0⟩ : ∃ f0, f = f0 + 1 := ⟨f - 1, by have := HP0.out; omega⟩;subst hf0
  by_cases hps : p < t.size
  ·have HP : Hid (p < t.size ∧ t.size - p ≤ f0) := ⟨hps, by have := HP0.out; omega⟩
   have qm : decide (p < t.size) = true := decide_eq_true hps;have ix := index_byte t p hps;have hgap := HP0.out.2.2;unfold gaps at hgap;rw [if_pos hps] at hgap;clear hps
   rename World => wo
   have HL0 := HL;go_wp2_with fail
   refine (more_any cb _ t _ HA.out.1.c0 HA.out.1.c1).mono ?_;rintro e w1 ⟨rfl, hw⟩;have HA1 : Hid (CutIs w1 cb t p ∧ Moved cb w w1) := by rw [hw]; exact ⟨HA.out.1, HA.out.2.drew⟩
   clear hw;go_wp2_with fail
   refine wp_region_held_drew (S := (fun w' => w'.cell? ⟨cb, 0, none⟩ = some (.string t) ∧ w'.cell? ⟨cb, 1, none⟩ = some (.int .i64 (p : Int)))) (by kernel_rfl) (⟨HA1.out.1.c0, HA1.out.1.c1⟩) (fun hHeld => ?_);refine wpAnyH_take (i := 0) (oi := ?oib0) (v := ?vvb0) ?hib0 (by kernel_rfl) (by kernel_rfl) (by kernel_rfl) ?hqb0 ?hyb0 hHeld ?_
   case hib0 => simp only [zga, zgs, zgz]; rfl
   case hqb0 => exact fun _ _ _ h => h
   case hyb0 => refine .inl ⟨by rfl, ?_⟩; intro w' hSw; (try dsimp only at hSw); go_simp; try with_reducible rfl
   simp only [Act.put, zsa, zsz, zss];refine wpAnyH_take (i := 1) (oi := ?oib1) (v := ?vvb1) ?hib1 (by kernel_rfl) (by kernel_rfl) (by kernel_rfl) ?hqb1 ?hyb1 hHeld ?_
   case hib1 => simp only [zga, zgs, zgz]; rfl
   case hqb1 => exact fun _ _ _ h => h
   case hyb1 => refine .inl ⟨by rfl, ?_⟩; intro w' hSw; (try dsimp only at hSw); go_simp; try with_reducible rfl
   simp only [Act.put, zsa, zsz, zss];refine wpAnyH_take (i := 2) (oi := ?oib2) (v := ?vvb2) ?hib2 (by kernel_rfl) (by kernel_rfl) (by kernel_rfl) ?hqb2 ?hyb2 hHeld ?_
   case hib2 => simp only [zga, zgs, zgz]; rfl
   case hqb2 => exact fun _ _ _ h => h
   case hyb2 => refine .inl ⟨by rfl, ?_⟩; intro w' hSw; (try dsimp only at hSw); go_simp; try with_reducible rfl
   simp only [Act.put, zsa, zsz, zss];refine wpAnyH_take (i := 3) (oi := ?oib3) (v := ?vvb3) ?hib3 (by kernel_rfl) (by kernel_rfl) (by kernel_rfl) ?hqb3 ?hyb3 hHeld ?_
   case hib3 => simp only [zga, zgs, zgz]; rfl
   case hqb3 => exact fun _ _ _ h => h
   case hyb3 => refine .inl ⟨by rfl, ?_⟩; intro w' hSw; (try dsimp only at hSw); go_simp; try with_reducible rfl
   simp only [Act.put, zsa, zsz, zss];refine wpAnyH_take (i := 4) (oi := ?oib4) (v := ?vvb4) ?hib4 (by kernel_rfl) (by kernel_rfl) (by kernel_rfl) ?hqb4 ?hyb4 hHeld ?_
   case hib4 => simp only [zga, zgs, zgz]; rfl
   case hqb4 => exact fun _ _ _ h => h
   case hyb4 => refine .inl ⟨by rfl, ?_⟩; intro w' hSw; (try dsimp only at hSw); go_simp; try with_reducible rfl
   simp only [Act.put, zsa, zsz, zss];refine wpAnyH_take (i := 5) (oi := ?oib5) (v := ?vvb5) ?hib5 (by kernel_rfl) (by kernel_rfl) (by kernel_rfl) ?hqb5 ?hyb5 hHeld ?_
   case hib5 => simp only [zga, zgs, zgz]; rfl
   case hqb5 => exact fun _ _ _ h => h
   case hyb5 => refine .inl ⟨by rfl, ?_⟩; intro w' hSw; (try dsimp only at hSw); go_simp; try with_reducible rfl
   simp only [Act.put, zsa, zsz, zss];refine wpAnyH_take (i := 6) (oi := ?oib6) (v := ?vvb6) ?hib6 (by kernel_rfl) (by kernel_rfl) (by kernel_rfl) ?hqb6 ?hyb6 hHeld ?_
   case hib6 => simp only [zga, zgs, zgz]; rfl
   case hqb6 => exact fun _ _ _ h => h
   case hyb6 => refine .inl ⟨by rfl, ?_⟩; intro w' hSw; (try dsimp only at hSw); go_simp; try with_reducible rfl
   simp only [Act.put, zsa, zsz, zss];refine wpAnyH_take (i := 7) (oi := ?oib7) (v := ?vvb7) ?hib7 (by kernel_rfl) (by kernel_rfl) (by kernel_rfl) ?hqb7 ?hyb7 hHeld ?_
   case hib7 => simp only [zga, zgs, zgz]; rfl
   case hqb7 => exact fun _ _ _ h => h
   case hyb7 => refine .inl ⟨by rfl, ?_⟩; intro w' hSw; (try dsimp only at hSw); go_simp; try with_reducible rfl
   simp only [Act.put, zsa, zsz, zss];refine wpAnyH_take (i := 8) (oi := ?oib8) (v := ?vvb8) ?hib8 (by kernel_rfl) (by kernel_rfl) (by kernel_rfl) ?hqb8 ?hyb8 hHeld ?_
   case hib8 => simp only [zga, zgs, zgz]; rfl
   case hqb8 => exact fun _ _ _ h => h
   case hyb8 => refine .inl ⟨by rfl, ?_⟩; intro w' hSw; (try dsimp only at hSw); go_simp; try with_reducible rfl
   simp only [Act.put, zsa, zsz, zss];refine wpAnyH_ready (rs := [9]) (by kernel_rfl) (by simp) ?_;refine AllReadyH.cons (o := ?oib9) ?hib9 (fun K hK => ?_) AllReadyH.nil
   case hib9 => simp only [zga, zgs, zgz]; rfl
   go_simp;refine (isBlank_any (byteAt t p) _).mono ?_;rintro e v9 ⟨rfl, rfl⟩;go_wp2_with fail
   refine hK.out _ _ (hHeld) (fun hN => ?_);clear hK K hHeld;have hHeld := hN;clear hN
   try simp only [Act.put, zsa, zsz, zss]
   refine wpAnyH_take (i := 10) (oi := ?oib10) (v := ?vvb10) ?hib10 (by kernel_rfl) (by kernel_rfl) (by kernel_rfl) ?hqb10 ?hyb10 hHeld ?_
   case hib10 => simp only [zga, zgs, zgz]; rfl
   case hqb10 => exact fun _ _ _ h => h
   case hyb10 => refine .inl ⟨by rfl, ?_⟩; intro w' hSw; (try dsimp only at hSw); go_simp; try with_reducible rfl
   simp only [Act.put, zsa, zsz, zss];refine wpAnyH_done (by kernel_rfl) ?_ _;clear hHeld;have HA2 : Hid (CutIs w1.drew cb t p ∧ Moved cb w w1.drew) := ⟨HA1.out.1, HA1.out.2.drew⟩;clear HA1 HA
   by_cases hbl : blankB (byteAt t p) = true
   ·rw [hbl]
    rw [if_pos hbl] at hgap;have HGP : Hid (gaps t f0 (p + 1) = G) := hgap;clear hbl hgap;go_wp2_with fail
    refine (pass_any cb p 1 t _ HA2.out.1 (by have := HP.out; omega) HT.out).mono ?_;rintro e w2 ⟨rfl, hq1, hq2⟩;have HA3 : Hid (CutIs w2 cb t (p + 1) ∧ Moved cb w w2) := ⟨hq1, HA2.out.2.trans hq2⟩;clear hq1 hq2;go_wp2
    go_roundw
    case rel => exact ⟨rfl, p + 1, f0, ⟨by have := HP.out; omega, by have := HP.out; omega, HGP.out⟩, HA3⟩
    case measure => (have e1 := leftC_is HA3.out.1; have e2 := HL.out; have e3 := HP.out; show leftC cb t w2 < leftC cb t wo; rw [e1, e2]; omega)
   have hbl' : blankB (byteAt t p) = false := by simpa using hbl
   rw [hbl'];rw [if_neg hbl] at hgap;clear hbl hbl';go_wp2_with fail
   refine (lbegins_any cb _ t ⟨#[47, 47]⟩ _ HA2.out.1.c0 HA2.out.1.c1 (by have := HP.out; omega)).mono ?_;rintro e w2 ⟨rfl, hw⟩;have HA3 : Hid (CutIs w2 cb t p ∧ Moved cb w w2) := by rw [hw]; exact ⟨HA2.out.1, HA2.out.2.drew⟩
   clear hw
   by_cases hp1 : preAt t p [47, 47] = true
   ·have e1 : preAt t p (⟨#[47, 47]⟩ : ByteArray).data.toList = true := hp1
    rw [e1];rw [if_pos hp1] at hgap;have HB : Hid (byteAt t p = 47 ∧ gaps t f0 (lineTo t (t.size - p) p) = G) := ⟨((preAt_two t p 47 47).1 hp1).2.1, hgap⟩;clear e1 hp1 hgap;go_wp2
    go_loopw [22] (fun v wr => ∃ q : Nat, Hid (p ≤ q ∧ q ≤ t.size ∧ lineTo t (t.size - q) q = lineTo t (t.size - p) p) ∧ Hid (CutIs wr cb t q ∧ Moved cb w wr)) (fun _ wr => leftC cb t wr)
    case atStart => exact ⟨p, ⟨Nat.le_refl _, by have := HP.out; omega, rfl⟩, HA3⟩
    case round =>
     obtain ⟨q, HQ, HC0⟩ := hrel;have HLq : Hid (leftC cb t wr = t.size - q) := leftC_is HC0.out.1;clear HA2 HA3 ix
     by_cases hqs : q < t.size
     ·have qmq : decide (q < t.size) = true := decide_eq_true hqs
      have ixq := index_byte t q hqs;have HQS : Hid (q < t.size) := hqs;clear hqs;go_wp2_with fail
      refine (more_any cb _ t _ HC0.out.1.c0 HC0.out.1.c1).mono ?_;rintro e w3 ⟨rfl, hw⟩;have HC : Hid (CutIs w3 cb t q ∧ Moved cb w w3) := by rw [hw]; exact ⟨HC0.out.1, HC0.out.2.drew⟩
      clear hw;go_wp2_with fail
      by_cases hnl : byteAt t q = 10
      ·have qn : (byteAt t q == 10) = true := by simpa using hnl
       have HN : Hid (byteAt t q = 10) := hnl;clear hnl;refine wp_region_held_drew (S := (fun w' => w'.cell? ⟨cb, 0, none⟩ = some (.string t) ∧ w'.cell? ⟨cb, 1, none⟩ = some (.int .i64 (q : Int)))) (by kernel_rfl) (⟨HC.out.1.c0, HC.out.1.c1⟩) (fun hHeld => ?_);refine wpAnyH_take (i := 0) (oi := ?oic0) (v := ?vvc0) ?hic0 (by kernel_rfl) (by kernel_rfl) (by kernel_rfl) ?hqc0 ?hyc0 hHeld ?_
       case hic0 => simp only [zga, zgs, zgz]; rfl
       case hqc0 => exact fun _ _ _ h => h
       case hyc0 => refine .inl ⟨by rfl, ?_⟩; intro w' hSw; (try dsimp only at hSw); go_simp; try with_reducible rfl
       simp only [Act.put, zsa, zsz, zss];refine wpAnyH_take (i := 1) (oi := ?oic1) (v := ?vvc1) ?hic1 (by kernel_rfl) (by kernel_rfl) (by kernel_rfl) ?hqc1 ?hyc1 hHeld ?_
       case hic1 => simp only [zga, zgs, zgz]; rfl
       case hqc1 => exact fun _ _ _ h => h
       case hyc1 => refine .inl ⟨by rfl, ?_⟩; intro w' hSw; (try dsimp only at hSw); go_simp; try with_reducible rfl
       simp only [Act.put, zsa, zsz, zss];refine wpAnyH_take (i := 2) (oi := ?oic2) (v := ?vvc2) ?hic2 (by kernel_rfl) (by kernel_rfl) (by kernel_rfl) ?hqc2 ?hyc2 hHeld ?_
       case hic2 => simp only [zga, zgs, zgz]; rfl
       case hqc2 => exact fun _ _ _ h => h
       case hyc2 => refine .inl ⟨by rfl, ?_⟩; intro w' hSw; (try dsimp only at hSw); go_simp; try with_reducible rfl
       simp only [Act.put, zsa, zsz, zss];refine wpAnyH_take (i := 3) (oi := ?oic3) (v := ?vvc3) ?hic3 (by kernel_rfl) (by kernel_rfl) (by kernel_rfl) ?hqc3 ?hyc3 hHeld ?_
       case hic3 => simp only [zga, zgs, zgz]; rfl
       case hqc3 => exact fun _ _ _ h => h
       case hyc3 => refine .inl ⟨by rfl, ?_⟩; intro w' hSw; (try dsimp only at hSw); go_simp; try with_reducible rfl
       simp only [Act.put, zsa, zsz, zss];refine wpAnyH_take (i := 4) (oi := ?oic4) (v := ?vvc4) ?hic4 (by kernel_rfl) (by kernel_rfl) (by kernel_rfl) ?hqc4 ?hyc4 hHeld ?_
       case hic4 => simp only [zga, zgs, zgz]; rfl
       case hqc4 => exact fun _ _ _ h => h
       case hyc4 => refine .inl ⟨by rfl, ?_⟩; intro w' hSw; (try dsimp only at hSw); go_simp; try with_reducible rfl
       simp only [Act.put, zsa, zsz, zss];refine wpAnyH_take (i := 5) (oi := ?oic5) (v := ?vvc5) ?hic5 (by kernel_rfl) (by kernel_rfl) (by kernel_rfl) ?hqc5 ?hyc5 hHeld ?_
       case hic5 => simp only [zga, zgs, zgz]; rfl
       case hqc5 => exact fun _ _ _ h => h
       case hyc5 => refine .inl ⟨by rfl, ?_⟩; intro w' hSw; (try dsimp only at hSw); go_simp; try with_reducible rfl
       simp only [Act.put, zsa, zsz, zss];refine wpAnyH_take (i := 6) (oi := ?oic6) (v := ?vvc6) ?hic6 (by kernel_rfl) (by kernel_rfl) (by kernel_rfl) ?hqc6 ?hyc6 hHeld ?_
       case hic6 => simp only [zga, zgs, zgz]; rfl
       case hqc6 => exact fun _ _ _ h => h
       case hyc6 => refine .inl ⟨by rfl, ?_⟩; intro w' hSw; (try dsimp only at hSw); go_simp; try with_reducible rfl
       simp only [Act.put, zsa, zsz, zss];refine wpAnyH_take (i := 7) (oi := ?oic7) (v := ?vvc7) ?hic7 (by kernel_rfl) (by kernel_rfl) (by kernel_rfl) ?hqc7 ?hyc7 hHeld ?_
       case hic7 => simp only [zga, zgs, zgz]; rfl
       case hqc7 => exact fun _ _ _ h => h
       case hyc7 => refine .inl ⟨by rfl, ?_⟩; intro w' hSw; (try dsimp only at hSw); go_simp; try with_reducible rfl
       simp only [Act.put, zsa, zsz, zss];refine wpAnyH_take (i := 8) (oi := ?oic8) (v := ?vvc8) ?hic8 (by kernel_rfl) (by kernel_rfl) (by kernel_rfl) ?hqc8 ?hyc8 hHeld ?_
       case hic8 => simp only [zga, zgs, zgz]; rfl
       case hqc8 => exact fun _ _ _ h => h
       case hyc8 => refine .inl ⟨by rfl, ?_⟩; intro w' hSw; (try dsimp only at hSw); go_simp; try with_reducible rfl
       simp only [Act.put, zsa, zsz, zss];refine wpAnyH_take (i := 9) (oi := ?oic9) (v := ?vvc9) ?hic9 (by kernel_rfl) (by kernel_rfl) (by kernel_rfl) ?hqc9 ?hyc9 hHeld ?_
       case hic9 => simp only [zga, zgs, zgz]; rfl
       case hqc9 => exact fun _ _ _ h => h
       case hyc9 => refine .inl ⟨by rfl, ?_⟩; intro w' hSw; (try dsimp only at hSw); go_simp; try with_reducible rfl
       simp only [Act.put, zsa, zsz, zss];refine wpAnyH_done (by kernel_rfl) ?_ _;clear hHeld;have HD : Hid (CutIs w3.drew cb t q ∧ Moved cb w w3.drew) := ⟨HC.out.1, HC.out.2.drew⟩
       have HE : Hid (gaps t f0 q = G ∧ p < q) := by
        have h1 := HQ.out.2.2;have h2 := HN.out;have h3 := HQS.out;obtain ⟨d, hd⟩ : ∃ d, t.size - q = d + 1 := ⟨t.size - q - 1, by omega⟩;rw [hd, lineTo_succ, if_pos h2] at h1;refine ⟨by rw [h1]; exact HB.out.2, ?_⟩
        rcases Nat.lt_or_ge p q with h | h
        ·exact h
        ·have e := HQ.out.1
         have e2 : p = q := by omega
         have e3 := HB.out.1;rw [e2, h2] at e3
         cases e3
       go_wp2
       go_roundw
       case rel => exact ⟨rfl, q, f0, ⟨HQ.out.2.1, by have := HP.out; have := HE.out.2; have := HQ.out.2.1; omega, HE.out.1⟩, HD⟩
       case measure => (have e1 := leftC_is HD.out.1; have e2 := HL.out; have e3 := HP.out; show leftC cb t w3.drew < leftC cb t wo; rw [e1, e2]; have := HE.out.2; omega)
      ·have qn : (byteAt t q == 10) = false := by simpa using hnl
       have HN : Hid (¬ byteAt t q = 10) := hnl;clear hnl;refine wp_region_held_drew (S := (fun w' => w'.cell? ⟨cb, 0, none⟩ = some (.string t) ∧ w'.cell? ⟨cb, 1, none⟩ = some (.int .i64 (q : Int)))) (by kernel_rfl) (⟨HC.out.1.c0, HC.out.1.c1⟩) (fun hHeld => ?_);refine wpAnyH_take (i := 0) (oi := ?oid0) (v := ?vvd0) ?hid0 (by kernel_rfl) (by kernel_rfl) (by kernel_rfl) ?hqd0 ?hyd0 hHeld ?_
       case hid0 => simp only [zga, zgs, zgz]; rfl
       case hqd0 => exact fun _ _ _ h => h
       case hyd0 => refine .inl ⟨by rfl, ?_⟩; intro w' hSw; (try dsimp only at hSw); go_simp; try with_reducible rfl
       simp only [Act.put, zsa, zsz, zss];refine wpAnyH_take (i := 1) (oi := ?oid1) (v := ?vvd1) ?hid1 (by kernel_rfl) (by kernel_rfl) (by kernel_rfl) ?hqd1 ?hyd1 hHeld ?_
       case hid1 => simp only [zga, zgs, zgz]; rfl
       case hqd1 => exact fun _ _ _ h => h
       case hyd1 => refine .inl ⟨by rfl, ?_⟩; intro w' hSw; (try dsimp only at hSw); go_simp; try with_reducible rfl
       simp only [Act.put, zsa, zsz, zss];refine wpAnyH_take (i := 2) (oi := ?oid2) (v := ?vvd2) ?hid2 (by kernel_rfl) (by kernel_rfl) (by kernel_rfl) ?hqd2 ?hyd2 hHeld ?_
       case hid2 => simp only [zga, zgs, zgz]; rfl
       case hqd2 => exact fun _ _ _ h => h
       case hyd2 => refine .inl ⟨by rfl, ?_⟩; intro w' hSw; (try dsimp only at hSw); go_simp; try with_reducible rfl
       simp only [Act.put, zsa, zsz, zss];refine wpAnyH_take (i := 3) (oi := ?oid3) (v := ?vvd3) ?hid3 (by kernel_rfl) (by kernel_rfl) (by kernel_rfl) ?hqd3 ?hyd3 hHeld ?_
       case hid3 => simp only [zga, zgs, zgz]; rfl
       case hqd3 => exact fun _ _ _ h => h
       case hyd3 => refine .inl ⟨by rfl, ?_⟩; intro w' hSw; (try dsimp only at hSw); go_simp; try with_reducible rfl
       simp only [Act.put, zsa, zsz, zss];refine wpAnyH_take (i := 4) (oi := ?oid4) (v := ?vvd4) ?hid4 (by kernel_rfl) (by kernel_rfl) (by kernel_rfl) ?hqd4 ?hyd4 hHeld ?_
       case hid4 => simp only [zga, zgs, zgz]; rfl
       case hqd4 => exact fun _ _ _ h => h
       case hyd4 => refine .inl ⟨by rfl, ?_⟩; intro w' hSw; (try dsimp only at hSw); go_simp; try with_reducible rfl
       simp only [Act.put, zsa, zsz, zss];refine wpAnyH_take (i := 5) (oi := ?oid5) (v := ?vvd5) ?hid5 (by kernel_rfl) (by kernel_rfl) (by kernel_rfl) ?hqd5 ?hyd5 hHeld ?_
       case hid5 => simp only [zga, zgs, zgz]; rfl
       case hqd5 => exact fun _ _ _ h => h
       case hyd5 => refine .inl ⟨by rfl, ?_⟩; intro w' hSw; (try dsimp only at hSw); go_simp; try with_reducible rfl
       simp only [Act.put, zsa, zsz, zss];refine wpAnyH_take (i := 6) (oi := ?oid6) (v := ?vvd6) ?hid6 (by kernel_rfl) (by kernel_rfl) (by kernel_rfl) ?hqd6 ?hyd6 hHeld ?_
       case hid6 => simp only [zga, zgs, zgz]; rfl
       case hqd6 => exact fun _ _ _ h => h
       case hyd6 => refine .inl ⟨by rfl, ?_⟩; intro w' hSw; (try dsimp only at hSw); go_simp; try with_reducible rfl
       simp only [Act.put, zsa, zsz, zss];refine wpAnyH_take (i := 7) (oi := ?oid7) (v := ?vvd7) ?hid7 (by kernel_rfl) (by kernel_rfl) (by kernel_rfl) ?hqd7 ?hyd7 hHeld ?_
       case hid7 => simp only [zga, zgs, zgz]; rfl
       case hqd7 => exact fun _ _ _ h => h
       case hyd7 => refine .inl ⟨by rfl, ?_⟩; intro w' hSw; (try dsimp only at hSw); go_simp; try with_reducible rfl
       simp only [Act.put, zsa, zsz, zss];refine wpAnyH_take (i := 8) (oi := ?oid8) (v := ?vvd8) ?hid8 (by kernel_rfl) (by kernel_rfl) (by kernel_rfl) ?hqd8 ?hyd8 hHeld ?_
       case hid8 => simp only [zga, zgs, zgz]; rfl
       case hqd8 => exact fun _ _ _ h => h
       case hyd8 => refine .inl ⟨by rfl, ?_⟩; intro w' hSw; (try dsimp only at hSw); go_simp; try with_reducible rfl
       simp only [Act.put, zsa, zsz, zss];refine wpAnyH_take (i := 9) (oi := ?oid9) (v := ?vvd9) ?hid9 (by kernel_rfl) (by kernel_rfl) (by kernel_rfl) ?hqd9 ?hyd9 hHeld ?_
       case hid9 => simp only [zga, zgs, zgz]; rfl
       case hqd9 => exact fun _ _ _ h => h
       case hyd9 => refine .inl ⟨by rfl, ?_⟩; intro w' hSw; (try dsimp only at hSw); go_simp; try with_reducible rfl
       simp only [Act.put, zsa, zsz, zss];refine wpAnyH_done (by kernel_rfl) ?_ _;clear hHeld;have HD : Hid (CutIs w3.drew cb t q ∧ Moved cb w w3.drew) := ⟨HC.out.1, HC.out.2.drew⟩;clear HC;go_wp2_with fail
       refine (pass_any cb q 1 t _ HD.out.1 (by have := HQS.out; omega) HT.out).mono ?_;rintro e w4 ⟨rfl, hq1, hq2⟩;have HE : Hid (CutIs w4 cb t (q + 1) ∧ Moved cb w w4) := ⟨hq1, HD.out.2.trans hq2⟩;clear hq1 hq2
       have HQ2 : Hid (p ≤ q + 1 ∧ q + 1 ≤ t.size ∧ lineTo t (t.size - (q + 1)) (q + 1) = lineTo t (t.size - p) p) := by
        have h1 := HQ.out.2.2;have h3 := HQS.out;obtain ⟨d, hd⟩ : ∃ d, t.size - q = d + 1 := ⟨t.size - q - 1, by omega⟩;rw [hd, lineTo_succ, if_neg HN.out] at h1;refine ⟨by have := HQ.out.1; omega, by omega, ?_⟩;rw [show t.size - (q + 1) = d by omega, h1]
       go_wp2
       go_roundw
       case rel => exact ⟨q + 1, HQ2, HE⟩
       case measure => (have e1 := leftC_is HE.out.1; have e2 := HLq.out; have e3 := HQS.out; show leftC cb t w4 < leftC cb t wr; rw [e1, e2]; omega)
     ·have qmq : decide (q < t.size) = false := decide_eq_false hqs
      have HQE : Hid (q = t.size) := by have := HQ.out.2.1; show _ = _; omega
      clear hqs;go_wp2_with fail
      refine (more_any cb _ t _ HC0.out.1.c0 HC0.out.1.c1).mono ?_;rintro e w3 ⟨rfl, hw⟩;have HC : Hid (CutIs w3 cb t q ∧ Moved cb w w3) := by rw [hw]; exact ⟨HC0.out.1, HC0.out.2.drew⟩
      clear hw
      have HE : Hid (gaps t f0 q = G) := by
       have h1 := HQ.out.2.2;have h2 := HQE.out;rw [show t.size - q = 0 by omega] at h1;have h3 : lineTo t 0 q = q := rfl;rw [h3] at h1;rw [h1];exact HB.out.2
      go_wp2
      go_roundw
      case rel => exact ⟨rfl, q, f0, ⟨HQ.out.2.1, by have := HP.out; have := HQE.out; omega, HE.out⟩, HC⟩
      case measure => (have e1 := leftC_is HC.out.1; have e2 := HL.out; have e3 := HP.out; show leftC cb t w3 < leftC cb t wo; rw [e1, e2]; have := HQE.out; omega)
   have e1 : preAt t p (⟨#[47, 47]⟩ : ByteArray).data.toList = false := by simpa using hp1
   rw [e1];rw [if_neg hp1] at hgap;clear e1 hp1 HA2;go_wp2_with fail
   refine (lbegins_any cb _ t ⟨#[47, 42]⟩ _ HA3.out.1.c0 HA3.out.1.c1 (by have := HP.out; omega)).mono ?_;rintro e w3 ⟨rfl, hw⟩;have HA4 : Hid (CutIs w3 cb t p ∧ Moved cb w w3) := by rw [hw]; exact ⟨HA3.out.1, HA3.out.2.drew⟩
   clear hw
   by_cases hp2 : preAt t p [47, 42] = true
   ·have e1 : preAt t p (⟨#[47, 42]⟩ : ByteArray).data.toList = true := hp2
    rw [e1];rw [if_pos hp2] at hgap;have HB : Hid (p + 2 ≤ t.size) := ((preAt_two t p 47 42).1 hp2).1
    have HGM : Hid ((match remTo t (t.size - (p + 2)) (p + 2) with
     | none => (p, false)
     | some j => gaps t f0 j) = G) := hgap
    clear e1 hp2 hgap HA3 ix;have b0 := HA4.out.1.c0;have b1 := HA4.out.1.c1;have b2 := HA4.out.1.c2;have b3 := HA4.out.1.c3;have cl : cb < w3.heap.size := block_lt_of_cell b0;have HF : Hid (CutIs (w3.alloc (.cells (cutCells t p) 95)) cb t p ∧ Moved cb w (w3.alloc (.cells (cutCells t p) 95)) ∧ CutIs (w3.alloc (.cells (cutCells t p) 95)) w3.heap.size t p) := ⟨HA4.out.1.below ((Below.refl _ _).alloc (Nat.le_refl _) _), HA4.out.2.trans (Moved.of_below ((Below.refl _ _).alloc (Nat.le_refl _) _)), heap_alloc_new w3 _⟩;have HCL : Hid (w3.heap.size ≠ cb) := by show _ ≠ _; omega
    go_wp2_with fail
    refine (pass_any cb p 2 t _ HF.out.1 HB.out HT.out).mono ?_;rintro e w5 ⟨rfl, hq1, hq2⟩;have HG5 : Hid (CutIs w5 cb t (p + 2) ∧ Moved cb w w5 ∧ CutIs w5 w3.heap.size t p) := ⟨hq1, HF.out.2.1.trans hq2, (hq2.block _ (by simp) HCL.out).trans HF.out.2.2⟩;clear hq1 hq2 HF HA4 b0 b1 b2 b3 cl;obtain ⟨FB, hFB⟩ : ∃ FB, FB = w3.heap.size := ⟨_, rfl⟩;rw [← hFB] at HG5 HCL ⊢;clear hFB;go_wp2
    go_loopw [44] (fun v wr => ∃ q : Nat, Hid (p + 2 ≤ q ∧ q ≤ t.size ∧ remTo t (t.size - q) q = remTo t (t.size - (p + 2)) (p + 2)) ∧ Hid (CutIs wr cb t q ∧ Moved cb w wr ∧ CutIs wr FB t p)) (fun _ wr => leftC cb t wr)
    case atStart => exact ⟨p + 2, ⟨Nat.le_refl _, HB.out, rfl⟩, HG5⟩
    case round =>
     obtain ⟨q, HQ, HC0⟩ := hrel;have HLq : Hid (leftC cb t wr = t.size - q) := leftC_is HC0.out.1;clear HG5
     by_cases hqs : q < t.size
     ·have qmq : decide (q < t.size) = true := decide_eq_true hqs
      have HQS : Hid (q < t.size) := hqs;clear hqs;go_wp2_with fail
      refine (more_any cb _ t _ HC0.out.1.c0 HC0.out.1.c1).mono ?_;rintro e w6 ⟨rfl, hw⟩;have HC : Hid (CutIs w6 cb t q ∧ Moved cb w w6 ∧ CutIs w6 FB t p) := by rw [hw]; exact ⟨HC0.out.1, HC0.out.2.1.drew, HC0.out.2.2⟩
      clear hw HC0;go_wp2_with fail
      refine (lbegins_any cb _ t ⟨#[42, 47]⟩ _ HC.out.1.c0 HC.out.1.c1 (by have := HQS.out; omega)).mono ?_;rintro e w7 ⟨rfl, hw⟩;have HD : Hid (CutIs w7 cb t q ∧ Moved cb w w7 ∧ CutIs w7 FB t p) := by rw [hw]; exact ⟨HC.out.1, HC.out.2.1.drew, HC.out.2.2⟩
      clear hw HC
      by_cases hp3 : preAt t q [42, 47] = true
      ·have e3 : preAt t q (⟨#[42, 47]⟩ : ByteArray).data.toList = true := hp3
       rw [e3]
       have HE : Hid (q + 2 ≤ t.size ∧ gaps t f0 (q + 2) = G) := by
        have h1 := HQ.out.2.2;have h3 := HQS.out;obtain ⟨d, hd⟩ : ∃ d, t.size - q = d + 1 := ⟨t.size - q - 1, by omega⟩;rw [hd, remTo_succ, if_pos hp3] at h1;have h4 := HGM.out;rw [← h1] at h4;exact ⟨((preAt_two t q 42 47).1 hp3).1, h4⟩
       clear e3 hp3;go_wp2_with fail
       refine (pass_any cb q 2 t _ HD.out.1 HE.out.1 HT.out).mono ?_;rintro e w8 ⟨rfl, hq1, hq2⟩;have HH : Hid (CutIs w8 cb t (q + 2) ∧ Moved cb w w8) := ⟨hq1, HD.out.2.1.trans hq2⟩;clear hq1 hq2;go_wp2
       go_roundw
       case rel => exact ⟨rfl, q + 2, f0, ⟨HE.out.1, by have := HP.out; have := HQ.out.1; have := HE.out.1; omega, HE.out.2⟩, HH⟩
       case measure => (have e1 := leftC_is HH.out.1; have e2 := HL.out; have e3 := HP.out; show leftC cb t w8 < leftC cb t wo; rw [e1, e2]; have := HQ.out.1; omega)
      ·have e3 : preAt t q (⟨#[42, 47]⟩ : ByteArray).data.toList = false := by simpa using hp3
       rw [e3]
       have HQ2 : Hid (p + 2 ≤ q + 1 ∧ q + 1 ≤ t.size ∧ remTo t (t.size - (q + 1)) (q + 1) = remTo t (t.size - (p + 2)) (p + 2)) := by
        have h1 := HQ.out.2.2;have h3 := HQS.out;obtain ⟨d, hd⟩ : ∃ d, t.size - q = d + 1 := ⟨t.size - q - 1, by omega⟩;rw [hd, remTo_succ, if_neg hp3] at h1;refine ⟨by have := HQ.out.1; omega, by omega, ?_⟩;rw [show t.size - (q + 1) = d by omega, h1]
       clear e3 hp3;go_wp2_with fail
       refine (pass_any cb q 1 t _ HD.out.1 (by have := HQS.out; omega) HT.out).mono ?_;rintro e w8 ⟨rfl, hq1, hq2⟩;have HH : Hid (CutIs w8 cb t (q + 1) ∧ Moved cb w w8 ∧ CutIs w8 FB t p) := ⟨hq1, HD.out.2.1.trans hq2, (hq2.block _ (zge HD.out.2.2).1 HCL.out).trans HD.out.2.2⟩;clear hq1 hq2;go_wp2
       go_roundw
       case rel => exact ⟨q + 1, HQ2, HH⟩
       case measure => (have e1 := leftC_is HH.out.1; have e2 := HLq.out; have e3 := HQS.out; show leftC cb t w8 < leftC cb t wr; rw [e1, e2]; omega)
     ·have qmq : decide (q < t.size) = false := decide_eq_false hqs
      have HGE : Hid (G = (p, false)) := by
       have h1 := HQ.out.2.2;have h2 := HQ.out.2.1;rw [show t.size - q = 0 by omega] at h1;have h3 : remTo t 0 q = none := rfl;rw [h3] at h1;have h4 := HGM.out;rw [← h1] at h4;exact h4.symm
      clear hqs;go_wp2_with fail
      refine (more_any cb _ t _ HC0.out.1.c0 HC0.out.1.c1).mono ?_;rintro e w6 ⟨rfl, hw⟩;have HC : Hid (CutIs w6 cb t q ∧ Moved cb w w6 ∧ CutIs w6 FB t p) := by rw [hw]; exact ⟨HC0.out.1, HC0.out.2.1.drew, HC0.out.2.2⟩
      clear hw HC0;have a0 := HC.out.2.2.c0;have a1 := HC.out.2.2.c1;have a2 := HC.out.2.2.c2;have a3 := HC.out.2.2.c3;have b0 := HC.out.1.c0;have b1 := HC.out.1.c1;have b2 := HC.out.1.c2;have b3 := HC.out.1.c3;have g0 := HC.out.1.fz 0;have g1 := HC.out.1.fz 1;have g2 := HC.out.1.fz 2;have g3 := HC.out.1.fz 3;go_wp2;rw [Exit.noGoto_ret];go_ret;rw [HGE.out];refine ⟨rfl, ?_, (((HC.out.2.1.set 0 _).set 1 _).set 2 _).set 3 _⟩;refine Eq.trans (heap_set_same (o := 3) (heap_set_same (o := 2) (heap_set_same (o := 1) (heap_set_same (o := 0) HC.out.1 _) _) _) _) ?_;simp [cutCells]
   ·have e1 : preAt t p (⟨#[47, 42]⟩ : ByteArray).data.toList = false := by simpa using hp2
    rw [e1];rw [if_neg hp2] at hgap;subst hgap;clear e1 hp2;go_wp2;rw [Exit.noGoto_ret];go_ret;exact ⟨rfl, HA4.out.1, HA4.out.2⟩
  ·have hpe : p = t.size := by have := HP0.out; omega
   have qm : decide (p < t.size) = false := decide_eq_false hps
   have hgap : G = (p, true) := by
    have := HP0.out.2.2;unfold gaps at this;rw [if_neg hps] at this;exact this.symm
   subst hgap;clear hps hpe;go_wp2_with fail
   refine (more_any cb _ t _ HA.out.1.c0 HA.out.1.c1).mono ?_;rintro e w1 ⟨rfl, hw⟩;have HA1 : Hid (CutIs w1 cb t p ∧ Moved cb w w1) := by rw [hw]; exact ⟨HA.out.1, HA.out.2.drew⟩
   clear hw;go_wp2;rw [Exit.noGoto_ret];go_ret;exact ⟨rfl, HA1.out.1, HA1.out.2⟩

end Go.Proofs.YtlonbaefdffbeaaGreatDoor
