import Derived.Test.YtlonbaefdffbeaaGreatDoorAList
namespace Go.Proofs.YtlonbaefdffbeaaGreatDoor
open Go.ChangeShapes Go.WideShapes Go.ChangeAt Go.RowKit Go.Proofs.Tryz
set_option linter.unusedSimpArgs false
set_option linter.unusedVariables false
set_option maxHeartbeats 4000000

def remF (c : PC) (s : PSt) : Nat := if s.e = 0 then c.ws.length - s.i else 0
theorem takeF_true {c : PC} {s : PSt} {t : ByteArray} (ht : 0 < t.size) (h : (takeF c s t).1 = true) : (takeF c s t).2 = { s with i := s.i + 1 } ∧ remF c (takeF c s t).2 < remF c s := by
 unfold takeF at h ⊢
 split at h
 ·rename_i hi
  rw [if_pos hi];refine ⟨rfl, ?_⟩;obtain ⟨h0, hl⟩ := isF_lt c s t ht hi;unfold remF;dsimp only;rw [if_pos h0, if_pos h0]
  omega
 ·cases h
def listLoop (one : PSt → Tr × PSt) (c : PC) : Nat → PSt → List Tr → List Tr × PSt
 | 0, s, acc => (acc, s)
 | f + 1, s, acc => if (takeF c s ⟨#[44]⟩).1 = true then listLoop one c f (one (takeF c s ⟨#[44]⟩).2).2 (acc ++ [(one (takeF c s ⟨#[44]⟩).2).1]) else (acc, s)
def Goes (one : PSt → Tr × PSt) (c : PC) (r : Nat) : Prop := ∀ s, remF c s < r → remF c (one s).2 ≤ remF c s
theorem listLoop_fuel {one : PSt → Tr × PSt} {c : PC} {r : Nat} (hm : Goes one c r) : ∀ (f f' : Nat) (s : PSt) (acc : List Tr), remF c s < f → remF c s < f' → remF c s ≤ r → listLoop one c f s acc = listLoop one c f' s acc
 | 0, _, _, _, h, _, _ => by omega
 | f + 1, 0, _, _, _, h, _ => by omega
 | f + 1, f' + 1, s, acc, h1, h2, h3 => by
  rw [listLoop, listLoop]
  split
  ·rename_i hk
   have ht := (takeF_true (by decide) hk).2;have := hm (takeF c s ⟨#[44]⟩).2 (by omega);exact listLoop_fuel hm f f' _ _ (by omega) (by omega) (by omega)
  ·rfl
def listOf (one : PSt → Tr × PSt) (c : PC) (s : PSt) (acc : List Tr) : List Tr × PSt := listLoop one c (remF c s + 1) s acc
theorem listOf_more {one : PSt → Tr × PSt} {c : PC} {r : Nat} (hm : Goes one c r) {s : PSt} {acc : List Tr} (hr : remF c s ≤ r) (hk : (takeF c s ⟨#[44]⟩).1 = true) : listOf one c s acc = listOf one c (one (takeF c s ⟨#[44]⟩).2).2 (acc ++ [(one (takeF c s ⟨#[44]⟩).2).1]) := by
 have ht := (takeF_true (by decide) hk).2;have := hm (takeF c s ⟨#[44]⟩).2 (by omega);unfold listOf;rw [listLoop, if_pos hk];exact listLoop_fuel hm _ _ _ _ (by omega) (by omega) (by omega)
theorem listOf_end {one : PSt → Tr × PSt} {c : PC} {s : PSt} {acc : List Tr} (hk : (takeF c s ⟨#[44]⟩).1 = false) : listOf one c s acc = (acc, s) := by
 unfold listOf;rw [listLoop, if_neg (by rw [hk]; decide)]
def listF (one : PSt → Tr × PSt) (c : PC) (s : PSt) : List Tr × PSt :=
 if (takeF c s ⟨#[41]⟩).1 = true then ([], (takeF c s ⟨#[41]⟩).2) else ((listOf one c (one s).2 [(one s).1]).1, needF c (listOf one c (one s).2 [(one s).1]).2 ⟨#[41]⟩)
def retL (c : PC) (r : List Tr × PSt) (w : World) : Ending → World → Prop := fun e W => ∃ a cap bs, e = .returned (.slice a r.1.length cap) ∧ ListAt W w.heap.size (.slice a r.1.length cap) r.1 bs ∧ PAt W c r.2 ∧ Chg c.PB w W
theorem infoP : (prog.info? 83).map (fun i => (i.zero, i.size, i.bytes)) = some (some (.pointer none), 1, 8) := by kernel_rfl
def OneOk (G : World → Prop) (f : Nat) (one : PSt → Tr × PSt) (c : PC) (r : Nat) : Prop := ∀ (s : PSt) (w : World), PAt w c s → G w → remF c s < r → Calls prog f #[.pointer (some ⟨c.PB, 0, none⟩)] w (retE c (one s) w)
theorem ListAt.one {W : World} {lo l x : Nat} {t : Tr} (ht : TreeAt W l W.heap.size t x) (hl : lo ≤ l) (hle : lo ≤ W.heap.size) : ListAt (W.alloc (.cells #[ptrV x] 83)) lo (.slice (some ⟨W.heap.size, 0, none⟩) 1 1) [t] [x] := by
 have hb : Below W.heap.size W (W.alloc (.cells #[ptrV x] 83)) := (Below.refl _ _).alloc (Nat.le_refl _) _;refine ⟨⟨rfl, .inr ⟨W.heap.size, 1, #[ptrV x], rfl, hle, World.alloc_heap_new W _, Nat.le_refl _, by unfold maxLen; omega, rfl, rfl⟩⟩, rfl, fun i t' x' ht' hx' => ?_⟩
 have hi : i = 0 := by
  have := (List.getElem?_eq_some_iff.1 ht').1;simp at this
  omega
 subst hi;simp at ht' hx';subst ht' hx';exact ⟨l, W.heap.size, hl, by simp, ht.keep (fun k k1 k2 => hb.block k k2), fun k k1 k2 he => by simp [Value.ownBlock] at he; omega⟩
theorem list_expression (G : World → Prop) (one : PSt → Tr × PSt) (c : PC) (s : PSt) (r : Nat) (w : World) (hp : PAt w c s) (hG : G w) (HGk : Hid (∀ W W', G W → Chg c.PB W W' → G W')) (HO : Hid (OneOk G 136 one c r)) (HM : Hid (Goes one c r)) (hr : remF c s < r) :
  Calls prog 97 #[.pointer (some ⟨c.PB, 0, none⟩), .func (.func 136) #[.pointer (some ⟨c.PB, 0, none⟩)] #[]] w (retL c (listF one c s) w) := by
 obtain ⟨i0', hinf, hz0, hz1, hz2⟩ := info_parts infoP;have PL := hp.lt;have HP : Hid (PAt w c s) := hp;have HG0 : Hid (G w) := hG;have HT : Hid (∀ W, PAt W c s → Calls prog 63 #[pp c, .string ⟨#[41]⟩] W (pret (.bool (takeF c s ⟨#[41]⟩).1) c (takeF c s ⟨#[41]⟩).2 W)) := fun W h => take_any c s _ W h (by decide)
 cases htk : (takeF c s ⟨#[41]⟩).1 with
 | true =>
  obtain ⟨s1, hs1⟩ : ∃ s1, (takeF c s ⟨#[41]⟩).2 = s1 := ⟨_, rfl⟩;have e1 : listF one c s = ([], s1) := by unfold listF; rw [htk, if_pos rfl, hs1]
  rw [e1];rw [htk, hs1] at HT;clear hp hG htk hs1 e1
  go_enter func97, ntmps97
  go_wp2_with fail
  refine (HT.out _ HP.out).mono ?_;rintro e w1 ⟨rfl, hp1, hg1⟩;dsimp only;go_wp2;go_ret;exact ⟨none, 0, [], rfl, ListAt.nil _ _, hp1, hg1⟩
 | false =>
  rw [htk, takeF_false htk] at HT;have e1 : listF one c s = ((listOf one c (one s).2 [(one s).1]).1, needF c (listOf one c (one s).2 [(one s).1]).2 ⟨#[41]⟩) := by unfold listF; rw [htk, if_neg (by decide)]
  rw [e1];have HO1 : Hid (∀ W, PAt W c s → G W → Calls prog 136 #[pp c] W (retE c (one s) W)) := fun W h h2 => HO.out s W h h2 hr;have hm1 := HM.out s hr;obtain ⟨R, hR⟩ : ∃ R, listOf one c (one s).2 [(one s).1] = R := ⟨_, rfl⟩;rw [hR];have HR : Hid (listOf one c (one s).2 [(one s).1] = R ∧ remF c (one s).2 < r) := ⟨hR, by omega⟩;clear hp hG htk e1 hm1 hR hr
  go_enter func97, ntmps97
  go_wp2_with fail
  refine (HT.out _ HP.out).mono ?_;rintro e w1 ⟨rfl, hp1, hg1⟩;have HP1 : Hid (PAt w1 c s) := hp1;have HC1 : Hid (Chg c.PB w w1) := hg1;clear hp1 hg1;dsimp only;go_wp2_with fail
  refine (HO1.out _ HP1.out (HGk.out _ _ HG0.out HC1.out)).mono ?_;rintro e w2 ⟨b, rfl, ht2, hp2, hg2⟩;have HP2 : Hid (PAt w2 c (one s).2) := hp2;have HC2 : Hid (Chg c.PB w w2) := HC1.out.trans hg2;have HL2 : Hid (ListAt (w2.alloc (.cells #[ptrV b] 83)) w.heap.size (.slice (some ⟨w2.heap.size, 0, none⟩) 1 1) [(one s).1] [b]) := ListAt.one ht2.tree HC1.out.size HC2.out.size;clear ht2 hp2 hg2;unfold ptrV at HL2;dsimp only;go_wp2;refine wp_namedA (fun W => PAt W c (one s).2 ∧ Chg c.PB w W ∧ ListAt W w.heap.size (.slice (some ⟨w2.heap.size, 0, none⟩) 1 1) [(one s).1] [b]) ⟨HP2.out.below ((Below.refl _ _).alloc (Nat.le_refl _) _), HC2.out.alloc _, HL2.out⟩ ?_;intro W hW;have HW : Hid (PAt W c (one s).2 ∧ Chg c.PB w W ∧ ListAt W w.heap.size (.slice (some ⟨w2.heap.size, 0, none⟩) 1 1) [(one s).1] [b]) := hW;clear hW;have hlim := HP.out.wds.lim
  go_loopg [5] (remF c (one s).2) (fun k v5 wr => ∃ (st : PSt) (acc : List Tr) (bs : List Nat) (a : Option Addr) (cap : Nat), v5 = .slice a acc.length cap ∧ remF c st ≤ k ∧ Hid (PAt wr c st ∧ Chg c.PB w wr ∧ ListAt wr w.heap.size (.slice a acc.length cap) acc bs ∧ listOf one c st acc = R ∧ remF c st < r ∧ acc.length + remF c st ≤ 65537))
  case atStart => exact ⟨_, [(one s).1], [b], _, 1, rfl, Nat.le_refl _, ⟨HW.out.1, HW.out.2.1, HW.out.2.2, HR.out.1, HR.out.2, by have : remF c (one s).2 ≤ c.ws.length := by { unfold remF; split <;> omega }; simp; omega⟩⟩
  case round =>
   obtain ⟨st, acc, bs, a, cap, rfl, hk, HI⟩ := hrel;have HTK : Hid (∀ W, PAt W c st → Calls prog 63 #[pp c, .string ⟨#[44]⟩] W (pret (.bool (takeF c st ⟨#[44]⟩).1) c (takeF c st ⟨#[44]⟩).2 W)) := fun W h => take_any c st _ W h (by decide)
   cases hc : (takeF c st ⟨#[44]⟩).1 with
   | true =>
    have hlt := (takeF_true (by decide) hc).2;have hrr := HI.out.2.2.2.2.1;have hmo := HM.out (takeF c st ⟨#[44]⟩).2 (by omega);have hmore := (listOf_more (acc := acc) HM.out (Nat.le_of_lt hrr) hc).symm.trans HI.out.2.2.2.1;rw [hc] at HTK;obtain ⟨s5, hs5⟩ : ∃ s5, (takeF c st ⟨#[44]⟩).2 = s5 := ⟨_, rfl⟩;rw [hs5] at HTK hlt hmo hmore;have HO5 : Hid (∀ W, PAt W c s5 → G W → Calls prog 136 #[pp c] W (retE c (one s5) W)) := fun W h h2 => HO.out s5 W h h2 (by omega);have HMO : Hid (remF c s5 < remF c st ∧ remF c (one s5).2 ≤ remF c s5 ∧ listOf one c (one s5).2 (acc ++ [(one s5).1]) = R) := ⟨hlt, hmo, hmore⟩;clear hc hs5 hlt hrr hmo hmore;go_wp2_with fail
    refine (HTK.out _ HI.out.1).mono ?_;rintro e w5 ⟨rfl, hp5, hg5⟩;have HP5 : Hid (PAt w5 c s5) := hp5;have HC5 : Hid (Chg c.PB w w5) := HI.out.2.1.trans hg5;have HL5 : Hid (ListAt w5 w.heap.size (.slice a acc.length cap) acc bs) := HI.out.2.2.1.chg hg5 PL;clear hp5 hg5;dsimp only;go_wp2_with fail
    refine (HO5.out _ HP5.out (HGk.out _ _ HG0.out HC5.out)).mono ?_;rintro e w6 ⟨x, rfl, ht6, hp6, hg6⟩;have HP6 : Hid (PAt w6 c (one s5).2) := hp6;have HC6 : Hid (Chg c.PB w w6) := HC5.out.trans hg6;have HL6 : Hid (ListAt w6 w.heap.size (.slice a acc.length cap) acc bs) := HL5.out.chg hg6 PL;have HT6 : Hid (TreeAt w6 w5.heap.size w6.heap.size (one s5).1 x) := ht6.tree;have hsz6 := hg6.size;clear ht6 hp6 hg6;dsimp only
    go_wp2_with (at_builtin; refine wpList_append_own_at _ rfl _ _ 61 rfl w.heap.size 83 i0' (.pointer none) 1 8 underlying61 hinf hz0 hz1 hz2 rfl (by decide) (.slice a acc.length cap) acc.length (bs.map ptrV) (by rfl) (HL6.out.own.alloc _) ⟨w6.heap.size, 0, none⟩ 1 1 [ptrV x] (by rfl) (by rfl) ?c1 ?c2 ?c3 ?c4 ?c5 ?_)
    case c1 => exact World.news_of_block (World.alloc_heap_new w6 (.cells #[ptrV x] 83))
    case c2 => intro u hu; simp at hu; subst hu; rfl
    case c3 => have := HI.out.2.2.2.2.2; unfold maxLen; omega
    case c4 => have := HI.out.2.2.2.2.2; omega
    case c5 => have := HC6.out.size; simp; omega
    intro v' W2 hown' hgrow _ hat;have HLN : Hid (ListAt W2 w.heap.size v' (acc ++ [(one s5).1]) (bs ++ [x])) := HL6.out.push HT6.out HC5.out.size (fun k hk => (own_lt HL5.out.own hk).2) ((Below.refl _ _).alloc (Nat.le_refl _) _) hown' hgrow (hat.imp id (fun h => by rw [World.size_alloc]; exact h));have hown6 := HL6.out.own
    have HB2 : Hid (∀ k, k < w.heap.size → W2.heap[k]? = w6.heap[k]?) := fun k hk => by
     have h6 := HC6.out.size;rw [hgrow.block k (by simp; omega) (fun he => by have := (own_lt hown6 he.symm).1; omega), Below.heap_alloc w6 _ k (by omega)]
    have HS2 : Hid (W2.os = w6.os ∧ W2.tape = w6.tape ∧ W2.output = w6.output ∧ w6.heap.size ≤ W2.heap.size) := ⟨hgrow.os, hgrow.tape, hgrow.output, by have := hgrow.size; simp at this; omega⟩;clear hown' hgrow hat hown6;go_wp2
    go_roundg (remF c (one s5).2)
    case measure => have := HMO.out; omega
    case rel =>
     obtain ⟨a2, cap2, hv2, _⟩ := HLN.out.row;subst hv2;refine ⟨(one s5).2, acc ++ [(one s5).1], bs ++ [x], a2, cap2, rfl, Nat.le_refl _, ⟨HP.out.over HP6.out (fun k hk => HB2.out k hk), ?_, HLN.out, HMO.out.2.2, by have := HMO.out; have := HI.out.2.2.2.2.1; omega, by have := HMO.out; have := HI.out.2.2.2.2.2; simp; omega⟩⟩;exact ⟨HS2.out.1.trans HC6.out.os, HS2.out.2.1.trans HC6.out.tape, HS2.out.2.2.1.trans HC6.out.output, Nat.le_trans HC6.out.size HS2.out.2.2.2, fun k k1 k2 => (HB2.out k k1).trans (HC6.out.block k k1 k2)⟩
   | false =>
    have hend := (listOf_end (one := one) (acc := acc) hc).symm.trans HI.out.2.2.2.1;rw [hc, takeF_false hc] at HTK;have HN : Hid (∀ W, PAt W c st → Calls prog 68 #[pp c, .string ⟨#[41]⟩] W (pret (.tuple #[]) c (needF c st ⟨#[41]⟩) W)) := fun W h => need_any c st _ W h (by decide);have HRE : Hid (R = (acc, st)) := hend.symm;clear hc hend;go_wp2_with fail
    refine (HTK.out _ HI.out.1).mono ?_;rintro e w5 ⟨rfl, hp5, hg5⟩;have HP5 : Hid (PAt w5 c st) := hp5;have HC5 : Hid (Chg c.PB w w5) := HI.out.2.1.trans hg5;have HL5 : Hid (ListAt w5 w.heap.size (.slice a acc.length cap) acc bs) := HI.out.2.2.1.chg hg5 PL;clear hp5 hg5;dsimp only;go_wp2_with fail
    refine (HN.out _ HP5.out).mono ?_;rintro e w6 ⟨rfl, hp6, hg6⟩;have HP6 : Hid (PAt w6 c (needF c st ⟨#[41]⟩)) := hp6;have HC6 : Hid (Chg c.PB w w6) := HC5.out.trans hg6;have HL6 : Hid (ListAt w6 w.heap.size (.slice a acc.length cap) acc bs) := HL5.out.chg hg6 PL;clear hp6 hg6;dsimp only;go_wp2;go_ret;rw [HRE.out];exact ⟨a, cap, bs, rfl, HL6.out, HP6.out, HC6.out⟩
theorem list_param (G : World → Prop) (one : PSt → Tr × PSt) (c : PC) (s : PSt) (r : Nat) (w : World) (hp : PAt w c s) (hG : G w) (HGk : Hid (∀ W W', G W → Chg c.PB W W' → G W')) (HO : Hid (OneOk G 98 one c r)) (HM : Hid (Goes one c r)) (hr : remF c s < r) :
  Calls prog 97 #[.pointer (some ⟨c.PB, 0, none⟩), .func (.func 98) #[.pointer (some ⟨c.PB, 0, none⟩)] #[]] w (retL c (listF one c s) w) := by
 obtain ⟨i0', hinf, hz0, hz1, hz2⟩ := info_parts infoP;have PL := hp.lt;have HP : Hid (PAt w c s) := hp;have HG0 : Hid (G w) := hG;have HT : Hid (∀ W, PAt W c s → Calls prog 63 #[pp c, .string ⟨#[41]⟩] W (pret (.bool (takeF c s ⟨#[41]⟩).1) c (takeF c s ⟨#[41]⟩).2 W)) := fun W h => take_any c s _ W h (by decide)
 cases htk : (takeF c s ⟨#[41]⟩).1 with
 | true =>
  obtain ⟨s1, hs1⟩ : ∃ s1, (takeF c s ⟨#[41]⟩).2 = s1 := ⟨_, rfl⟩;have e1 : listF one c s = ([], s1) := by unfold listF; rw [htk, if_pos rfl, hs1]
  rw [e1];rw [htk, hs1] at HT;clear hp hG htk hs1 e1
  go_enter func97, ntmps97
  go_wp2_with fail
  refine (HT.out _ HP.out).mono ?_;rintro e w1 ⟨rfl, hp1, hg1⟩;dsimp only;go_wp2;go_ret;exact ⟨none, 0, [], rfl, ListAt.nil _ _, hp1, hg1⟩
 | false =>
  rw [htk, takeF_false htk] at HT;have e1 : listF one c s = ((listOf one c (one s).2 [(one s).1]).1, needF c (listOf one c (one s).2 [(one s).1]).2 ⟨#[41]⟩) := by unfold listF; rw [htk, if_neg (by decide)]
  rw [e1];have HO1 : Hid (∀ W, PAt W c s → G W → Calls prog 98 #[pp c] W (retE c (one s) W)) := fun W h h2 => HO.out s W h h2 hr;have hm1 := HM.out s hr;obtain ⟨R, hR⟩ : ∃ R, listOf one c (one s).2 [(one s).1] = R := ⟨_, rfl⟩;rw [hR];have HR : Hid (listOf one c (one s).2 [(one s).1] = R ∧ remF c (one s).2 < r) := ⟨hR, by omega⟩;clear hp hG htk e1 hm1 hR hr
  go_enter func97, ntmps97
  go_wp2_with fail
  refine (HT.out _ HP.out).mono ?_;rintro e w1 ⟨rfl, hp1, hg1⟩;have HP1 : Hid (PAt w1 c s) := hp1;have HC1 : Hid (Chg c.PB w w1) := hg1;clear hp1 hg1;dsimp only;go_wp2_with fail
  refine (HO1.out _ HP1.out (HGk.out _ _ HG0.out HC1.out)).mono ?_;rintro e w2 ⟨b, rfl, ht2, hp2, hg2⟩;have HP2 : Hid (PAt w2 c (one s).2) := hp2;have HC2 : Hid (Chg c.PB w w2) := HC1.out.trans hg2;have HL2 : Hid (ListAt (w2.alloc (.cells #[ptrV b] 83)) w.heap.size (.slice (some ⟨w2.heap.size, 0, none⟩) 1 1) [(one s).1] [b]) := ListAt.one ht2.tree HC1.out.size HC2.out.size;clear ht2 hp2 hg2;unfold ptrV at HL2;dsimp only;go_wp2;refine wp_namedA (fun W => PAt W c (one s).2 ∧ Chg c.PB w W ∧ ListAt W w.heap.size (.slice (some ⟨w2.heap.size, 0, none⟩) 1 1) [(one s).1] [b]) ⟨HP2.out.below ((Below.refl _ _).alloc (Nat.le_refl _) _), HC2.out.alloc _, HL2.out⟩ ?_;intro W hW;have HW : Hid (PAt W c (one s).2 ∧ Chg c.PB w W ∧ ListAt W w.heap.size (.slice (some ⟨w2.heap.size, 0, none⟩) 1 1) [(one s).1] [b]) := hW;clear hW;have hlim := HP.out.wds.lim
  go_loopg [5] (remF c (one s).2) (fun k v5 wr => ∃ (st : PSt) (acc : List Tr) (bs : List Nat) (a : Option Addr) (cap : Nat), v5 = .slice a acc.length cap ∧ remF c st ≤ k ∧ Hid (PAt wr c st ∧ Chg c.PB w wr ∧ ListAt wr w.heap.size (.slice a acc.length cap) acc bs ∧ listOf one c st acc = R ∧ remF c st < r ∧ acc.length + remF c st ≤ 65537))
  case atStart => exact ⟨_, [(one s).1], [b], _, 1, rfl, Nat.le_refl _, ⟨HW.out.1, HW.out.2.1, HW.out.2.2, HR.out.1, HR.out.2, by have : remF c (one s).2 ≤ c.ws.length := by { unfold remF; split <;> omega }; simp; omega⟩⟩
  case round =>
   obtain ⟨st, acc, bs, a, cap, rfl, hk, HI⟩ := hrel;have HTK : Hid (∀ W, PAt W c st → Calls prog 63 #[pp c, .string ⟨#[44]⟩] W (pret (.bool (takeF c st ⟨#[44]⟩).1) c (takeF c st ⟨#[44]⟩).2 W)) := fun W h => take_any c st _ W h (by decide)
   cases hc : (takeF c st ⟨#[44]⟩).1 with
   | true =>
    have hlt := (takeF_true (by decide) hc).2;have hrr := HI.out.2.2.2.2.1;have hmo := HM.out (takeF c st ⟨#[44]⟩).2 (by omega);have hmore := (listOf_more (acc := acc) HM.out (Nat.le_of_lt hrr) hc).symm.trans HI.out.2.2.2.1;rw [hc] at HTK;obtain ⟨s5, hs5⟩ : ∃ s5, (takeF c st ⟨#[44]⟩).2 = s5 := ⟨_, rfl⟩;rw [hs5] at HTK hlt hmo hmore;have HO5 : Hid (∀ W, PAt W c s5 → G W → Calls prog 98 #[pp c] W (retE c (one s5) W)) := fun W h h2 => HO.out s5 W h h2 (by omega);have HMO : Hid (remF c s5 < remF c st ∧ remF c (one s5).2 ≤ remF c s5 ∧ listOf one c (one s5).2 (acc ++ [(one s5).1]) = R) := ⟨hlt, hmo, hmore⟩;clear hc hs5 hlt hrr hmo hmore;go_wp2_with fail
    refine (HTK.out _ HI.out.1).mono ?_;rintro e w5 ⟨rfl, hp5, hg5⟩;have HP5 : Hid (PAt w5 c s5) := hp5;have HC5 : Hid (Chg c.PB w w5) := HI.out.2.1.trans hg5;have HL5 : Hid (ListAt w5 w.heap.size (.slice a acc.length cap) acc bs) := HI.out.2.2.1.chg hg5 PL;clear hp5 hg5;dsimp only;go_wp2_with fail
    refine (HO5.out _ HP5.out (HGk.out _ _ HG0.out HC5.out)).mono ?_;rintro e w6 ⟨x, rfl, ht6, hp6, hg6⟩;have HP6 : Hid (PAt w6 c (one s5).2) := hp6;have HC6 : Hid (Chg c.PB w w6) := HC5.out.trans hg6;have HL6 : Hid (ListAt w6 w.heap.size (.slice a acc.length cap) acc bs) := HL5.out.chg hg6 PL;have HT6 : Hid (TreeAt w6 w5.heap.size w6.heap.size (one s5).1 x) := ht6.tree;have hsz6 := hg6.size;clear ht6 hp6 hg6;dsimp only
    go_wp2_with (at_builtin; refine wpList_append_own_at _ rfl _ _ 61 rfl w.heap.size 83 i0' (.pointer none) 1 8 underlying61 hinf hz0 hz1 hz2 rfl (by decide) (.slice a acc.length cap) acc.length (bs.map ptrV) (by rfl) (HL6.out.own.alloc _) ⟨w6.heap.size, 0, none⟩ 1 1 [ptrV x] (by rfl) (by rfl) ?c1 ?c2 ?c3 ?c4 ?c5 ?_)
    case c1 => exact World.news_of_block (World.alloc_heap_new w6 (.cells #[ptrV x] 83))
    case c2 => intro u hu; simp at hu; subst hu; rfl
    case c3 => have := HI.out.2.2.2.2.2; unfold maxLen; omega
    case c4 => have := HI.out.2.2.2.2.2; omega
    case c5 => have := HC6.out.size; simp; omega
    intro v' W2 hown' hgrow _ hat;have HLN : Hid (ListAt W2 w.heap.size v' (acc ++ [(one s5).1]) (bs ++ [x])) := HL6.out.push HT6.out HC5.out.size (fun k hk => (own_lt HL5.out.own hk).2) ((Below.refl _ _).alloc (Nat.le_refl _) _) hown' hgrow (hat.imp id (fun h => by rw [World.size_alloc]; exact h));have hown6 := HL6.out.own
    have HB2 : Hid (∀ k, k < w.heap.size → W2.heap[k]? = w6.heap[k]?) := fun k hk => by
     have h6 := HC6.out.size;rw [hgrow.block k (by simp; omega) (fun he => by have := (own_lt hown6 he.symm).1; omega), Below.heap_alloc w6 _ k (by omega)]
    have HS2 : Hid (W2.os = w6.os ∧ W2.tape = w6.tape ∧ W2.output = w6.output ∧ w6.heap.size ≤ W2.heap.size) := ⟨hgrow.os, hgrow.tape, hgrow.output, by have := hgrow.size; simp at this; omega⟩;clear hown' hgrow hat hown6;go_wp2
    go_roundg (remF c (one s5).2)
    case measure => have := HMO.out; omega
    case rel =>
     obtain ⟨a2, cap2, hv2, _⟩ := HLN.out.row;subst hv2;refine ⟨(one s5).2, acc ++ [(one s5).1], bs ++ [x], a2, cap2, rfl, Nat.le_refl _, ⟨HP.out.over HP6.out (fun k hk => HB2.out k hk), ?_, HLN.out, HMO.out.2.2, by have := HMO.out; have := HI.out.2.2.2.2.1; omega, by have := HMO.out; have := HI.out.2.2.2.2.2; simp; omega⟩⟩;exact ⟨HS2.out.1.trans HC6.out.os, HS2.out.2.1.trans HC6.out.tape, HS2.out.2.2.1.trans HC6.out.output, Nat.le_trans HC6.out.size HS2.out.2.2.2, fun k k1 k2 => (HB2.out k k1).trans (HC6.out.block k k1 k2)⟩
   | false =>
    have hend := (listOf_end (one := one) (acc := acc) hc).symm.trans HI.out.2.2.2.1;rw [hc, takeF_false hc] at HTK;have HN : Hid (∀ W, PAt W c st → Calls prog 68 #[pp c, .string ⟨#[41]⟩] W (pret (.tuple #[]) c (needF c st ⟨#[41]⟩) W)) := fun W h => need_any c st _ W h (by decide);have HRE : Hid (R = (acc, st)) := hend.symm;clear hc hend;go_wp2_with fail
    refine (HTK.out _ HI.out.1).mono ?_;rintro e w5 ⟨rfl, hp5, hg5⟩;have HP5 : Hid (PAt w5 c st) := hp5;have HC5 : Hid (Chg c.PB w w5) := HI.out.2.1.trans hg5;have HL5 : Hid (ListAt w5 w.heap.size (.slice a acc.length cap) acc bs) := HI.out.2.2.1.chg hg5 PL;clear hp5 hg5;dsimp only;go_wp2_with fail
    refine (HN.out _ HP5.out).mono ?_;rintro e w6 ⟨rfl, hp6, hg6⟩;have HP6 : Hid (PAt w6 c (needF c st ⟨#[41]⟩)) := hp6;have HC6 : Hid (Chg c.PB w w6) := HC5.out.trans hg6;have HL6 : Hid (ListAt w6 w.heap.size (.slice a acc.length cap) acc bs) := HL5.out.chg hg6 PL;clear hp6 hg6;dsimp only;go_wp2;go_ret;rw [HRE.out];exact ⟨a, cap, bs, rfl, HL6.out, HP6.out, HC6.out⟩
end Go.Proofs.YtlonbaefdffbeaaGreatDoor
