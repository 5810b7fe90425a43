import Derived.Deep.LoopGhost
import Derived.Test.YtlonbaefdffbeaaGreatDoorXStC
import Derived.Maps.AppendAt
import Derived.Test.YtlonbaefdffbeaaGreatDoorLWords2
namespace Go.Proofs.YtlonbaefdffbeaaGreatDoor
open Go.ChangeShapes Go.WideShapes Go.ChangeAt Go.RowKit Go.Proofs.Tryz
set_option linter.unusedSimpArgs false
set_option linter.unusedVariables false
set_option maxRecDepth 20000
set_option maxHeartbeats 16000000

def paramF (c : PC) (s : PSt) : Tr × PSt :=
 (.mk ⟨5, (needKF c (typF c (takeF c s ⟨#[112, 117, 98, 108, 105, 99]⟩).2).2 1).1.pl, (needKF c (typF c (takeF c s ⟨#[112, 117, 98, 108, 105, 99]⟩).2).2 1).1.pc, (needKF c (typF c (takeF c s ⟨#[112, 117, 98, 108, 105, 99]⟩).2).2 1).1.s, ⟨#[]⟩, 0, (typF c (takeF c s ⟨#[112, 117, 98, 108, 105, 99]⟩).2).1, (takeF c s ⟨#[112, 117, 98, 108, 105, 99]⟩).1, 0⟩ [] 0, (needKF c (typF c (takeF c s ⟨#[112, 117, 98, 108, 105, 99]⟩).2).2 1).2)
theorem paramF_goes (c : PC) (r : Nat) : Goes (paramF c) c r := fun s _ => Nat.le_trans (rem_needK _ _ _) (Nat.le_trans (rem_typ _ _) (rem_take _ _ _))
theorem paramF_back (c : PC) : Back (paramF c) := fun s h => bk_take _ _ _ (bk_typ _ _ (bk_needK _ _ _ h))
theorem Top.leaf {W : World} {lo B : Nat} {d : ND} (h : W.heap[B]? = some (.cells (nodeCells d (.slice none 0 0) 0) 87 (0, 0))) (hl : lo ≤ B) : Top W lo (.mk d [] 0) B := ⟨none, 0, [], h, RowAt.nil _ _ _ _ _, hl⟩
theorem param_any (G : World → Prop) (c : PC) (s : PSt) (w : World) (hp : PAt w c s) (hG : G w) (HGk : Hid (∀ W W', G W → Chg c.PB W W' → G W')) (hgl : c.g < w.heap.size) (HGt : Hid (∀ W, G W → TwTab W)) (hT : 2 ≠ c.PB) : Calls prog 98 #[.pointer (some ⟨c.PB, 0, none⟩)] w (retE c (paramF c s) w) := by
 have PL := hp.lt;have HP : Hid (PAt w c s) := hp;have HG0 : Hid (G w) := hG;unfold paramF;have HTK : Hid (∀ W, PAt W c s → Calls prog 63 #[pp c, .string ⟨#[112, 117, 98, 108, 105, 99]⟩] W (pret (.bool (takeF c s ⟨#[112, 117, 98, 108, 105, 99]⟩).1) c (takeF c s ⟨#[112, 117, 98, 108, 105, 99]⟩).2 W)) := fun W h => take_any c s _ W h (by decide);obtain ⟨pb, hpb⟩ : ∃ y, (takeF c s ⟨#[112, 117, 98, 108, 105, 99]⟩).1 = y := ⟨_, rfl⟩;obtain ⟨s0, hs0⟩ : ∃ y, (takeF c s ⟨#[112, 117, 98, 108, 105, 99]⟩).2 = y := ⟨_, rfl⟩;rw [hpb, hs0] at HTK ⊢;have HTY : Hid (∀ W, PAt W c s0 → Chg c.PB w W → Calls prog 61 #[pp c] W (retSh c (typF c s0).2 (typF c s0).1 W)) := fun W h h2 => typ_any c s0 W h (HGt.out _ (HGk.out _ _ HG0.out h2)) hT;have HNM : Hid (∀ W, PAt W c (typF c s0).2 → Calls prog 65 #[pp c, shV (typF c s0).1] W (retNd c (needKF c (typF c s0).2 1).2 (namedD (needKF c (typF c s0).2 1).1 (typF c s0).1) W)) := fun W h => named_any c _ _ W h;obtain ⟨ty, hty⟩ : ∃ y, (typF c s0).1 = y := ⟨_, rfl⟩;obtain ⟨s1, hs1⟩ : ∃ y, (typF c s0).2 = y := ⟨_, rfl⟩;rw [hty, hs1] at HTY HNM;obtain ⟨x, hx⟩ : ∃ y, (needKF c s1 1).1 = y := ⟨_, rfl⟩;obtain ⟨s2, hs2⟩ : ∃ y, (needKF c s1 1).2 = y := ⟨_, rfl⟩;rw [hx, hs2] at HNM;rw [hs1, hty, hx, hs2];clear hp hG hpb hs0 hty hs1 hx hs2
 go_enter func98, ntmps98
 go_wp2_with fail
 refine (HTK.out _ HP.out).mono ?_;rintro e w0 ⟨rfl, hp0, hg0⟩;have HP0 : Hid (PAt w0 c s0) := hp0;have HC0 : Hid (Chg c.PB w w0) := hg0;clear hp0 hg0;dsimp only;go_wp2_with fail
 refine (HTY.out _ HP0.out HC0.out).mono ?_;rintro e w1 ⟨rfl, hp1, hg1⟩;have HX1 : Hid (PAt w1 c s1 ∧ Chg c.PB w w1) := ⟨hp1, HC0.out.trans hg1⟩;clear hp1 hg1;dsimp only [shV];go_wp2_with fail
 refine (HNM.out _ HX1.out.1).mono ?_;rintro e w2 ⟨B, rfl, hb2, hB2, hp2, hg2⟩;have hC2 := HX1.out.2.trans hg2;have hBw : w.heap.size ≤ B := Nat.le_trans HX1.out.2.size hB2;have gB : B ≠ c.PB := by omega
 have lB : B < w2.heap.size := (zge hb2).1;have c0 : w2.cell? ⟨B, 0, none⟩ = some (.int .i64 0) := heap_cell hb2 (by simp [nodeCells, namedD]);have c10 : w2.cell? ⟨B, 10, none⟩ = some (.bool false) := heap_cell hb2 (by simp [nodeCells, namedD]);have f0 : w2.frozen? ⟨B, 0, none⟩ = false := heap_frozen hb2;have f10 : w2.frozen? ⟨B, 10, none⟩ = false := heap_frozen hb2;have hb3 : ((w2.setCell ⟨B, 0, none⟩ (.int .i64 5)).setCell ⟨B, 10, none⟩ (.bool pb)).heap[B]? = some (.cells #[.int .i64 5, .int .i64 x.pl, .int .i64 x.pc, .string x.s, .string ⟨#[]⟩, .int .i64 0, .string ty.base, .int .i64 ty.stars, .bool ty.isList, .int .i64 ty.count, .bool pb, .slice none 0 0, .int .i64 0, .int .i64 0] 87 (0, 0)) := Eq.trans (heap_set_same (o := 10) (heap_set_same (o := 0) hb2 _) _) (by simp [nodeCells, namedD]);have HZ : Hid (PAt ((w2.setCell ⟨B, 0, none⟩ (.int .i64 5)).setCell ⟨B, 10, none⟩ (.bool pb)) c s2 ∧ Chg c.PB w ((w2.setCell ⟨B, 0, none⟩ (.int .i64 5)).setCell ⟨B, 10, none⟩ (.bool pb)) ∧ Top ((w2.setCell ⟨B, 0, none⟩ (.int .i64 5)).setCell ⟨B, 10, none⟩ (.bool pb)) w.heap.size (.mk ⟨5, x.pl, x.pc, x.s, ⟨#[]⟩, 0, ty, pb, 0⟩ [] 0) B) := ⟨hp2.blocks ((heap_set_other (Ne.symm gB)).trans (heap_set_other (Ne.symm gB))) ((heap_set_other (by omega)).trans (heap_set_other (by omega))), (hC2.setNew hBw _ _).setNew hBw _ _, Top.leaf hb3 hBw⟩;clear hp2 hg2 hb2 hb3 hC2;dsimp only;go_wp2;go_ret;exact ⟨B, rfl, HZ.out.2.2, HZ.out.1, HZ.out.2.1⟩
def fieldF (c : PC) (s : PSt) : Tr × PSt :=
 (.mk ⟨2, (needKF c (typF c s).2 1).1.pl, (needKF c (typF c s).2 1).1.pc, (needKF c (typF c s).2 1).1.s, ⟨#[]⟩, 0, (brackF c (needKF c (typF c s).2 1).2 (typF c s).1).1, false, 0⟩ [] 0, needF c (brackF c (needKF c (typF c s).2 1).2 (typF c s).1).2 ⟨#[59]⟩)
theorem rem_field (c : PC) (s : PSt) : remF c (fieldF c s).2 ≤ remF c (typF c s).2 := Nat.le_trans (rem_need _ _ _) (Nat.le_trans (rem_brack _ _ _) (rem_needK _ _ _))
theorem bk_field (c : PC) (s : PSt) (h : (fieldF c s).2.e = 0) : (typF c s).2.e = 0 := bk_needK _ _ _ (bk_brack _ _ _ (bk_need _ _ _ h))
theorem mz_field (c : PC) (s : PSt) (he : s.e = 0) : mzF c (fieldF c s).2 < mzF c s := by
 unfold mzF;rw [if_pos he]
 split
 ·rename_i h0
  have := pg_typ c s (bk_field c s h0);have := rem_field c s
  omega
 ·omega
def fieldsLoop (c : PC) : Nat → List Tr → PSt → List Tr × PSt
 | 0, acc, s => (acc, s)
 | f + 1, acc, s => if goesF c s ⟨#[125]⟩ = true then fieldsLoop c f (acc ++ [(fieldF c s).1]) (fieldF c s).2 else (acc, s)
def fieldsOf (c : PC) (acc : List Tr) (s : PSt) : List Tr × PSt := fieldsLoop c (mzF c s + 1) acc s
theorem fieldsLoop_fuel (c : PC) : ∀ (f f' : Nat) (acc : List Tr) (s : PSt), mzF c s < f → mzF c s < f' → fieldsLoop c f acc s = fieldsLoop c f' acc s
 | 0, _, _, _, h, _ => by omega
 | f + 1, 0, _, _, _, h => by omega
 | f + 1, f' + 1, acc, s, h1, h2 => by
  rw [fieldsLoop, fieldsLoop]
  split
  ·rename_i hg
   have hm := mz_field c s (goes_e hg);exact fieldsLoop_fuel c f f' _ _ (by omega) (by omega)
  ·rfl
theorem fieldsOf_more {c : PC} {acc : List Tr} {s : PSt} (hg : goesF c s ⟨#[125]⟩ = true) : fieldsOf c acc s = fieldsOf c (acc ++ [(fieldF c s).1]) (fieldF c s).2 := by
 have hm := mz_field c s (goes_e hg);unfold fieldsOf;rw [fieldsLoop, if_pos hg];exact fieldsLoop_fuel c _ _ _ _ (by omega) (by omega)
theorem fieldsOf_end {c : PC} {acc : List Tr} {s : PSt} (hg : goesF c s ⟨#[125]⟩ = false) : fieldsOf c acc s = (acc, s) := by
 unfold fieldsOf;rw [fieldsLoop, if_neg (by rw [hg]; decide)]
theorem rem_fieldsLoop (c : PC) : ∀ (f : Nat) (acc : List Tr) (s : PSt), remF c (fieldsLoop c f acc s).2 ≤ remF c s ∧ ((fieldsLoop c f acc s).2.e = 0 → s.e = 0)
 | 0, acc, s => ⟨Nat.le_refl _, id⟩
 | f + 1, acc, s => by
  rw [fieldsLoop]
  split
  ·rename_i hg
   have ih := rem_fieldsLoop c f (acc ++ [(fieldF c s).1]) (fieldF c s).2;have h1 := rem_field c s;have h2 := rem_typ c s;exact ⟨by omega, fun _ => goes_e hg⟩
  ·exact ⟨Nat.le_refl _, id⟩
def fieldsF (c : PC) (s : PSt) (d : ND) : Tr × PSt := (.mk d (fieldsOf c [] s).1 0, needF c (needF c (fieldsOf c [] s).2 ⟨#[125]⟩) ⟨#[59]⟩)
theorem rem_fields (c : PC) (s : PSt) (d : ND) : remF c (fieldsF c s d).2 ≤ remF c s := Nat.le_trans (rem_need _ _ _) (Nat.le_trans (rem_need _ _ _) (rem_fieldsLoop c _ _ _).1)
theorem bk_fields (c : PC) (s : PSt) (d : ND) (h : (fieldsF c s d).2.e = 0) : s.e = 0 := (rem_fieldsLoop c _ _ _).2 (bk_need _ _ _ (bk_need _ _ _ h))
theorem Chg'.refl (PB lo : Nat) (w : World) : Chg' PB lo w w := ⟨rfl, rfl, rfl, Nat.le_refl _, fun _ _ _ => rfl⟩
theorem Chg'.step {PB lo : Nat} {w W W' : World} (h : Chg' PB lo w W) (hc : Chg PB W W') (hl : lo ≤ W.heap.size) : Chg' PB lo w W' := ⟨hc.os.trans h.os, hc.tape.trans h.tape, hc.output.trans h.output, Nat.le_trans h.size hc.size, fun k k1 k2 => (hc.block k (by omega) k2).trans (h.block k k1 k2)⟩
theorem Chg'.trans {PB lo : Nat} {w W W' : World} (h : Chg' PB lo w W) (hc : Chg' PB lo W W') : Chg' PB lo w W' := ⟨hc.os.trans h.os, hc.tape.trans h.tape, hc.output.trans h.output, Nat.le_trans h.size hc.size, fun k k1 k2 => (hc.block k k1 k2).trans (h.block k k1 k2)⟩
theorem Chg'.setAt {PB lo b : Nat} {w W : World} (h : Chg' PB lo w W) (hb : lo ≤ b) (o : Nat) (v : Value) : Chg' PB lo w (W.setCell ⟨b, o, none⟩ v) := ⟨h.os, h.tape, h.output, by rw [size_set]; exact h.size, fun k k1 k2 => (heap_set_other (by omega)).trans (h.block k k1 k2)⟩
def retNode (c : PC) (r : Tr × PSt) (lo B : Nat) (w : World) : Ending → World → Prop := fun e W => e = .returned (.pointer (some ⟨B, 0, none⟩)) ∧ (∃ v bs, W.heap[B]? = some (.cells (nodeCells r.1.d v 0) 87 (0, 0)) ∧ PartsAt W lo B v r.1.ps bs) ∧ r.1.h = 0 ∧ PAt W c r.2 ∧ Chg' c.PB lo w W
theorem fields_any (G : World → Prop) (c : PC) (s : PSt) (w : World) (hp : PAt w c s) (hG : G w) (HGk : Hid (∀ W W', G W → Chg c.PB W W' → G W')) (hgl : c.g < w.heap.size) (HGt : Hid (∀ W, G W → TwTab W)) (hT : 2 ≠ c.PB) (lo B : Nat) (d : ND) (hB : w.heap[B]? = some (.cells (nodeCells d (.slice none 0 0) 0) 87 (0, 0))) (hlo : c.PB < lo) (hlg : c.g < lo) (hlB : lo ≤ B) (HGl : Hid (∀ W, Chg' c.PB lo w W → G W)) :
  Calls prog 64 #[.pointer (some ⟨c.PB, 0, none⟩), .pointer (some ⟨B, 0, none⟩)] w (retNode c (fieldsF c s d) lo B w) := by
 have PL := hp.lt;have HP : Hid (PAt w c s) := hp;have lB : B < w.heap.size := (zge hB).1;have hls : lo ≤ w.heap.size := by omega
 have gB : B ≠ c.PB := by omega
 have hlim := hp.wds.lim;obtain ⟨i0', hinf, hz0, hz1, hz2⟩ := info_parts infoP;have HB0 : Hid (w.heap[B]? = some (.cells (nodeCells d (.slice none 0 0) 0) 87 (0, 0))) := hB;unfold fieldsF;obtain ⟨R, hR⟩ : ∃ R, fieldsOf c [] s = R := ⟨_, rfl⟩;rw [hR];have HR : Hid (fieldsOf c [] s = R ∧ mzF c s ≤ 65538) := ⟨hR, by have := remF_le c s; unfold mzF; split <;> omega⟩;clear hp hG hB hR
 go_enter func64, ntmps64
 go_wp2
 go_loopg [5] (mzF c s) (fun k v5 wr => ∃ (st : PSt) (acc : List Tr) (bs : List Nat) (a : Option Addr) (cap : Nat), mzF c st ≤ k ∧ Hid (PAt wr c st ∧ Chg' c.PB lo w wr ∧ wr.heap[B]? = some (.cells (nodeCells d (.slice a acc.length cap) 0) 87 (0, 0)) ∧ PartsAt wr lo B (.slice a acc.length cap) acc bs ∧ fieldsOf c acc st = R ∧ acc.length + mzF c st ≤ 65538))
 case atStart => exact ⟨s, [], [], none, 0, Nat.le_refl _, ⟨HP.out, Chg'.refl _ _ _, HB0.out, PartsAt.nil _ _ _, HR.out.1, by have := HR.out.2; simpa using this⟩⟩
 case round =>
  obtain ⟨st, acc, bs, a, cap, hk, HI⟩ := hrel;have HGO : Hid (∀ W, PAt W c st → Calls prog 95 #[pp c, .string ⟨#[125]⟩] W (retP (.bool (goesF c st ⟨#[125]⟩)) W)) := fun W h => goes_any c st _ W h;have lr : B < wr.heap.size := (zge HI.out.2.2.1).1
  cases hg : goesF c st ⟨#[125]⟩ with
  | false =>
   rw [hg] at HGO;have HRE : Hid (R = (acc, st)) := HI.out.2.2.2.2.1.symm.trans (fieldsOf_end hg);have HN2 : Hid (∀ W, PAt W c st → Calls prog 68 #[pp c, .string ⟨#[125]⟩] W (pret (.tuple #[]) c (needF c st ⟨#[125]⟩) W)) := fun W h => need_any c st _ W h (by decide);have HN3 : Hid (∀ W, PAt W c (needF c st ⟨#[125]⟩) → Calls prog 68 #[pp c, .string ⟨#[59]⟩] W (pret (.tuple #[]) c (needF c (needF c st ⟨#[125]⟩) ⟨#[59]⟩) W)) := fun W h => need_any c _ _ W h (by decide);clear hg;go_wp2_with fail
   refine (HGO.out _ HI.out.1).mono ?_;rintro e w2 ⟨rfl, hb2⟩;have HX2 : Hid (PAt w2 c st ∧ Chg' c.PB lo w w2 ∧ w2.heap[B]? = some (.cells (nodeCells d (.slice a acc.length cap) 0) 87 (0, 0)) ∧ PartsAt w2 lo B (.slice a acc.length cap) acc bs) := ⟨HI.out.1.below hb2, HI.out.2.1.step (.of hb2) (by omega), (hb2.block _ lr).trans HI.out.2.2.1, HI.out.2.2.2.1.chg (PB := c.PB) (.of hb2) hlo⟩;clear hb2;dsimp only;go_wp2_with fail
   refine (HN2.out _ HX2.out.1).mono ?_;rintro e w3 ⟨rfl, hp3, hg3⟩;have l2 : B < w2.heap.size := (zge HX2.out.2.2.1).1;have HX3 : Hid (PAt w3 c (needF c st ⟨#[125]⟩) ∧ Chg' c.PB lo w w3 ∧ w3.heap[B]? = some (.cells (nodeCells d (.slice a acc.length cap) 0) 87 (0, 0)) ∧ PartsAt w3 lo B (.slice a acc.length cap) acc bs) := ⟨hp3, HX2.out.2.1.step hg3 (by omega), (hg3.block _ l2 gB).trans HX2.out.2.2.1, HX2.out.2.2.2.chg hg3 hlo⟩;clear hp3 hg3;dsimp only;go_wp2_with fail
   refine (HN3.out _ HX3.out.1).mono ?_;rintro e w4 ⟨rfl, hp4, hg4⟩;have l3 : B < w3.heap.size := (zge HX3.out.2.2.1).1;have HX4 : Hid (PAt w4 c (needF c (needF c st ⟨#[125]⟩) ⟨#[59]⟩) ∧ Chg' c.PB lo w w4 ∧ w4.heap[B]? = some (.cells (nodeCells d (.slice a acc.length cap) 0) 87 (0, 0)) ∧ PartsAt w4 lo B (.slice a acc.length cap) acc bs) := ⟨hp4, HX3.out.2.1.step hg4 (by omega), (hg4.block _ l3 gB).trans HX3.out.2.2.1, HX3.out.2.2.2.chg hg4 hlo⟩;clear hp4 hg4;dsimp only;go_wp2;go_ret;rw [HRE.out];exact ⟨rfl, ⟨_, bs, HX4.out.2.2.1, HX4.out.2.2.2⟩, rfl, HX4.out.1, HX4.out.2.1⟩
  | true =>
   rw [hg] at HGO;have hmz := mz_field c st (goes_e hg);have hmore := (fieldsOf_more (acc := acc) hg).symm.trans HI.out.2.2.2.2.1;unfold fieldF at hmz hmore;have HG0 : Hid (∀ W, Chg' c.PB lo w W → G W) := HGl;have HTY : Hid (∀ W, PAt W c st → Chg' c.PB lo w W → Calls prog 61 #[pp c] W (retSh c (typF c st).2 (typF c st).1 W)) := fun W h h2 => typ_any c st W h (HGt.out _ (HG0.out _ h2)) hT;have HNM : Hid (∀ W, PAt W c (typF c st).2 → Calls prog 65 #[pp c, shV (typF c st).1] W (retNd c (needKF c (typF c st).2 1).2 (namedD (needKF c (typF c st).2 1).1 (typF c st).1) W)) := fun W h => named_any c _ _ W h;obtain ⟨ty, hty⟩ : ∃ y, (typF c st).1 = y := ⟨_, rfl⟩;obtain ⟨s1, hs1⟩ : ∃ y, (typF c st).2 = y := ⟨_, rfl⟩;rw [hty, hs1] at HTY HNM;obtain ⟨x, hx⟩ : ∃ y, (needKF c s1 1).1 = y := ⟨_, rfl⟩;obtain ⟨s2, hs2⟩ : ∃ y, (needKF c s1 1).2 = y := ⟨_, rfl⟩;rw [hx, hs2] at HNM;rw [hs1, hty, hx, hs2] at hmore hmz;have HBR : Hid (∀ W, PAt W c s2 → Calls prog 67 #[pp c, .agg #[.string ty.base, .int .i64 ty.stars, .bool ty.isList, .int .i64 ty.count]] W (retSh c (brackF c s2 ty).2 (brackF c s2 ty).1 W)) := fun W h => brackets_any c s2 ty W h;obtain ⟨u, hu⟩ : ∃ y, (brackF c s2 ty).1 = y := ⟨_, rfl⟩;obtain ⟨s3, hs3⟩ : ∃ y, (brackF c s2 ty).2 = y := ⟨_, rfl⟩;rw [hu, hs3] at HBR hmore;rw [hs3] at hmz;have HN4 : Hid (∀ W, PAt W c s3 → Calls prog 68 #[pp c, .string ⟨#[59]⟩] W (pret (.tuple #[]) c (needF c s3 ⟨#[59]⟩) W)) := fun W h => need_any c s3 _ W h (by decide);obtain ⟨s4, hs4⟩ : ∃ y, needF c s3 ⟨#[59]⟩ = y := ⟨_, rfl⟩;rw [hs4] at HN4 hmore hmz;have HMO : Hid (mzF c s4 < mzF c st ∧ fieldsOf c (acc ++ [.mk ⟨2, x.pl, x.pc, x.s, ⟨#[]⟩, 0, u, false, 0⟩ [] 0]) s4 = R) := ⟨hmz, hmore⟩;have hn9 : acc.length ≤ 100000 := by have := HI.out.2.2.2.2.2; omega
   clear hg hmz hmore hty hs1 hx hs2 hu hs3 hs4;go_wp2_with fail
   refine (HGO.out _ HI.out.1).mono ?_;rintro e w0 ⟨rfl, hb0⟩;have HX0 : Hid (PAt w0 c st ∧ Chg' c.PB lo w w0 ∧ w0.heap[B]? = some (.cells (nodeCells d (.slice a acc.length cap) 0) 87 (0, 0)) ∧ PartsAt w0 lo B (.slice a acc.length cap) acc bs) := ⟨HI.out.1.below hb0, HI.out.2.1.step (.of hb0) (by omega), (hb0.block _ lr).trans HI.out.2.2.1, HI.out.2.2.2.1.chg (PB := c.PB) (.of hb0) hlo⟩;clear hb0;dsimp only;go_wp2_with fail
   refine (HTY.out _ HX0.out.1 HX0.out.2.1).mono ?_;rintro e w1 ⟨rfl, hp1, hg1⟩;have l0 : B < w0.heap.size := (zge HX0.out.2.2.1).1;have HX1 : Hid (PAt w1 c s1 ∧ Chg c.PB w0 w1) := ⟨hp1, hg1⟩;clear hp1 hg1;dsimp only [shV];go_wp2_with fail
   refine (HNM.out _ HX1.out.1).mono ?_;rintro e w2 ⟨Q, rfl, hb2, hB2, hp2, hg2⟩;have hC2 := HX1.out.2.trans hg2;have hQw : w0.heap.size ≤ Q := Nat.le_trans HX1.out.2.size hB2;have gQ : Q ≠ c.PB := by have := HX0.out.1.lt; omega
   have lQ : Q < w2.heap.size := (zge hb2).1;have c0 : w2.cell? ⟨Q, 0, none⟩ = some (.int .i64 0) := heap_cell hb2 (by simp [nodeCells, namedD]);have f0 : w2.frozen? ⟨Q, 0, none⟩ = false := heap_frozen hb2;have hb3 : (w2.setCell ⟨Q, 0, none⟩ (.int .i64 2)).heap[Q]? = some (.cells #[.int .i64 2, .int .i64 x.pl, .int .i64 x.pc, .string x.s, .string ⟨#[]⟩, .int .i64 0, .string ty.base, .int .i64 ty.stars, .bool ty.isList, .int .i64 ty.count, .bool false, .slice none 0 0, .int .i64 0, .int .i64 0] 87 (0, 0)) := Eq.trans (heap_set_same (o := 0) hb2 _) (by simp [nodeCells, namedD]);have HX3 : Hid (PAt (w2.setCell ⟨Q, 0, none⟩ (.int .i64 2)) c s2 ∧ Chg c.PB w0 (w2.setCell ⟨Q, 0, none⟩ (.int .i64 2)) ∧ (w2.setCell ⟨Q, 0, none⟩ (.int .i64 2)).heap[Q]? = some (.cells #[.int .i64 2, .int .i64 x.pl, .int .i64 x.pc, .string x.s, .string ⟨#[]⟩, .int .i64 0, .string ty.base, .int .i64 ty.stars, .bool ty.isList, .int .i64 ty.count, .bool false, .slice none 0 0, .int .i64 0, .int .i64 0] 87 (0, 0)) ∧ Q < (w2.setCell ⟨Q, 0, none⟩ (.int .i64 2)).heap.size) := ⟨hp2.blocks (heap_set_other (Ne.symm gQ)) (heap_set_other (by omega)), hC2.setNew hQw _ _, hb3, by rw [size_set]; exact lQ⟩;have q6 : w2.cell? ⟨Q, 6, none⟩ = some (.string ty.base) := heap_cell hb2 (by simp [nodeCells, namedD]);have q7 : w2.cell? ⟨Q, 7, none⟩ = some (.int .i64 ty.stars) := heap_cell hb2 (by simp [nodeCells, namedD]);have q8 : w2.cell? ⟨Q, 8, none⟩ = some (.bool ty.isList) := heap_cell hb2 (by simp [nodeCells, namedD]);have q9 : w2.cell? ⟨Q, 9, none⟩ = some (.int .i64 ty.count) := heap_cell hb2 (by simp [nodeCells, namedD]);clear hp2 hg2 hb2 hb3 hC2;dsimp only;go_wp2_with fail
   refine (HBR.out _ HX3.out.1).mono ?_;rintro e w5 ⟨rfl, hp5, hg5⟩;have b5 : w5.heap[Q]? = some (.cells #[.int .i64 2, .int .i64 x.pl, .int .i64 x.pc, .string x.s, .string ⟨#[]⟩, .int .i64 0, .string ty.base, .int .i64 ty.stars, .bool ty.isList, .int .i64 ty.count, .bool false, .slice none 0 0, .int .i64 0, .int .i64 0] 87 (0, 0)) := (hg5.block _ HX3.out.2.2.2 gQ).trans HX3.out.2.2.1;have l5 : Q < w5.heap.size := (zge b5).1;have HX5 : Hid (PAt w5 c s3 ∧ Chg c.PB w0 w5 ∧ w5.heap[Q]? = some (.cells #[.int .i64 2, .int .i64 x.pl, .int .i64 x.pc, .string x.s, .string ⟨#[]⟩, .int .i64 0, .string ty.base, .int .i64 ty.stars, .bool ty.isList, .int .i64 ty.count, .bool false, .slice none 0 0, .int .i64 0, .int .i64 0] 87 (0, 0))) := ⟨hp5, HX3.out.2.1.trans hg5, b5⟩;have ff : ∀ j, w5.frozen? ⟨Q, j, none⟩ = false := fun j => heap_frozen b5;have q6 : w5.cell? ⟨Q, 6, none⟩ = some (.string ty.base) := heap_cell b5 (by simp);have q7 : w5.cell? ⟨Q, 7, none⟩ = some (.int .i64 ty.stars) := heap_cell b5 (by simp);have q8 : w5.cell? ⟨Q, 8, none⟩ = some (.bool ty.isList) := heap_cell b5 (by simp);have q9 : w5.cell? ⟨Q, 9, none⟩ = some (.int .i64 ty.count) := heap_cell b5 (by simp);clear hp5 hg5 b5 c0 f0
   have HX6 : Hid (PAt ((((w5.setCell ⟨Q, 6, none⟩ (.string u.base)).setCell ⟨Q, 7, none⟩ (.int .i64 u.stars)).setCell ⟨Q, 8, none⟩ (.bool u.isList)).setCell ⟨Q, 9, none⟩ (.int .i64 u.count)) c s3 ∧ Chg c.PB w0 ((((w5.setCell ⟨Q, 6, none⟩ (.string u.base)).setCell ⟨Q, 7, none⟩ (.int .i64 u.stars)).setCell ⟨Q, 8, none⟩ (.bool u.isList)).setCell ⟨Q, 9, none⟩ (.int .i64 u.count)) ∧ ((((w5.setCell ⟨Q, 6, none⟩ (.string u.base)).setCell ⟨Q, 7, none⟩ (.int .i64 u.stars)).setCell ⟨Q, 8, none⟩ (.bool u.isList)).setCell ⟨Q, 9, none⟩ (.int .i64 u.count)).heap[Q]? = some (.cells #[.int .i64 2, .int .i64 x.pl, .int .i64 x.pc, .string x.s, .string ⟨#[]⟩, .int .i64 0, .string u.base, .int .i64 u.stars, .bool u.isList, .int .i64 u.count, .bool false, .slice none 0 0, .int .i64 0, .int .i64 0] 87 (0, 0)) ∧ Q < ((((w5.setCell ⟨Q, 6, none⟩ (.string u.base)).setCell ⟨Q, 7, none⟩ (.int .i64 u.stars)).setCell ⟨Q, 8, none⟩ (.bool u.isList)).setCell ⟨Q, 9, none⟩ (.int .i64 u.count)).heap.size) := by
    have o : ∀ k, k ≠ Q → ((((w5.setCell ⟨Q, 6, none⟩ (.string u.base)).setCell ⟨Q, 7, none⟩ (.int .i64 u.stars)).setCell ⟨Q, 8, none⟩ (.bool u.isList)).setCell ⟨Q, 9, none⟩ (.int .i64 u.count)).heap[k]? = w5.heap[k]? := fun k hk => (heap_set_other hk).trans ((heap_set_other hk).trans ((heap_set_other hk).trans (heap_set_other hk)));refine ⟨HX5.out.1.blocks (o _ (Ne.symm gQ)) (o _ (by omega)), (((HX5.out.2.1.setNew hQw _ _).setNew hQw _ _).setNew hQw _ _).setNew hQw _ _, ?_, by rw [size_set, size_set, size_set, size_set]; exact l5⟩;exact Eq.trans (heap_set_same (o := 9) (heap_set_same (o := 8) (heap_set_same (o := 7) (heap_set_same (o := 6) HX5.out.2.2 _) _) _) _) (by simp)
   dsimp only [shV];go_wp2_with fail
   clear q6 q7 q8 q9 ff;refine (HN4.out _ HX6.out.1).mono ?_;rintro e w7 ⟨rfl, hp7, hg7⟩;have hC7 : Chg c.PB w0 w7 := HX6.out.2.1.trans hg7;have b7 : w7.heap[Q]? = some (.cells #[.int .i64 2, .int .i64 x.pl, .int .i64 x.pc, .string x.s, .string ⟨#[]⟩, .int .i64 0, .string u.base, .int .i64 u.stars, .bool u.isList, .int .i64 u.count, .bool false, .slice none 0 0, .int .i64 0, .int .i64 0] 87 (0, 0)) := (hg7.block _ HX6.out.2.2.2 gQ).trans HX6.out.2.2.1;have lQ7 : Q < w7.heap.size := (zge b7).1;have lB7 : B < w7.heap.size := Nat.lt_of_lt_of_le l0 hC7.size
   have HX7 : Hid (PAt w7 c s4 ∧ Chg' c.PB lo w w7 ∧ w7.heap[B]? = some (.cells (nodeCells d (.slice a acc.length cap) 0) 87 (0, 0)) ∧ PartsAt w7 lo B (.slice a acc.length cap) acc bs ∧ TreeIn w7 (fun k => lo ≤ k ∧ k < w7.heap.size ∧ k ≠ B ∧ some k ≠ (Value.slice a acc.length cap).ownBlock) (.mk ⟨2, x.pl, x.pc, x.s, ⟨#[]⟩, 0, u, false, 0⟩ [] 0) Q) := by
    refine ⟨hp7, HX0.out.2.1.step hC7 (by omega), (hC7.block _ l0 gB).trans HX0.out.2.2.1, HX0.out.2.2.2.chg hC7 hlo, ?_⟩;exact .mk _ _ _ Q [] none 0 ⟨by omega, lQ7, by omega, fun he => by have := (own_lt_parts HX0.out.2.2.2 he.symm).2; omega⟩ b7 (Nat.le_refl _) (fun h => absurd rfl h) rfl (fun i t x h => by simp at h)
   have c11 := nc11 HX7.out.2.2.1;clear hp7 hg7 b7 hC7;dsimp only
   go_wp2_with (at_builtin; refine wpList_append_own_at _ rfl _ _ 61 rfl lo 83 i0' (.pointer none) 1 8 underlying61 hinf hz0 hz1 hz2 rfl (by decide) (.slice a acc.length cap) acc.length (bs.map ptrV) (by rfl) (HX7.out.2.2.2.1.own.alloc _) ⟨w7.heap.size, 0, none⟩ 1 1 [ptrV Q] (by rfl) (by rfl) ?c1 ?c2 ?c3 ?c4 ?c5 ?_)
   case c1 => exact World.news_of_block (World.alloc_heap_new w7 (.cells #[ptrV Q] 83))
   case c2 => intro u hu; simp at hu; subst hu; rfl
   case c3 => unfold maxLen; omega
   case c4 => omega
   case c5 => simp; omega
   intro v' W2 hown' hgrow _ hat;have HK8 : Hid (∀ k, k < w7.heap.size → some k ≠ (Value.slice a acc.length cap).ownBlock → W2.heap[k]? = w7.heap[k]?) := fun k k1 k2 => (hgrow.block k (by simp; omega) k2).trans (Below.heap_alloc w7 _ k k1);have HQ8 : Hid (PartsAt W2 lo B v' (acc ++ [.mk ⟨2, x.pl, x.pc, x.s, ⟨#[]⟩, 0, u, false, 0⟩ [] 0]) (bs ++ [Q])) := HX7.out.2.2.2.1.push (l := 0) HX7.out.2.2.2.2 lB7 ((Below.refl _ _).alloc (Nat.le_refl _) (.cells #[ptrV Q] 83)) hown' hgrow (hat.imp id (fun h => by rw [World.size_alloc]; exact h));have HB8 : Hid (W2.heap[B]? = some (.cells (nodeCells d (.slice a acc.length cap) 0) 87 (0, 0))) := (HK8.out _ lB7 (fun he => HX7.out.2.2.2.1.nb he.symm)).trans HX7.out.2.2.1;have hno : ∀ k, k < lo → some k ≠ (Value.slice a acc.length cap).ownBlock := fun k hk he => by have := (own_lt_parts HX7.out.2.2.2.1 he.symm).1; omega
   have HS8 : Hid (PAt W2 c s4 ∧ Chg' c.PB lo w W2) := ⟨HX7.out.1.blocks (HK8.out _ HX7.out.1.lt (hno _ hlo)) (HK8.out _ (by omega) (hno _ hlg)), ⟨hgrow.os.trans HX7.out.2.1.os, hgrow.tape.trans HX7.out.2.1.tape, hgrow.output.trans HX7.out.2.1.output, by have := hgrow.size; simp at this; have := HX7.out.2.1.size; omega, fun k k1 k2 => (HK8.out k (by omega) (hno k k1)).trans (HX7.out.2.1.block k k1 k2)⟩⟩;have lB8 : B < W2.heap.size := (zge HB8.out).1;have c11 := nc11 HB8.out;have f11 : W2.frozen? ⟨B, 11, none⟩ = false := heap_frozen HB8.out;obtain ⟨a8, cap8, hv8, _⟩ := HQ8.out.row;subst hv8;clear hown' hgrow hat hno;go_wp2
   go_roundg (mzF c s4)
   case measure => have := HMO.out; omega
   case rel => exact ⟨s4, _, _, a8, cap8, Nat.le_refl _, ⟨HS8.out.1.blocks (heap_set_other (Ne.symm gB)) (heap_set_other (by omega)), HS8.out.2.setAt hlB _ _, Eq.trans (heap_set_same (o := 11) HB8.out _) (by simp [nodeCells]), HQ8.out.keep (by rw [size_set]; exact Nat.le_refl _) (fun k _ _ hk => heap_set_other hk), HMO.out.2, by have := HMO.out.1; have := HI.out.2.2.2.2.2; simp; omega⟩⟩

def snF (t : Sh) : ByteArray × Bool := (⟨(Lib.trimPrefix t.base.data.toList [115, 116, 114, 117, 99, 116, 32]).toArray⟩, Lib.hasPrefix t.base.data.toList [115, 116, 114, 117, 99, 116, 32] && t.stars == 0)
theorem structName_any (t : Sh) (w : World) : Calls prog 62 #[shV t] w (fun e W => e = .returned (.tuple #[.string (snF t).1, .bool (snF t).2]) ∧ Below w.heap.size w W) := by
 unfold snF shV;have HCP : Hid (∀ W, Calls prog 93 #[.string t.base, .string ⟨#[115, 116, 114, 117, 99, 116, 32]⟩] W fun e w' => e = .returned (.tuple #[.string ⟨(Lib.trimPrefix t.base.data.toList [115, 116, 114, 117, 99, 116, 32]).toArray⟩, .bool (Lib.hasPrefix t.base.data.toList [115, 116, 114, 117, 99, 116, 32])]) ∧ w' = W) := fun W => Tryz.strings_CutPrefix t.base ⟨#[115, 116, 114, 117, 99, 116, 32]⟩ W;obtain ⟨nm, hnm⟩ : ∃ y, (⟨(Lib.trimPrefix t.base.data.toList [115, 116, 114, 117, 99, 116, 32]).toArray⟩ : ByteArray) = y := ⟨_, rfl⟩;rw [hnm] at HCP ⊢
 cases hh : Lib.hasPrefix t.base.data.toList [115, 116, 114, 117, 99, 116, 32] with
 | true =>
  rw [hh] at HCP;have HH : Hid (True ∧ True) := ⟨trivial, trivial⟩;clear hnm hh
  go_enter func62, ntmps62
  go_wp2_with fail
  refine (HCP.out _).mono ?_;rintro e w1 ⟨rfl, rfl⟩;dsimp only;have c1 : (w.alloc (.cells #[.string t.base, .int .i64 t.stars, .bool t.isList, .int .i64 t.count] 85)).cell? ⟨w.heap.size, 1, none⟩ = some (.int .i64 t.stars) := heap_cell (World.alloc_heap_new w _) (by simp)
  go_wp2_with (go_region)
  all_goals go_ret2
  all_goals exact ⟨by simp, (bel_alloc (Below.refl _ _) _).drew⟩
 | false =>
  rw [hh] at HCP;clear hnm hh
  go_enter func62, ntmps62
  go_wp2_with fail
  refine (HCP.out _).mono ?_;rintro e w1 ⟨rfl, rfl⟩;dsimp only;have c1 : (w.alloc (.cells #[.string t.base, .int .i64 t.stars, .bool t.isList, .int .i64 t.count] 85)).cell? ⟨w.heap.size, 1, none⟩ = some (.int .i64 t.stars) := heap_cell (World.alloc_heap_new w _) (by simp)
  go_wp2_with (go_region)
  all_goals go_ret2
  all_goals exact ⟨by simp, (bel_alloc (Below.refl _ _) _).drew⟩

def funS (s : PSt) : PSt := { s with funcs := wrap64 (s.funcs + 1) }
def manyFn (m al ac : Int) (s : PSt) : PSt := if 100 < m then failF 2 al ac s else s
def functionF (c : PC) (s : PSt) (d : ND) : Tr × PSt :=
 (.mk d ((listF (paramF c) c (manyFn (wrap64 (s.funcs + 1)) d.al d.ac (funS s))).1 ++ [(blockC c (listF (paramF c) c (manyFn (wrap64 (s.funcs + 1)) d.al d.ac (funS s))).2).1]) 0, (blockC c (listF (paramF c) c (manyFn (wrap64 (s.funcs + 1)) d.al d.ac (funS s))).2).2)
theorem rem_manyFn (c : PC) (m al ac : Int) (s : PSt) : remF c (manyFn m al ac (funS s)) ≤ remF c s := by
 unfold manyFn
 split
 ·exact Nat.le_trans (rem_fail _ _ _ _ _) (Nat.le_refl _)
 ·exact Nat.le_refl _
theorem bk_manyFn (m al ac : Int) (s : PSt) (h : (manyFn m al ac (funS s)).e = 0) : s.e = 0 := by
 unfold manyFn at h
 split at h
 ·exact bk_fail _ _ _ (funS s) h
 ·exact h
theorem rem_function (c : PC) (s : PSt) (d : ND) : remF c (functionF c s d).2 ≤ remF c s := by
 have h1 := rem_manyFn c (wrap64 (s.funcs + 1)) d.al d.ac s;have h2 := rem_listF (paramF_goes c (c.ws.length + 1)) (manyFn (wrap64 (s.funcs + 1)) d.al d.ac (funS s)) (by have := remF_le c (manyFn (wrap64 (s.funcs + 1)) d.al d.ac (funS s)); omega);exact Nat.le_trans (blockC_rem c _) (Nat.le_trans h2 h1)
theorem bk_function (c : PC) (s : PSt) (d : ND) (h : (functionF c s d).2.e = 0) : s.e = 0 := bk_manyFn _ _ _ s (bk_listF (paramF_back c) _ (blockC_back c _ h))
theorem PartsAt.ofList {W : World} {lo lo' B : Nat} {v : Value} {ts : List Tr} {bs : List Nat} (h : ListAt W lo' v ts bs) (h1 : lo ≤ lo') (h2 : B < lo') : PartsAt W lo B v ts bs := by
 refine ⟨?_, h.hl, fun he => by have := (own_lt h.own he).1; omega, fun i t x ht hx => ?_⟩
 ·refine ⟨h.own.1, ?_⟩
  rcases h.own.2 with e | ⟨g, cap, cur, q1, q2, q3⟩
  ·exact .inl e
  ·exact .inr ⟨g, cap, cur, q1, by omega, q3⟩
 ·obtain ⟨l, hh, e1, e2, e3, e4⟩ := h.sub i t x ht hx
  exact e3.within (fun k k1 k2 => ⟨by omega, by omega, by omega, e4 k k1 k2⟩)
theorem function_any (G : World → Prop) (c : PC) (s : PSt) (w : World) (hp : PAt w c s) (hG : G w) (HGk : Hid (∀ W W', G W → Chg c.PB W W' → G W')) (hgl : c.g < w.heap.size) (HGt : Hid (∀ W, G W → TwTab W)) (hT : 2 ≠ c.PB) (lo B : Nat) (d : ND) (hB : w.heap[B]? = some (.cells (nodeCells d (.slice none 0 0) 0) 87 (0, 0))) (hlo : c.PB < lo) (hlg : c.g < lo) (hlB : lo ≤ B) (HGl : Hid (∀ W, Chg' c.PB lo w W → G W)) (HBC : Hid (∀ s W, PAt W c s → G W → Calls prog 99 #[pp c] W (retE c (blockC c s) W))) (HGg : Hid (∀ W, G W → c.g < W.heap.size)) :
  Calls prog 66 #[.pointer (some ⟨c.PB, 0, none⟩), .pointer (some ⟨B, 0, none⟩)] w (retNode c (functionF c s d) lo B w) := by
 have PL := hp.lt;have HP : Hid (PAt w c s) := hp;have lB : B < w.heap.size := (zge hB).1;have gB : B ≠ c.PB := by omega
 have hlim := hp.wds.lim;have HB0 : Hid (w.heap[B]? = some (.cells (nodeCells d (.slice none 0 0) 0) 87 (0, 0))) := hB;have q1 := nc1 hB;have q2 := nc2 hB;have p0 := hp.c0;have p1 := hp.c1;have p2 := hp.c2;have p3 := hp.c3;have p4 := hp.c4;have p5 := hp.c5;have p6 := hp.c6;have p7 := hp.c7;have p8 := hp.c8;have p9 := hp.c9;have fz := hp.fz
 

 unfold functionF;obtain ⟨m, hm⟩ : ∃ m, wrap64 (s.funcs + 1) = m := ⟨_, rfl⟩;rw [hm]
 have HF : Hid (PAt (w.setCell ⟨c.PB, 6, none⟩ (.int .i64 m)) c (funS s) ∧ Chg' c.PB lo w (w.setCell ⟨c.PB, 6, none⟩ (.int .i64 m)) ∧ (w.setCell ⟨c.PB, 6, none⟩ (.int .i64 m)).heap[B]? = some (.cells (nodeCells d (.slice none 0 0) 0) 87 (0, 0)) ∧ w.heap.size ≤ (w.setCell ⟨c.PB, 6, none⟩ (.int .i64 m)).heap.size) := by
  have hch : Chg c.PB w (w.setCell ⟨c.PB, 6, none⟩ (.int .i64 m)) := (Chg.refl _ _).set _ _;refine ⟨?_, (Chg'.refl _ _ _).step hch (by omega), (heap_set_other gB).trans hB, hch.size⟩;unfold funS;rw [hm];exact ⟨by go_simp, by go_simp, by go_simp, by go_simp, by go_simp, by go_simp, by go_simp, by go_simp, by go_simp, by go_simp, fun i => by go_simp, HP.out.wds.chg hch, HP.out.lim⟩
 obtain ⟨s2, hs2⟩ : ∃ y, manyFn m d.al d.ac (funS s) = y := ⟨_, rfl⟩;rw [hs2];have hrl := remF_le c s2;have HLS : Hid (∀ W, PAt W c s2 → G W → Calls prog 97 #[pp c, .func (.func 98) #[.pointer (some ⟨c.PB, 0, none⟩)] #[]] W (retL c (listF (paramF c) c s2) W)) := fun W h h2 => list_param G (paramF c) c s2 (c.ws.length + 1) W h h2 HGk (fun s' w' h' h2' _ => param_any G c s' w' h' h2' HGk (HGg.out _ h2') HGt hT) (paramF_goes c _) (by omega);have hln := listF_len (paramF_goes c (c.ws.length + 1)) s2 (by omega);obtain ⟨ps, hps⟩ : ∃ y, (listF (paramF c) c s2).1 = y := ⟨_, rfl⟩;obtain ⟨s3, hs3⟩ : ∃ y, (listF (paramF c) c s2).2 = y := ⟨_, rfl⟩;have HLS2 : Hid (∀ W, PAt W c s2 → G W → Calls prog 97 #[pp c, .func (.func 98) #[.pointer (some ⟨c.PB, 0, none⟩)] #[]] W (retL c (ps, s3) W)) := by rw [← hps, ← hs3]; exact HLS
 rw [hps, hs3];rw [hps] at hln;have HBK : Hid (∀ W, PAt W c s3 → G W → Calls prog 99 #[pp c] W (retE c (blockC c s3) W)) := fun W h h2 => HBC.out s3 W h h2;obtain ⟨tb, htb⟩ : ∃ y, (blockC c s3).1 = y := ⟨_, rfl⟩;obtain ⟨s4, hs4⟩ : ∃ y, (blockC c s3).2 = y := ⟨_, rfl⟩;have HBK2 : Hid (∀ W, PAt W c s3 → G W → Calls prog 99 #[pp c] W (retE c (tb, s4) W)) := by rw [← htb, ← hs4]; exact HBK
 rw [htb, hs4];have hn9 : ps.length ≤ 100000 := by omega
 have hmf : ∀ (fn : Fn) (first cap : Array Value) (w : World), (Instr.makeFunc fn first cap).run prog w = .ok (.func fn first cap) w := fun _ _ _ _ => rfl;unfold manyFn at hs2;clear hp hG hB hps hs3 htb hs4 HLS HBK hrl hln
 by_cases hmany : 100 < m
 ·rw [if_pos hmany] at hs2
  have HFA : Hid (∀ W, PAt W c (funS s) → Calls prog 96 #[pp c, .int .i64 2, .agg #[.int .i64 d.al, .int .i64 d.ac]] W (pret (.tuple #[]) c s2 W)) := fun W h => hs2 ▸ fail_any c (funS s) 2 d.al d.ac W h;clear hs2
  go_enter func66, ntmps66
  go_wp2_with fail
  refine (HFA.out _ HF.out.1).mono ?_;rintro e w1 ⟨rfl, hp1, hg1⟩;have hsF : (w.setCell ⟨c.PB, 6, none⟩ (.int .i64 m)).heap.size = w.heap.size := size_set _ _ _;have HX1 : Hid (PAt w1 c s2 ∧ Chg' c.PB lo w w1 ∧ w1.heap[B]? = some (.cells (nodeCells d (.slice none 0 0) 0) 87 (0, 0))) := ⟨hp1, HF.out.2.1.step hg1 (by omega), (hg1.block _ (by omega) gB).trans HF.out.2.2.1⟩;clear hp1 hg1 p0 p1 p2 p3 p4 p5 p6 p7 p8 p9 fz q1 q2 hsF;dsimp only;go_wp2_with fail
  refine (HLS2.out _ HX1.out.1 (HGl.out _ HX1.out.2.1)).mono ?_;rintro e w2 ⟨a, cap, bs, rfl, hl2, hp2, hg2⟩;have l1 : B < w1.heap.size := (zge HX1.out.2.2).1;have hsw2 := hg2.size;have b2 : w2.heap[B]? = some (.cells (nodeCells d (.slice none 0 0) 0) 87 (0, 0)) := (hg2.block _ l1 gB).trans HX1.out.2.2;have HX2 : Hid (PAt w2 c s3 ∧ Chg' c.PB lo w w2 ∧ w2.heap[B]? = some (.cells (nodeCells d (.slice none 0 0) 0) 87 (0, 0)) ∧ PartsAt w2 lo B (.slice a ps.length cap) ps bs) := ⟨hp2, HX1.out.2.1.step hg2 (by omega), b2, PartsAt.ofList hl2 (by omega) l1⟩;have c11 : w2.cell? ⟨B, 11, none⟩ = some (.slice none 0 0) := heap_cell b2 (by simp [nodeCells]);have f11 : w2.frozen? ⟨B, 11, none⟩ = false := heap_frozen b2;clear hl2 hp2 hg2 b2;dsimp only
  go_upto_region 5 with fail
  have hX3 : PAt (w2.setCell ⟨B, 11, none⟩ (.slice a ps.length cap)) c s3 ∧ Chg' c.PB lo w (w2.setCell ⟨B, 11, none⟩ (.slice a ps.length cap)) ∧ (w2.setCell ⟨B, 11, none⟩ (.slice a ps.length cap)).heap[B]? = some (.cells (nodeCells d (.slice a ps.length cap) 0) 87 (0, 0)) ∧ PartsAt (w2.setCell ⟨B, 11, none⟩ (.slice a ps.length cap)) lo B (.slice a ps.length cap) ps bs ∧ lo ≤ (w2.setCell ⟨B, 11, none⟩ (.slice a ps.length cap)).heap.size := ⟨HX2.out.1.blocks (heap_set_other (Ne.symm gB)) (heap_set_other (by omega)), HX2.out.2.1.setAt hlB _ _, Eq.trans (heap_set_same (o := 11) HX2.out.2.2.1 _) (by simp [nodeCells]), HX2.out.2.2.2.keep (by rw [size_set]; exact Nat.le_refl _) (fun k _ _ hk => heap_set_other hk), by rw [size_set]; omega⟩;obtain ⟨w3, hw3⟩ : ∃ W, w2.setCell ⟨B, 11, none⟩ (.slice a ps.length cap) = W := ⟨_, rfl⟩;rw [hw3] at hX3 ⊢;have HX3 : Hid (PAt w3 c s3 ∧ Chg' c.PB lo w w3 ∧ w3.heap[B]? = some (.cells (nodeCells d (.slice a ps.length cap) 0) 87 (0, 0)) ∧ PartsAt w3 lo B (.slice a ps.length cap) ps bs ∧ lo ≤ w3.heap.size) := hX3;clear hw3 hX3 c11 f11;refine ap_function B lo ps.length cap a d ps bs tb c s3 s4 w3 _ _ _ _ _ _ _ _ _ _ _ _ _ _ _ _ _ _ _ _ _ _ _ _ _ _ _ _ _ _ _ _ _ _ _ _ _ _ _ _ _ _ _ HX3.out.1 HX3.out.2.2.1 HX3.out.2.2.2.1 rfl hlo hlg hlB HX3.out.2.2.2.2 hn9 (fun W h h2 => HBK2.out W h (HGl.out _ (HX3.out.2.1.step h2 HX3.out.2.2.2.2))) ?_;intro y30 y31 y32 y33 y34 y35 y36 y37 y38 y39 y40 W5 q cap2 y hp5 hc5 hb5 hq5;have HX5 : Hid (PAt W5 c s4 ∧ Chg' c.PB lo w W5 ∧ W5.heap[B]? = some (.cells (nodeCells d (.slice (some ⟨q, 0, none⟩) (ps.length + 1) cap2) 0) 87 (0, 0)) ∧ PartsAt W5 lo B (.slice (some ⟨q, 0, none⟩) (ps.length + 1) cap2) (ps ++ [tb]) (bs ++ [y])) := ⟨hp5, HX3.out.2.1.trans hc5, hb5, hq5⟩;clear hp5 hc5 hb5 hq5;go_wp2;go_ret;exact ⟨rfl, ⟨_, _, HX5.out.2.2.1, HX5.out.2.2.2⟩, rfl, HX5.out.1, HX5.out.2.1⟩
 ·rw [if_neg hmany] at hs2
  subst hs2
  go_enter func66, ntmps66
  go_wp2_with fail
  obtain ⟨w1, hw1⟩ : ∃ W, (w.setCell ⟨c.PB, 6, none⟩ (.int .i64 m)) = W := ⟨_, rfl⟩;rw [hw1] at HF ⊢;have HX1 : Hid (PAt w1 c (funS s) ∧ Chg' c.PB lo w w1 ∧ w1.heap[B]? = some (.cells (nodeCells d (.slice none 0 0) 0) 87 (0, 0))) := ⟨HF.out.1, HF.out.2.1, HF.out.2.2.1⟩;clear hw1 p0 p1 p2 p3 p4 p5 p6 p7 p8 p9 fz q1 q2;refine (HLS2.out _ HX1.out.1 (HGl.out _ HX1.out.2.1)).mono ?_;rintro e w2 ⟨a, cap, bs, rfl, hl2, hp2, hg2⟩;have l1 : B < w1.heap.size := (zge HX1.out.2.2).1;have hsw2 := hg2.size;have b2 : w2.heap[B]? = some (.cells (nodeCells d (.slice none 0 0) 0) 87 (0, 0)) := (hg2.block _ l1 gB).trans HX1.out.2.2;have HX2 : Hid (PAt w2 c s3 ∧ Chg' c.PB lo w w2 ∧ w2.heap[B]? = some (.cells (nodeCells d (.slice none 0 0) 0) 87 (0, 0)) ∧ PartsAt w2 lo B (.slice a ps.length cap) ps bs) := ⟨hp2, HX1.out.2.1.step hg2 (by omega), b2, PartsAt.ofList hl2 (by omega) l1⟩;have c11 : w2.cell? ⟨B, 11, none⟩ = some (.slice none 0 0) := heap_cell b2 (by simp [nodeCells]);have f11 : w2.frozen? ⟨B, 11, none⟩ = false := heap_frozen b2;clear hl2 hp2 hg2 b2;dsimp only
  go_upto_region 5 with fail
  have hX3 : PAt (w2.setCell ⟨B, 11, none⟩ (.slice a ps.length cap)) c s3 ∧ Chg' c.PB lo w (w2.setCell ⟨B, 11, none⟩ (.slice a ps.length cap)) ∧ (w2.setCell ⟨B, 11, none⟩ (.slice a ps.length cap)).heap[B]? = some (.cells (nodeCells d (.slice a ps.length cap) 0) 87 (0, 0)) ∧ PartsAt (w2.setCell ⟨B, 11, none⟩ (.slice a ps.length cap)) lo B (.slice a ps.length cap) ps bs ∧ lo ≤ (w2.setCell ⟨B, 11, none⟩ (.slice a ps.length cap)).heap.size := ⟨HX2.out.1.blocks (heap_set_other (Ne.symm gB)) (heap_set_other (by omega)), HX2.out.2.1.setAt hlB _ _, Eq.trans (heap_set_same (o := 11) HX2.out.2.2.1 _) (by simp [nodeCells]), HX2.out.2.2.2.keep (by rw [size_set]; exact Nat.le_refl _) (fun k _ _ hk => heap_set_other hk), by rw [size_set]; omega⟩;obtain ⟨w3, hw3⟩ : ∃ W, w2.setCell ⟨B, 11, none⟩ (.slice a ps.length cap) = W := ⟨_, rfl⟩;rw [hw3] at hX3 ⊢;have HX3 : Hid (PAt w3 c s3 ∧ Chg' c.PB lo w w3 ∧ w3.heap[B]? = some (.cells (nodeCells d (.slice a ps.length cap) 0) 87 (0, 0)) ∧ PartsAt w3 lo B (.slice a ps.length cap) ps bs ∧ lo ≤ w3.heap.size) := hX3;clear hw3 hX3 c11 f11;refine ap_function B lo ps.length cap a d ps bs tb c s3 s4 w3 _ _ _ _ _ _ _ _ _ _ _ _ _ _ _ _ _ _ _ _ _ _ _ _ _ _ _ _ _ _ _ _ _ _ _ _ _ _ _ _ _ _ _ HX3.out.1 HX3.out.2.2.1 HX3.out.2.2.2.1 rfl hlo hlg hlB HX3.out.2.2.2.2 hn9 (fun W h h2 => HBK2.out W h (HGl.out _ (HX3.out.2.1.step h2 HX3.out.2.2.2.2))) ?_;intro y30 y31 y32 y33 y34 y35 y36 y37 y38 y39 y40 W5 q cap2 y hp5 hc5 hb5 hq5;have HX5 : Hid (PAt W5 c s4 ∧ Chg' c.PB lo w W5 ∧ W5.heap[B]? = some (.cells (nodeCells d (.slice (some ⟨q, 0, none⟩) (ps.length + 1) cap2) 0) 87 (0, 0)) ∧ PartsAt W5 lo B (.slice (some ⟨q, 0, none⟩) (ps.length + 1) cap2) (ps ++ [tb]) (bs ++ [y])) := ⟨hp5, HX3.out.2.1.trans hc5, hb5, hq5⟩;clear hp5 hc5 hb5 hq5;go_wp2;go_ret;exact ⟨rfl, ⟨_, _, HX5.out.2.2.1, HX5.out.2.2.2⟩, rfl, HX5.out.1, HX5.out.2.1⟩

def structD (x : Wd) (nm : ByteArray) : ND := ⟨1, x.pl, x.pc, nm, ⟨#[]⟩, 0, noSh, false, 0⟩
def nameKD (k : Int) (x : Wd) (t : Sh) : ND := ⟨k, x.pl, x.pc, x.s, ⟨#[]⟩, 0, t, false, 0⟩
def declF (c : PC) (s : PSt) (t : Sh) : Tr × PSt :=
 if (takeF c (needKF c s 1).2 ⟨#[40]⟩).1 = true then functionF c (takeF c (needKF c s 1).2 ⟨#[40]⟩).2 (nameKD 4 (needKF c s 1).1 t)
 else (.mk (nameKD 3 (needKF c s 1).1 (brackF c (needKF c s 1).2 t).1) [] 0, needF c (brackF c (needKF c s 1).2 t).2 ⟨#[59]⟩)
def itemF (c : PC) (s : PSt) : Tr × PSt :=
 if (snF (typF c s).1).2 = true then (if (takeF c (typF c s).2 ⟨#[123]⟩).1 = true then fieldsF c (takeF c (typF c s).2 ⟨#[123]⟩).2 (structD (wordF c s) (snF (typF c s).1).1) else declF c (typF c s).2 (typF c s).1) else declF c (typF c s).2 (typF c s).1
theorem rem_decl (c : PC) (s : PSt) (t : Sh) : remF c (declF c s t).2 ≤ remF c s ∧ ((declF c s t).2.e = 0 → s.e = 0) := by
 unfold declF
 split
 ·exact ⟨Nat.le_trans (rem_function _ _ _) (Nat.le_trans (rem_take _ _ _) (rem_needK _ _ _)), fun h => bk_needK _ _ _ (bk_take _ _ _ (bk_function _ _ _ h))⟩
 ·exact ⟨Nat.le_trans (rem_need _ _ _) (Nat.le_trans (rem_brack _ _ _) (rem_needK _ _ _)), fun h => bk_needK _ _ _ (bk_brack _ _ _ (bk_need _ _ _ h))⟩
theorem rem_item (c : PC) (s : PSt) : remF c (itemF c s).2 ≤ remF c (typF c s).2 ∧ ((itemF c s).2.e = 0 → (typF c s).2.e = 0) := by
 unfold itemF
 split
 ·split
  ·exact ⟨Nat.le_trans (rem_fields _ _ _) (rem_take _ _ _), fun h => bk_take _ _ _ (bk_fields _ _ _ h)⟩
  ·exact rem_decl _ _ _
 ·exact rem_decl _ _ _
theorem mz_item (c : PC) (s : PSt) (he : s.e = 0) : mzF c (itemF c s).2 < mzF c s := by
 have h := rem_item c s;unfold mzF;rw [if_pos he]
 split
 ·rename_i h0
  have := pg_typ c s (h.2 h0)
  omega
 ·omega
def retT (c : PC) (r : Tr × PSt) (w : World) : Ending → World → Prop := fun e W => ∃ b, e = .returned (.pointer (some ⟨b, 0, none⟩)) ∧ TreeAt W w.heap.size W.heap.size r.1 b ∧ PAt W c r.2 ∧ Chg c.PB w W
theorem retT_of {c : PC} {r : Tr × PSt} {B : Nat} {w w1 : World} (hc : Chg c.PB w w1) (hB : w.heap.size ≤ B) : ∀ e W, retNode c r w.heap.size B w1 e W → retT c r w e W := by
 rintro e W ⟨rfl, ⟨v, bs, h1, h2⟩, h3, h4, h5⟩;obtain ⟨a, cap, e1, h6⟩ := h2.row;subst e1;refine ⟨B, rfl, ?_, h4, h5.chg hc (Nat.le_refl _)⟩;obtain ⟨⟨d, ps, hh⟩, s'⟩ := r;obtain rfl : hh = 0 := h3;exact h6.tree hB (zge h1).1 h1
theorem item_struct (gb : Nat → Nat × Nat) (c : PC) (s : PSt) (w : World) (hp : PAt w c s) (hG : GT gb c w) (HGk : Hid (∀ W W', GT gb c W → Chg c.PB W W' → GT gb c W')) (hT : 2 ≠ c.PB) (h1 : (snF (typF c s).1).2 = true) (h2 : (takeF c (typF c s).2 ⟨#[123]⟩).1 = true) : Calls prog 39 #[.pointer (some ⟨c.PB, 0, none⟩)] w (retT c (fieldsF c (takeF c (typF c s).2 ⟨#[123]⟩).2 (structD (wordF c s) (snF (typF c s).1).1)) w) := by
 have PL := hp.lt;have HP : Hid (PAt w c s) := hp;have HG0 : Hid (GT gb c w) := hG;have hgl : c.g < w.heap.size := hG.g;have HW : Hid (∀ W, PAt W c s → Calls prog 60 #[pp c] W (retWd (wordF c s) W)) := fun W h => word_any c s W h;obtain ⟨x, hx⟩ : ∃ y, wordF c s = y := ⟨_, rfl⟩;rw [hx] at HW;have fa := field_at x.k x.n x.pl x.pc x.s;have HTY : Hid (∀ W, PAt W c s → Chg c.PB w W → Calls prog 61 #[pp c] W (retSh c (typF c s).2 (typF c s).1 W)) := fun W h h2 => typ_any c s W h (HGk.out _ _ hG h2).tw hT;obtain ⟨ty, hty⟩ : ∃ y, (typF c s).1 = y := ⟨_, rfl⟩;obtain ⟨s1, hs1⟩ : ∃ y, (typF c s).2 = y := ⟨_, rfl⟩;rw [hty, hs1] at HTY;have HSN : Hid (∀ W, Calls prog 62 #[shV ty] W (fun e W' => e = .returned (.tuple #[.string (snF ty).1, .bool (snF ty).2]) ∧ Below W.heap.size W W')) := fun W => structName_any ty W;unfold shV at HSN;obtain ⟨nm, hnm⟩ : ∃ y, (snF ty).1 = y := ⟨_, rfl⟩;rw [hty] at h1 ⊢;rw [hs1] at h2 ⊢;rw [hx, hnm];rw [hnm, h1] at HSN;have HTK : Hid (∀ W, PAt W c s1 → Calls prog 63 #[pp c, .string ⟨#[123]⟩] W (pret (.bool (takeF c s1 ⟨#[123]⟩).1) c (takeF c s1 ⟨#[123]⟩).2 W)) := fun W h => take_any c s1 _ W h (by decide);obtain ⟨s2, hs2⟩ : ∃ y, (takeF c s1 ⟨#[123]⟩).2 = y := ⟨_, rfl⟩;rw [h2, hs2] at HTK;rw [hs2];have HFL : Hid (∀ W, PAt W c s2 → Chg c.PB w W → ∀ B, w.heap.size ≤ B → W.heap[B]? = some (.cells #[.int .i64 1, .int .i64 x.pl, .int .i64 x.pc, .string nm, .string ⟨#[]⟩, .int .i64 0, .string ⟨#[]⟩, .int .i64 0, .bool false, .int .i64 0, .bool false, .slice none 0 0, .int .i64 0, .int .i64 0] 87 (0, 0)) → Calls prog 64 #[pp c, .pointer (some ⟨B, 0, none⟩)] W (retNode c (fieldsF c s2 (structD x nm)) w.heap.size B W)) := fun W h h2 B h3 h4 => fields_any (GT gb c) c s2 W h (HGk.out _ _ HG0.out h2) HGk (by have := h2.size; omega) (fun W h => h.tw) hT w.heap.size B (structD x nm) h4 PL hgl h3 (fun W' h' => HGk.out _ _ HG0.out (h'.chg h2 (Nat.le_refl _)));clear hp hG hx hty hs1 hnm h1 h2 hs2
 go_enter func39, ntmps39
 go_wp2_with fail
 refine (HW.out _ HP.out).mono ?_;rintro e wa ⟨rfl, hba⟩;have hsa : w.heap.size ≤ wa.heap.size := hba.size;have gB : wa.heap.size ≠ c.PB := by omega
 have HXa : Hid (PAt (wa.alloc (.cells #[.int .i64 x.pl, .int .i64 x.pc] 25)) c s ∧ Chg c.PB w (wa.alloc (.cells #[.int .i64 x.pl, .int .i64 x.pc] 25)) ∧ (wa.alloc (.cells #[.int .i64 x.pl, .int .i64 x.pc] 25)).heap[wa.heap.size]? = some (.cells #[.int .i64 x.pl, .int .i64 x.pc] 25 (0, 0))) := by
  have hA : Below wa.heap.size wa (wa.alloc (.cells #[.int .i64 x.pl, .int .i64 x.pc] 25)) := bel_alloc (Below.refl _ _) _;exact ⟨(HP.out.below hba).below hA, (Chg.of hba).trans (.of hA), World.alloc_heap_new wa _⟩
 clear hba;dsimp only;go_wp2_with fail
 refine (HTY.out _ HXa.out.1 HXa.out.2.1).mono ?_;rintro e w1 ⟨rfl, hp1, hg1⟩;have hs1w : w.heap.size ≤ w1.heap.size := (HXa.out.2.1.trans hg1).size;have gQ : w1.heap.size ≠ c.PB := by omega
 have HXb : Hid (PAt (w1.alloc (.cells #[.string ty.base, .int .i64 ty.stars, .bool ty.isList, .int .i64 ty.count] 85)) c s1 ∧ Chg c.PB w (w1.alloc (.cells #[.string ty.base, .int .i64 ty.stars, .bool ty.isList, .int .i64 ty.count] 85)) ∧ (w1.alloc (.cells #[.string ty.base, .int .i64 ty.stars, .bool ty.isList, .int .i64 ty.count] 85)).heap[wa.heap.size]? = some (.cells #[.int .i64 x.pl, .int .i64 x.pc] 25 (0, 0)) ∧ (w1.alloc (.cells #[.string ty.base, .int .i64 ty.stars, .bool ty.isList, .int .i64 ty.count] 85)).heap[w1.heap.size]? = some (.cells #[.string ty.base, .int .i64 ty.stars, .bool ty.isList, .int .i64 ty.count] 85 (0, 0))) := by
  have hA : Below w1.heap.size w1 (w1.alloc (.cells #[.string ty.base, .int .i64 ty.stars, .bool ty.isList, .int .i64 ty.count] 85)) := bel_alloc (Below.refl _ _) _;have hb : w1.heap[wa.heap.size]? = some (.cells #[.int .i64 x.pl, .int .i64 x.pc] 25 (0, 0)) := (hg1.block _ (by simp) gB).trans HXa.out.2.2;exact ⟨hp1.below hA, (HXa.out.2.1.trans hg1).trans (.of hA), (hA.block _ (zge hb).1).trans hb, World.alloc_heap_new w1 _⟩
 clear hp1 hg1 HXa;dsimp only [shV];go_wp2_with fail
 refine (HSN.out _).mono ?_;rintro e w2 ⟨rfl, hb2⟩;have HX2 : Hid (PAt w2 c s1 ∧ Chg c.PB w w2 ∧ w2.heap[wa.heap.size]? = some (.cells #[.int .i64 x.pl, .int .i64 x.pc] 25 (0, 0)) ∧ w2.heap[w1.heap.size]? = some (.cells #[.string ty.base, .int .i64 ty.stars, .bool ty.isList, .int .i64 ty.count] 85 (0, 0))) := ⟨HXb.out.1.below hb2, HXb.out.2.1.trans (.of hb2), (hb2.block _ (zge HXb.out.2.2.1).1).trans HXb.out.2.2.1, (hb2.block _ (zge HXb.out.2.2.2).1).trans HXb.out.2.2.2⟩;clear hb2 HXb;dsimp only;go_wp2_with fail
 refine (HTK.out _ HX2.out.1).mono ?_;rintro e w3 ⟨rfl, hp, hg⟩;have HX3 : Hid (PAt w3 c s2 ∧ Chg c.PB w w3 ∧ w3.heap[wa.heap.size]? = some (.cells #[.int .i64 x.pl, .int .i64 x.pc] 25 (0, 0)) ∧ w3.heap[w1.heap.size]? = some (.cells #[.string ty.base, .int .i64 ty.stars, .bool ty.isList, .int .i64 ty.count] 85 (0, 0))) := ⟨hp, HX2.out.2.1.trans hg, (hg.block _ (zge HX2.out.2.2.1).1 gB).trans HX2.out.2.2.1, (hg.block _ (zge HX2.out.2.2.2).1 gQ).trans HX2.out.2.2.2⟩;clear hp hg;dsimp only;have c0 : w3.cell? ⟨wa.heap.size, 0, none⟩ = some (.int .i64 x.pl) := heap_cell HX3.out.2.2.1 (by simp);have c1 : w3.cell? ⟨wa.heap.size, 1, none⟩ = some (.int .i64 x.pc) := heap_cell HX3.out.2.2.1 (by simp);have h3w : w.heap.size ≤ w3.heap.size := HX3.out.2.1.size
 have HX4 : Hid (PAt (w3.alloc (.cells #[.int .i64 1, .int .i64 x.pl, .int .i64 x.pc, .string nm, .string ⟨#[]⟩, .int .i64 0, .string ⟨#[]⟩, .int .i64 0, .bool false, .int .i64 0, .bool false, .slice none 0 0, .int .i64 0, .int .i64 0] 87)) c s2 ∧ Chg c.PB w (w3.alloc (.cells #[.int .i64 1, .int .i64 x.pl, .int .i64 x.pc, .string nm, .string ⟨#[]⟩, .int .i64 0, .string ⟨#[]⟩, .int .i64 0, .bool false, .int .i64 0, .bool false, .slice none 0 0, .int .i64 0, .int .i64 0] 87)) ∧ (w3.alloc (.cells #[.int .i64 1, .int .i64 x.pl, .int .i64 x.pc, .string nm, .string ⟨#[]⟩, .int .i64 0, .string ⟨#[]⟩, .int .i64 0, .bool false, .int .i64 0, .bool false, .slice none 0 0, .int .i64 0, .int .i64 0] 87)).heap[w3.heap.size]? = some (.cells #[.int .i64 1, .int .i64 x.pl, .int .i64 x.pc, .string nm, .string ⟨#[]⟩, .int .i64 0, .string ⟨#[]⟩, .int .i64 0, .bool false, .int .i64 0, .bool false, .slice none 0 0, .int .i64 0, .int .i64 0] 87 (0, 0))) := by
  have hA : Below w3.heap.size w3 (w3.alloc (.cells #[.int .i64 1, .int .i64 x.pl, .int .i64 x.pc, .string nm, .string ⟨#[]⟩, .int .i64 0, .string ⟨#[]⟩, .int .i64 0, .bool false, .int .i64 0, .bool false, .slice none 0 0, .int .i64 0, .int .i64 0] 87)) := bel_alloc (Below.refl _ _) _;exact ⟨HX3.out.1.below hA, HX3.out.2.1.trans (.of hA), World.alloc_heap_new w3 _⟩
 go_wp2_with fail
 refine (HFL.out _ HX4.out.1 HX4.out.2.1 _ h3w HX4.out.2.2).mono ?_;intro e w5 h5;obtain ⟨b5, rfl, h6⟩ := retT_of HX4.out.2.1 h3w e w5 h5;have HZ : Hid (TreeAt w5 w.heap.size w5.heap.size (fieldsF c s2 (structD x nm)).1 b5 ∧ PAt w5 c (fieldsF c s2 (structD x nm)).2 ∧ Chg c.PB w w5) := h6;clear h5 h6 c0 c1;dsimp only;go_wp2;go_ret;exact ⟨b5, rfl, HZ.out⟩
theorem item_fun_n (gb : Nat → Nat × Nat) (c : PC) (s : PSt) (w : World) (hp : PAt w c s) (hG : GT gb c w) (HGk : Hid (∀ W W', GT gb c W → Chg c.PB W W' → GT gb c W')) (hT : 2 ≠ c.PB) (h1 : (snF (typF c s).1).2 = false) (h3 : (takeF c (needKF c (typF c s).2 1).2 ⟨#[40]⟩).1 = true) : Calls prog 39 #[.pointer (some ⟨c.PB, 0, none⟩)] w (retT c (functionF c (takeF c (needKF c (typF c s).2 1).2 ⟨#[40]⟩).2 (nameKD 4 (needKF c (typF c s).2 1).1 (typF c s).1)) w) := by
 have PL := hp.lt;have HP : Hid (PAt w c s) := hp;have HG0 : Hid (GT gb c w) := hG;have hgl : c.g < w.heap.size := hG.g;have HW : Hid (∀ W, PAt W c s → Calls prog 60 #[pp c] W (retWd (wordF c s) W)) := fun W h => word_any c s W h;obtain ⟨x, hx⟩ : ∃ y, wordF c s = y := ⟨_, rfl⟩;rw [hx] at HW;have fa := field_at x.k x.n x.pl x.pc x.s;have HTY : Hid (∀ W, PAt W c s → Chg c.PB w W → Calls prog 61 #[pp c] W (retSh c (typF c s).2 (typF c s).1 W)) := fun W h h2 => typ_any c s W h (HGk.out _ _ hG h2).tw hT;obtain ⟨ty, hty⟩ : ∃ y, (typF c s).1 = y := ⟨_, rfl⟩;obtain ⟨s1, hs1⟩ : ∃ y, (typF c s).2 = y := ⟨_, rfl⟩;rw [hty, hs1] at HTY;have HSN : Hid (∀ W, Calls prog 62 #[shV ty] W (fun e W' => e = .returned (.tuple #[.string (snF ty).1, .bool (snF ty).2]) ∧ Below W.heap.size W W')) := fun W => structName_any ty W;unfold shV at HSN;obtain ⟨nm, hnm⟩ : ∃ y, (snF ty).1 = y := ⟨_, rfl⟩;rw [hty] at h1 ⊢;rw [hs1] at h3 ⊢;rw [hnm, h1] at HSN;have HNM : Hid (∀ W, PAt W c s1 → Calls prog 65 #[pp c, .agg #[.string ty.base, .int .i64 ty.stars, .bool ty.isList, .int .i64 ty.count]] W (retNd c (needKF c s1 1).2 (namedD (needKF c s1 1).1 ty) W)) := fun W h => named_any c s1 ty W h;obtain ⟨z, hz⟩ : ∃ y, (needKF c s1 1).1 = y := ⟨_, rfl⟩;obtain ⟨s2, hs2⟩ : ∃ y, (needKF c s1 1).2 = y := ⟨_, rfl⟩;rw [hz, hs2] at HNM ⊢;rw [hs2] at h3;have HTP : Hid (∀ W, PAt W c s2 → Calls prog 63 #[pp c, .string ⟨#[40]⟩] W (pret (.bool (takeF c s2 ⟨#[40]⟩).1) c (takeF c s2 ⟨#[40]⟩).2 W)) := fun W h => take_any c s2 _ W h (by decide);obtain ⟨s3, hs3⟩ : ∃ y, (takeF c s2 ⟨#[40]⟩).2 = y := ⟨_, rfl⟩;rw [h3, hs3] at HTP;rw [hs3];have HFN : Hid (∀ W, PAt W c s3 → Chg c.PB w W → ∀ B, w.heap.size ≤ B → W.heap[B]? = some (.cells #[.int .i64 4, .int .i64 z.pl, .int .i64 z.pc, .string z.s, .string ⟨#[]⟩, .int .i64 0, .string ty.base, .int .i64 ty.stars, .bool ty.isList, .int .i64 ty.count, .bool false, .slice none 0 0, .int .i64 0, .int .i64 0] 87 (0, 0)) → Calls prog 66 #[pp c, .pointer (some ⟨B, 0, none⟩)] W (retNode c (functionF c s3 (nameKD 4 z ty)) w.heap.size B W)) := fun W h h2 B h3 h4 => function_any (GT gb c) c s3 W h (HGk.out _ _ HG0.out h2) HGk (by have := h2.size; omega) (fun W h => h.tw) hT w.heap.size B (nameKD 4 z ty) h4 PL hgl h3 (fun W' h' => HGk.out _ _ HG0.out (h'.chg h2 (Nat.le_refl _))) (fun s' W' h' h2' => blockC_ok gb c HGk hT s' W' h' h2') (fun W' h' => h'.g);clear hp hG hx hty hs1 hnm h1 h3 hz hs2 hs3
 go_enter func39, ntmps39
 go_wp2_with fail
 refine (HW.out _ HP.out).mono ?_;rintro e wa ⟨rfl, hba⟩;have hsa : w.heap.size ≤ wa.heap.size := hba.size;have gB : wa.heap.size ≠ c.PB := by omega
 have HXa : Hid (PAt (wa.alloc (.cells #[.int .i64 x.pl, .int .i64 x.pc] 25)) c s ∧ Chg c.PB w (wa.alloc (.cells #[.int .i64 x.pl, .int .i64 x.pc] 25)) ∧ (wa.alloc (.cells #[.int .i64 x.pl, .int .i64 x.pc] 25)).heap[wa.heap.size]? = some (.cells #[.int .i64 x.pl, .int .i64 x.pc] 25 (0, 0))) := by
  have hA : Below wa.heap.size wa (wa.alloc (.cells #[.int .i64 x.pl, .int .i64 x.pc] 25)) := bel_alloc (Below.refl _ _) _;exact ⟨(HP.out.below hba).below hA, (Chg.of hba).trans (.of hA), World.alloc_heap_new wa _⟩
 clear hba;dsimp only;go_wp2_with fail
 refine (HTY.out _ HXa.out.1 HXa.out.2.1).mono ?_;rintro e w1 ⟨rfl, hp1, hg1⟩;have hs1w : w.heap.size ≤ w1.heap.size := (HXa.out.2.1.trans hg1).size;have gQ : w1.heap.size ≠ c.PB := by omega
 have HXb : Hid (PAt (w1.alloc (.cells #[.string ty.base, .int .i64 ty.stars, .bool ty.isList, .int .i64 ty.count] 85)) c s1 ∧ Chg c.PB w (w1.alloc (.cells #[.string ty.base, .int .i64 ty.stars, .bool ty.isList, .int .i64 ty.count] 85)) ∧ (w1.alloc (.cells #[.string ty.base, .int .i64 ty.stars, .bool ty.isList, .int .i64 ty.count] 85)).heap[wa.heap.size]? = some (.cells #[.int .i64 x.pl, .int .i64 x.pc] 25 (0, 0)) ∧ (w1.alloc (.cells #[.string ty.base, .int .i64 ty.stars, .bool ty.isList, .int .i64 ty.count] 85)).heap[w1.heap.size]? = some (.cells #[.string ty.base, .int .i64 ty.stars, .bool ty.isList, .int .i64 ty.count] 85 (0, 0))) := by
  have hA : Below w1.heap.size w1 (w1.alloc (.cells #[.string ty.base, .int .i64 ty.stars, .bool ty.isList, .int .i64 ty.count] 85)) := bel_alloc (Below.refl _ _) _;have hb : w1.heap[wa.heap.size]? = some (.cells #[.int .i64 x.pl, .int .i64 x.pc] 25 (0, 0)) := (hg1.block _ (by simp) gB).trans HXa.out.2.2;exact ⟨hp1.below hA, (HXa.out.2.1.trans hg1).trans (.of hA), (hA.block _ (zge hb).1).trans hb, World.alloc_heap_new w1 _⟩
 clear hp1 hg1 HXa;dsimp only [shV];go_wp2_with fail
 refine (HSN.out _).mono ?_;rintro e w2 ⟨rfl, hb2⟩;have HX2 : Hid (PAt w2 c s1 ∧ Chg c.PB w w2 ∧ w2.heap[wa.heap.size]? = some (.cells #[.int .i64 x.pl, .int .i64 x.pc] 25 (0, 0)) ∧ w2.heap[w1.heap.size]? = some (.cells #[.string ty.base, .int .i64 ty.stars, .bool ty.isList, .int .i64 ty.count] 85 (0, 0))) := ⟨HXb.out.1.below hb2, HXb.out.2.1.trans (.of hb2), (hb2.block _ (zge HXb.out.2.2.1).1).trans HXb.out.2.2.1, (hb2.block _ (zge HXb.out.2.2.2).1).trans HXb.out.2.2.2⟩;clear hb2 HXb;dsimp only;have q0 : w2.cell? ⟨w1.heap.size, 0, none⟩ = some (.string ty.base) := heap_cell HX2.out.2.2.2 (by simp);have q1 : w2.cell? ⟨w1.heap.size, 1, none⟩ = some (.int .i64 ty.stars) := heap_cell HX2.out.2.2.2 (by simp);have q2 : w2.cell? ⟨w1.heap.size, 2, none⟩ = some (.bool ty.isList) := heap_cell HX2.out.2.2.2 (by simp);have q3 : w2.cell? ⟨w1.heap.size, 3, none⟩ = some (.int .i64 ty.count) := heap_cell HX2.out.2.2.2 (by simp);go_wp2_with fail
 refine (HNM.out _ HX2.out.1).mono ?_;rintro e v1 ⟨B, rfl, hb, hB, hp, hg⟩;have hwB : w.heap.size ≤ B := Nat.le_trans HX2.out.2.1.size hB;have gN : B ≠ c.PB := by omega
 have HXn : Hid ((PAt v1 c s2 ∧ Chg c.PB w v1 ∧ v1.heap[wa.heap.size]? = some (.cells #[.int .i64 x.pl, .int .i64 x.pc] 25 (0, 0)) ∧ v1.heap[w1.heap.size]? = some (.cells #[.string ty.base, .int .i64 ty.stars, .bool ty.isList, .int .i64 ty.count] 85 (0, 0))) ∧ v1.heap[B]? = some (.cells (nodeCells (namedD z ty) (.slice none 0 0) 0) 87 (0, 0))) := ⟨⟨hp, HX2.out.2.1.trans hg, (hg.block _ (zge HX2.out.2.2.1).1 gB).trans HX2.out.2.2.1, (hg.block _ (zge HX2.out.2.2.2).1 gQ).trans HX2.out.2.2.2⟩, hb⟩;have nQ : w1.heap.size ≠ B := by have := (zge HX2.out.2.2.2).1; omega
 clear hp hg hb q0 q1 q2 q3;dsimp only;go_wp2_with fail
 refine (HTP.out _ HXn.out.1.1).mono ?_;rintro e v2 ⟨rfl, hp, hg⟩;have HXm : Hid ((PAt v2 c s3 ∧ Chg c.PB w v2 ∧ v2.heap[wa.heap.size]? = some (.cells #[.int .i64 x.pl, .int .i64 x.pc] 25 (0, 0)) ∧ v2.heap[w1.heap.size]? = some (.cells #[.string ty.base, .int .i64 ty.stars, .bool ty.isList, .int .i64 ty.count] 85 (0, 0))) ∧ v2.heap[B]? = some (.cells (nodeCells (namedD z ty) (.slice none 0 0) 0) 87 (0, 0))) := ⟨⟨hp, HXn.out.1.2.1.trans hg, (hg.block _ (zge HXn.out.1.2.2.1).1 gB).trans HXn.out.1.2.2.1, (hg.block _ (zge HXn.out.1.2.2.2).1 gQ).trans HXn.out.1.2.2.2⟩, (hg.block _ (zge HXn.out.2).1 gN).trans HXn.out.2⟩;clear hp hg;have c0 : v2.cell? ⟨B, 0, none⟩ = some (.int .i64 0) := heap_cell HXm.out.2 (by simp [nodeCells, namedD]);have f0 : v2.frozen? ⟨B, 0, none⟩ = false := heap_frozen HXm.out.2;have lB2 : B < v2.heap.size := (zge HXm.out.2).1;have HX5 : Hid (PAt (v2.setCell ⟨B, 0, none⟩ (.int .i64 4)) c s3 ∧ Chg c.PB w (v2.setCell ⟨B, 0, none⟩ (.int .i64 4)) ∧ (v2.setCell ⟨B, 0, none⟩ (.int .i64 4)).heap[B]? = some (.cells #[.int .i64 4, .int .i64 z.pl, .int .i64 z.pc, .string z.s, .string ⟨#[]⟩, .int .i64 0, .string ty.base, .int .i64 ty.stars, .bool ty.isList, .int .i64 ty.count, .bool false, .slice none 0 0, .int .i64 0, .int .i64 0] 87 (0, 0)) ∧ (v2.setCell ⟨B, 0, none⟩ (.int .i64 4)).heap[w1.heap.size]? = some (.cells #[.string ty.base, .int .i64 ty.stars, .bool ty.isList, .int .i64 ty.count] 85 (0, 0)) ∧ B < (v2.setCell ⟨B, 0, none⟩ (.int .i64 4)).heap.size) := ⟨HXm.out.1.1.blocks (heap_set_other (Ne.symm gN)) (heap_set_other (by omega)), HXm.out.1.2.1.setNew hwB _ _, Eq.trans (heap_set_same (o := 0) HXm.out.2 _) (by simp [nodeCells, namedD]), (heap_set_other nQ).trans HXm.out.1.2.2.2, by rw [size_set]; exact lB2⟩;dsimp only;go_wp2_with fail
 refine (HFN.out _ HX5.out.1 HX5.out.2.1 B hwB HX5.out.2.2.1).mono ?_;intro e w5 h5;obtain ⟨b5, rfl, h6⟩ := retT_of HX5.out.2.1 hwB e w5 h5;have HZ : Hid (TreeAt w5 w.heap.size w5.heap.size (functionF c s3 (nameKD 4 z ty)).1 b5 ∧ PAt w5 c (functionF c s3 (nameKD 4 z ty)).2 ∧ Chg c.PB w w5) := h6;clear h5 h6 c0 f0;dsimp only;go_wp2;go_ret;exact ⟨b5, rfl, HZ.out⟩
theorem item_glob_n (gb : Nat → Nat × Nat) (c : PC) (s : PSt) (w : World) (hp : PAt w c s) (hG : GT gb c w) (HGk : Hid (∀ W W', GT gb c W → Chg c.PB W W' → GT gb c W')) (hT : 2 ≠ c.PB) (h1 : (snF (typF c s).1).2 = false) (h3 : (takeF c (needKF c (typF c s).2 1).2 ⟨#[40]⟩).1 = false) : Calls prog 39 #[.pointer (some ⟨c.PB, 0, none⟩)] w (retT c ((.mk (nameKD 3 (needKF c (typF c s).2 1).1 (brackF c (needKF c (typF c s).2 1).2 (typF c s).1).1) [] 0, needF c (brackF c (needKF c (typF c s).2 1).2 (typF c s).1).2 ⟨#[59]⟩)) w) := by
 have PL := hp.lt;have HP : Hid (PAt w c s) := hp;have HG0 : Hid (GT gb c w) := hG;have hgl : c.g < w.heap.size := hG.g;have HW : Hid (∀ W, PAt W c s → Calls prog 60 #[pp c] W (retWd (wordF c s) W)) := fun W h => word_any c s W h;obtain ⟨x, hx⟩ : ∃ y, wordF c s = y := ⟨_, rfl⟩;rw [hx] at HW;have fa := field_at x.k x.n x.pl x.pc x.s;have HTY : Hid (∀ W, PAt W c s → Chg c.PB w W → Calls prog 61 #[pp c] W (retSh c (typF c s).2 (typF c s).1 W)) := fun W h h2 => typ_any c s W h (HGk.out _ _ hG h2).tw hT;obtain ⟨ty, hty⟩ : ∃ y, (typF c s).1 = y := ⟨_, rfl⟩;obtain ⟨s1, hs1⟩ : ∃ y, (typF c s).2 = y := ⟨_, rfl⟩;rw [hty, hs1] at HTY;have HSN : Hid (∀ W, Calls prog 62 #[shV ty] W (fun e W' => e = .returned (.tuple #[.string (snF ty).1, .bool (snF ty).2]) ∧ Below W.heap.size W W')) := fun W => structName_any ty W;unfold shV at HSN;obtain ⟨nm, hnm⟩ : ∃ y, (snF ty).1 = y := ⟨_, rfl⟩;rw [hty] at h1 ⊢;rw [hs1] at h3 ⊢;rw [hnm, h1] at HSN;have HNM : Hid (∀ W, PAt W c s1 → Calls prog 65 #[pp c, .agg #[.string ty.base, .int .i64 ty.stars, .bool ty.isList, .int .i64 ty.count]] W (retNd c (needKF c s1 1).2 (namedD (needKF c s1 1).1 ty) W)) := fun W h => named_any c s1 ty W h;obtain ⟨z, hz⟩ : ∃ y, (needKF c s1 1).1 = y := ⟨_, rfl⟩;obtain ⟨s2, hs2⟩ : ∃ y, (needKF c s1 1).2 = y := ⟨_, rfl⟩;rw [hz, hs2] at HNM ⊢;rw [hs2] at h3;have HTP : Hid (∀ W, PAt W c s2 → Calls prog 63 #[pp c, .string ⟨#[40]⟩] W (pret (.bool (takeF c s2 ⟨#[40]⟩).1) c (takeF c s2 ⟨#[40]⟩).2 W)) := fun W h => take_any c s2 _ W h (by decide);rw [h3, takeF_false h3] at HTP;have HBR : Hid (∀ W, PAt W c s2 → Calls prog 67 #[pp c, .agg #[.string ty.base, .int .i64 ty.stars, .bool ty.isList, .int .i64 ty.count]] W (retSh c (brackF c s2 ty).2 (brackF c s2 ty).1 W)) := fun W h => brackets_any c s2 ty W h;obtain ⟨u, hu⟩ : ∃ y, (brackF c s2 ty).1 = y := ⟨_, rfl⟩;obtain ⟨s4, hs4⟩ : ∃ y, (brackF c s2 ty).2 = y := ⟨_, rfl⟩;rw [hu, hs4] at HBR ⊢;have HND : Hid (∀ W, PAt W c s4 → Calls prog 68 #[pp c, .string ⟨#[59]⟩] W (pret (.tuple #[]) c (needF c s4 ⟨#[59]⟩) W)) := fun W h => need_any c s4 _ W h (by decide);obtain ⟨s5, hs5⟩ : ∃ y, needF c s4 ⟨#[59]⟩ = y := ⟨_, rfl⟩;rw [hs5] at HND ⊢;clear hp hG hx hty hs1 hnm h1 h3 hz hs2 hu hs4 hs5
 go_enter func39, ntmps39
 go_wp2_with fail
 refine (HW.out _ HP.out).mono ?_;rintro e wa ⟨rfl, hba⟩;have hsa : w.heap.size ≤ wa.heap.size := hba.size;have gB : wa.heap.size ≠ c.PB := by omega
 have HXa : Hid (PAt (wa.alloc (.cells #[.int .i64 x.pl, .int .i64 x.pc] 25)) c s ∧ Chg c.PB w (wa.alloc (.cells #[.int .i64 x.pl, .int .i64 x.pc] 25)) ∧ (wa.alloc (.cells #[.int .i64 x.pl, .int .i64 x.pc] 25)).heap[wa.heap.size]? = some (.cells #[.int .i64 x.pl, .int .i64 x.pc] 25 (0, 0))) := by
  have hA : Below wa.heap.size wa (wa.alloc (.cells #[.int .i64 x.pl, .int .i64 x.pc] 25)) := bel_alloc (Below.refl _ _) _;exact ⟨(HP.out.below hba).below hA, (Chg.of hba).trans (.of hA), World.alloc_heap_new wa _⟩
 clear hba;dsimp only;go_wp2_with fail
 refine (HTY.out _ HXa.out.1 HXa.out.2.1).mono ?_;rintro e w1 ⟨rfl, hp1, hg1⟩;have hs1w : w.heap.size ≤ w1.heap.size := (HXa.out.2.1.trans hg1).size;have gQ : w1.heap.size ≠ c.PB := by omega
 have HXb : Hid (PAt (w1.alloc (.cells #[.string ty.base, .int .i64 ty.stars, .bool ty.isList, .int .i64 ty.count] 85)) c s1 ∧ Chg c.PB w (w1.alloc (.cells #[.string ty.base, .int .i64 ty.stars, .bool ty.isList, .int .i64 ty.count] 85)) ∧ (w1.alloc (.cells #[.string ty.base, .int .i64 ty.stars, .bool ty.isList, .int .i64 ty.count] 85)).heap[wa.heap.size]? = some (.cells #[.int .i64 x.pl, .int .i64 x.pc] 25 (0, 0)) ∧ (w1.alloc (.cells #[.string ty.base, .int .i64 ty.stars, .bool ty.isList, .int .i64 ty.count] 85)).heap[w1.heap.size]? = some (.cells #[.string ty.base, .int .i64 ty.stars, .bool ty.isList, .int .i64 ty.count] 85 (0, 0))) := by
  have hA : Below w1.heap.size w1 (w1.alloc (.cells #[.string ty.base, .int .i64 ty.stars, .bool ty.isList, .int .i64 ty.count] 85)) := bel_alloc (Below.refl _ _) _;have hb : w1.heap[wa.heap.size]? = some (.cells #[.int .i64 x.pl, .int .i64 x.pc] 25 (0, 0)) := (hg1.block _ (by simp) gB).trans HXa.out.2.2;exact ⟨hp1.below hA, (HXa.out.2.1.trans hg1).trans (.of hA), (hA.block _ (zge hb).1).trans hb, World.alloc_heap_new w1 _⟩
 clear hp1 hg1 HXa;dsimp only [shV];go_wp2_with fail
 refine (HSN.out _).mono ?_;rintro e w2 ⟨rfl, hb2⟩;have HX2 : Hid (PAt w2 c s1 ∧ Chg c.PB w w2 ∧ w2.heap[wa.heap.size]? = some (.cells #[.int .i64 x.pl, .int .i64 x.pc] 25 (0, 0)) ∧ w2.heap[w1.heap.size]? = some (.cells #[.string ty.base, .int .i64 ty.stars, .bool ty.isList, .int .i64 ty.count] 85 (0, 0))) := ⟨HXb.out.1.below hb2, HXb.out.2.1.trans (.of hb2), (hb2.block _ (zge HXb.out.2.2.1).1).trans HXb.out.2.2.1, (hb2.block _ (zge HXb.out.2.2.2).1).trans HXb.out.2.2.2⟩;clear hb2 HXb;dsimp only;have q0 : w2.cell? ⟨w1.heap.size, 0, none⟩ = some (.string ty.base) := heap_cell HX2.out.2.2.2 (by simp);have q1 : w2.cell? ⟨w1.heap.size, 1, none⟩ = some (.int .i64 ty.stars) := heap_cell HX2.out.2.2.2 (by simp);have q2 : w2.cell? ⟨w1.heap.size, 2, none⟩ = some (.bool ty.isList) := heap_cell HX2.out.2.2.2 (by simp);have q3 : w2.cell? ⟨w1.heap.size, 3, none⟩ = some (.int .i64 ty.count) := heap_cell HX2.out.2.2.2 (by simp);go_wp2_with fail
 refine (HNM.out _ HX2.out.1).mono ?_;rintro e v1 ⟨B, rfl, hb, hB, hp, hg⟩;have hwB : w.heap.size ≤ B := Nat.le_trans HX2.out.2.1.size hB;have gN : B ≠ c.PB := by omega
 have HXn : Hid ((PAt v1 c s2 ∧ Chg c.PB w v1 ∧ v1.heap[wa.heap.size]? = some (.cells #[.int .i64 x.pl, .int .i64 x.pc] 25 (0, 0)) ∧ v1.heap[w1.heap.size]? = some (.cells #[.string ty.base, .int .i64 ty.stars, .bool ty.isList, .int .i64 ty.count] 85 (0, 0))) ∧ v1.heap[B]? = some (.cells (nodeCells (namedD z ty) (.slice none 0 0) 0) 87 (0, 0))) := ⟨⟨hp, HX2.out.2.1.trans hg, (hg.block _ (zge HX2.out.2.2.1).1 gB).trans HX2.out.2.2.1, (hg.block _ (zge HX2.out.2.2.2).1 gQ).trans HX2.out.2.2.2⟩, hb⟩;have nQ : w1.heap.size ≠ B := by have := (zge HX2.out.2.2.2).1; omega
 clear hp hg hb q0 q1 q2 q3;dsimp only;go_wp2_with fail
 refine (HTP.out _ HXn.out.1.1).mono ?_;rintro e v2 ⟨rfl, hp, hg⟩;have HXm : Hid ((PAt v2 c s2 ∧ Chg c.PB w v2 ∧ v2.heap[wa.heap.size]? = some (.cells #[.int .i64 x.pl, .int .i64 x.pc] 25 (0, 0)) ∧ v2.heap[w1.heap.size]? = some (.cells #[.string ty.base, .int .i64 ty.stars, .bool ty.isList, .int .i64 ty.count] 85 (0, 0))) ∧ v2.heap[B]? = some (.cells (nodeCells (namedD z ty) (.slice none 0 0) 0) 87 (0, 0))) := ⟨⟨hp, HXn.out.1.2.1.trans hg, (hg.block _ (zge HXn.out.1.2.2.1).1 gB).trans HXn.out.1.2.2.1, (hg.block _ (zge HXn.out.1.2.2.2).1 gQ).trans HXn.out.1.2.2.2⟩, (hg.block _ (zge HXn.out.2).1 gN).trans HXn.out.2⟩;clear hp hg;have c0 : v2.cell? ⟨B, 0, none⟩ = some (.int .i64 0) := heap_cell HXm.out.2 (by simp [nodeCells, namedD]);have f0 : v2.frozen? ⟨B, 0, none⟩ = false := heap_frozen HXm.out.2;have lB2 : B < v2.heap.size := (zge HXm.out.2).1;have HX5 : Hid (PAt (v2.setCell ⟨B, 0, none⟩ (.int .i64 3)) c s2 ∧ Chg c.PB w (v2.setCell ⟨B, 0, none⟩ (.int .i64 3)) ∧ (v2.setCell ⟨B, 0, none⟩ (.int .i64 3)).heap[B]? = some (.cells #[.int .i64 3, .int .i64 z.pl, .int .i64 z.pc, .string z.s, .string ⟨#[]⟩, .int .i64 0, .string ty.base, .int .i64 ty.stars, .bool ty.isList, .int .i64 ty.count, .bool false, .slice none 0 0, .int .i64 0, .int .i64 0] 87 (0, 0)) ∧ (v2.setCell ⟨B, 0, none⟩ (.int .i64 3)).heap[w1.heap.size]? = some (.cells #[.string ty.base, .int .i64 ty.stars, .bool ty.isList, .int .i64 ty.count] 85 (0, 0)) ∧ B < (v2.setCell ⟨B, 0, none⟩ (.int .i64 3)).heap.size) := ⟨HXm.out.1.1.blocks (heap_set_other (Ne.symm gN)) (heap_set_other (by omega)), HXm.out.1.2.1.setNew hwB _ _, Eq.trans (heap_set_same (o := 0) HXm.out.2 _) (by simp [nodeCells, namedD]), (heap_set_other nQ).trans HXm.out.1.2.2.2, by rw [size_set]; exact lB2⟩;dsimp only;have q0 : v2.cell? ⟨w1.heap.size, 0, none⟩ = some (.string ty.base) := heap_cell HXm.out.1.2.2.2 (by simp);have q1 : v2.cell? ⟨w1.heap.size, 1, none⟩ = some (.int .i64 ty.stars) := heap_cell HXm.out.1.2.2.2 (by simp);have q2 : v2.cell? ⟨w1.heap.size, 2, none⟩ = some (.bool ty.isList) := heap_cell HXm.out.1.2.2.2 (by simp);have q3 : v2.cell? ⟨w1.heap.size, 3, none⟩ = some (.int .i64 ty.count) := heap_cell HXm.out.1.2.2.2 (by simp);go_wp2_with fail
 refine (HBR.out _ HX5.out.1).mono ?_;rintro e v4 ⟨rfl, hp, hg⟩;have b4 : v4.heap[B]? = some (.cells #[.int .i64 3, .int .i64 z.pl, .int .i64 z.pc, .string z.s, .string ⟨#[]⟩, .int .i64 0, .string ty.base, .int .i64 ty.stars, .bool ty.isList, .int .i64 ty.count, .bool false, .slice none 0 0, .int .i64 0, .int .i64 0] 87 (0, 0)) := (hg.block _ HX5.out.2.2.2.2 gN).trans HX5.out.2.2.1;have l4 : B < v4.heap.size := (zge b4).1;have HX6 : Hid (PAt v4 c s4 ∧ Chg c.PB w v4 ∧ v4.heap[B]? = some (.cells #[.int .i64 3, .int .i64 z.pl, .int .i64 z.pc, .string z.s, .string ⟨#[]⟩, .int .i64 0, .string ty.base, .int .i64 ty.stars, .bool ty.isList, .int .i64 ty.count, .bool false, .slice none 0 0, .int .i64 0, .int .i64 0] 87 (0, 0))) := ⟨hp, HX5.out.2.1.trans hg, b4⟩;have ff : ∀ j, v4.frozen? ⟨B, j, none⟩ = false := fun j => heap_frozen b4;have q6 : v4.cell? ⟨B, 6, none⟩ = some (.string ty.base) := heap_cell b4 (by simp);have q7 : v4.cell? ⟨B, 7, none⟩ = some (.int .i64 ty.stars) := heap_cell b4 (by simp);have q8 : v4.cell? ⟨B, 8, none⟩ = some (.bool ty.isList) := heap_cell b4 (by simp);have q9 : v4.cell? ⟨B, 9, none⟩ = some (.int .i64 ty.count) := heap_cell b4 (by simp);clear hp hg b4 c0 f0 q0 q1 q2 q3
 have HX7 : Hid (PAt ((((v4.setCell ⟨B, 6, none⟩ (.string u.base)).setCell ⟨B, 7, none⟩ (.int .i64 u.stars)).setCell ⟨B, 8, none⟩ (.bool u.isList)).setCell ⟨B, 9, none⟩ (.int .i64 u.count)) c s4 ∧ Chg c.PB w ((((v4.setCell ⟨B, 6, none⟩ (.string u.base)).setCell ⟨B, 7, none⟩ (.int .i64 u.stars)).setCell ⟨B, 8, none⟩ (.bool u.isList)).setCell ⟨B, 9, none⟩ (.int .i64 u.count)) ∧ ((((v4.setCell ⟨B, 6, none⟩ (.string u.base)).setCell ⟨B, 7, none⟩ (.int .i64 u.stars)).setCell ⟨B, 8, none⟩ (.bool u.isList)).setCell ⟨B, 9, none⟩ (.int .i64 u.count)).heap[B]? = some (.cells #[.int .i64 3, .int .i64 z.pl, .int .i64 z.pc, .string z.s, .string ⟨#[]⟩, .int .i64 0, .string u.base, .int .i64 u.stars, .bool u.isList, .int .i64 u.count, .bool false, .slice none 0 0, .int .i64 0, .int .i64 0] 87 (0, 0)) ∧ B < ((((v4.setCell ⟨B, 6, none⟩ (.string u.base)).setCell ⟨B, 7, none⟩ (.int .i64 u.stars)).setCell ⟨B, 8, none⟩ (.bool u.isList)).setCell ⟨B, 9, none⟩ (.int .i64 u.count)).heap.size) := by
  have o : ∀ k, k ≠ B → ((((v4.setCell ⟨B, 6, none⟩ (.string u.base)).setCell ⟨B, 7, none⟩ (.int .i64 u.stars)).setCell ⟨B, 8, none⟩ (.bool u.isList)).setCell ⟨B, 9, none⟩ (.int .i64 u.count)).heap[k]? = v4.heap[k]? := fun k hk => (heap_set_other hk).trans ((heap_set_other hk).trans ((heap_set_other hk).trans (heap_set_other hk)));refine ⟨HX6.out.1.blocks (o _ (Ne.symm gN)) (o _ (by omega)), (((HX6.out.2.1.setNew hwB _ _).setNew hwB _ _).setNew hwB _ _).setNew hwB _ _, ?_, by rw [size_set, size_set, size_set, size_set]; exact l4⟩;exact Eq.trans (heap_set_same (o := 9) (heap_set_same (o := 8) (heap_set_same (o := 7) (heap_set_same (o := 6) HX6.out.2.2 _) _) _) _) (by simp)
 dsimp only [shV];go_wp2_with fail
 clear q6 q7 q8 q9 ff;refine (HND.out _ HX7.out.1).mono ?_;rintro e v5 ⟨rfl, hp, hg⟩;have HZ : Hid (TreeAt v5 w.heap.size v5.heap.size (.mk (nameKD 3 z u) [] 0) B ∧ PAt v5 c s5 ∧ Chg c.PB w v5) := ⟨(Top.leaf (d := nameKD 3 z u) ((hg.block _ HX7.out.2.2.2 gN).trans HX7.out.2.2.1) hwB).tree, hp, HX7.out.2.1.trans hg⟩;clear hp hg;dsimp only;go_wp2;go_ret;exact ⟨B, rfl, HZ.out⟩
theorem item_fun_s (gb : Nat → Nat × Nat) (c : PC) (s : PSt) (w : World) (hp : PAt w c s) (hG : GT gb c w) (HGk : Hid (∀ W W', GT gb c W → Chg c.PB W W' → GT gb c W')) (hT : 2 ≠ c.PB) (h1 : (snF (typF c s).1).2 = true) (h2 : (takeF c (typF c s).2 ⟨#[123]⟩).1 = false) (h3 : (takeF c (needKF c (typF c s).2 1).2 ⟨#[40]⟩).1 = true) : Calls prog 39 #[.pointer (some ⟨c.PB, 0, none⟩)] w (retT c (functionF c (takeF c (needKF c (typF c s).2 1).2 ⟨#[40]⟩).2 (nameKD 4 (needKF c (typF c s).2 1).1 (typF c s).1)) w) := by
 have PL := hp.lt;have HP : Hid (PAt w c s) := hp;have HG0 : Hid (GT gb c w) := hG;have hgl : c.g < w.heap.size := hG.g;have HW : Hid (∀ W, PAt W c s → Calls prog 60 #[pp c] W (retWd (wordF c s) W)) := fun W h => word_any c s W h;obtain ⟨x, hx⟩ : ∃ y, wordF c s = y := ⟨_, rfl⟩;rw [hx] at HW;have fa := field_at x.k x.n x.pl x.pc x.s;have HTY : Hid (∀ W, PAt W c s → Chg c.PB w W → Calls prog 61 #[pp c] W (retSh c (typF c s).2 (typF c s).1 W)) := fun W h h2 => typ_any c s W h (HGk.out _ _ hG h2).tw hT;obtain ⟨ty, hty⟩ : ∃ y, (typF c s).1 = y := ⟨_, rfl⟩;obtain ⟨s1, hs1⟩ : ∃ y, (typF c s).2 = y := ⟨_, rfl⟩;rw [hty, hs1] at HTY;have HSN : Hid (∀ W, Calls prog 62 #[shV ty] W (fun e W' => e = .returned (.tuple #[.string (snF ty).1, .bool (snF ty).2]) ∧ Below W.heap.size W W')) := fun W => structName_any ty W;unfold shV at HSN;obtain ⟨nm, hnm⟩ : ∃ y, (snF ty).1 = y := ⟨_, rfl⟩;rw [hty] at h1 ⊢;rw [hs1] at h2 h3 ⊢;rw [hnm, h1] at HSN;have HTK : Hid (∀ W, PAt W c s1 → Calls prog 63 #[pp c, .string ⟨#[123]⟩] W (pret (.bool (takeF c s1 ⟨#[123]⟩).1) c (takeF c s1 ⟨#[123]⟩).2 W)) := fun W h => take_any c s1 _ W h (by decide);rw [h2, takeF_false h2] at HTK;have HNM : Hid (∀ W, PAt W c s1 → Calls prog 65 #[pp c, .agg #[.string ty.base, .int .i64 ty.stars, .bool ty.isList, .int .i64 ty.count]] W (retNd c (needKF c s1 1).2 (namedD (needKF c s1 1).1 ty) W)) := fun W h => named_any c s1 ty W h;obtain ⟨z, hz⟩ : ∃ y, (needKF c s1 1).1 = y := ⟨_, rfl⟩;obtain ⟨s2, hs2⟩ : ∃ y, (needKF c s1 1).2 = y := ⟨_, rfl⟩;rw [hz, hs2] at HNM ⊢;rw [hs2] at h3;have HTP : Hid (∀ W, PAt W c s2 → Calls prog 63 #[pp c, .string ⟨#[40]⟩] W (pret (.bool (takeF c s2 ⟨#[40]⟩).1) c (takeF c s2 ⟨#[40]⟩).2 W)) := fun W h => take_any c s2 _ W h (by decide);obtain ⟨s3, hs3⟩ : ∃ y, (takeF c s2 ⟨#[40]⟩).2 = y := ⟨_, rfl⟩;rw [h3, hs3] at HTP;rw [hs3];have HFN : Hid (∀ W, PAt W c s3 → Chg c.PB w W → ∀ B, w.heap.size ≤ B → W.heap[B]? = some (.cells #[.int .i64 4, .int .i64 z.pl, .int .i64 z.pc, .string z.s, .string ⟨#[]⟩, .int .i64 0, .string ty.base, .int .i64 ty.stars, .bool ty.isList, .int .i64 ty.count, .bool false, .slice none 0 0, .int .i64 0, .int .i64 0] 87 (0, 0)) → Calls prog 66 #[pp c, .pointer (some ⟨B, 0, none⟩)] W (retNode c (functionF c s3 (nameKD 4 z ty)) w.heap.size B W)) := fun W h h2 B h3 h4 => function_any (GT gb c) c s3 W h (HGk.out _ _ HG0.out h2) HGk (by have := h2.size; omega) (fun W h => h.tw) hT w.heap.size B (nameKD 4 z ty) h4 PL hgl h3 (fun W' h' => HGk.out _ _ HG0.out (h'.chg h2 (Nat.le_refl _))) (fun s' W' h' h2' => blockC_ok gb c HGk hT s' W' h' h2') (fun W' h' => h'.g);clear hp hG hx hty hs1 hnm h1 h2 h3 hz hs2 hs3
 go_enter func39, ntmps39
 go_wp2_with fail
 refine (HW.out _ HP.out).mono ?_;rintro e wa ⟨rfl, hba⟩;have hsa : w.heap.size ≤ wa.heap.size := hba.size;have gB : wa.heap.size ≠ c.PB := by omega
 have HXa : Hid (PAt (wa.alloc (.cells #[.int .i64 x.pl, .int .i64 x.pc] 25)) c s ∧ Chg c.PB w (wa.alloc (.cells #[.int .i64 x.pl, .int .i64 x.pc] 25)) ∧ (wa.alloc (.cells #[.int .i64 x.pl, .int .i64 x.pc] 25)).heap[wa.heap.size]? = some (.cells #[.int .i64 x.pl, .int .i64 x.pc] 25 (0, 0))) := by
  have hA : Below wa.heap.size wa (wa.alloc (.cells #[.int .i64 x.pl, .int .i64 x.pc] 25)) := bel_alloc (Below.refl _ _) _;exact ⟨(HP.out.below hba).below hA, (Chg.of hba).trans (.of hA), World.alloc_heap_new wa _⟩
 clear hba;dsimp only;go_wp2_with fail
 refine (HTY.out _ HXa.out.1 HXa.out.2.1).mono ?_;rintro e w1 ⟨rfl, hp1, hg1⟩;have hs1w : w.heap.size ≤ w1.heap.size := (HXa.out.2.1.trans hg1).size;have gQ : w1.heap.size ≠ c.PB := by omega
 have HXb : Hid (PAt (w1.alloc (.cells #[.string ty.base, .int .i64 ty.stars, .bool ty.isList, .int .i64 ty.count] 85)) c s1 ∧ Chg c.PB w (w1.alloc (.cells #[.string ty.base, .int .i64 ty.stars, .bool ty.isList, .int .i64 ty.count] 85)) ∧ (w1.alloc (.cells #[.string ty.base, .int .i64 ty.stars, .bool ty.isList, .int .i64 ty.count] 85)).heap[wa.heap.size]? = some (.cells #[.int .i64 x.pl, .int .i64 x.pc] 25 (0, 0)) ∧ (w1.alloc (.cells #[.string ty.base, .int .i64 ty.stars, .bool ty.isList, .int .i64 ty.count] 85)).heap[w1.heap.size]? = some (.cells #[.string ty.base, .int .i64 ty.stars, .bool ty.isList, .int .i64 ty.count] 85 (0, 0))) := by
  have hA : Below w1.heap.size w1 (w1.alloc (.cells #[.string ty.base, .int .i64 ty.stars, .bool ty.isList, .int .i64 ty.count] 85)) := bel_alloc (Below.refl _ _) _;have hb : w1.heap[wa.heap.size]? = some (.cells #[.int .i64 x.pl, .int .i64 x.pc] 25 (0, 0)) := (hg1.block _ (by simp) gB).trans HXa.out.2.2;exact ⟨hp1.below hA, (HXa.out.2.1.trans hg1).trans (.of hA), (hA.block _ (zge hb).1).trans hb, World.alloc_heap_new w1 _⟩
 clear hp1 hg1 HXa;dsimp only [shV];go_wp2_with fail
 refine (HSN.out _).mono ?_;rintro e w2 ⟨rfl, hb2⟩;have HX2 : Hid (PAt w2 c s1 ∧ Chg c.PB w w2 ∧ w2.heap[wa.heap.size]? = some (.cells #[.int .i64 x.pl, .int .i64 x.pc] 25 (0, 0)) ∧ w2.heap[w1.heap.size]? = some (.cells #[.string ty.base, .int .i64 ty.stars, .bool ty.isList, .int .i64 ty.count] 85 (0, 0))) := ⟨HXb.out.1.below hb2, HXb.out.2.1.trans (.of hb2), (hb2.block _ (zge HXb.out.2.2.1).1).trans HXb.out.2.2.1, (hb2.block _ (zge HXb.out.2.2.2).1).trans HXb.out.2.2.2⟩;clear hb2 HXb;dsimp only;go_wp2_with fail
 refine (HTK.out _ HX2.out.1).mono ?_;rintro e w3 ⟨rfl, hp, hg⟩;have HX3 : Hid (PAt w3 c s1 ∧ Chg c.PB w w3 ∧ w3.heap[wa.heap.size]? = some (.cells #[.int .i64 x.pl, .int .i64 x.pc] 25 (0, 0)) ∧ w3.heap[w1.heap.size]? = some (.cells #[.string ty.base, .int .i64 ty.stars, .bool ty.isList, .int .i64 ty.count] 85 (0, 0))) := ⟨hp, HX2.out.2.1.trans hg, (hg.block _ (zge HX2.out.2.2.1).1 gB).trans HX2.out.2.2.1, (hg.block _ (zge HX2.out.2.2.2).1 gQ).trans HX2.out.2.2.2⟩;clear hp hg;dsimp only;have q0 : w3.cell? ⟨w1.heap.size, 0, none⟩ = some (.string ty.base) := heap_cell HX3.out.2.2.2 (by simp);have q1 : w3.cell? ⟨w1.heap.size, 1, none⟩ = some (.int .i64 ty.stars) := heap_cell HX3.out.2.2.2 (by simp);have q2 : w3.cell? ⟨w1.heap.size, 2, none⟩ = some (.bool ty.isList) := heap_cell HX3.out.2.2.2 (by simp);have q3 : w3.cell? ⟨w1.heap.size, 3, none⟩ = some (.int .i64 ty.count) := heap_cell HX3.out.2.2.2 (by simp);go_wp2_with fail
 refine (HNM.out _ HX3.out.1).mono ?_;rintro e v1 ⟨B, rfl, hb, hB, hp, hg⟩;have hwB : w.heap.size ≤ B := Nat.le_trans HX3.out.2.1.size hB;have gN : B ≠ c.PB := by omega
 have HXn : Hid ((PAt v1 c s2 ∧ Chg c.PB w v1 ∧ v1.heap[wa.heap.size]? = some (.cells #[.int .i64 x.pl, .int .i64 x.pc] 25 (0, 0)) ∧ v1.heap[w1.heap.size]? = some (.cells #[.string ty.base, .int .i64 ty.stars, .bool ty.isList, .int .i64 ty.count] 85 (0, 0))) ∧ v1.heap[B]? = some (.cells (nodeCells (namedD z ty) (.slice none 0 0) 0) 87 (0, 0))) := ⟨⟨hp, HX3.out.2.1.trans hg, (hg.block _ (zge HX3.out.2.2.1).1 gB).trans HX3.out.2.2.1, (hg.block _ (zge HX3.out.2.2.2).1 gQ).trans HX3.out.2.2.2⟩, hb⟩;have nQ : w1.heap.size ≠ B := by have := (zge HX3.out.2.2.2).1; omega
 clear hp hg hb q0 q1 q2 q3;dsimp only;go_wp2_with fail
 refine (HTP.out _ HXn.out.1.1).mono ?_;rintro e v2 ⟨rfl, hp, hg⟩;have HXm : Hid ((PAt v2 c s3 ∧ Chg c.PB w v2 ∧ v2.heap[wa.heap.size]? = some (.cells #[.int .i64 x.pl, .int .i64 x.pc] 25 (0, 0)) ∧ v2.heap[w1.heap.size]? = some (.cells #[.string ty.base, .int .i64 ty.stars, .bool ty.isList, .int .i64 ty.count] 85 (0, 0))) ∧ v2.heap[B]? = some (.cells (nodeCells (namedD z ty) (.slice none 0 0) 0) 87 (0, 0))) := ⟨⟨hp, HXn.out.1.2.1.trans hg, (hg.block _ (zge HXn.out.1.2.2.1).1 gB).trans HXn.out.1.2.2.1, (hg.block _ (zge HXn.out.1.2.2.2).1 gQ).trans HXn.out.1.2.2.2⟩, (hg.block _ (zge HXn.out.2).1 gN).trans HXn.out.2⟩;clear hp hg;have c0 : v2.cell? ⟨B, 0, none⟩ = some (.int .i64 0) := heap_cell HXm.out.2 (by simp [nodeCells, namedD]);have f0 : v2.frozen? ⟨B, 0, none⟩ = false := heap_frozen HXm.out.2;have lB2 : B < v2.heap.size := (zge HXm.out.2).1;have HX5 : Hid (PAt (v2.setCell ⟨B, 0, none⟩ (.int .i64 4)) c s3 ∧ Chg c.PB w (v2.setCell ⟨B, 0, none⟩ (.int .i64 4)) ∧ (v2.setCell ⟨B, 0, none⟩ (.int .i64 4)).heap[B]? = some (.cells #[.int .i64 4, .int .i64 z.pl, .int .i64 z.pc, .string z.s, .string ⟨#[]⟩, .int .i64 0, .string ty.base, .int .i64 ty.stars, .bool ty.isList, .int .i64 ty.count, .bool false, .slice none 0 0, .int .i64 0, .int .i64 0] 87 (0, 0)) ∧ (v2.setCell ⟨B, 0, none⟩ (.int .i64 4)).heap[w1.heap.size]? = some (.cells #[.string ty.base, .int .i64 ty.stars, .bool ty.isList, .int .i64 ty.count] 85 (0, 0)) ∧ B < (v2.setCell ⟨B, 0, none⟩ (.int .i64 4)).heap.size) := ⟨HXm.out.1.1.blocks (heap_set_other (Ne.symm gN)) (heap_set_other (by omega)), HXm.out.1.2.1.setNew hwB _ _, Eq.trans (heap_set_same (o := 0) HXm.out.2 _) (by simp [nodeCells, namedD]), (heap_set_other nQ).trans HXm.out.1.2.2.2, by rw [size_set]; exact lB2⟩;dsimp only;go_wp2_with fail
 refine (HFN.out _ HX5.out.1 HX5.out.2.1 B hwB HX5.out.2.2.1).mono ?_;intro e w5 h5;obtain ⟨b5, rfl, h6⟩ := retT_of HX5.out.2.1 hwB e w5 h5;have HZ : Hid (TreeAt w5 w.heap.size w5.heap.size (functionF c s3 (nameKD 4 z ty)).1 b5 ∧ PAt w5 c (functionF c s3 (nameKD 4 z ty)).2 ∧ Chg c.PB w w5) := h6;clear h5 h6 c0 f0;dsimp only;go_wp2;go_ret;exact ⟨b5, rfl, HZ.out⟩
theorem item_glob_s (gb : Nat → Nat × Nat) (c : PC) (s : PSt) (w : World) (hp : PAt w c s) (hG : GT gb c w) (HGk : Hid (∀ W W', GT gb c W → Chg c.PB W W' → GT gb c W')) (hT : 2 ≠ c.PB) (h1 : (snF (typF c s).1).2 = true) (h2 : (takeF c (typF c s).2 ⟨#[123]⟩).1 = false) (h3 : (takeF c (needKF c (typF c s).2 1).2 ⟨#[40]⟩).1 = false) : Calls prog 39 #[.pointer (some ⟨c.PB, 0, none⟩)] w (retT c ((.mk (nameKD 3 (needKF c (typF c s).2 1).1 (brackF c (needKF c (typF c s).2 1).2 (typF c s).1).1) [] 0, needF c (brackF c (needKF c (typF c s).2 1).2 (typF c s).1).2 ⟨#[59]⟩)) w) := by
 have PL := hp.lt;have HP : Hid (PAt w c s) := hp;have HG0 : Hid (GT gb c w) := hG;have hgl : c.g < w.heap.size := hG.g;have HW : Hid (∀ W, PAt W c s → Calls prog 60 #[pp c] W (retWd (wordF c s) W)) := fun W h => word_any c s W h;obtain ⟨x, hx⟩ : ∃ y, wordF c s = y := ⟨_, rfl⟩;rw [hx] at HW;have fa := field_at x.k x.n x.pl x.pc x.s;have HTY : Hid (∀ W, PAt W c s → Chg c.PB w W → Calls prog 61 #[pp c] W (retSh c (typF c s).2 (typF c s).1 W)) := fun W h h2 => typ_any c s W h (HGk.out _ _ hG h2).tw hT;obtain ⟨ty, hty⟩ : ∃ y, (typF c s).1 = y := ⟨_, rfl⟩;obtain ⟨s1, hs1⟩ : ∃ y, (typF c s).2 = y := ⟨_, rfl⟩;rw [hty, hs1] at HTY;have HSN : Hid (∀ W, Calls prog 62 #[shV ty] W (fun e W' => e = .returned (.tuple #[.string (snF ty).1, .bool (snF ty).2]) ∧ Below W.heap.size W W')) := fun W => structName_any ty W;unfold shV at HSN;obtain ⟨nm, hnm⟩ : ∃ y, (snF ty).1 = y := ⟨_, rfl⟩;rw [hty] at h1 ⊢;rw [hs1] at h2 h3 ⊢;rw [hnm, h1] at HSN;have HTK : Hid (∀ W, PAt W c s1 → Calls prog 63 #[pp c, .string ⟨#[123]⟩] W (pret (.bool (takeF c s1 ⟨#[123]⟩).1) c (takeF c s1 ⟨#[123]⟩).2 W)) := fun W h => take_any c s1 _ W h (by decide);rw [h2, takeF_false h2] at HTK;have HNM : Hid (∀ W, PAt W c s1 → Calls prog 65 #[pp c, .agg #[.string ty.base, .int .i64 ty.stars, .bool ty.isList, .int .i64 ty.count]] W (retNd c (needKF c s1 1).2 (namedD (needKF c s1 1).1 ty) W)) := fun W h => named_any c s1 ty W h;obtain ⟨z, hz⟩ : ∃ y, (needKF c s1 1).1 = y := ⟨_, rfl⟩;obtain ⟨s2, hs2⟩ : ∃ y, (needKF c s1 1).2 = y := ⟨_, rfl⟩;rw [hz, hs2] at HNM ⊢;rw [hs2] at h3;have HTP : Hid (∀ W, PAt W c s2 → Calls prog 63 #[pp c, .string ⟨#[40]⟩] W (pret (.bool (takeF c s2 ⟨#[40]⟩).1) c (takeF c s2 ⟨#[40]⟩).2 W)) := fun W h => take_any c s2 _ W h (by decide);rw [h3, takeF_false h3] at HTP;have HBR : Hid (∀ W, PAt W c s2 → Calls prog 67 #[pp c, .agg #[.string ty.base, .int .i64 ty.stars, .bool ty.isList, .int .i64 ty.count]] W (retSh c (brackF c s2 ty).2 (brackF c s2 ty).1 W)) := fun W h => brackets_any c s2 ty W h;obtain ⟨u, hu⟩ : ∃ y, (brackF c s2 ty).1 = y := ⟨_, rfl⟩;obtain ⟨s4, hs4⟩ : ∃ y, (brackF c s2 ty).2 = y := ⟨_, rfl⟩;rw [hu, hs4] at HBR ⊢;have HND : Hid (∀ W, PAt W c s4 → Calls prog 68 #[pp c, .string ⟨#[59]⟩] W (pret (.tuple #[]) c (needF c s4 ⟨#[59]⟩) W)) := fun W h => need_any c s4 _ W h (by decide);obtain ⟨s5, hs5⟩ : ∃ y, needF c s4 ⟨#[59]⟩ = y := ⟨_, rfl⟩;rw [hs5] at HND ⊢;clear hp hG hx hty hs1 hnm h1 h2 h3 hz hs2 hu hs4 hs5
 go_enter func39, ntmps39
 go_wp2_with fail
 refine (HW.out _ HP.out).mono ?_;rintro e wa ⟨rfl, hba⟩;have hsa : w.heap.size ≤ wa.heap.size := hba.size;have gB : wa.heap.size ≠ c.PB := by omega
 have HXa : Hid (PAt (wa.alloc (.cells #[.int .i64 x.pl, .int .i64 x.pc] 25)) c s ∧ Chg c.PB w (wa.alloc (.cells #[.int .i64 x.pl, .int .i64 x.pc] 25)) ∧ (wa.alloc (.cells #[.int .i64 x.pl, .int .i64 x.pc] 25)).heap[wa.heap.size]? = some (.cells #[.int .i64 x.pl, .int .i64 x.pc] 25 (0, 0))) := by
  have hA : Below wa.heap.size wa (wa.alloc (.cells #[.int .i64 x.pl, .int .i64 x.pc] 25)) := bel_alloc (Below.refl _ _) _;exact ⟨(HP.out.below hba).below hA, (Chg.of hba).trans (.of hA), World.alloc_heap_new wa _⟩
 clear hba;dsimp only;go_wp2_with fail
 refine (HTY.out _ HXa.out.1 HXa.out.2.1).mono ?_;rintro e w1 ⟨rfl, hp1, hg1⟩;have hs1w : w.heap.size ≤ w1.heap.size := (HXa.out.2.1.trans hg1).size;have gQ : w1.heap.size ≠ c.PB := by omega
 have HXb : Hid (PAt (w1.alloc (.cells #[.string ty.base, .int .i64 ty.stars, .bool ty.isList, .int .i64 ty.count] 85)) c s1 ∧ Chg c.PB w (w1.alloc (.cells #[.string ty.base, .int .i64 ty.stars, .bool ty.isList, .int .i64 ty.count] 85)) ∧ (w1.alloc (.cells #[.string ty.base, .int .i64 ty.stars, .bool ty.isList, .int .i64 ty.count] 85)).heap[wa.heap.size]? = some (.cells #[.int .i64 x.pl, .int .i64 x.pc] 25 (0, 0)) ∧ (w1.alloc (.cells #[.string ty.base, .int .i64 ty.stars, .bool ty.isList, .int .i64 ty.count] 85)).heap[w1.heap.size]? = some (.cells #[.string ty.base, .int .i64 ty.stars, .bool ty.isList, .int .i64 ty.count] 85 (0, 0))) := by
  have hA : Below w1.heap.size w1 (w1.alloc (.cells #[.string ty.base, .int .i64 ty.stars, .bool ty.isList, .int .i64 ty.count] 85)) := bel_alloc (Below.refl _ _) _;have hb : w1.heap[wa.heap.size]? = some (.cells #[.int .i64 x.pl, .int .i64 x.pc] 25 (0, 0)) := (hg1.block _ (by simp) gB).trans HXa.out.2.2;exact ⟨hp1.below hA, (HXa.out.2.1.trans hg1).trans (.of hA), (hA.block _ (zge hb).1).trans hb, World.alloc_heap_new w1 _⟩
 clear hp1 hg1 HXa;dsimp only [shV];go_wp2_with fail
 refine (HSN.out _).mono ?_;rintro e w2 ⟨rfl, hb2⟩;have HX2 : Hid (PAt w2 c s1 ∧ Chg c.PB w w2 ∧ w2.heap[wa.heap.size]? = some (.cells #[.int .i64 x.pl, .int .i64 x.pc] 25 (0, 0)) ∧ w2.heap[w1.heap.size]? = some (.cells #[.string ty.base, .int .i64 ty.stars, .bool ty.isList, .int .i64 ty.count] 85 (0, 0))) := ⟨HXb.out.1.below hb2, HXb.out.2.1.trans (.of hb2), (hb2.block _ (zge HXb.out.2.2.1).1).trans HXb.out.2.2.1, (hb2.block _ (zge HXb.out.2.2.2).1).trans HXb.out.2.2.2⟩;clear hb2 HXb;dsimp only;go_wp2_with fail
 refine (HTK.out _ HX2.out.1).mono ?_;rintro e w3 ⟨rfl, hp, hg⟩;have HX3 : Hid (PAt w3 c s1 ∧ Chg c.PB w w3 ∧ w3.heap[wa.heap.size]? = some (.cells #[.int .i64 x.pl, .int .i64 x.pc] 25 (0, 0)) ∧ w3.heap[w1.heap.size]? = some (.cells #[.string ty.base, .int .i64 ty.stars, .bool ty.isList, .int .i64 ty.count] 85 (0, 0))) := ⟨hp, HX2.out.2.1.trans hg, (hg.block _ (zge HX2.out.2.2.1).1 gB).trans HX2.out.2.2.1, (hg.block _ (zge HX2.out.2.2.2).1 gQ).trans HX2.out.2.2.2⟩;clear hp hg;dsimp only;have q0 : w3.cell? ⟨w1.heap.size, 0, none⟩ = some (.string ty.base) := heap_cell HX3.out.2.2.2 (by simp);have q1 : w3.cell? ⟨w1.heap.size, 1, none⟩ = some (.int .i64 ty.stars) := heap_cell HX3.out.2.2.2 (by simp);have q2 : w3.cell? ⟨w1.heap.size, 2, none⟩ = some (.bool ty.isList) := heap_cell HX3.out.2.2.2 (by simp);have q3 : w3.cell? ⟨w1.heap.size, 3, none⟩ = some (.int .i64 ty.count) := heap_cell HX3.out.2.2.2 (by simp);go_wp2_with fail
 refine (HNM.out _ HX3.out.1).mono ?_;rintro e v1 ⟨B, rfl, hb, hB, hp, hg⟩;have hwB : w.heap.size ≤ B := Nat.le_trans HX3.out.2.1.size hB;have gN : B ≠ c.PB := by omega
 have HXn : Hid ((PAt v1 c s2 ∧ Chg c.PB w v1 ∧ v1.heap[wa.heap.size]? = some (.cells #[.int .i64 x.pl, .int .i64 x.pc] 25 (0, 0)) ∧ v1.heap[w1.heap.size]? = some (.cells #[.string ty.base, .int .i64 ty.stars, .bool ty.isList, .int .i64 ty.count] 85 (0, 0))) ∧ v1.heap[B]? = some (.cells (nodeCells (namedD z ty) (.slice none 0 0) 0) 87 (0, 0))) := ⟨⟨hp, HX3.out.2.1.trans hg, (hg.block _ (zge HX3.out.2.2.1).1 gB).trans HX3.out.2.2.1, (hg.block _ (zge HX3.out.2.2.2).1 gQ).trans HX3.out.2.2.2⟩, hb⟩;have nQ : w1.heap.size ≠ B := by have := (zge HX3.out.2.2.2).1; omega
 clear hp hg hb q0 q1 q2 q3;dsimp only;go_wp2_with fail
 refine (HTP.out _ HXn.out.1.1).mono ?_;rintro e v2 ⟨rfl, hp, hg⟩;have HXm : Hid ((PAt v2 c s2 ∧ Chg c.PB w v2 ∧ v2.heap[wa.heap.size]? = some (.cells #[.int .i64 x.pl, .int .i64 x.pc] 25 (0, 0)) ∧ v2.heap[w1.heap.size]? = some (.cells #[.string ty.base, .int .i64 ty.stars, .bool ty.isList, .int .i64 ty.count] 85 (0, 0))) ∧ v2.heap[B]? = some (.cells (nodeCells (namedD z ty) (.slice none 0 0) 0) 87 (0, 0))) := ⟨⟨hp, HXn.out.1.2.1.trans hg, (hg.block _ (zge HXn.out.1.2.2.1).1 gB).trans HXn.out.1.2.2.1, (hg.block _ (zge HXn.out.1.2.2.2).1 gQ).trans HXn.out.1.2.2.2⟩, (hg.block _ (zge HXn.out.2).1 gN).trans HXn.out.2⟩;clear hp hg;have c0 : v2.cell? ⟨B, 0, none⟩ = some (.int .i64 0) := heap_cell HXm.out.2 (by simp [nodeCells, namedD]);have f0 : v2.frozen? ⟨B, 0, none⟩ = false := heap_frozen HXm.out.2;have lB2 : B < v2.heap.size := (zge HXm.out.2).1;have HX5 : Hid (PAt (v2.setCell ⟨B, 0, none⟩ (.int .i64 3)) c s2 ∧ Chg c.PB w (v2.setCell ⟨B, 0, none⟩ (.int .i64 3)) ∧ (v2.setCell ⟨B, 0, none⟩ (.int .i64 3)).heap[B]? = some (.cells #[.int .i64 3, .int .i64 z.pl, .int .i64 z.pc, .string z.s, .string ⟨#[]⟩, .int .i64 0, .string ty.base, .int .i64 ty.stars, .bool ty.isList, .int .i64 ty.count, .bool false, .slice none 0 0, .int .i64 0, .int .i64 0] 87 (0, 0)) ∧ (v2.setCell ⟨B, 0, none⟩ (.int .i64 3)).heap[w1.heap.size]? = some (.cells #[.string ty.base, .int .i64 ty.stars, .bool ty.isList, .int .i64 ty.count] 85 (0, 0)) ∧ B < (v2.setCell ⟨B, 0, none⟩ (.int .i64 3)).heap.size) := ⟨HXm.out.1.1.blocks (heap_set_other (Ne.symm gN)) (heap_set_other (by omega)), HXm.out.1.2.1.setNew hwB _ _, Eq.trans (heap_set_same (o := 0) HXm.out.2 _) (by simp [nodeCells, namedD]), (heap_set_other nQ).trans HXm.out.1.2.2.2, by rw [size_set]; exact lB2⟩;dsimp only;have q0 : v2.cell? ⟨w1.heap.size, 0, none⟩ = some (.string ty.base) := heap_cell HXm.out.1.2.2.2 (by simp);have q1 : v2.cell? ⟨w1.heap.size, 1, none⟩ = some (.int .i64 ty.stars) := heap_cell HXm.out.1.2.2.2 (by simp);have q2 : v2.cell? ⟨w1.heap.size, 2, none⟩ = some (.bool ty.isList) := heap_cell HXm.out.1.2.2.2 (by simp);have q3 : v2.cell? ⟨w1.heap.size, 3, none⟩ = some (.int .i64 ty.count) := heap_cell HXm.out.1.2.2.2 (by simp);go_wp2_with fail
 refine (HBR.out _ HX5.out.1).mono ?_;rintro e v4 ⟨rfl, hp, hg⟩;have b4 : v4.heap[B]? = some (.cells #[.int .i64 3, .int .i64 z.pl, .int .i64 z.pc, .string z.s, .string ⟨#[]⟩, .int .i64 0, .string ty.base, .int .i64 ty.stars, .bool ty.isList, .int .i64 ty.count, .bool false, .slice none 0 0, .int .i64 0, .int .i64 0] 87 (0, 0)) := (hg.block _ HX5.out.2.2.2.2 gN).trans HX5.out.2.2.1;have l4 : B < v4.heap.size := (zge b4).1;have HX6 : Hid (PAt v4 c s4 ∧ Chg c.PB w v4 ∧ v4.heap[B]? = some (.cells #[.int .i64 3, .int .i64 z.pl, .int .i64 z.pc, .string z.s, .string ⟨#[]⟩, .int .i64 0, .string ty.base, .int .i64 ty.stars, .bool ty.isList, .int .i64 ty.count, .bool false, .slice none 0 0, .int .i64 0, .int .i64 0] 87 (0, 0))) := ⟨hp, HX5.out.2.1.trans hg, b4⟩;have ff : ∀ j, v4.frozen? ⟨B, j, none⟩ = false := fun j => heap_frozen b4;have q6 : v4.cell? ⟨B, 6, none⟩ = some (.string ty.base) := heap_cell b4 (by simp);have q7 : v4.cell? ⟨B, 7, none⟩ = some (.int .i64 ty.stars) := heap_cell b4 (by simp);have q8 : v4.cell? ⟨B, 8, none⟩ = some (.bool ty.isList) := heap_cell b4 (by simp);have q9 : v4.cell? ⟨B, 9, none⟩ = some (.int .i64 ty.count) := heap_cell b4 (by simp);clear hp hg b4 c0 f0 q0 q1 q2 q3
 have HX7 : Hid (PAt ((((v4.setCell ⟨B, 6, none⟩ (.string u.base)).setCell ⟨B, 7, none⟩ (.int .i64 u.stars)).setCell ⟨B, 8, none⟩ (.bool u.isList)).setCell ⟨B, 9, none⟩ (.int .i64 u.count)) c s4 ∧ Chg c.PB w ((((v4.setCell ⟨B, 6, none⟩ (.string u.base)).setCell ⟨B, 7, none⟩ (.int .i64 u.stars)).setCell ⟨B, 8, none⟩ (.bool u.isList)).setCell ⟨B, 9, none⟩ (.int .i64 u.count)) ∧ ((((v4.setCell ⟨B, 6, none⟩ (.string u.base)).setCell ⟨B, 7, none⟩ (.int .i64 u.stars)).setCell ⟨B, 8, none⟩ (.bool u.isList)).setCell ⟨B, 9, none⟩ (.int .i64 u.count)).heap[B]? = some (.cells #[.int .i64 3, .int .i64 z.pl, .int .i64 z.pc, .string z.s, .string ⟨#[]⟩, .int .i64 0, .string u.base, .int .i64 u.stars, .bool u.isList, .int .i64 u.count, .bool false, .slice none 0 0, .int .i64 0, .int .i64 0] 87 (0, 0)) ∧ B < ((((v4.setCell ⟨B, 6, none⟩ (.string u.base)).setCell ⟨B, 7, none⟩ (.int .i64 u.stars)).setCell ⟨B, 8, none⟩ (.bool u.isList)).setCell ⟨B, 9, none⟩ (.int .i64 u.count)).heap.size) := by
  have o : ∀ k, k ≠ B → ((((v4.setCell ⟨B, 6, none⟩ (.string u.base)).setCell ⟨B, 7, none⟩ (.int .i64 u.stars)).setCell ⟨B, 8, none⟩ (.bool u.isList)).setCell ⟨B, 9, none⟩ (.int .i64 u.count)).heap[k]? = v4.heap[k]? := fun k hk => (heap_set_other hk).trans ((heap_set_other hk).trans ((heap_set_other hk).trans (heap_set_other hk)));refine ⟨HX6.out.1.blocks (o _ (Ne.symm gN)) (o _ (by omega)), (((HX6.out.2.1.setNew hwB _ _).setNew hwB _ _).setNew hwB _ _).setNew hwB _ _, ?_, by rw [size_set, size_set, size_set, size_set]; exact l4⟩;exact Eq.trans (heap_set_same (o := 9) (heap_set_same (o := 8) (heap_set_same (o := 7) (heap_set_same (o := 6) HX6.out.2.2 _) _) _) _) (by simp)
 dsimp only [shV];go_wp2_with fail
 clear q6 q7 q8 q9 ff;refine (HND.out _ HX7.out.1).mono ?_;rintro e v5 ⟨rfl, hp, hg⟩;have HZ : Hid (TreeAt v5 w.heap.size v5.heap.size (.mk (nameKD 3 z u) [] 0) B ∧ PAt v5 c s5 ∧ Chg c.PB w v5) := ⟨(Top.leaf (d := nameKD 3 z u) ((hg.block _ HX7.out.2.2.2 gN).trans HX7.out.2.2.1) hwB).tree, hp, HX7.out.2.1.trans hg⟩;clear hp hg;dsimp only;go_wp2;go_ret;exact ⟨B, rfl, HZ.out⟩
theorem item_any (gb : Nat → Nat × Nat) (c : PC) (s : PSt) (w : World) (hp : PAt w c s) (hG : GT gb c w) (HGk : Hid (∀ W W', GT gb c W → Chg c.PB W W' → GT gb c W')) (hT : 2 ≠ c.PB) : Calls prog 39 #[.pointer (some ⟨c.PB, 0, none⟩)] w (retT c (itemF c s) w) := by
 unfold itemF
 cases h1 : (snF (typF c s).1).2 with
 | true =>
  rw [if_pos rfl]
  cases h2 : (takeF c (typF c s).2 ⟨#[123]⟩).1 with
  | true => rw [if_pos rfl]; exact item_struct gb c s w hp hG HGk hT h1 h2
  | false =>
   rw [if_neg (by decide)];unfold declF
   cases h3 : (takeF c (needKF c (typF c s).2 1).2 ⟨#[40]⟩).1 with
   | true => rw [if_pos rfl]; exact item_fun_s gb c s w hp hG HGk hT h1 h2 h3
   | false => rw [if_neg (by decide)]; exact item_glob_s gb c s w hp hG HGk hT h1 h2 h3
 | false =>
  rw [if_neg (by decide)];unfold declF
  cases h3 : (takeF c (needKF c (typF c s).2 1).2 ⟨#[40]⟩).1 with
  | true => rw [if_pos rfl]; exact item_fun_n gb c s w hp hG HGk hT h1 h3
  | false => rw [if_neg (by decide)]; exact item_glob_n gb c s w hp hG HGk hT h1 h3

def moreF (c : PC) (s : PSt) : Bool := if s.e = 0 then decide (s.i < c.ws.length) else false
def programLoop (c : PC) : Nat → List Tr → PSt → List Tr × PSt
 | 0, acc, s => (acc, s)
 | f + 1, acc, s => if moreF c s = true then programLoop c f (acc ++ [(itemF c s).1]) (itemF c s).2 else (acc, s)
def programOf (c : PC) (acc : List Tr) (s : PSt) : List Tr × PSt := programLoop c (mzF c s + 1) acc s
theorem more_e {c : PC} {s : PSt} (h : moreF c s = true) : s.e = 0 := by
 unfold moreF at h
 split at h
 ·assumption
 ·cases h
theorem programLoop_fuel (c : PC) : ∀ (f f' : Nat) (acc : List Tr) (s : PSt), mzF c s < f → mzF c s < f' → programLoop c f acc s = programLoop c f' acc s
 | 0, _, _, _, h, _ => by omega
 | f + 1, 0, _, _, _, h => by omega
 | f + 1, f' + 1, acc, s, h1, h2 => by
  rw [programLoop, programLoop]
  split
  ·rename_i hg
   have hm := mz_item c s (more_e hg);exact programLoop_fuel c f f' _ _ (by omega) (by omega)
  ·rfl
theorem programOf_more {c : PC} {acc : List Tr} {s : PSt} (hg : moreF c s = true) : programOf c acc s = programOf c (acc ++ [(itemF c s).1]) (itemF c s).2 := by
 have hm := mz_item c s (more_e hg);unfold programOf;rw [programLoop, if_pos hg];exact programLoop_fuel c _ _ _ _ (by omega) (by omega)
theorem programOf_end {c : PC} {acc : List Tr} {s : PSt} (hg : moreF c s = false) : programOf c acc s = (acc, s) := by
 unfold programOf;rw [programLoop, if_neg (by rw [hg]; decide)]
theorem program_any (gb : Nat → Nat × Nat) (c : PC) (s : PSt) (w : World) (hp : PAt w c s) (hG : GT gb c w) (HGk : Hid (∀ W W', GT gb c W → Chg c.PB W W' → GT gb c W')) (hT : 2 ≠ c.PB) : Calls prog 21 #[.pointer (some ⟨c.PB, 0, none⟩)] w (retL c (programOf c [] s) w) := by
 obtain ⟨i0', hinf, hz0, hz1, hz2⟩ := info_parts infoP;have PL := hp.lt;have HP : Hid (PAt w c s) := hp;have HG0 : Hid (GT gb c w) := hG;have hlim := hp.wds.lim;obtain ⟨R, hR⟩ : ∃ R, programOf c [] s = R := ⟨_, rfl⟩;rw [hR];have HR : Hid (programOf c [] s = R ∧ mzF c s ≤ 65538) := ⟨hR, by have := remF_le c s; unfold mzF; split <;> omega⟩;clear hp hG hR
 go_enter func21, ntmps21
 go_wp2
 go_loopg [3] (mzF c s) (fun k v3 wr => ∃ (st : PSt) (acc : List Tr) (bs : List Nat) (a : Option Addr) (cap : Nat), v3 = .slice a acc.length cap ∧ mzF c st ≤ k ∧ Hid (PAt wr c st ∧ Chg c.PB w wr ∧ ListAt wr w.heap.size (.slice a acc.length cap) acc bs ∧ programOf c acc st = R ∧ acc.length + mzF c st ≤ 65538))
 case atStart => exact ⟨s, [], [], none, 0, rfl, Nat.le_refl _, ⟨HP.out, Chg.refl _ _, ListAt.nil _ _, HR.out.1, by have := HR.out.2; simpa using this⟩⟩
 case round =>
  obtain ⟨st, acc, bs, a, cap, rfl, hk, HI⟩ := hrel;have p9 := HI.out.1.c9;have p3 := HI.out.1.c3;have p0 := HI.out.1.c0;have i0 : (0 : Int) ≤ (st.i : Int) := by omega
  by_cases he : st.e = 0
  ·have q0 : (st.e == 0) = true := by simpa using he
   by_cases hi : st.i < c.ws.length
   ·have hi1 : (st.i : Int) < (c.ws.length : Int) := by omega
    have hd1 : decide ((st.i : Int) < (c.ws.length : Int)) = true := by simp; omega
    have hd2 : decide (st.i < c.ws.length) = true := by simp; omega
    have hmr : moreF c st = true := by unfold moreF; rw [if_pos he]; exact hd2
    have hmz := mz_item c st he;have hmore := (programOf_more (acc := acc) hmr).symm.trans HI.out.2.2.2.1;have HIT0 : Hid (∀ W, PAt W c st → Chg c.PB w W → Calls prog 39 #[pp c] W (retT c (itemF c st) W)) := fun W h h2 => item_any gb c st W h (HGk.out _ _ HG0.out h2) HGk hT;obtain ⟨t5, ht5⟩ : ∃ y, (itemF c st).1 = y := ⟨_, rfl⟩;obtain ⟨s5, hs5⟩ : ∃ y, (itemF c st).2 = y := ⟨_, rfl⟩;have HIT : Hid (∀ W, PAt W c st → Chg c.PB w W → Calls prog 39 #[pp c] W (retT c (t5, s5) W)) := by rw [← ht5, ← hs5]; exact HIT0
    rw [ht5, hs5] at hmore;rw [hs5] at hmz;have HMO : Hid (mzF c s5 < mzF c st ∧ programOf c (acc ++ [t5]) s5 = R) := ⟨hmz, hmore⟩;clear hmr hmz hmore HIT0 ht5 hs5
    go_upto_region 2 with fail
    refine wp_region_held_drew (S := (fun w' => w'.cell? ⟨c.PB, 9, none⟩ = some (.int .i64 st.e) ∧ w'.cell? ⟨c.PB, 3, none⟩ = some (.int .i64 (st.i : Int)) ∧ w'.cell? ⟨c.PB, 0, none⟩ = some (.slice c.a c.ws.length c.cap))) (by kernel_rfl) (⟨p9, p3, p0⟩) (fun hHeld => ?_);refine wpAnyH_take (i := 0) (oi := ?o0) (v := ?v0) ?i0 (by kernel_rfl) (by kernel_rfl) (by kernel_rfl) ?q0 ?y0 hHeld ?_
    case i0 => simp only [zga, zgs, zgz]; rfl
    case q0 => exact fun _ _ _ h => h
    case y0 => refine .inl ⟨by rfl, ?_⟩; intro w' hSw; (try dsimp only at hSw); go_simp; try with_reducible rfl
    simp only [Act.put, zsa, zsz, zss];refine wpAnyH_take (i := 1) (oi := ?o1) (v := ?v1) ?i1 (by kernel_rfl) (by kernel_rfl) (by kernel_rfl) ?q1 ?y1 hHeld ?_
    case i1 => simp only [zga, zgs, zgz]; rfl
    case q1 => exact fun _ _ _ h => h
    case y1 => refine .inl ⟨by rfl, ?_⟩; intro w' hSw; (try dsimp only at hSw); go_simp; try with_reducible rfl
    simp only [Act.put, zsa, zsz, zss];refine wpAnyH_take (i := 2) (oi := ?o2) (v := ?v2) ?i2 (by kernel_rfl) (by kernel_rfl) (by kernel_rfl) ?q2 ?y2 hHeld ?_
    case i2 => simp only [zga, zgs, zgz]; rfl
    case q2 => exact fun _ _ _ h => h
    case y2 => refine .inl ⟨by rfl, ?_⟩; intro w' hSw; (try dsimp only at hSw); go_simp; try with_reducible rfl
    simp only [Act.put, zsa, zsz, zss];refine wpAnyH_take (i := 3) (oi := ?o3) (v := ?v3) ?i3 (by kernel_rfl) (by kernel_rfl) (by kernel_rfl) ?q3 ?y3 hHeld ?_
    case i3 => simp only [zga, zgs, zgz]; rfl
    case q3 => exact fun _ _ _ h => h
    case y3 => refine .inl ⟨by rfl, ?_⟩; intro w' hSw; (try dsimp only at hSw); go_simp; try with_reducible rfl
    simp only [Act.put, zsa, zsz, zss];refine wpAnyH_take (i := 4) (oi := ?o4) (v := ?v4) ?i4 (by kernel_rfl) (by kernel_rfl) (by kernel_rfl) ?q4 ?y4 hHeld ?_
    case i4 => simp only [zga, zgs, zgz]; rfl
    case q4 => exact fun _ _ _ h => h
    case y4 => refine .inl ⟨by rfl, ?_⟩; intro w' hSw; (try dsimp only at hSw); go_simp; try with_reducible rfl
    simp only [Act.put, zsa, zsz, zss];refine wpAnyH_take (i := 5) (oi := ?o5) (v := ?v5) ?i5 (by kernel_rfl) (by kernel_rfl) (by kernel_rfl) ?q5 ?y5 hHeld ?_
    case i5 => simp only [zga, zgs, zgz]; rfl
    case q5 => exact fun _ _ _ h => h
    case y5 => refine .inl ⟨by rfl, ?_⟩; intro w' hSw; (try dsimp only at hSw); go_simp; try with_reducible rfl
    simp only [Act.put, zsa, zsz, zss];refine wpAnyH_take (i := 6) (oi := ?o6) (v := ?v6) ?i6 (by kernel_rfl) (by kernel_rfl) (by kernel_rfl) ?q6 ?y6 hHeld ?_
    case i6 => simp only [zga, zgs, zgz]; rfl
    case q6 => exact fun _ _ _ h => h
    case y6 => refine .inl ⟨by rfl, ?_⟩; intro w' hSw; (try dsimp only at hSw); go_simp; try with_reducible rfl
    simp only [Act.put, zsa, zsz, zss];refine wpAnyH_take (i := 7) (oi := ?o7) (v := ?v7) ?i7 (by kernel_rfl) (by kernel_rfl) (by kernel_rfl) ?q7 ?y7 hHeld ?_
    case i7 => simp only [zga, zgs, zgz]; rfl
    case q7 => exact fun _ _ _ h => h
    case y7 => refine .inl ⟨by rfl, ?_⟩; intro w' hSw; (try dsimp only at hSw); go_simp; try with_reducible rfl
    simp only [Act.put, zsa, zsz, zss];refine wpAnyH_take (i := 8) (oi := ?o8) (v := ?v8) ?i8 (by kernel_rfl) (by kernel_rfl) (by kernel_rfl) ?q8 ?y8 hHeld ?_
    case i8 => simp only [zga, zgs, zgz]; rfl
    case q8 => exact fun _ _ _ h => h
    case y8 => refine .inl ⟨by rfl, ?_⟩; intro w' hSw; (try dsimp only at hSw); go_simp; try with_reducible rfl
    simp only [Act.put, zsa, zsz, zss];refine wpAnyH_take (i := 9) (oi := ?o9) (v := ?v9) ?i9 (by kernel_rfl) (by kernel_rfl) (by kernel_rfl) ?q9 ?y9 hHeld ?_
    case i9 => simp only [zga, zgs, zgz]; rfl
    case q9 => exact fun _ _ _ h => h
    case y9 => refine .inl ⟨by rfl, ?_⟩; intro w' hSw; (try dsimp only at hSw); go_simp; try with_reducible rfl
    simp only [Act.put, zsa, zsz, zss];refine wpAnyH_take (i := 10) (oi := ?o10) (v := ?v10) ?i10 (by kernel_rfl) (by kernel_rfl) (by kernel_rfl) ?q10 ?y10 hHeld ?_
    case i10 => simp only [zga, zgs, zgz]; rfl
    case q10 => exact fun _ _ _ h => h
    case y10 => refine .inl ⟨by rfl, ?_⟩; intro w' hSw; (try dsimp only at hSw); go_simp; try with_reducible rfl
    simp only [Act.put, zsa, zsz, zss];refine wpAnyH_take (i := 11) (oi := ?o11) (v := ?v11) ?i11 (by kernel_rfl) (by kernel_rfl) (by kernel_rfl) ?q11 ?y11 hHeld ?_
    case i11 => simp only [zga, zgs, zgz]; rfl
    case q11 => exact fun _ _ _ h => h
    case y11 => refine .inl ⟨by rfl, ?_⟩; intro w' hSw; (try dsimp only at hSw); go_simp; try with_reducible rfl
    simp only [Act.put, zsa, zsz, zss];refine wpAnyH_take (i := 12) (oi := ?o12) (v := ?v12) ?i12 (by kernel_rfl) (by kernel_rfl) (by kernel_rfl) ?q12 ?y12 hHeld ?_
    case i12 => simp only [zga, zgs, zgz]; rfl
    case q12 => exact fun _ _ _ h => h
    case y12 => refine .inl ⟨by rfl, ?_⟩; intro w' hSw; (try dsimp only at hSw); go_simp; try with_reducible rfl
    simp only [Act.put, zsa, zsz, zss];refine wpAnyH_take (i := 13) (oi := ?o13) (v := ?v13) ?i13 (by kernel_rfl) (by kernel_rfl) (by kernel_rfl) ?q13 ?y13 hHeld ?_
    case i13 => simp only [zga, zgs, zgz]; rfl
    case q13 => exact fun _ _ _ h => h
    case y13 => refine .inl ⟨by rfl, ?_⟩; intro w' hSw; (try dsimp only at hSw); go_simp; try with_reducible rfl
    simp only [Act.put, zsa, zsz, zss];refine wpAnyH_take (i := 14) (oi := ?o14) (v := ?v14) ?i14 (by kernel_rfl) (by kernel_rfl) (by kernel_rfl) ?q14 ?y14 hHeld ?_
    case i14 => simp only [zga, zgs, zgz]; rfl
    case q14 => exact fun _ _ _ h => h
    case y14 => refine .inl ⟨by rfl, ?_⟩; intro w' hSw; (try dsimp only at hSw); go_simp; try with_reducible rfl
    simp only [Act.put, zsa, zsz, zss];refine wpAnyH_take (i := 15) (oi := ?o15) (v := ?v15) ?i15 (by kernel_rfl) (by kernel_rfl) (by kernel_rfl) ?q15 ?y15 hHeld ?_
    case i15 => simp only [zga, zgs, zgz]; rfl
    case q15 => exact fun _ _ _ h => h
    case y15 => refine .inl ⟨by rfl, ?_⟩; intro w' hSw; (try dsimp only at hSw); go_simp; try with_reducible rfl
    simp only [Act.put, zsa, zsz, zss];refine wpAnyH_take (i := 16) (oi := ?o16) (v := ?v16) ?i16 (by kernel_rfl) (by kernel_rfl) (by kernel_rfl) ?q16 ?y16 hHeld ?_
    case i16 => simp only [zga, zgs, zgz]; rfl
    case q16 => exact fun _ _ _ h => h
    case y16 => refine .inl ⟨by rfl, ?_⟩; intro w' hSw; (try dsimp only at hSw); go_simp; try with_reducible rfl
    simp only [Act.put, zsa, zsz, zss];refine wpAnyH_done (by kernel_rfl) ?_ _;clear hHeld;go_wp2_with fail
    refine (HIT.out _ (HI.out.1.below ((Below.refl _ _).drew)) HI.out.2.1.drew).mono ?_;rintro e w6 ⟨x, rfl, ht6, hp6, hg6⟩;have hg6' : Chg c.PB wr w6 := hg6.undrew;have HP6 : Hid (PAt w6 c s5) := hp6;have HC6 : Hid (Chg c.PB w w6) := HI.out.2.1.trans hg6';have HL6 : Hid (ListAt w6 w.heap.size (.slice a acc.length cap) acc bs) := HI.out.2.2.1.chg hg6' PL;have HT6 : Hid (TreeAt w6 wr.heap.size w6.heap.size t5 x) := ht6;have hsz6 := hg6'.size;have hsr := HI.out.2.1.size;clear ht6 hp6 hg6 hg6';dsimp only
    go_wp2_with (at_builtin; refine wpList_append_own_at _ rfl _ _ 61 rfl w.heap.size 83 i0' (.pointer none) 1 8 underlying61 hinf hz0 hz1 hz2 rfl (by decide) (.slice a acc.length cap) acc.length (bs.map ptrV) (by rfl) (HL6.out.own.alloc _) ⟨w6.heap.size, 0, none⟩ 1 1 [ptrV x] (by rfl) (by rfl) ?c1 ?c2 ?c3 ?c4 ?c5 ?_)
    case c1 => exact World.news_of_block (World.alloc_heap_new w6 (.cells #[ptrV x] 83))
    case c2 => intro u hu; simp at hu; subst hu; rfl
    case c3 => have := HI.out.2.2.2.2; unfold maxLen; omega
    case c4 => have := HI.out.2.2.2.2; omega
    case c5 => have := HC6.out.size; simp; omega
    intro v' W2 hown' hgrow _ hat;have HLN : Hid (ListAt W2 w.heap.size v' (acc ++ [t5]) (bs ++ [x])) := HL6.out.push HT6.out HI.out.2.1.size (fun k hk => (own_lt HI.out.2.2.1.own hk).2) ((Below.refl _ _).alloc (Nat.le_refl _) _) hown' hgrow (hat.imp id (fun h => by rw [World.size_alloc]; exact h));have hown6 := HL6.out.own
    have HB2 : Hid (∀ k, k < w.heap.size → W2.heap[k]? = w6.heap[k]?) := fun k hk => by
     have h6 := HC6.out.size;rw [hgrow.block k (by simp; omega) (fun he => by have := (own_lt hown6 he.symm).1; omega), Below.heap_alloc w6 _ k (by omega)]
    have HS2 : Hid (W2.os = w6.os ∧ W2.tape = w6.tape ∧ W2.output = w6.output ∧ w6.heap.size ≤ W2.heap.size) := ⟨hgrow.os, hgrow.tape, hgrow.output, by have := hgrow.size; simp at this; omega⟩;clear hown' hgrow hat hown6;go_wp2
    go_roundg (mzF c s5)
    case measure => have := HMO.out; omega
    case rel =>
     obtain ⟨a2, cap2, hv2, _⟩ := HLN.out.row;subst hv2;refine ⟨s5, acc ++ [t5], bs ++ [x], a2, cap2, rfl, Nat.le_refl _, ⟨HP.out.over HP6.out (fun k hk => HB2.out k hk), ?_, HLN.out, HMO.out.2, by have := HMO.out.1; have := HI.out.2.2.2.2; simp; omega⟩⟩;exact ⟨HS2.out.1.trans HC6.out.os, HS2.out.2.1.trans HC6.out.tape, HS2.out.2.2.1.trans HC6.out.output, Nat.le_trans HC6.out.size HS2.out.2.2.2, fun k k1 k2 => (HB2.out k k1).trans (HC6.out.block k k1 k2)⟩
   ·have hi1 : ¬ (st.i : Int) < (c.ws.length : Int) := by omega
    have hd1 : decide ((st.i : Int) < (c.ws.length : Int)) = false := by simp; omega
    have hd2 : decide (st.i < c.ws.length) = false := by simp; omega
    have hmr : moreF c st = false := by unfold moreF; rw [if_pos he]; exact hd2
    have HRE : Hid (R = (acc, st)) := HI.out.2.2.2.1.symm.trans (programOf_end hmr);clear hmr
    go_upto_region 2 with fail
    refine wp_region_held_drew (S := (fun w' => w'.cell? ⟨c.PB, 9, none⟩ = some (.int .i64 st.e) ∧ w'.cell? ⟨c.PB, 3, none⟩ = some (.int .i64 (st.i : Int)) ∧ w'.cell? ⟨c.PB, 0, none⟩ = some (.slice c.a c.ws.length c.cap))) (by kernel_rfl) (⟨p9, p3, p0⟩) (fun hHeld => ?_);refine wpAnyH_take (i := 0) (oi := ?o17) (v := ?v17) ?i17 (by kernel_rfl) (by kernel_rfl) (by kernel_rfl) ?q17 ?y17 hHeld ?_
    case i17 => simp only [zga, zgs, zgz]; rfl
    case q17 => exact fun _ _ _ h => h
    case y17 => refine .inl ⟨by rfl, ?_⟩; intro w' hSw; (try dsimp only at hSw); go_simp; try with_reducible rfl
    simp only [Act.put, zsa, zsz, zss];refine wpAnyH_take (i := 1) (oi := ?o18) (v := ?v18) ?i18 (by kernel_rfl) (by kernel_rfl) (by kernel_rfl) ?q18 ?y18 hHeld ?_
    case i18 => simp only [zga, zgs, zgz]; rfl
    case q18 => exact fun _ _ _ h => h
    case y18 => refine .inl ⟨by rfl, ?_⟩; intro w' hSw; (try dsimp only at hSw); go_simp; try with_reducible rfl
    simp only [Act.put, zsa, zsz, zss];refine wpAnyH_take (i := 2) (oi := ?o19) (v := ?v19) ?i19 (by kernel_rfl) (by kernel_rfl) (by kernel_rfl) ?q19 ?y19 hHeld ?_
    case i19 => simp only [zga, zgs, zgz]; rfl
    case q19 => exact fun _ _ _ h => h
    case y19 => refine .inl ⟨by rfl, ?_⟩; intro w' hSw; (try dsimp only at hSw); go_simp; try with_reducible rfl
    simp only [Act.put, zsa, zsz, zss];refine wpAnyH_take (i := 3) (oi := ?o20) (v := ?v20) ?i20 (by kernel_rfl) (by kernel_rfl) (by kernel_rfl) ?q20 ?y20 hHeld ?_
    case i20 => simp only [zga, zgs, zgz]; rfl
    case q20 => exact fun _ _ _ h => h
    case y20 => refine .inl ⟨by rfl, ?_⟩; intro w' hSw; (try dsimp only at hSw); go_simp; try with_reducible rfl
    simp only [Act.put, zsa, zsz, zss];refine wpAnyH_take (i := 4) (oi := ?o21) (v := ?v21) ?i21 (by kernel_rfl) (by kernel_rfl) (by kernel_rfl) ?q21 ?y21 hHeld ?_
    case i21 => simp only [zga, zgs, zgz]; rfl
    case q21 => exact fun _ _ _ h => h
    case y21 => refine .inl ⟨by rfl, ?_⟩; intro w' hSw; (try dsimp only at hSw); go_simp; try with_reducible rfl
    simp only [Act.put, zsa, zsz, zss];refine wpAnyH_take (i := 5) (oi := ?o22) (v := ?v22) ?i22 (by kernel_rfl) (by kernel_rfl) (by kernel_rfl) ?q22 ?y22 hHeld ?_
    case i22 => simp only [zga, zgs, zgz]; rfl
    case q22 => exact fun _ _ _ h => h
    case y22 => refine .inl ⟨by rfl, ?_⟩; intro w' hSw; (try dsimp only at hSw); go_simp; try with_reducible rfl
    simp only [Act.put, zsa, zsz, zss];refine wpAnyH_take (i := 6) (oi := ?o23) (v := ?v23) ?i23 (by kernel_rfl) (by kernel_rfl) (by kernel_rfl) ?q23 ?y23 hHeld ?_
    case i23 => simp only [zga, zgs, zgz]; rfl
    case q23 => exact fun _ _ _ h => h
    case y23 => refine .inl ⟨by rfl, ?_⟩; intro w' hSw; (try dsimp only at hSw); go_simp; try with_reducible rfl
    simp only [Act.put, zsa, zsz, zss];refine wpAnyH_take (i := 7) (oi := ?o24) (v := ?v24) ?i24 (by kernel_rfl) (by kernel_rfl) (by kernel_rfl) ?q24 ?y24 hHeld ?_
    case i24 => simp only [zga, zgs, zgz]; rfl
    case q24 => exact fun _ _ _ h => h
    case y24 => refine .inl ⟨by rfl, ?_⟩; intro w' hSw; (try dsimp only at hSw); go_simp; try with_reducible rfl
    simp only [Act.put, zsa, zsz, zss];refine wpAnyH_take (i := 8) (oi := ?o25) (v := ?v25) ?i25 (by kernel_rfl) (by kernel_rfl) (by kernel_rfl) ?q25 ?y25 hHeld ?_
    case i25 => simp only [zga, zgs, zgz]; rfl
    case q25 => exact fun _ _ _ h => h
    case y25 => refine .inl ⟨by rfl, ?_⟩; intro w' hSw; (try dsimp only at hSw); go_simp; try with_reducible rfl
    simp only [Act.put, zsa, zsz, zss];refine wpAnyH_take (i := 9) (oi := ?o26) (v := ?v26) ?i26 (by kernel_rfl) (by kernel_rfl) (by kernel_rfl) ?q26 ?y26 hHeld ?_
    case i26 => simp only [zga, zgs, zgz]; rfl
    case q26 => exact fun _ _ _ h => h
    case y26 => refine .inl ⟨by rfl, ?_⟩; intro w' hSw; (try dsimp only at hSw); go_simp; try with_reducible rfl
    simp only [Act.put, zsa, zsz, zss];refine wpAnyH_take (i := 10) (oi := ?o27) (v := ?v27) ?i27 (by kernel_rfl) (by kernel_rfl) (by kernel_rfl) ?q27 ?y27 hHeld ?_
    case i27 => simp only [zga, zgs, zgz]; rfl
    case q27 => exact fun _ _ _ h => h
    case y27 => refine .inl ⟨by rfl, ?_⟩; intro w' hSw; (try dsimp only at hSw); go_simp; try with_reducible rfl
    simp only [Act.put, zsa, zsz, zss];refine wpAnyH_take (i := 11) (oi := ?o28) (v := ?v28) ?i28 (by kernel_rfl) (by kernel_rfl) (by kernel_rfl) ?q28 ?y28 hHeld ?_
    case i28 => simp only [zga, zgs, zgz]; rfl
    case q28 => exact fun _ _ _ h => h
    case y28 => refine .inl ⟨by rfl, ?_⟩; intro w' hSw; (try dsimp only at hSw); go_simp; try with_reducible rfl
    simp only [Act.put, zsa, zsz, zss];refine wpAnyH_take (i := 12) (oi := ?o29) (v := ?v29) ?i29 (by kernel_rfl) (by kernel_rfl) (by kernel_rfl) ?q29 ?y29 hHeld ?_
    case i29 => simp only [zga, zgs, zgz]; rfl
    case q29 => exact fun _ _ _ h => h
    case y29 => refine .inl ⟨by rfl, ?_⟩; intro w' hSw; (try dsimp only at hSw); go_simp; try with_reducible rfl
    simp only [Act.put, zsa, zsz, zss];refine wpAnyH_take (i := 13) (oi := ?o30) (v := ?v30) ?i30 (by kernel_rfl) (by kernel_rfl) (by kernel_rfl) ?q30 ?y30 hHeld ?_
    case i30 => simp only [zga, zgs, zgz]; rfl
    case q30 => exact fun _ _ _ h => h
    case y30 => refine .inl ⟨by rfl, ?_⟩; intro w' hSw; (try dsimp only at hSw); go_simp; try with_reducible rfl
    simp only [Act.put, zsa, zsz, zss];refine wpAnyH_take (i := 14) (oi := ?o31) (v := ?v31) ?i31 (by kernel_rfl) (by kernel_rfl) (by kernel_rfl) ?q31 ?y31 hHeld ?_
    case i31 => simp only [zga, zgs, zgz]; rfl
    case q31 => exact fun _ _ _ h => h
    case y31 => refine .inl ⟨by rfl, ?_⟩; intro w' hSw; (try dsimp only at hSw); go_simp; try with_reducible rfl
    simp only [Act.put, zsa, zsz, zss];refine wpAnyH_take (i := 15) (oi := ?o32) (v := ?v32) ?i32 (by kernel_rfl) (by kernel_rfl) (by kernel_rfl) ?q32 ?y32 hHeld ?_
    case i32 => simp only [zga, zgs, zgz]; rfl
    case q32 => exact fun _ _ _ h => h
    case y32 => refine .inl ⟨by rfl, ?_⟩; intro w' hSw; (try dsimp only at hSw); go_simp; try with_reducible rfl
    simp only [Act.put, zsa, zsz, zss];refine wpAnyH_take (i := 16) (oi := ?o33) (v := ?v33) ?i33 (by kernel_rfl) (by kernel_rfl) (by kernel_rfl) ?q33 ?y33 hHeld ?_
    case i33 => simp only [zga, zgs, zgz]; rfl
    case q33 => exact fun _ _ _ h => h
    case y33 => refine .inl ⟨by rfl, ?_⟩; intro w' hSw; (try dsimp only at hSw); go_simp; try with_reducible rfl
    simp only [Act.put, zsa, zsz, zss];refine wpAnyH_done (by kernel_rfl) ?_ _;clear hHeld;go_wp2;go_ret;rw [HRE.out];exact ⟨a, cap, bs, rfl, HI.out.2.2.1.keep (Nat.le_refl _) (fun _ _ _ => rfl), HI.out.1.below ((Below.refl _ _).drew), HI.out.2.1.drew⟩
  ·have q0 : (st.e == 0) = false := by simpa using he
   have hmr : moreF c st = false := by unfold moreF; rw [if_neg he]
   have HRE : Hid (R = (acc, st)) := HI.out.2.2.2.1.symm.trans (programOf_end hmr);clear hmr
   go_upto_region 2 with fail
   refine wp_region_held_drew (S := (fun w' => w'.cell? ⟨c.PB, 9, none⟩ = some (.int .i64 st.e) ∧ w'.cell? ⟨c.PB, 3, none⟩ = some (.int .i64 (st.i : Int)) ∧ w'.cell? ⟨c.PB, 0, none⟩ = some (.slice c.a c.ws.length c.cap))) (by kernel_rfl) (⟨p9, p3, p0⟩) (fun hHeld => ?_);refine wpAnyH_take (i := 0) (oi := ?o34) (v := ?v34) ?i34 (by kernel_rfl) (by kernel_rfl) (by kernel_rfl) ?q34 ?y34 hHeld ?_
   case i34 => simp only [zga, zgs, zgz]; rfl
   case q34 => exact fun _ _ _ h => h
   case y34 => refine .inl ⟨by rfl, ?_⟩; intro w' hSw; (try dsimp only at hSw); go_simp; try with_reducible rfl
   simp only [Act.put, zsa, zsz, zss];refine wpAnyH_take (i := 1) (oi := ?o35) (v := ?v35) ?i35 (by kernel_rfl) (by kernel_rfl) (by kernel_rfl) ?q35 ?y35 hHeld ?_
   case i35 => simp only [zga, zgs, zgz]; rfl
   case q35 => exact fun _ _ _ h => h
   case y35 => refine .inl ⟨by rfl, ?_⟩; intro w' hSw; (try dsimp only at hSw); go_simp; try with_reducible rfl
   simp only [Act.put, zsa, zsz, zss];refine wpAnyH_take (i := 2) (oi := ?o36) (v := ?v36) ?i36 (by kernel_rfl) (by kernel_rfl) (by kernel_rfl) ?q36 ?y36 hHeld ?_
   case i36 => simp only [zga, zgs, zgz]; rfl
   case q36 => exact fun _ _ _ h => h
   case y36 => refine .inl ⟨by rfl, ?_⟩; intro w' hSw; (try dsimp only at hSw); go_simp; try with_reducible rfl
   simp only [Act.put, zsa, zsz, zss];refine wpAnyH_take (i := 3) (oi := ?o37) (v := ?v37) ?i37 (by kernel_rfl) (by kernel_rfl) (by kernel_rfl) ?q37 ?y37 hHeld ?_
   case i37 => simp only [zga, zgs, zgz]; rfl
   case q37 => exact fun _ _ _ h => h
   case y37 => refine .inl ⟨by rfl, ?_⟩; intro w' hSw; (try dsimp only at hSw); go_simp; try with_reducible rfl
   simp only [Act.put, zsa, zsz, zss];refine wpAnyH_take (i := 4) (oi := ?o38) (v := ?v38) ?i38 (by kernel_rfl) (by kernel_rfl) (by kernel_rfl) ?q38 ?y38 hHeld ?_
   case i38 => simp only [zga, zgs, zgz]; rfl
   case q38 => exact fun _ _ _ h => h
   case y38 => refine .inl ⟨by rfl, ?_⟩; intro w' hSw; (try dsimp only at hSw); go_simp; try with_reducible rfl
   simp only [Act.put, zsa, zsz, zss];refine wpAnyH_take (i := 5) (oi := ?o39) (v := ?v39) ?i39 (by kernel_rfl) (by kernel_rfl) (by kernel_rfl) ?q39 ?y39 hHeld ?_
   case i39 => simp only [zga, zgs, zgz]; rfl
   case q39 => exact fun _ _ _ h => h
   case y39 => refine .inl ⟨by rfl, ?_⟩; intro w' hSw; (try dsimp only at hSw); go_simp; try with_reducible rfl
   simp only [Act.put, zsa, zsz, zss];refine wpAnyH_take (i := 6) (oi := ?o40) (v := undef) ?i40 (by kernel_rfl) (by kernel_rfl) (by kernel_rfl) ?q40 ?y40 hHeld ?_
   case i40 => simp only [zga, zgs, zgz]; rfl
   case q40 => exact fun _ _ _ h => h
   case y40 => exact Or.inr ⟨by rfl, rfl⟩
   simp only [Act.put, zsa, zsz, zss];refine wpAnyH_take (i := 7) (oi := ?o41) (v := undef) ?i41 (by kernel_rfl) (by kernel_rfl) (by kernel_rfl) ?q41 ?y41 hHeld ?_
   case i41 => simp only [zga, zgs, zgz]; rfl
   case q41 => exact fun _ _ _ h => h
   case y41 => exact Or.inr ⟨by rfl, rfl⟩
   simp only [Act.put, zsa, zsz, zss];refine wpAnyH_take (i := 8) (oi := ?o42) (v := undef) ?i42 (by kernel_rfl) (by kernel_rfl) (by kernel_rfl) ?q42 ?y42 hHeld ?_
   case i42 => simp only [zga, zgs, zgz]; rfl
   case q42 => exact fun _ _ _ h => h
   case y42 => exact Or.inr ⟨by rfl, rfl⟩
   simp only [Act.put, zsa, zsz, zss];refine wpAnyH_take (i := 9) (oi := ?o43) (v := undef) ?i43 (by kernel_rfl) (by kernel_rfl) (by kernel_rfl) ?q43 ?y43 hHeld ?_
   case i43 => simp only [zga, zgs, zgz]; rfl
   case q43 => exact fun _ _ _ h => h
   case y43 => exact Or.inr ⟨by rfl, rfl⟩
   simp only [Act.put, zsa, zsz, zss];refine wpAnyH_take (i := 10) (oi := ?o44) (v := undef) ?i44 (by kernel_rfl) (by kernel_rfl) (by kernel_rfl) ?q44 ?y44 hHeld ?_
   case i44 => simp only [zga, zgs, zgz]; rfl
   case q44 => exact fun _ _ _ h => h
   case y44 => exact Or.inr ⟨by rfl, rfl⟩
   simp only [Act.put, zsa, zsz, zss];refine wpAnyH_take (i := 11) (oi := ?o45) (v := undef) ?i45 (by kernel_rfl) (by kernel_rfl) (by kernel_rfl) ?q45 ?y45 hHeld ?_
   case i45 => simp only [zga, zgs, zgz]; rfl
   case q45 => exact fun _ _ _ h => h
   case y45 => exact Or.inr ⟨by rfl, rfl⟩
   simp only [Act.put, zsa, zsz, zss];refine wpAnyH_take (i := 12) (oi := ?o46) (v := undef) ?i46 (by kernel_rfl) (by kernel_rfl) (by kernel_rfl) ?q46 ?y46 hHeld ?_
   case i46 => simp only [zga, zgs, zgz]; rfl
   case q46 => exact fun _ _ _ h => h
   case y46 => exact Or.inr ⟨by rfl, rfl⟩
   simp only [Act.put, zsa, zsz, zss];refine wpAnyH_take (i := 13) (oi := ?o47) (v := undef) ?i47 (by kernel_rfl) (by kernel_rfl) (by kernel_rfl) ?q47 ?y47 hHeld ?_
   case i47 => simp only [zga, zgs, zgz]; rfl
   case q47 => exact fun _ _ _ h => h
   case y47 => exact Or.inr ⟨by rfl, rfl⟩
   simp only [Act.put, zsa, zsz, zss];refine wpAnyH_take (i := 14) (oi := ?o48) (v := undef) ?i48 (by kernel_rfl) (by kernel_rfl) (by kernel_rfl) ?q48 ?y48 hHeld ?_
   case i48 => simp only [zga, zgs, zgz]; rfl
   case q48 => exact fun _ _ _ h => h
   case y48 => exact Or.inr ⟨by rfl, rfl⟩
   simp only [Act.put, zsa, zsz, zss];refine wpAnyH_take (i := 15) (oi := ?o49) (v := undef) ?i49 (by kernel_rfl) (by kernel_rfl) (by kernel_rfl) ?q49 ?y49 hHeld ?_
   case i49 => simp only [zga, zgs, zgz]; rfl
   case q49 => exact fun _ _ _ h => h
   case y49 => exact Or.inr ⟨by rfl, rfl⟩
   simp only [Act.put, zsa, zsz, zss];refine wpAnyH_take (i := 16) (oi := ?o50) (v := ?v50) ?i50 (by kernel_rfl) (by kernel_rfl) (by kernel_rfl) ?q50 ?y50 hHeld ?_
   case i50 => simp only [zga, zgs, zgz]; rfl
   case q50 => exact fun _ _ _ h => h
   case y50 => refine .inl ⟨by rfl, ?_⟩; intro w' hSw; (try dsimp only at hSw); go_simp; try with_reducible rfl
   simp only [Act.put, zsa, zsz, zss];refine wpAnyH_done (by kernel_rfl) ?_ _;clear hHeld;go_wp2;go_ret;rw [HRE.out];exact ⟨a, cap, bs, rfl, HI.out.2.2.1.keep (Nat.le_refl _) (fun _ _ _ => rfl), HI.out.1.below ((Below.refl _ _).drew), HI.out.2.1.drew⟩

def endL (t : ByteArray) : Int := (Lib.countByte t.data.toList 10 : Int) + 1
def endC (t : ByteArray) : Int := (t.size : Int) - Lib.lastIndexByte t 10
theorem endOf_any (t : ByteArray) (w : World) (ht : t.size ≤ 65536) : Calls prog 20 #[.string t] w (fun e W => e = .returned (.agg #[.int .i64 (endL t), .int .i64 (endC t)]) ∧ Below w.heap.size w W) := by
 unfold endL endC
 have hc1 : Lib.countByte t.data.toList 10 ≤ 65536 := by
  have h := List.count_le_length (a := (10 : UInt8)) (l := t.data.toList);have h2 : t.data.toList.length = t.size := Array.length_toList;unfold Lib.countByte
  omega
 have HC : Hid (∀ W, Calls prog 37 #[.string t, .string ⟨#[10]⟩] W fun e w' => e = .returned (.int .i64 (Lib.countByte t.data.toList 10)) ∧ w' = W) := fun W => Tryz.strings_Count_one t 10 W;have HL : Hid (∀ W, Calls prog 38 #[.string t, .int .u8 10] W fun e w' => e = .returned (.int .i64 (Lib.lastIndexByte t 10)) ∧ w' = W) := fun W => Tryz.strings_LastIndexByte t 10 (by omega) W
 have hl : -1 ≤ Lib.lastIndexByte t 10 ∧ Lib.lastIndexByte t 10 ≤ 65536 := by
  unfold Lib.lastIndexByte
  rcases Lib.lastIdx_spec t 10 t.size with ⟨h, _⟩ | ⟨i, hi, h, _⟩ <;> rw [h] <;> omega
 obtain ⟨n, hn⟩ : ∃ n, Lib.countByte t.data.toList 10 = n := ⟨_, rfl⟩;obtain ⟨l, hll⟩ : ∃ l, Lib.lastIndexByte t 10 = l := ⟨_, rfl⟩;rw [hn] at HC hc1 ⊢;rw [hll] at HL hl ⊢;obtain ⟨hl1, hl2⟩ := hl;have w1 : IntKind.i64.wrap ((n : Int) + 1) = (n : Int) + 1 := by rw [IntKind.wrap_i64]; omega
 have w2 : IntKind.i64.wrap ((t.size : Int) - l) = (t.size : Int) - l := by rw [IntKind.wrap_i64]; omega
 clear hn hll
 go_enter func20, ntmps20
 go_wp2_with (first | (go_at_call 37; refine (HC.out _).mono ?_; rintro e v1 ⟨rfl, rfl⟩) | (go_at_call 38; refine (HL.out _).mono ?_; rintro e v2 ⟨rfl, rfl⟩))
 refine bodyPost_ret (by simp [results, results20, go_sem]; rfl) rfl ?_;exact ⟨rfl, by (repeat (first | with_reducible exact Below.refl _ _ | with_reducible assumption | with_reducible refine bel_alloc ?_ _ | with_reducible refine bel_set ?_ (by first | exact Nat.le_refl _ | (simp; done) | (simp; omega)) _ | with_reducible refine Below.drew ?_ | with_reducible refine bel_drewN ?_ _))⟩

structure WordCells (W : World) (g i : Nat) (x : WW) (p : Nat × Nat) : Prop where
 c0 : W.cell? ⟨g, i * 5, none⟩ = some (.int .i64 x.k)
 c1 : W.cell? ⟨g, i * 5 + 1, none⟩ = some (.string x.s)
 c2 : W.cell? ⟨g, i * 5 + 2, none⟩ = some (.int .i64 x.n)
 c3 : W.cell? ⟨g, i * 5 + 3, none⟩ = some (.int .i64 p.1)
 c4 : W.cell? ⟨g, i * 5 + 4, none⟩ = some (.int .i64 p.2)
theorem wordsCells_get (t : ByteArray) : ∀ (l : List (WW × Nat)) (i o : Nat) (x : WW) (j : Nat), l[i]? = some (x, j) → o < 5 → (wordsCells t l)[i * 5 + o]? = (wcells x.k x.s x.n (posOf t j).1 (posOf t j).2)[o]?
 | [], i, o, x, j, h, ho => by simp at h
 | a :: l, 0, o, x, j, h, ho => by
  simp at h;subst h;have hl : o < (wcells x.k x.s x.n (posOf t j).1 (posOf t j).2).length := ho;simp only [wordsCells, List.flatMap_cons, Nat.zero_mul, Nat.zero_add];rw [List.getElem?_append_left hl]
 | a :: l, i + 1, o, x, j, h, ho => by
  have h' : l[i]? = some (x, j) := by simpa using h
  have := wordsCells_get t l i o x j h' ho;rw [← this];simp only [wordsCells, List.flatMap_cons];rw [List.getElem?_append_right (by simp [wcells]; omega)]
  congr 1
  simp [wcells]
  omega
theorem words_row {W : World} {base : Nat} {v : Value} {t : ByteArray} {l : List (WW × Nat)} (h : W.ownsRow base 93 5 v l.length (wordsCells t l)) (hne : l ≠ []) :
  ∃ g cap, v = .slice (some ⟨g, 0, none⟩) l.length cap ∧ base ≤ g ∧ g < W.heap.size ∧ l.length ≤ cap ∧ ∀ i x j, l[i]? = some (x, j) → WordCells W g i x (posOf t j) := by
 rcases h.2 with ⟨_, h2⟩ | ⟨g, cap, cur, h1, h2, h3, h4, h5, h6, h7⟩
 ·exact absurd (List.length_eq_zero_iff.1 h2) hne
 ·refine ⟨g, cap, h1, h2, (zge h3).1, h4, fun i x j hx => ?_⟩
  have hi : i < l.length := (List.getElem?_eq_some_iff.1 hx).1
  have hc : ∀ o, o < 5 → cur[i * 5 + o]? = (wcells x.k x.s x.n (posOf t j).1 (posOf t j).2)[o]? := fun o ho => by
   rw [← wordsCells_get t l i o x j hx ho, ← h7, List.getElem?_take, if_pos (by omega)];simp
  exact ⟨heap_cell h3 (by simpa [wcells] using hc 0 (by omega)), heap_cell h3 (by simpa [wcells] using hc 1 (by omega)), heap_cell h3 (by simpa [wcells] using hc 2 (by omega)), heap_cell h3 (by simpa [wcells] using hc 3 (by omega)), heap_cell h3 (by simpa [wcells] using hc 4 (by omega))⟩
theorem lexF_siz (t : ByteArray) : ∀ f i, i ≤ t.size → ∀ xj ∈ (lexF t f i).1, xj.1.s.size ≤ t.size
 | 0, i, h, xj, hx => by simp [lexF] at hx
 | f + 1, i, h, xj, hx => by
  cases e : nextW t i with
  | mk j o =>
   cases o with
   | none => rw [lexF_none t f i j e] at hx; simp at hx
   | some x =>
    have hw := nextW_word t i j x h e;rw [lexF_some t f i j x e] at hx;simp only [List.mem_cons] at hx
    rcases hx with rfl | hx
    ·dsimp only; omega
    ·exact lexF_siz t f _ hw.2.2 xj hx
def wdOf (t : ByteArray) (xj : WW × Nat) : Wd := ⟨xj.1.k, xj.1.s, xj.1.n, ((posOf t xj.2).1 : Int), ((posOf t xj.2).2 : Int)⟩
def wdsOf (t : ByteArray) : List Wd := (lexAll t).1.map (wdOf t)
def parseC (t : ByteArray) (PB g cap : Nat) (a : Option Addr) : PC := ⟨PB, g, cap, a, endL t, endC t, wdsOf t⟩
def st0 : PSt := ⟨0, 0, 0, 0, 0, 0, 0⟩
structure PTab (gb : Nat → Nat × Nat) (W : World) : Prop where
 lex : LexTab W
 err : ErrTab W
 tw : TwTab W
 pf : PfTab W
 lv : LvTab gb W
theorem tw_lt {W : World} (h : TwTab W) : 2 < W.heap.size := World.block_lt_of_cell? W _ (h.tw 0 (by omega) : W.cell? ⟨2, 0, none⟩ = some (.string ⟨#[99, 104, 97, 114]⟩))
theorem pf_lt {W : World} (h : PfTab W) : 8 < W.heap.size := World.block_lt_of_cell? W _ (h.pf 0 (by omega) : W.cell? ⟨8, 0, none⟩ = some (.string ⟨#[45]⟩))
theorem lv_lt {gb : Nat → Nat × Nat} {W : World} (h : LvTab gb W) (l : Nat) (hl : l < 10) : 7 < W.heap.size ∧ (gb l).1 < W.heap.size := by
 obtain ⟨ops, ho⟩ : ∃ ops, lvOps[l]? = some ops := ⟨_, List.getElem?_eq_getElem hl⟩
 have hn : ops ≠ [] := by
  have h9 : lvOps.all (fun o => !o.isEmpty) = true := by decide
  have := List.all_eq_true.1 h9 ops (List.mem_of_getElem? ho);intro he;rw [he] at this;simp at this
 obtain ⟨op, hop⟩ : ∃ op, ops[0]? = some op := by
  cases ops with
  | nil => exact absurd rfl hn
  | cons x r => exact ⟨x, rfl⟩
 exact ⟨World.block_lt_of_cell? W _ (h.row l ops ho), World.block_lt_of_cell? W _ (h.op l ops 0 op ho hop)⟩
theorem PfTab.keep {w W : World} (h : PfTab w) (hb : W.heap[8]? = w.heap[8]?) : PfTab W := ⟨fun j hj => (World.cell?_of_block hb).trans (h.pf j hj)⟩
theorem LvTab.keep {gb : Nat → Nat × Nat} {w W : World} (h : LvTab gb w) (hb : W.heap[7]? = w.heap[7]?) (hg : ∀ l, l < 10 → W.heap[(gb l).1]? = w.heap[(gb l).1]?) : LvTab gb W :=
 ⟨fun l ops ho => (World.cell?_of_block hb).trans (h.row l ops ho), fun l ops j op ho hop => (World.cell?_of_block (hg l (List.getElem?_eq_some_iff.1 ho).1)).trans (h.op l ops j op ho hop)⟩
theorem PTab.keep {gb : Nat → Nat × Nat} {w W : World} (h : PTab gb w) (hb : Below w.heap.size w W) : PTab gb W :=
 ⟨h.lex.keep hb, h.err.keep hb, h.tw.keep (fun k hk => hb.block k (by rw [hk]; exact tw_lt h.tw)), h.pf.keep (hb.block _ (pf_lt h.pf)), h.lv.keep (hb.block _ (lv_lt h.lv 0 (by omega)).1) (fun l hl => hb.block _ (lv_lt h.lv l hl).2)⟩
def GTk (gb : Nat → Nat × Nat) (PB : Nat) : Prop := 2 < PB ∧ 8 < PB ∧ 7 < PB ∧ ∀ l, l < 10 → (gb l).1 < PB
theorem GT.chg {gb : Nat → Nat × Nat} {c : PC} (hk : GTk gb c.PB) : ∀ W W', GT gb c W → Chg c.PB W W' → GT gb c W' := fun W W' h hc =>
 ⟨h.tw.chg hc (by have := hk.1; omega), h.pf.keep (hc.block _ (pf_lt h.pf) (by have := hk.2.1; omega)), h.lv.keep (hc.block _ (lv_lt h.lv 0 (by omega)).1 (by have := hk.2.2.1; omega)) (fun l hl => hc.block _ (lv_lt h.lv l hl).2 (by have := hk.2.2.2 l hl; omega)), Nat.lt_of_lt_of_le h.g hc.size⟩
structure ProgAt (W : World) (lo b : Nat) (ts : List Tr) (n : Int) : Prop where
 ex : ∃ a cap bs, W.heap[b]? = some (.cells #[.slice a ts.length cap, .int .i64 n] 64 (0, 0)) ∧ ListAt W lo (.slice a ts.length cap) ts bs
 lo : lo ≤ b
def parsePost (t : ByteArray) (w : World) : Ending → World → Prop := fun e W => Below w.heap.size w W ∧
 if 65536 < t.size then e = .returned (.tuple #[.pointer none, .agg #[.int .i64 0, .int .i64 0], .int .i64 2])
 else if (lexAll t).2 < t.size then e = .returned (.tuple #[.pointer none, .agg #[.int .i64 (posOf t (lexAll t).2).1, .int .i64 (posOf t (lexAll t).2).2], .int .i64 3])
 else ∃ PB g cap a, (¬ (programOf (parseC t PB g cap a) [] st0).2.e = 0 ∧ e = .returned (.tuple #[.pointer none, .agg #[.int .i64 (programOf (parseC t PB g cap a) [] st0).2.fl, .int .i64 (programOf (parseC t PB g cap a) [] st0).2.fc], .int .i64 (programOf (parseC t PB g cap a) [] st0).2.e]))
  ∨ ((programOf (parseC t PB g cap a) [] st0).2.e = 0 ∧ ∃ b, e = .returned (.tuple #[.pointer (some ⟨b, 0, none⟩), .agg #[.int .i64 0, .int .i64 0], .int .i64 0]) ∧ ProgAt W w.heap.size b (programOf (parseC t PB g cap a) [] st0).1 (programOf (parseC t PB g cap a) [] st0).2.nodes)

theorem parse_err (t : ByteArray) (w : World) (pl pc er : Int) (he : ¬ er = 0) (HW : Hid (∀ W, Below w.heap.size w W → Calls prog 19 #[.string t] W (fun e W' => e = .returned (.tuple #[.slice none 0 0, .agg #[.int .i64 pl, .int .i64 pc], .int .i64 er]) ∧ Below W.heap.size W W'))) :
  Calls prog 10 #[.string t] w (fun e W => e = .returned (.tuple #[.pointer none, .agg #[.int .i64 pl, .int .i64 pc], .int .i64 er]) ∧ Below w.heap.size w W) := by
 have q0 : (er == 0) = false := by simpa using he
 have q1 : (er != 0) = true := by simpa using he
 have HA : Hid (Below w.heap.size w (w.alloc (.cells #[.int .i64 0, .int .i64 0] 25))) := bel_alloc (Below.refl _ _) _;have HB : Hid ((w.alloc (.cells #[.int .i64 0, .int .i64 0] 25)).heap[w.heap.size]? = some (.cells #[.int .i64 0, .int .i64 0] 25 (0, 0))) := World.alloc_heap_new w _
 go_enter func10, ntmps10
 go_wp2_with fail
 refine (HW.out _ HA.out).mono ?_;rintro e w1 ⟨rfl, hb1⟩;have b1 : w1.heap[w.heap.size]? = some (.cells #[.int .i64 0, .int .i64 0] 25 (0, 0)) := (hb1.block _ (by simp)).trans HB.out;have l1 : w.heap.size < w1.heap.size := (zge b1).1;have HX1 : Hid (Below w.heap.size w w1) := bel_trans HA.out hb1;have r0 : w1.cell? ⟨w.heap.size, 0, none⟩ = some (.int .i64 0) := heap_cell b1 (by simp);have r1 : w1.cell? ⟨w.heap.size, 1, none⟩ = some (.int .i64 0) := heap_cell b1 (by simp);have f0 : w1.frozen? ⟨w.heap.size, 0, none⟩ = false := heap_frozen b1;have f1 : w1.frozen? ⟨w.heap.size, 1, none⟩ = false := heap_frozen b1;have HB1 : Hid (w1.heap[w.heap.size]? = some (.cells #[.int .i64 0, .int .i64 0] 25 (0, 0))) := b1;clear hb1 b1 HW;dsimp only
 go_wp2_with (go_region)
 have HZ : Hid ((((w1.setCell ⟨w.heap.size, 0, none⟩ (.int .i64 pl)).setCell ⟨w.heap.size, 1, none⟩ (.int .i64 pc)).alloc (.cells #[.int .i64 pl, .int .i64 pc] 25)).drew.heap[w.heap.size]? = some (.cells #[.int .i64 pl, .int .i64 pc] 25 (0, 0)) ∧ Below w.heap.size w (((w1.setCell ⟨w.heap.size, 0, none⟩ (.int .i64 pl)).setCell ⟨w.heap.size, 1, none⟩ (.int .i64 pc)).alloc (.cells #[.int .i64 pl, .int .i64 pc] 25)).drew) := by
  refine ⟨?_, ?_⟩
  ·refine (Below.heap_alloc _ _ _ (by rw [size_set, size_set]; exact l1)).trans ?_
   exact Eq.trans (heap_set_same (o := 1) (heap_set_same (o := 0) HB1.out _) _) (by simp)
  ·exact (bel_alloc (bel_set (bel_set HX1.out (Nat.le_refl _) _) (Nat.le_refl _) _) _).drew
 have z0 := heap_cell (o := 0) HZ.out.1 (by simp; rfl);have z1 := heap_cell (o := 1) HZ.out.1 (by simp; rfl);refine bodyPost_ret (by simp [results, results10, go_sem, z0, z1]; rfl) rfl ?_;exact ⟨rfl, HZ.out.2⟩
theorem parser_at {t : ByteArray} {W : World} {base n cap PB : Nat} {a : Option Addr} (hn : n = (lexAll t).1.length) (ho : W.ownsRow base 93 5 (.slice a n cap) n (wordsCells t (lexAll t).1)) (ht : t.size ≤ 65536) (hPB : W.heap.size < PB) {W' : World} (hb : Below W.heap.size W W') (hp : W'.heap[PB]? = some (.cells #[.slice a n cap, .int .i64 (endL t), .int .i64 (endC t), .int .i64 0, .int .i64 0, .int .i64 0, .int .i64 0, .int .i64 0, .int .i64 0, .int .i64 0] 60 (0, 0))) (hbs : base ≤ W.heap.size) : ∃ g, base ≤ g ∧ g < W'.heap.size ∧ PAt W' (parseC t PB g cap a) st0 := by
 subst hn;have hlen := lexAll_len t;have hwl : (wdsOf t).length = (lexAll t).1.length := by unfold wdsOf; simp
 have hsz := hb.size;have lPB := (zge hp).1;have fzz : ∀ i, W'.frozen? ⟨PB, i, none⟩ = false := fun i => heap_frozen hp;have cells : ∀ o v, (#[.slice a (lexAll t).1.length cap, .int .i64 (endL t), .int .i64 (endC t), .int .i64 0, .int .i64 0, .int .i64 0, .int .i64 0, .int .i64 0, .int .i64 0, .int .i64 0] : Array Value)[o]? = some v → W'.cell? ⟨PB, o, none⟩ = some v := fun o v h => heap_cell hp h
 have mk : ∀ g, base ≤ g → g < W'.heap.size → (lexAll t).1.length ≤ cap → (wdsOf t ≠ [] → a = some ⟨g, 0, none⟩) → g ≠ PB → (∀ i x, (wdsOf t)[i]? = some x → WdAt W' g i x) → PAt W' (parseC t PB g cap a) st0 := fun g h1 h2 h3 h4 h5 h6 => by
  refine ⟨?_, cells 1 _ rfl, cells 2 _ rfl, cells 3 _ rfl, cells 4 _ rfl, cells 5 _ rfl, cells 6 _ rfl, cells 7 _ rfl, cells 8 _ rfl, cells 9 _ rfl, fzz, ⟨?_, ?_, h4, h5, ?_, h6⟩, Nat.zero_le _⟩
  ·show W'.cell? ⟨PB, 0, none⟩ = some (.slice a (wdsOf t).length cap)
   rw [hwl];exact cells 0 _ rfl
  ·show (wdsOf t).length ≤ cap
   omega
  ·show (wdsOf t).length ≤ 65536
   omega
  ·intro i x hx
   have hm := List.mem_of_getElem? hx
   change x ∈ wdsOf t at hm
   unfold wdsOf at hm;obtain ⟨xj, hxj, rfl⟩ := List.mem_map.1 hm;have := lexF_siz t (t.size + 1) 0 (Nat.zero_le _) xj hxj
   show xj.1.s.size ≤ 65536
   omega
 by_cases hne : (lexAll t).1 = []
 ·have hw : wdsOf t = [] := by unfold wdsOf; rw [hne]; rfl
  refine ⟨base, Nat.le_refl _, by omega, mk base (Nat.le_refl _) (by omega) (by rw [hne]; exact Nat.zero_le _) (fun h => absurd hw h) (by omega) (fun i x hx => by rw [hw] at hx; simp at hx)⟩
 ·obtain ⟨g, cap', e1, h1, h2, h3, h4⟩ := words_row ho hne
  injection e1 with e11 e12 e13
  subst e11 e13;refine ⟨g, h1, by omega, mk g h1 (by omega) h3 (fun _ => rfl) (by omega) (fun i x hx => ?_)⟩;unfold wdsOf at hx;rw [List.getElem?_map] at hx
  cases hq : (lexAll t).1[i]? with
  | none => rw [hq] at hx; simp at hx
  | some xj =>
   rw [hq] at hx;simp at hx;subst hx;have hc := h4 i xj.1 xj.2 hq;exact ⟨keep_cell hb hc.c0, keep_cell hb hc.c1, keep_cell hb hc.c2, keep_cell hb hc.c3, keep_cell hb hc.c4⟩
theorem parse_ok (gb : Nat → Nat × Nat) (t : ByteArray) (w : World) (hT : PTab gb w) (h1 : ¬ 65536 < t.size) (h2 : ¬ (lexAll t).2 < t.size) : Calls prog 10 #[.string t] w (parsePost t w) := by
 have hts : t.size ≤ 65536 := by omega
 have HTB : Hid (PTab gb w) := hT
 have HW : Hid (∀ W, Below w.heap.size w W → Calls prog 19 #[.string t] W (fun e W' => Below W.heap.size W W' ∧ ∃ a cap, e = .returned (.tuple #[.slice a (lexAll t).1.length cap, .agg #[.int .i64 0, .int .i64 0], .int .i64 0]) ∧ W'.ownsRow W.heap.size 93 5 (.slice a (lexAll t).1.length cap) (lexAll t).1.length (wordsCells t (lexAll t).1))) := fun W hb => by
  have hq := hT.keep hb;refine (words_any t W hq.lex hq.err).mono ?_;rintro e W' ⟨hb', h⟩;rw [if_neg h1, if_neg h2] at h;obtain ⟨v, rfl, ho⟩ := h;refine ⟨hb', ?_⟩
  rcases ho.2 with ⟨e1, e2⟩ | ⟨g, cap, cur, e1, hrest⟩
  ·subst e1
   rw [e2];exact ⟨none, 0, rfl, by rw [e2] at ho; exact ho⟩
  ·subst e1
   exact ⟨_, cap, rfl, ho⟩
 have HEO : Hid (∀ W, Calls prog 20 #[.string t] W (fun e W' => e = .returned (.agg #[.int .i64 (endL t), .int .i64 (endC t)]) ∧ Below W.heap.size W W')) := fun W => endOf_any t W hts;have HPOST : Hid (∀ e W, parsePost t w e W ↔ parsePost t w e W) := fun _ _ => Iff.rfl;have HA : Hid (Below w.heap.size w (w.alloc (.cells #[.int .i64 0, .int .i64 0] 25))) := bel_alloc (Below.refl _ _) _;have HB : Hid ((w.alloc (.cells #[.int .i64 0, .int .i64 0] 25)).heap[w.heap.size]? = some (.cells #[.int .i64 0, .int .i64 0] 25 (0, 0))) := World.alloc_heap_new w _;have HN : Hid (¬ 65536 < t.size ∧ ¬ (lexAll t).2 < t.size) := ⟨h1, h2⟩;clear hT h1 h2
 go_enter func10, ntmps10
 go_wp2_with fail
 refine (HW.out _ HA.out).mono ?_;rintro e w1 ⟨hb1, a, cap, rfl, ho1⟩;obtain ⟨n, hn⟩ : ∃ n, (lexAll t).1.length = n := ⟨_, rfl⟩;rw [hn] at ho1 ⊢;have hsA : (w.alloc (.cells #[.int .i64 0, .int .i64 0] 25)).heap.size = w.heap.size + 1 := by simp
 have b1 : w1.heap[w.heap.size]? = some (.cells #[.int .i64 0, .int .i64 0] 25 (0, 0)) := (hb1.block _ (by simp)).trans HB.out;have l1 : w.heap.size < w1.heap.size := (zge b1).1;have HX1 : Hid (Below w.heap.size w w1 ∧ w1.heap[w.heap.size]? = some (.cells #[.int .i64 0, .int .i64 0] 25 (0, 0)) ∧ w1.ownsRow (w.heap.size + 1) 93 5 (.slice a n cap) n (wordsCells t (lexAll t).1) ∧ n = (lexAll t).1.length) := ⟨bel_trans HA.out hb1, b1, by rw [hsA] at ho1; exact ho1, hn.symm⟩;clear hb1 ho1 b1 hn HA HB;dsimp only;go_wp2_with fail
 refine (HEO.out _).mono ?_;rintro e w2 ⟨rfl, hb2⟩;have hb12 : Below w1.heap.size w1 w2 := bel_trans ((Below.refl _ _).alloc (Nat.le_refl _) (.cells #[.int .i64 0, .int .i64 0] 25)) hb2;have hs2 : w1.heap.size + 1 ≤ w2.heap.size := by have := hb2.size; simp at this; exact this
 have HX2 : Hid (Below w.heap.size w w2 ∧ w2.heap[w.heap.size]? = some (.cells #[.int .i64 0, .int .i64 0] 25 (0, 0)) ∧ Below w1.heap.size w1 w2) := ⟨bel_trans HX1.out.1 hb12, (hb12.block _ l1).trans HX1.out.2.1, hb12⟩;clear hb2 hb12;have hA2 : Below w2.heap.size w2 (w2.alloc (.cells #[.slice a n cap, .int .i64 (endL t), .int .i64 (endC t), .int .i64 0, .int .i64 0, .int .i64 0, .int .i64 0, .int .i64 0, .int .i64 0, .int .i64 0] 60)) := bel_alloc (Below.refl _ _) _;obtain ⟨g, hg1, hg2, hpat⟩ := parser_at HX1.out.2.2.2 HX1.out.2.2.1 hts (PB := w2.heap.size) (by omega) (W' := (w2.alloc (.cells #[.slice a n cap, .int .i64 (endL t), .int .i64 (endC t), .int .i64 0, .int .i64 0, .int .i64 0, .int .i64 0, .int .i64 0, .int .i64 0, .int .i64 0] 60))) (bel_trans HX2.out.2.2 hA2) (World.alloc_heap_new w2 _) (by omega);have hlw2 : w.heap.size < w2.heap.size := by omega
 have hPT : PTab gb (w2.alloc (.cells #[.slice a n cap, .int .i64 (endL t), .int .i64 (endC t), .int .i64 0, .int .i64 0, .int .i64 0, .int .i64 0, .int .i64 0, .int .i64 0, .int .i64 0] 60)) := HTB.out.keep (bel_trans HX2.out.1 hA2);have hGT : GT gb (parseC t w2.heap.size g cap a) (w2.alloc (.cells #[.slice a n cap, .int .i64 (endL t), .int .i64 (endC t), .int .i64 0, .int .i64 0, .int .i64 0, .int .i64 0, .int .i64 0, .int .i64 0, .int .i64 0] 60)) := ⟨hPT.tw, hPT.pf, hPT.lv, hg2⟩
 have hk : GTk gb w2.heap.size := by
  have e1 := tw_lt HTB.out.tw;have e2 := pf_lt HTB.out.pf;have e3 := (lv_lt HTB.out.lv 0 (by omega)).1;exact ⟨by omega, by omega, by omega, fun l hl => by have := (lv_lt HTB.out.lv l hl).2; omega⟩
 have HPR : Hid (Calls prog 21 #[.pointer (some ⟨w2.heap.size, 0, none⟩)] (w2.alloc (.cells #[.slice a n cap, .int .i64 (endL t), .int .i64 (endC t), .int .i64 0, .int .i64 0, .int .i64 0, .int .i64 0, .int .i64 0, .int .i64 0, .int .i64 0] 60)) (retL (parseC t w2.heap.size g cap a) (programOf (parseC t w2.heap.size g cap a) [] st0) (w2.alloc (.cells #[.slice a n cap, .int .i64 (endL t), .int .i64 (endC t), .int .i64 0, .int .i64 0, .int .i64 0, .int .i64 0, .int .i64 0, .int .i64 0, .int .i64 0] 60)))) := program_any gb (parseC t w2.heap.size g cap a) st0 (w2.alloc (.cells #[.slice a n cap, .int .i64 (endL t), .int .i64 (endC t), .int .i64 0, .int .i64 0, .int .i64 0, .int .i64 0, .int .i64 0, .int .i64 0, .int .i64 0] 60)) hpat hGT (GT.chg hk) (by have := hk.1; show _ ≠ w2.heap.size; omega);have HX3 : Hid (Below w.heap.size w (w2.alloc (.cells #[.slice a n cap, .int .i64 (endL t), .int .i64 (endC t), .int .i64 0, .int .i64 0, .int .i64 0, .int .i64 0, .int .i64 0, .int .i64 0, .int .i64 0] 60)) ∧ (w2.alloc (.cells #[.slice a n cap, .int .i64 (endL t), .int .i64 (endC t), .int .i64 0, .int .i64 0, .int .i64 0, .int .i64 0, .int .i64 0, .int .i64 0, .int .i64 0] 60)).heap[w.heap.size]? = some (.cells #[.int .i64 0, .int .i64 0] 25 (0, 0)) ∧ (w2.alloc (.cells #[.slice a n cap, .int .i64 (endL t), .int .i64 (endC t), .int .i64 0, .int .i64 0, .int .i64 0, .int .i64 0, .int .i64 0, .int .i64 0, .int .i64 0] 60)).heap.size = w2.heap.size + 1) := ⟨bel_trans HX2.out.1 hA2, (hA2.block _ hlw2).trans HX2.out.2.1, by simp⟩;obtain ⟨R, hR⟩ : ∃ R, (programOf (parseC t w2.heap.size g cap a) [] st0) = R := ⟨_, rfl⟩;rw [hR] at HPR;have HRR : Hid ((programOf (parseC t w2.heap.size g cap a) [] st0) = R) := hR;obtain ⟨c, hc⟩ : ∃ c, parseC t w2.heap.size g cap a = c := ⟨_, rfl⟩;have hcPB : c.PB = w2.heap.size := by rw [← hc]; rfl
 rw [hc] at HPR;clear hA2 hpat hPT hGT hk hR hc;dsimp only;go_wp2_with fail
 refine HPR.out.mono ?_;rintro e w4 ⟨a2, cap2, bs, rfl, hl4, hp4, hg4⟩;rw [hcPB] at hg4;have hsz4 := hg4.size;have hs3 := HX3.out.2.2;have hb4 : Below w.heap.size w w4 := ⟨hg4.os.trans HX3.out.1.os, hg4.tape.trans HX3.out.1.tape, hg4.output.trans HX3.out.1.output, by have := HX3.out.1.size; omega, fun k hk => (hg4.block k (by omega) (by omega)).trans (HX3.out.1.block k hk)⟩;have b4 : w4.heap[w.heap.size]? = some (.cells #[.int .i64 0, .int .i64 0] 25 (0, 0)) := (hg4.block _ (by omega) (by omega)).trans HX3.out.2.1;have l4 : w.heap.size < w4.heap.size := (zge b4).1;have HX4 : Hid (Below w.heap.size w w4 ∧ w4.heap[w.heap.size]? = some (.cells #[.int .i64 0, .int .i64 0] 25 (0, 0)) ∧ ListAt w4 (w2.heap.size + 1) (.slice a2 R.1.length cap2) R.1 bs) := ⟨hb4, b4, by rw [hs3] at hl4; exact hl4⟩;have p5 := hp4.c5;have p7 := hp4.c7;have p8 := hp4.c8;have p9 := hp4.c9;rw [hcPB] at p5 p7 p8 p9;have r0 : w4.cell? ⟨w.heap.size, 0, none⟩ = some (.int .i64 0) := heap_cell b4 (by simp);have r1 : w4.cell? ⟨w.heap.size, 1, none⟩ = some (.int .i64 0) := heap_cell b4 (by simp);have f0 : w4.frozen? ⟨w.heap.size, 0, none⟩ = false := heap_frozen b4;have f1 : w4.frozen? ⟨w.heap.size, 1, none⟩ = false := heap_frozen b4;have nPB : w2.heap.size ≠ w.heap.size := by omega
 have lPB : w2.heap.size < w4.heap.size := by omega
 have HN2 : Hid (¬ 65536 < t.size ∧ ¬ (lexAll t).2 < t.size) := HN;clear hl4 hp4 hg4 hb4 b4 HW HEO HPOST
 by_cases he : R.2.e = 0
 ·have q0 : (R.2.e == 0) = true := by simpa using he
  have q1 : (R.2.e != 0) = false := by simpa using he
  dsimp only;go_wp2;have hset : ∀ k, k ≠ w.heap.size → k < w4.heap.size → (((w4.setCell ⟨w.heap.size, 0, none⟩ (.int .i64 0)).setCell ⟨w.heap.size, 1, none⟩ (.int .i64 0)).alloc (.cells #[.slice a2 R.1.length cap2, .int .i64 R.2.nodes] 64)).heap[k]? = w4.heap[k]? := fun k k1 k2 => (Below.heap_alloc _ _ _ (by rw [size_set, size_set]; exact k2)).trans ((heap_set_other k1).trans (heap_set_other k1));have hz : (((w4.setCell ⟨w.heap.size, 0, none⟩ (.int .i64 0)).setCell ⟨w.heap.size, 1, none⟩ (.int .i64 0)).alloc (.cells #[.slice a2 R.1.length cap2, .int .i64 R.2.nodes] 64)).heap[w.heap.size]? = some (.cells #[.int .i64 0, .int .i64 0] 25 (0, 0)) := (Below.heap_alloc _ _ _ (by rw [size_set, size_set]; exact l4)).trans (Eq.trans (heap_set_same (o := 1) (heap_set_same (o := 0) HX4.out.2.1 _) _) (by simp))
  have hb9 : (((w4.setCell ⟨w.heap.size, 0, none⟩ (.int .i64 0)).setCell ⟨w.heap.size, 1, none⟩ (.int .i64 0)).alloc (.cells #[.slice a2 R.1.length cap2, .int .i64 R.2.nodes] 64)).heap[w4.heap.size]? = some (.cells #[.slice a2 R.1.length cap2, .int .i64 R.2.nodes] 64 (0, 0)) := by
   have := World.alloc_heap_new ((w4.setCell ⟨w.heap.size, 0, none⟩ (.int .i64 0)).setCell ⟨w.heap.size, 1, none⟩ (.int .i64 0)) (.cells #[.slice a2 R.1.length cap2, .int .i64 R.2.nodes] 64);rw [size_set, size_set] at this;exact this
  have hbz : Below w.heap.size w (((w4.setCell ⟨w.heap.size, 0, none⟩ (.int .i64 0)).setCell ⟨w.heap.size, 1, none⟩ (.int .i64 0)).alloc (.cells #[.slice a2 R.1.length cap2, .int .i64 R.2.nodes] 64)) := bel_alloc (bel_set (bel_set HX4.out.1 (Nat.le_refl _) _) (Nat.le_refl _) _) _
  have hlz : ListAt (((w4.setCell ⟨w.heap.size, 0, none⟩ (.int .i64 0)).setCell ⟨w.heap.size, 1, none⟩ (.int .i64 0)).alloc (.cells #[.slice a2 R.1.length cap2, .int .i64 R.2.nodes] 64)) w.heap.size (.slice a2 R.1.length cap2) R.1 bs := by
   have hl := HX4.out.2.2.keep (W' := (((w4.setCell ⟨w.heap.size, 0, none⟩ (.int .i64 0)).setCell ⟨w.heap.size, 1, none⟩ (.int .i64 0)).alloc (.cells #[.slice a2 R.1.length cap2, .int .i64 R.2.nodes] 64))) (by simp [size_set]) (fun k k1 k2 => hset k (by omega) k2);refine ⟨⟨hl.own.1, ?_⟩, hl.hl, fun i t x ht hx => ?_⟩
   ·rcases hl.own.2 with e | ⟨g, cap, cur, e1, e2, e3⟩
    ·exact .inl e
    ·exact .inr ⟨g, cap, cur, e1, by omega, e3⟩
   ·obtain ⟨l, h, e1, e2, e3, e4⟩ := hl.sub i t x ht hx
    exact ⟨l, h, by omega, e2, e3, e4⟩
  have z0 := heap_cell (o := 0) hz (by simp; rfl);have z1 := heap_cell (o := 1) hz (by simp; rfl);refine bodyPost_ret (by simp [results, results10, go_sem, z0, z1]; rfl) rfl ?_;refine ⟨hbz, ?_⟩;rw [if_neg HN2.out.1, if_neg HN2.out.2];refine ⟨w2.heap.size, g, cap, a, .inr ?_⟩;rw [HRR.out];exact ⟨he, w4.heap.size, rfl, ⟨a2, cap2, bs, hb9, hlz⟩, by omega⟩
 ·have q0 : (R.2.e == 0) = false := by simpa using he
  have q1 : (R.2.e != 0) = true := by simpa using he
  dsimp only
  go_wp2_with (go_region)
  have hz : ((w4.setCell ⟨w.heap.size, 0, none⟩ (.int .i64 R.2.fl)).setCell ⟨w.heap.size, 1, none⟩ (.int .i64 R.2.fc)).drew.heap[w.heap.size]? = some (.cells #[.int .i64 R.2.fl, .int .i64 R.2.fc] 25 (0, 0)) := Eq.trans (heap_set_same (o := 1) (heap_set_same (o := 0) HX4.out.2.1 _) _) (by simp);have hbz : Below w.heap.size w ((w4.setCell ⟨w.heap.size, 0, none⟩ (.int .i64 R.2.fl)).setCell ⟨w.heap.size, 1, none⟩ (.int .i64 R.2.fc)).drew := (bel_set (bel_set HX4.out.1 (Nat.le_refl _) _) (Nat.le_refl _) _).drew;have z0 := heap_cell (o := 0) hz (by simp; rfl);have z1 := heap_cell (o := 1) hz (by simp; rfl);refine bodyPost_ret (by simp [results, results10, go_sem, z0, z1]; rfl) rfl ?_;refine ⟨hbz, ?_⟩;rw [if_neg HN2.out.1, if_neg HN2.out.2];refine ⟨w2.heap.size, g, cap, a, .inl ?_⟩;rw [HRR.out];exact ⟨he, rfl⟩
theorem parse_any (gb : Nat → Nat × Nat) (t : ByteArray) (w : World) (hT : PTab gb w) : Calls prog 10 #[.string t] w (parsePost t w) := by
 by_cases h1 : 65536 < t.size
 ·refine (parse_err t w 0 0 2 (by decide) (fun W hb => (words_any t W (hT.keep hb).lex (hT.keep hb).err).mono ?_)).mono ?_
  ·rintro e W' ⟨hb', h⟩
   rw [if_pos h1] at h;exact ⟨h, hb'⟩
  ·rintro e W ⟨rfl, hb⟩
   refine ⟨hb, ?_⟩;rw [if_pos h1]
 ·by_cases h2 : (lexAll t).2 < t.size
  ·refine (parse_err t w (posOf t (lexAll t).2).1 (posOf t (lexAll t).2).2 3 (by decide) (fun W hb => (words_any t W (hT.keep hb).lex (hT.keep hb).err).mono ?_)).mono ?_
   ·rintro e W' ⟨hb', h⟩
    rw [if_neg h1, if_pos h2] at h;exact ⟨h, hb'⟩
   ·rintro e W ⟨rfl, hb⟩
    refine ⟨hb, ?_⟩;rw [if_neg h1, if_pos h2]
  ·exact parse_ok gb t w hT h1 h2
end Go.Proofs.YtlonbaefdffbeaaGreatDoor

