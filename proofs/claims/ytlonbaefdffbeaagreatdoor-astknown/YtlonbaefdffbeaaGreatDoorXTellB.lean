import Derived.Test.YtlonbaefdffbeaaGreatDoorXTellA
namespace Go.Proofs.YtlonbaefdffbeaaGreatDoor
open Go.ChangeShapes Go.WideShapes Go.ChangeAt Go.RowKit Go.Proofs.Tryz
set_option linter.unusedSimpArgs false
set_option linter.unusedVariables false
set_option maxRecDepth 20000
set_option maxHeartbeats 4000000
open nodeT okT

theorem kids_take : ∀ (l : List Tr) (m : Nat), (kidsT l).take m = kidsT (l.take m)
 | [], m => by simp [kidsT]
 | t :: r, 0 => by simp [kidsT]
 | t :: r, m + 1 => by rw [kidsT, List.take_succ_cons, List.take_succ_cons, kidsT, kids_take r m]
theorem plain_any (bt x lo hi : Nat) (d : ND) (ps : List Tr) (a : Option Addr) (cap : Nat) (bs : List Nat) (h : Int) (l : List ByteArray) (w : World) (hs : SayAt w bt l) (ht : TG bt w) (he : NE w bt x lo hi d ps a cap bs h) (HN : Hid (∀ (i : Nat) (t : Tr), ps[i]? = some t → NOk t)) (hok : ndOk d ps.length = true) (hk : d.k = 7 ∨ d.k = 8 ∨ 11 ≤ d.k) (hk2 : d.k < 17) (hl : (l ++ plainT d (kidsT ps)).length ≤ 2000000000) (h8 : d.k = 8 → Calls prog 104 #[.pointer (some ⟨bt, 0, none⟩), .pointer (some ⟨x, 0, none⟩)] w (sayR bt (l ++ plainT d (kidsT ps)) w)) : Calls prog 104 #[.pointer (some ⟨bt, 0, none⟩), .pointer (some ⟨x, 0, none⟩)] w (sayR bt (l ++ plainT d (kidsT ps)) w) := by
 have hc : d.k = 7 ∨ d.k = 8 ∨ d.k = 11 ∨ d.k = 12 ∨ d.k = 13 ∨ d.k = 14 ∨ d.k = 15 ∨ d.k = 16 := by omega
 rcases hc with e | e | e | e | e | e | e | e
 ·by_cases hz : ps.length = 0
  ·exact plain_local0 bt x lo hi d ps a cap bs h l w hs ht he HN hok e hz hl
  ·exact plain_local1 bt x lo hi d ps a cap bs h l w hs ht he HN hok e (by omega) hl
 ·exact h8 e
 ·exact plain_break bt x lo hi d ps a cap bs h l w hs ht he HN hok e hl
 ·exact plain_cont bt x lo hi d ps a cap bs h l w hs ht he HN hok e hl
 ·exact plain_ret bt x lo hi d ps a cap bs h l w hs ht he HN hok e hl
 ·exact plain_out bt x lo hi d ps a cap bs h l w hs ht he HN hok e hl
 ·exact plain_assign bt x lo hi d ps a cap bs h l w hs ht he HN hok e hl
 ·exact plain_value bt x lo hi d ps a cap bs h l w hs ht he HN hok e hl
theorem plain_empty (bt x lo hi : Nat) (d : ND) (ps : List Tr) (a : Option Addr) (cap : Nat) (bs : List Nat) (h : Int) (l : List ByteArray) (w : World) (hs : SayAt w bt l) (ht : TG bt w) (he : NE w bt x lo hi d ps a cap bs h) (HN : Hid (∀ (i : Nat) (t : Tr), ps[i]? = some t → NOk t)) (hok : ndOk d ps.length = true) (hk : d.k = 8) : Calls prog 104 #[.pointer (some ⟨bt, 0, none⟩), .pointer (some ⟨x, 0, none⟩)] w (sayR bt (l ++ plainT d (kidsT ps)) w) := by
 have n0 : w.cell? ⟨x, 0, none⟩ = some (.int .i64 d.k) := heap_cell he.blk (by simp [nodeCells]);rw [hk] at n0;have e0 : plainT d (kidsT ps) = [] := by unfold plainT; simp [hk]
 rw [e0, List.append_nil];have HS : Hid (SayAt w bt l) := hs;clear hs ht he hok
 go_enter func104, ntmps104
 go_wp2;go_end0;exact ⟨rfl, HS.out, Oth.refl _ _⟩
theorem stmt_block (bt x lo hi : Nat) (d : ND) (ps : List Tr) (a : Option Addr) (cap : Nat) (bs : List Nat) (h : Int) (l : List ByteArray) (w : World) (hs : SayAt w bt l) (ht : TG bt w) (he : NE w bt x lo hi d ps a cap bs h) (HN : Hid (∀ (i : Nat) (t : Tr), ps[i]? = some t → NOk t)) (hok : ndOk d ps.length = true) (hk : d.k = 6)  (hl : (l ++ stmtT d (kidsT ps)).length ≤ 2000000000) : Calls prog 70 #[.pointer (some ⟨bt, 0, none⟩), .pointer (some ⟨x, 0, none⟩)] w (sayR bt (l ++ stmtT d (kidsT ps)) w) := by
 have ok := okIs hok;have lB := hs.lt;have HS : Hid (SayAt w bt l ∧ TG bt w) := ⟨hs, ht⟩;have HE : Hid (∀ W, Oth bt w W → NE W bt x lo hi d ps a cap bs h) := fun W hW => he.keep hW;have xl : x < bt := he.x
 have heq : l ++ stmtT d (kidsT ps) = l ++ ([⟨#[123]⟩] : List ByteArray) ++ joinT (kidsT ps) ++ ([⟨#[125]⟩] : List ByteArray) := by
  unfold stmtT; simp [hk]
 rw [heq] at hl ⊢;have HLN : Hid ((l ++ ([⟨#[123]⟩] : List ByteArray) ++ joinT (kidsT ps) ++ ([⟨#[125]⟩] : List ByteArray)).length ≤ 2000000000) := hl;have hhi : hi ≤ bt := he.hi;have hcap := he.row.hcap;have hpl := ok.len;have p0 : (0 : Int) ≤ (ps.length : Int) := by omega
 have HX0 : Hid (SayAt w bt l ∧ Oth bt w w) := ⟨hs, Oth.refl _ _⟩;have hz := (HE.out w HX0.out.2).blk;have n0 := nc0 hz;rw [hk] at n0;have n3 := nc3 hz;have n4 := nc4 hz;have n11 := nc11 hz;clear hz;clear hs ht he hok hl heq
 go_enter func70, ntmps70
 go_wp2_with fail
 refine (say1 bt _ (⟨#[123]⟩) w HX0.out.1 (by have := HLN.out; simp only [zla, zlc, zln] at this ⊢; omega)).mono ?_;rintro e w1 ⟨rfl, hs1, hb1⟩;have HX1 : Hid (SayAt w1 bt (l ++ ([⟨#[123]⟩] : List ByteArray)) ∧ Oth bt w w1) := ⟨hs1, HX0.out.2.tr hb1⟩;clear hs1 hb1;clear n0 n3 n4 n11;have hz := (HE.out w1 HX1.out.2).blk;have n0 := nc0 hz;rw [hk] at n0;have n3 := nc3 hz;have n4 := nc4 hz;have n11 := nc11 hz;clear hz;dsimp only;go_wp2_with fail
 refine (each_any bt lo hi cap a ps bs _ w1 HX1.out.1 (HS.out.2.keep HX1.out.2.bel) (HE.out w1 HX1.out.2).row hhi HN hpl (by have := HLN.out; simp only [zla, zlc, zln] at this ⊢; omega)).mono ?_;rintro e w2 ⟨rfl, hs1, hb1⟩;have HX2 : Hid (SayAt w2 bt (l ++ ([⟨#[123]⟩] : List ByteArray) ++ joinT (kidsT ps)) ∧ Oth bt w w2) := ⟨hs1, HX1.out.2.tr hb1⟩;clear hs1 hb1;clear n0 n3 n4 n11;have hz := (HE.out w2 HX2.out.2).blk;have n0 := nc0 hz;rw [hk] at n0;have n3 := nc3 hz;have n4 := nc4 hz;have n11 := nc11 hz;clear hz;dsimp only;go_wp2_with fail
 refine (say1 bt _ (⟨#[125]⟩) w2 HX2.out.1 (by have := HLN.out; simp only [zla, zlc, zln] at this ⊢; omega)).mono ?_;rintro e w3 ⟨rfl, hs1, hb1⟩;have HX3 : Hid (SayAt w3 bt (l ++ ([⟨#[123]⟩] : List ByteArray) ++ joinT (kidsT ps) ++ ([⟨#[125]⟩] : List ByteArray)) ∧ Oth bt w w3) := ⟨hs1, HX2.out.2.tr hb1⟩;clear hs1 hb1;clear n0 n3 n4 n11;have hz := (HE.out w3 HX3.out.2).blk;have n0 := nc0 hz;rw [hk] at n0;have n3 := nc3 hz;have n4 := nc4 hz;have n11 := nc11 hz;clear hz;dsimp only;go_wp2;go_end0;exact ⟨rfl, HX3.out⟩
theorem stmt_if2 (bt x lo hi : Nat) (d : ND) (ps : List Tr) (a : Option Addr) (cap : Nat) (bs : List Nat) (h : Int) (l : List ByteArray) (w : World) (hs : SayAt w bt l) (ht : TG bt w) (he : NE w bt x lo hi d ps a cap bs h) (HN : Hid (∀ (i : Nat) (t : Tr), ps[i]? = some t → NOk t)) (hok : ndOk d ps.length = true) (hk : d.k = 9) (hz : ps.length = 2) (hl : (l ++ stmtT d (kidsT ps)).length ≤ 2000000000) : Calls prog 70 #[.pointer (some ⟨bt, 0, none⟩), .pointer (some ⟨x, 0, none⟩)] w (sayR bt (l ++ stmtT d (kidsT ps)) w) := by
 have ok := okIs hok;have lB := hs.lt;have HS : Hid (SayAt w bt l ∧ TG bt w) := ⟨hs, ht⟩;have HE : Hid (∀ W, Oth bt w W → NE W bt x lo hi d ps a cap bs h) := fun W hW => he.keep hW;have xl : x < bt := he.x;have hlen : 2 ≤ ps.length := by unfold ndOk at hok; simp [hk] at hok; omega
 have hz1 : (ps.length : Int) = 2 := by omega
 have hz3 : ¬ (2 : Int) < (ps.length : Int) := by omega
 have hz4 : decide (2 < ps.length) = false := decide_eq_false (by omega);have hz5 : ¬ 2 < ps.length := by omega
 obtain ⟨t1, ht1⟩ : ∃ t, ps[1]? = some t := ⟨_, List.getElem?_eq_getElem (by omega)⟩;obtain ⟨x1, hx1⟩ : ∃ x, bs[1]? = some x := ⟨_, List.getElem?_eq_getElem (by have := he.row.hl; omega)⟩;obtain ⟨g, hga, hg1, hg2, _⟩ := he.row.hrow (by intro hz; rw [hz] at hlen; simp at hlen)
 have HCX : Hid (∀ W, Oth bt w W → W.cell? ⟨g, 1, none⟩ = some (.pointer (some ⟨x1, 0, none⟩)) ∧ TreeAt W lo hi t1 x1) := fun W hW => by
  have hr := (he.keep hW).row;obtain ⟨g', e1, _, _, e4⟩ := hr.hrow (by intro hz; rw [hz] at hlen; simp at hlen);rw [hga] at e1
  injection e1 with e1
  injection e1 with e1
  subst e1;exact ⟨e4 1 x1 hx1, hr.sub 1 t1 x1 ht1 hx1⟩
 have HN1 : Hid (NOk t1) := HN.out 1 t1 ht1
 have heq : l ++ stmtT d (kidsT ps) = l ++ ([⟨#[105, 102]⟩] : List ByteArray) ++ listT (kidsT (ps.take 1)) ++ bodyT (t1.d.k, nodeT t1) := by
  unfold stmtT; simp [hk, kid_eq ht1, kids_len, hz5, kids_take]
 rw [heq] at hl ⊢;have HLN : Hid ((l ++ ([⟨#[105, 102]⟩] : List ByteArray) ++ listT (kidsT (ps.take 1)) ++ bodyT (t1.d.k, nodeT t1)).length ≤ 2000000000) := hl;have hhi : hi ≤ bt := he.hi;have hcap := he.row.hcap;have hpl := ok.len;have p0 : (0 : Int) ≤ (ps.length : Int) := by omega
 have p1 : 1 ≤ ps.length := by omega
 have p1i : (1 : Int) ≤ (ps.length : Int) := by omega
 have pci : (ps.length : Int) ≤ (cap : Int) := by omega
 have HX0 : Hid (SayAt w bt l ∧ Oth bt w w) := ⟨hs, Oth.refl _ _⟩;have hz := (HE.out w HX0.out.2).blk;have n0 := nc0 hz;rw [hk] at n0;have n3 := nc3 hz;have n4 := nc4 hz;have n11 := nc11 hz;rw [hga] at n11;have cx1 := (HCX.out w HX0.out.2).1;clear hz;clear hs ht he hok hl heq hz hz1 hz5
 go_enter func70, ntmps70
 go_wp2_with fail
 refine (say1 bt _ (⟨#[105, 102]⟩) w HX0.out.1 (by have := HLN.out; simp only [zla, zlc, zln] at this ⊢; omega)).mono ?_;rintro e w1 ⟨rfl, hs1, hb1⟩;have HX1 : Hid (SayAt w1 bt (l ++ ([⟨#[105, 102]⟩] : List ByteArray)) ∧ Oth bt w w1) := ⟨hs1, HX0.out.2.tr hb1⟩;clear hs1 hb1;clear n0 n3 n4 n11 cx1;have hz := (HE.out w1 HX1.out.2).blk;have n0 := nc0 hz;rw [hk] at n0;have n3 := nc3 hz;have n4 := nc4 hz;have n11 := nc11 hz;rw [hga] at n11;have cx1 := (HCX.out w1 HX1.out.2).1;clear hz;dsimp only;go_wp2_with fail
 have htk : (ps.take 1).length = 1 := by rw [List.length_take]; omega
 have hls := list_say bt lo hi cap (some ⟨g, 0, none⟩) (ps.take 1) (bs.take 1) (l ++ ([⟨#[105, 102]⟩] : List ByteArray)) w1 HX1.out.1 (HS.out.2.keep HX1.out.2.bel) ((hga ▸ (HE.out w1 HX1.out.2).row).take 1) hhi (fun i t h => HN.out i t (take_get h)) (by rw [htk]; omega) (by have := HLN.out; simp only [zla, zlc, zln] at this ⊢; omega);rw [htk] at hls;refine hls.mono ?_;clear hls;rintro e w2 ⟨rfl, hs1, hb1⟩;have HX2 : Hid (SayAt w2 bt (l ++ ([⟨#[105, 102]⟩] : List ByteArray) ++ listT (kidsT (ps.take 1))) ∧ Oth bt w w2) := ⟨hs1, HX1.out.2.tr hb1⟩;clear hs1 hb1;clear n0 n3 n4 n11 cx1;have hz := (HE.out w2 HX2.out.2).blk;have n0 := nc0 hz;rw [hk] at n0;have n3 := nc3 hz;have n4 := nc4 hz;have n11 := nc11 hz;rw [hga] at n11;have cx1 := (HCX.out w2 HX2.out.2).1;clear hz;dsimp only;go_wp2_with fail
 refine (body_any bt x1 lo hi t1 _ w2 HX2.out.1 (HS.out.2.keep HX2.out.2.bel) (HCX.out w2 HX2.out.2).2 hhi HN1 (by have := HLN.out; simp only [zla, zlc, zln] at this ⊢; omega)).mono ?_;rintro e w3 ⟨rfl, hs1, hb1⟩;have HX3 : Hid (SayAt w3 bt (l ++ ([⟨#[105, 102]⟩] : List ByteArray) ++ listT (kidsT (ps.take 1)) ++ bodyT (t1.d.k, nodeT t1)) ∧ Oth bt w w3) := ⟨hs1, HX2.out.2.tr hb1⟩;clear hs1 hb1;clear n0 n3 n4 n11 cx1;have hz := (HE.out w3 HX3.out.2).blk;have n0 := nc0 hz;rw [hk] at n0;have n3 := nc3 hz;have n4 := nc4 hz;have n11 := nc11 hz;rw [hga] at n11;have cx1 := (HCX.out w3 HX3.out.2).1;clear hz;dsimp only;go_wp2;go_end0;exact ⟨rfl, HX3.out⟩
theorem stmt_if3 (bt x lo hi : Nat) (d : ND) (ps : List Tr) (a : Option Addr) (cap : Nat) (bs : List Nat) (h : Int) (l : List ByteArray) (w : World) (hs : SayAt w bt l) (ht : TG bt w) (he : NE w bt x lo hi d ps a cap bs h) (HN : Hid (∀ (i : Nat) (t : Tr), ps[i]? = some t → NOk t)) (hok : ndOk d ps.length = true) (hk : d.k = 9) (hz : 2 < ps.length) (hl : (l ++ stmtT d (kidsT ps)).length ≤ 2000000000) : Calls prog 70 #[.pointer (some ⟨bt, 0, none⟩), .pointer (some ⟨x, 0, none⟩)] w (sayR bt (l ++ stmtT d (kidsT ps)) w) := by
 have ok := okIs hok;have lB := hs.lt;have HS : Hid (SayAt w bt l ∧ TG bt w) := ⟨hs, ht⟩;have HE : Hid (∀ W, Oth bt w W → NE W bt x lo hi d ps a cap bs h) := fun W hW => he.keep hW;have xl : x < bt := he.x;have hlen : 3 ≤ ps.length := by omega
 have hz3 : (2 : Int) < (ps.length : Int) := by omega
 obtain ⟨t1, ht1⟩ : ∃ t, ps[1]? = some t := ⟨_, List.getElem?_eq_getElem (by omega)⟩;obtain ⟨x1, hx1⟩ : ∃ x, bs[1]? = some x := ⟨_, List.getElem?_eq_getElem (by have := he.row.hl; omega)⟩;obtain ⟨t2, ht2⟩ : ∃ t, ps[2]? = some t := ⟨_, List.getElem?_eq_getElem (by omega)⟩;obtain ⟨x2, hx2⟩ : ∃ x, bs[2]? = some x := ⟨_, List.getElem?_eq_getElem (by have := he.row.hl; omega)⟩;obtain ⟨g, hga, hg1, hg2, _⟩ := he.row.hrow (by intro hz; rw [hz] at hlen; simp at hlen)
 have HCX : Hid (∀ W, Oth bt w W → W.cell? ⟨g, 1, none⟩ = some (.pointer (some ⟨x1, 0, none⟩)) ∧ TreeAt W lo hi t1 x1 ∧ W.cell? ⟨g, 2, none⟩ = some (.pointer (some ⟨x2, 0, none⟩)) ∧ TreeAt W lo hi t2 x2) := fun W hW => by
  have hr := (he.keep hW).row;obtain ⟨g', e1, _, _, e4⟩ := hr.hrow (by intro hz; rw [hz] at hlen; simp at hlen);rw [hga] at e1
  injection e1 with e1
  injection e1 with e1
  subst e1;exact ⟨e4 1 x1 hx1, hr.sub 1 t1 x1 ht1 hx1, e4 2 x2 hx2, hr.sub 2 t2 x2 ht2 hx2⟩
 have HN1 : Hid (NOk t1) := HN.out 1 t1 ht1;have HN2 : Hid (NOk t2) := HN.out 2 t2 ht2
 have heq : l ++ stmtT d (kidsT ps) = l ++ ([⟨#[105, 102]⟩] : List ByteArray) ++ listT (kidsT (ps.take 1)) ++ bodyT (t1.d.k, nodeT t1) ++ ([⟨#[101, 108, 115, 101]⟩] : List ByteArray) ++ bodyT (t2.d.k, nodeT t2) := by
  unfold stmtT; simp [hk, kid_eq ht1, kid_eq ht2, kids_len, hz, kids_take]
 rw [heq] at hl ⊢;have HLN : Hid ((l ++ ([⟨#[105, 102]⟩] : List ByteArray) ++ listT (kidsT (ps.take 1)) ++ bodyT (t1.d.k, nodeT t1) ++ ([⟨#[101, 108, 115, 101]⟩] : List ByteArray) ++ bodyT (t2.d.k, nodeT t2)).length ≤ 2000000000) := hl;have hhi : hi ≤ bt := he.hi;have hcap := he.row.hcap;have hpl := ok.len;have p0 : (0 : Int) ≤ (ps.length : Int) := by omega
 have p1 : 1 ≤ ps.length := by omega
 have p1i : (1 : Int) ≤ (ps.length : Int) := by omega
 have pci : (ps.length : Int) ≤ (cap : Int) := by omega
 have HX0 : Hid (SayAt w bt l ∧ Oth bt w w) := ⟨hs, Oth.refl _ _⟩;have hz := (HE.out w HX0.out.2).blk;have n0 := nc0 hz;rw [hk] at n0;have n3 := nc3 hz;have n4 := nc4 hz;have n11 := nc11 hz;rw [hga] at n11;have cx1 := (HCX.out w HX0.out.2).1;have cx2 := (HCX.out w HX0.out.2).2.2.1;clear hz;clear hs ht he hok hl heq
 go_enter func70, ntmps70
 go_wp2_with fail
 refine (say1 bt _ (⟨#[105, 102]⟩) w HX0.out.1 (by have := HLN.out; simp only [zla, zlc, zln] at this ⊢; omega)).mono ?_;rintro e w1 ⟨rfl, hs1, hb1⟩;have HX1 : Hid (SayAt w1 bt (l ++ ([⟨#[105, 102]⟩] : List ByteArray)) ∧ Oth bt w w1) := ⟨hs1, HX0.out.2.tr hb1⟩;clear hs1 hb1;clear n0 n3 n4 n11 cx1 cx2;have hz := (HE.out w1 HX1.out.2).blk;have n0 := nc0 hz;rw [hk] at n0;have n3 := nc3 hz;have n4 := nc4 hz;have n11 := nc11 hz;rw [hga] at n11;have cx1 := (HCX.out w1 HX1.out.2).1;have cx2 := (HCX.out w1 HX1.out.2).2.2.1;clear hz;dsimp only;go_wp2_with fail
 have htk : (ps.take 1).length = 1 := by rw [List.length_take]; omega
 have hls := list_say bt lo hi cap (some ⟨g, 0, none⟩) (ps.take 1) (bs.take 1) (l ++ ([⟨#[105, 102]⟩] : List ByteArray)) w1 HX1.out.1 (HS.out.2.keep HX1.out.2.bel) ((hga ▸ (HE.out w1 HX1.out.2).row).take 1) hhi (fun i t h => HN.out i t (take_get h)) (by rw [htk]; omega) (by have := HLN.out; simp only [zla, zlc, zln] at this ⊢; omega);rw [htk] at hls;refine hls.mono ?_;clear hls;rintro e w2 ⟨rfl, hs1, hb1⟩;have HX2 : Hid (SayAt w2 bt (l ++ ([⟨#[105, 102]⟩] : List ByteArray) ++ listT (kidsT (ps.take 1))) ∧ Oth bt w w2) := ⟨hs1, HX1.out.2.tr hb1⟩;clear hs1 hb1;clear n0 n3 n4 n11 cx1 cx2;have hz := (HE.out w2 HX2.out.2).blk;have n0 := nc0 hz;rw [hk] at n0;have n3 := nc3 hz;have n4 := nc4 hz;have n11 := nc11 hz;rw [hga] at n11;have cx1 := (HCX.out w2 HX2.out.2).1;have cx2 := (HCX.out w2 HX2.out.2).2.2.1;clear hz;dsimp only;go_wp2_with fail
 refine (body_any bt x1 lo hi t1 _ w2 HX2.out.1 (HS.out.2.keep HX2.out.2.bel) (HCX.out w2 HX2.out.2).2.1 hhi HN1 (by have := HLN.out; simp only [zla, zlc, zln] at this ⊢; omega)).mono ?_;rintro e w3 ⟨rfl, hs1, hb1⟩;have HX3 : Hid (SayAt w3 bt (l ++ ([⟨#[105, 102]⟩] : List ByteArray) ++ listT (kidsT (ps.take 1)) ++ bodyT (t1.d.k, nodeT t1)) ∧ Oth bt w w3) := ⟨hs1, HX2.out.2.tr hb1⟩;clear hs1 hb1;clear n0 n3 n4 n11 cx1 cx2;have hz := (HE.out w3 HX3.out.2).blk;have n0 := nc0 hz;rw [hk] at n0;have n3 := nc3 hz;have n4 := nc4 hz;have n11 := nc11 hz;rw [hga] at n11;have cx1 := (HCX.out w3 HX3.out.2).1;have cx2 := (HCX.out w3 HX3.out.2).2.2.1;clear hz;dsimp only;go_wp2_with fail
 refine (say1 bt _ (⟨#[101, 108, 115, 101]⟩) w3 HX3.out.1 (by have := HLN.out; simp only [zla, zlc, zln] at this ⊢; omega)).mono ?_;rintro e w4 ⟨rfl, hs1, hb1⟩;have HX4 : Hid (SayAt w4 bt (l ++ ([⟨#[105, 102]⟩] : List ByteArray) ++ listT (kidsT (ps.take 1)) ++ bodyT (t1.d.k, nodeT t1) ++ ([⟨#[101, 108, 115, 101]⟩] : List ByteArray)) ∧ Oth bt w w4) := ⟨hs1, HX3.out.2.tr hb1⟩;clear hs1 hb1;clear n0 n3 n4 n11 cx1 cx2;have hz := (HE.out w4 HX4.out.2).blk;have n0 := nc0 hz;rw [hk] at n0;have n3 := nc3 hz;have n4 := nc4 hz;have n11 := nc11 hz;rw [hga] at n11;have cx1 := (HCX.out w4 HX4.out.2).1;have cx2 := (HCX.out w4 HX4.out.2).2.2.1;clear hz;dsimp only;go_wp2_with fail
 refine (body_any bt x2 lo hi t2 _ w4 HX4.out.1 (HS.out.2.keep HX4.out.2.bel) (HCX.out w4 HX4.out.2).2.2.2 hhi HN2 (by have := HLN.out; simp only [zla, zlc, zln] at this ⊢; omega)).mono ?_;rintro e w5 ⟨rfl, hs1, hb1⟩;have HX5 : Hid (SayAt w5 bt (l ++ ([⟨#[105, 102]⟩] : List ByteArray) ++ listT (kidsT (ps.take 1)) ++ bodyT (t1.d.k, nodeT t1) ++ ([⟨#[101, 108, 115, 101]⟩] : List ByteArray) ++ bodyT (t2.d.k, nodeT t2)) ∧ Oth bt w w5) := ⟨hs1, HX4.out.2.tr hb1⟩;clear hs1 hb1;clear n0 n3 n4 n11 cx1 cx2;have hz := (HE.out w5 HX5.out.2).blk;have n0 := nc0 hz;rw [hk] at n0;have n3 := nc3 hz;have n4 := nc4 hz;have n11 := nc11 hz;rw [hga] at n11;have cx1 := (HCX.out w5 HX5.out.2).1;have cx2 := (HCX.out w5 HX5.out.2).2.2.1;clear hz;dsimp only;go_wp2;go_end0;exact ⟨rfl, HX5.out⟩
theorem stmt_while (bt x lo hi : Nat) (d : ND) (ps : List Tr) (a : Option Addr) (cap : Nat) (bs : List Nat) (h : Int) (l : List ByteArray) (w : World) (hs : SayAt w bt l) (ht : TG bt w) (he : NE w bt x lo hi d ps a cap bs h) (HN : Hid (∀ (i : Nat) (t : Tr), ps[i]? = some t → NOk t)) (hok : ndOk d ps.length = true) (hk : d.k = 10)  (hl : (l ++ stmtT d (kidsT ps)).length ≤ 2000000000) : Calls prog 70 #[.pointer (some ⟨bt, 0, none⟩), .pointer (some ⟨x, 0, none⟩)] w (sayR bt (l ++ stmtT d (kidsT ps)) w) := by
 have ok := okIs hok;have lB := hs.lt;have HS : Hid (SayAt w bt l ∧ TG bt w) := ⟨hs, ht⟩;have HE : Hid (∀ W, Oth bt w W → NE W bt x lo hi d ps a cap bs h) := fun W hW => he.keep hW;have xl : x < bt := he.x;have hlen : 2 ≤ ps.length := by unfold ndOk at hok; simp [hk] at hok; omega
 obtain ⟨t1, ht1⟩ : ∃ t, ps[1]? = some t := ⟨_, List.getElem?_eq_getElem (by omega)⟩;obtain ⟨x1, hx1⟩ : ∃ x, bs[1]? = some x := ⟨_, List.getElem?_eq_getElem (by have := he.row.hl; omega)⟩;obtain ⟨g, hga, hg1, hg2, _⟩ := he.row.hrow (by intro hz; rw [hz] at hlen; simp at hlen)
 have HCX : Hid (∀ W, Oth bt w W → W.cell? ⟨g, 1, none⟩ = some (.pointer (some ⟨x1, 0, none⟩)) ∧ TreeAt W lo hi t1 x1) := fun W hW => by
  have hr := (he.keep hW).row;obtain ⟨g', e1, _, _, e4⟩ := hr.hrow (by intro hz; rw [hz] at hlen; simp at hlen);rw [hga] at e1
  injection e1 with e1
  injection e1 with e1
  subst e1;exact ⟨e4 1 x1 hx1, hr.sub 1 t1 x1 ht1 hx1⟩
 have HN1 : Hid (NOk t1) := HN.out 1 t1 ht1
 have heq : l ++ stmtT d (kidsT ps) = l ++ ([⟨#[119, 104, 105, 108, 101]⟩] : List ByteArray) ++ listT (kidsT (ps.take 1)) ++ bodyT (t1.d.k, nodeT t1) := by
  unfold stmtT; simp [hk, kid_eq ht1, kids_take]
 rw [heq] at hl ⊢;have HLN : Hid ((l ++ ([⟨#[119, 104, 105, 108, 101]⟩] : List ByteArray) ++ listT (kidsT (ps.take 1)) ++ bodyT (t1.d.k, nodeT t1)).length ≤ 2000000000) := hl;have hhi : hi ≤ bt := he.hi;have hcap := he.row.hcap;have hpl := ok.len;have p0 : (0 : Int) ≤ (ps.length : Int) := by omega
 have p1 : 1 ≤ ps.length := by omega
 have p1i : (1 : Int) ≤ (ps.length : Int) := by omega
 have pci : (ps.length : Int) ≤ (cap : Int) := by omega
 have HX0 : Hid (SayAt w bt l ∧ Oth bt w w) := ⟨hs, Oth.refl _ _⟩;have hz := (HE.out w HX0.out.2).blk;have n0 := nc0 hz;rw [hk] at n0;have n3 := nc3 hz;have n4 := nc4 hz;have n11 := nc11 hz;rw [hga] at n11;have cx1 := (HCX.out w HX0.out.2).1;clear hz;clear hs ht he hok hl heq
 go_enter func70, ntmps70
 go_wp2_with fail
 refine (say1 bt _ (⟨#[119, 104, 105, 108, 101]⟩) w HX0.out.1 (by have := HLN.out; simp only [zla, zlc, zln] at this ⊢; omega)).mono ?_;rintro e w1 ⟨rfl, hs1, hb1⟩;have HX1 : Hid (SayAt w1 bt (l ++ ([⟨#[119, 104, 105, 108, 101]⟩] : List ByteArray)) ∧ Oth bt w w1) := ⟨hs1, HX0.out.2.tr hb1⟩;clear hs1 hb1;clear n0 n3 n4 n11 cx1;have hz := (HE.out w1 HX1.out.2).blk;have n0 := nc0 hz;rw [hk] at n0;have n3 := nc3 hz;have n4 := nc4 hz;have n11 := nc11 hz;rw [hga] at n11;have cx1 := (HCX.out w1 HX1.out.2).1;clear hz;dsimp only;go_wp2_with fail
 have htk : (ps.take 1).length = 1 := by rw [List.length_take]; omega
 have hls := list_say bt lo hi cap (some ⟨g, 0, none⟩) (ps.take 1) (bs.take 1) (l ++ ([⟨#[119, 104, 105, 108, 101]⟩] : List ByteArray)) w1 HX1.out.1 (HS.out.2.keep HX1.out.2.bel) ((hga ▸ (HE.out w1 HX1.out.2).row).take 1) hhi (fun i t h => HN.out i t (take_get h)) (by rw [htk]; omega) (by have := HLN.out; simp only [zla, zlc, zln] at this ⊢; omega);rw [htk] at hls;refine hls.mono ?_;clear hls;rintro e w2 ⟨rfl, hs1, hb1⟩;have HX2 : Hid (SayAt w2 bt (l ++ ([⟨#[119, 104, 105, 108, 101]⟩] : List ByteArray) ++ listT (kidsT (ps.take 1))) ∧ Oth bt w w2) := ⟨hs1, HX1.out.2.tr hb1⟩;clear hs1 hb1;clear n0 n3 n4 n11 cx1;have hz := (HE.out w2 HX2.out.2).blk;have n0 := nc0 hz;rw [hk] at n0;have n3 := nc3 hz;have n4 := nc4 hz;have n11 := nc11 hz;rw [hga] at n11;have cx1 := (HCX.out w2 HX2.out.2).1;clear hz;dsimp only;go_wp2_with fail
 refine (body_any bt x1 lo hi t1 _ w2 HX2.out.1 (HS.out.2.keep HX2.out.2.bel) (HCX.out w2 HX2.out.2).2 hhi HN1 (by have := HLN.out; simp only [zla, zlc, zln] at this ⊢; omega)).mono ?_;rintro e w3 ⟨rfl, hs1, hb1⟩;have HX3 : Hid (SayAt w3 bt (l ++ ([⟨#[119, 104, 105, 108, 101]⟩] : List ByteArray) ++ listT (kidsT (ps.take 1)) ++ bodyT (t1.d.k, nodeT t1)) ∧ Oth bt w w3) := ⟨hs1, HX2.out.2.tr hb1⟩;clear hs1 hb1;clear n0 n3 n4 n11 cx1;have hz := (HE.out w3 HX3.out.2).blk;have n0 := nc0 hz;rw [hk] at n0;have n3 := nc3 hz;have n4 := nc4 hz;have n11 := nc11 hz;rw [hga] at n11;have cx1 := (HCX.out w3 HX3.out.2).1;clear hz;dsimp only;go_wp2;go_end0;exact ⟨rfl, HX3.out⟩
theorem stmt_plain (bt x lo hi : Nat) (d : ND) (ps : List Tr) (a : Option Addr) (cap : Nat) (bs : List Nat) (h : Int) (l : List ByteArray) (w : World) (hs : SayAt w bt l) (ht : TG bt w) (he : NE w bt x lo hi d ps a cap bs h) (HN : Hid (∀ (i : Nat) (t : Tr), ps[i]? = some t → NOk t)) (hok : ndOk d ps.length = true)  (hk : d.k = 7 ∨ d.k = 8 ∨ 11 ≤ d.k) (hk2 : d.k < 17) (hl : (l ++ stmtT d (kidsT ps)).length ≤ 2000000000) : Calls prog 70 #[.pointer (some ⟨bt, 0, none⟩), .pointer (some ⟨x, 0, none⟩)] w (sayR bt (l ++ stmtT d (kidsT ps)) w) := by
 have ok := okIs hok;have lB := hs.lt;have HS : Hid (SayAt w bt l ∧ TG bt w) := ⟨hs, ht⟩;have HE : Hid (∀ W, Oth bt w W → NE W bt x lo hi d ps a cap bs h) := fun W hW => he.keep hW;have xl : x < bt := he.x;have HOK : Hid (ndOk d ps.length = true) := hok;have HK : Hid ((d.k = 7 ∨ d.k = 8 ∨ 11 ≤ d.k) ∧ d.k < 17) := ⟨hk, hk2⟩;have k6 : ¬ d.k = 6 := by omega
 have k9 : ¬ d.k = 9 := by omega
 have k10 : ¬ d.k = 10 := by omega
 have b6 : (d.k == 6) = false := by simpa using k6
 have b9 : (d.k == 9) = false := by simpa using k9
 have b10 : (d.k == 10) = false := by simpa using k10
 have heq : l ++ stmtT d (kidsT ps) = l ++ plainT d (kidsT ps) ++ ([⟨#[59]⟩] : List ByteArray) := by
  unfold stmtT; rw [if_neg k6, if_neg k9, if_neg k10, List.append_assoc]
 rw [heq] at hl ⊢;have HLN : Hid ((l ++ plainT d (kidsT ps) ++ ([⟨#[59]⟩] : List ByteArray)).length ≤ 2000000000) := hl;have hhi : hi ≤ bt := he.hi;have hcap := he.row.hcap;have hpl := ok.len;have p0 : (0 : Int) ≤ (ps.length : Int) := by omega
 have HX0 : Hid (SayAt w bt l ∧ Oth bt w w) := ⟨hs, Oth.refl _ _⟩;have hz := (HE.out w HX0.out.2).blk;have n0 := nc0 hz;have n3 := nc3 hz;have n4 := nc4 hz;have n11 := nc11 hz;clear hz;clear hs ht he hok hl heq hk hk2
 go_enter func70, ntmps70
 go_wp2_with fail
 refine (plain_any bt x lo hi d ps a cap bs h _ w HX0.out.1 (HS.out.2.keep HX0.out.2.bel) (HE.out w HX0.out.2) HN HOK.out HK.out.1 HK.out.2 (by have := HLN.out; simp only [zla, zlc, zln] at this ⊢; omega) (fun e => plain_empty bt x lo hi d ps a cap bs h _ w HX0.out.1 (HS.out.2.keep HX0.out.2.bel) (HE.out w HX0.out.2) HN HOK.out e)).mono ?_;rintro e w1 ⟨rfl, hs1, hb1⟩;have HX1 : Hid (SayAt w1 bt (l ++ plainT d (kidsT ps)) ∧ Oth bt w w1) := ⟨hs1, HX0.out.2.tr hb1⟩;clear hs1 hb1;clear n0 n3 n4 n11;have hz := (HE.out w1 HX1.out.2).blk;have n0 := nc0 hz;have n3 := nc3 hz;have n4 := nc4 hz;have n11 := nc11 hz;clear hz;dsimp only;go_wp2_with fail
 refine (say1 bt _ (⟨#[59]⟩) w1 HX1.out.1 (by have := HLN.out; simp only [zla, zlc, zln] at this ⊢; omega)).mono ?_;rintro e w2 ⟨rfl, hs1, hb1⟩;have HX2 : Hid (SayAt w2 bt (l ++ plainT d (kidsT ps) ++ ([⟨#[59]⟩] : List ByteArray)) ∧ Oth bt w w2) := ⟨hs1, HX1.out.2.tr hb1⟩;clear hs1 hb1;clear n0 n3 n4 n11;have hz := (HE.out w2 HX2.out.2).blk;have n0 := nc0 hz;have n3 := nc3 hz;have n4 := nc4 hz;have n11 := nc11 hz;clear hz;dsimp only;go_wp2;go_end0;exact ⟨rfl, HX2.out⟩
theorem encl_un (bt x lo hi : Nat) (d : ND) (ps : List Tr) (a : Option Addr) (cap : Nat) (bs : List Nat) (h : Int) (l : List ByteArray) (w : World) (hs : SayAt w bt l) (ht : TG bt w) (he : NE w bt x lo hi d ps a cap bs h) (HN : Hid (∀ (i : Nat) (t : Tr), ps[i]? = some t → NOk t)) (hok : ndOk d ps.length = true) (hk : d.k = 20)  (hl : (l ++ enclT d (kidsT ps)).length ≤ 2000000000) : Calls prog 108 #[.pointer (some ⟨bt, 0, none⟩), .pointer (some ⟨x, 0, none⟩)] w (sayR bt (l ++ enclT d (kidsT ps)) w) := by
 have ok := okIs hok;have lB := hs.lt;have HS : Hid (SayAt w bt l ∧ TG bt w) := ⟨hs, ht⟩;have HE : Hid (∀ W, Oth bt w W → NE W bt x lo hi d ps a cap bs h) := fun W hW => he.keep hW;have xl : x < bt := he.x;have hlen : 1 ≤ ps.length := by unfold ndOk at hok; simp [hk] at hok; omega
 obtain ⟨t0, ht0⟩ : ∃ t, ps[0]? = some t := ⟨_, List.getElem?_eq_getElem (by omega)⟩;obtain ⟨x0, hx0⟩ : ∃ x, bs[0]? = some x := ⟨_, List.getElem?_eq_getElem (by have := he.row.hl; omega)⟩;obtain ⟨g, hga, hg1, hg2, _⟩ := he.row.hrow (by intro hz; rw [hz] at hlen; simp at hlen)
 have HCX : Hid (∀ W, Oth bt w W → W.cell? ⟨g, 0, none⟩ = some (.pointer (some ⟨x0, 0, none⟩)) ∧ TreeAt W lo hi t0 x0) := fun W hW => by
  have hr := (he.keep hW).row;obtain ⟨g', e1, _, _, e4⟩ := hr.hrow (by intro hz; rw [hz] at hlen; simp at hlen);rw [hga] at e1
  injection e1 with e1
  injection e1 with e1
  subst e1;exact ⟨e4 0 x0 hx0, hr.sub 0 t0 x0 ht0 hx0⟩
 have HN0 : Hid (NOk t0) := HN.out 0 t0 ht0
 have heq : l ++ enclT d (kidsT ps) = l ++ ([⟨#[40]⟩] : List ByteArray) ++ ([d.op] : List ByteArray) ++ nodeT t0 ++ ([⟨#[41]⟩] : List ByteArray) := by
  unfold enclT; simp [hk, kid_eq ht0]
 rw [heq] at hl ⊢;have HLN : Hid ((l ++ ([⟨#[40]⟩] : List ByteArray) ++ ([d.op] : List ByteArray) ++ nodeT t0 ++ ([⟨#[41]⟩] : List ByteArray)).length ≤ 2000000000) := hl;have hhi : hi ≤ bt := he.hi;have hcap := he.row.hcap;have hpl := ok.len;have p0 : (0 : Int) ≤ (ps.length : Int) := by omega
 have p1 : 1 ≤ ps.length := by omega
 have p1i : (1 : Int) ≤ (ps.length : Int) := by omega
 have pci : (ps.length : Int) ≤ (cap : Int) := by omega
 have HX0 : Hid (SayAt w bt l ∧ Oth bt w w) := ⟨hs, Oth.refl _ _⟩;have hz := (HE.out w HX0.out.2).blk;have n0 := nc0 hz;rw [hk] at n0;have n3 := nc3 hz;have n4 := nc4 hz;have n11 := nc11 hz;rw [hga] at n11;have cx0 := (HCX.out w HX0.out.2).1;clear hz;clear hs ht he hok hl heq
 go_enter func108, ntmps108
 go_wp2_with fail
 refine (say1 bt _ (⟨#[40]⟩) w HX0.out.1 (by have := HLN.out; simp only [zla, zlc, zln] at this ⊢; omega)).mono ?_;rintro e w1 ⟨rfl, hs1, hb1⟩;have HX1 : Hid (SayAt w1 bt (l ++ ([⟨#[40]⟩] : List ByteArray)) ∧ Oth bt w w1) := ⟨hs1, HX0.out.2.tr hb1⟩;clear hs1 hb1;clear n0 n3 n4 n11 cx0;have hz := (HE.out w1 HX1.out.2).blk;have n0 := nc0 hz;rw [hk] at n0;have n3 := nc3 hz;have n4 := nc4 hz;have n11 := nc11 hz;rw [hga] at n11;have cx0 := (HCX.out w1 HX1.out.2).1;clear hz;dsimp only;go_wp2_with fail
 refine (say1 bt _ (d.op) w1 HX1.out.1 (by have := HLN.out; simp only [zla, zlc, zln] at this ⊢; omega)).mono ?_;rintro e w2 ⟨rfl, hs1, hb1⟩;have HX2 : Hid (SayAt w2 bt (l ++ ([⟨#[40]⟩] : List ByteArray) ++ ([d.op] : List ByteArray)) ∧ Oth bt w w2) := ⟨hs1, HX1.out.2.tr hb1⟩;clear hs1 hb1;clear n0 n3 n4 n11 cx0;have hz := (HE.out w2 HX2.out.2).blk;have n0 := nc0 hz;rw [hk] at n0;have n3 := nc3 hz;have n4 := nc4 hz;have n11 := nc11 hz;rw [hga] at n11;have cx0 := (HCX.out w2 HX2.out.2).1;clear hz;dsimp only;go_wp2_with fail
 refine (HN0.out bt x0 lo hi _ w2 HX2.out.1 (HS.out.2.keep HX2.out.2.bel) (HCX.out w2 HX2.out.2).2 hhi (by have := HLN.out; simp only [zla, zlc, zln] at this ⊢; omega)).mono ?_;rintro e w3 ⟨rfl, hs1, hb1⟩;have HX3 : Hid (SayAt w3 bt (l ++ ([⟨#[40]⟩] : List ByteArray) ++ ([d.op] : List ByteArray) ++ nodeT t0) ∧ Oth bt w w3) := ⟨hs1, HX2.out.2.tr hb1⟩;clear hs1 hb1;clear n0 n3 n4 n11 cx0;have hz := (HE.out w3 HX3.out.2).blk;have n0 := nc0 hz;rw [hk] at n0;have n3 := nc3 hz;have n4 := nc4 hz;have n11 := nc11 hz;rw [hga] at n11;have cx0 := (HCX.out w3 HX3.out.2).1;clear hz;dsimp only;go_wp2_with fail
 refine (say1 bt _ (⟨#[41]⟩) w3 HX3.out.1 (by have := HLN.out; simp only [zla, zlc, zln] at this ⊢; omega)).mono ?_;rintro e w4 ⟨rfl, hs1, hb1⟩;have HX4 : Hid (SayAt w4 bt (l ++ ([⟨#[40]⟩] : List ByteArray) ++ ([d.op] : List ByteArray) ++ nodeT t0 ++ ([⟨#[41]⟩] : List ByteArray)) ∧ Oth bt w w4) := ⟨hs1, HX3.out.2.tr hb1⟩;clear hs1 hb1;clear n0 n3 n4 n11 cx0;have hz := (HE.out w4 HX4.out.2).blk;have n0 := nc0 hz;rw [hk] at n0;have n3 := nc3 hz;have n4 := nc4 hz;have n11 := nc11 hz;rw [hga] at n11;have cx0 := (HCX.out w4 HX4.out.2).1;clear hz;dsimp only;go_wp2;go_end0;exact ⟨rfl, HX4.out⟩
theorem encl_bin (bt x lo hi : Nat) (d : ND) (ps : List Tr) (a : Option Addr) (cap : Nat) (bs : List Nat) (h : Int) (l : List ByteArray) (w : World) (hs : SayAt w bt l) (ht : TG bt w) (he : NE w bt x lo hi d ps a cap bs h) (HN : Hid (∀ (i : Nat) (t : Tr), ps[i]? = some t → NOk t)) (hok : ndOk d ps.length = true) (hk : d.k = 21)  (hl : (l ++ enclT d (kidsT ps)).length ≤ 2000000000) : Calls prog 108 #[.pointer (some ⟨bt, 0, none⟩), .pointer (some ⟨x, 0, none⟩)] w (sayR bt (l ++ enclT d (kidsT ps)) w) := by
 have ok := okIs hok;have lB := hs.lt;have HS : Hid (SayAt w bt l ∧ TG bt w) := ⟨hs, ht⟩;have HE : Hid (∀ W, Oth bt w W → NE W bt x lo hi d ps a cap bs h) := fun W hW => he.keep hW;have xl : x < bt := he.x;have hlen : 2 ≤ ps.length := by unfold ndOk at hok; simp [hk] at hok; omega
 obtain ⟨t0, ht0⟩ : ∃ t, ps[0]? = some t := ⟨_, List.getElem?_eq_getElem (by omega)⟩;obtain ⟨x0, hx0⟩ : ∃ x, bs[0]? = some x := ⟨_, List.getElem?_eq_getElem (by have := he.row.hl; omega)⟩;obtain ⟨t1, ht1⟩ : ∃ t, ps[1]? = some t := ⟨_, List.getElem?_eq_getElem (by omega)⟩;obtain ⟨x1, hx1⟩ : ∃ x, bs[1]? = some x := ⟨_, List.getElem?_eq_getElem (by have := he.row.hl; omega)⟩;obtain ⟨g, hga, hg1, hg2, _⟩ := he.row.hrow (by intro hz; rw [hz] at hlen; simp at hlen)
 have HCX : Hid (∀ W, Oth bt w W → W.cell? ⟨g, 0, none⟩ = some (.pointer (some ⟨x0, 0, none⟩)) ∧ TreeAt W lo hi t0 x0 ∧ W.cell? ⟨g, 1, none⟩ = some (.pointer (some ⟨x1, 0, none⟩)) ∧ TreeAt W lo hi t1 x1) := fun W hW => by
  have hr := (he.keep hW).row;obtain ⟨g', e1, _, _, e4⟩ := hr.hrow (by intro hz; rw [hz] at hlen; simp at hlen);rw [hga] at e1
  injection e1 with e1
  injection e1 with e1
  subst e1;exact ⟨e4 0 x0 hx0, hr.sub 0 t0 x0 ht0 hx0, e4 1 x1 hx1, hr.sub 1 t1 x1 ht1 hx1⟩
 have HN0 : Hid (NOk t0) := HN.out 0 t0 ht0;have HN1 : Hid (NOk t1) := HN.out 1 t1 ht1
 have heq : l ++ enclT d (kidsT ps) = l ++ ([⟨#[40]⟩] : List ByteArray) ++ nodeT t0 ++ ([d.op] : List ByteArray) ++ nodeT t1 ++ ([⟨#[41]⟩] : List ByteArray) := by
  unfold enclT; simp [hk, kid_eq ht0, kid_eq ht1]
 rw [heq] at hl ⊢;have HLN : Hid ((l ++ ([⟨#[40]⟩] : List ByteArray) ++ nodeT t0 ++ ([d.op] : List ByteArray) ++ nodeT t1 ++ ([⟨#[41]⟩] : List ByteArray)).length ≤ 2000000000) := hl;have hhi : hi ≤ bt := he.hi;have hcap := he.row.hcap;have hpl := ok.len;have p0 : (0 : Int) ≤ (ps.length : Int) := by omega
 have p1 : 1 ≤ ps.length := by omega
 have p1i : (1 : Int) ≤ (ps.length : Int) := by omega
 have pci : (ps.length : Int) ≤ (cap : Int) := by omega
 have HX0 : Hid (SayAt w bt l ∧ Oth bt w w) := ⟨hs, Oth.refl _ _⟩;have hz := (HE.out w HX0.out.2).blk;have n0 := nc0 hz;rw [hk] at n0;have n3 := nc3 hz;have n4 := nc4 hz;have n11 := nc11 hz;rw [hga] at n11;have cx0 := (HCX.out w HX0.out.2).1;have cx1 := (HCX.out w HX0.out.2).2.2.1;clear hz;clear hs ht he hok hl heq
 go_enter func108, ntmps108
 go_wp2_with fail
 refine (say1 bt _ (⟨#[40]⟩) w HX0.out.1 (by have := HLN.out; simp only [zla, zlc, zln] at this ⊢; omega)).mono ?_;rintro e w1 ⟨rfl, hs1, hb1⟩;have HX1 : Hid (SayAt w1 bt (l ++ ([⟨#[40]⟩] : List ByteArray)) ∧ Oth bt w w1) := ⟨hs1, HX0.out.2.tr hb1⟩;clear hs1 hb1;clear n0 n3 n4 n11 cx0 cx1;have hz := (HE.out w1 HX1.out.2).blk;have n0 := nc0 hz;rw [hk] at n0;have n3 := nc3 hz;have n4 := nc4 hz;have n11 := nc11 hz;rw [hga] at n11;have cx0 := (HCX.out w1 HX1.out.2).1;have cx1 := (HCX.out w1 HX1.out.2).2.2.1;clear hz;dsimp only;go_wp2_with fail
 refine (HN0.out bt x0 lo hi _ w1 HX1.out.1 (HS.out.2.keep HX1.out.2.bel) (HCX.out w1 HX1.out.2).2.1 hhi (by have := HLN.out; simp only [zla, zlc, zln] at this ⊢; omega)).mono ?_;rintro e w2 ⟨rfl, hs1, hb1⟩;have HX2 : Hid (SayAt w2 bt (l ++ ([⟨#[40]⟩] : List ByteArray) ++ nodeT t0) ∧ Oth bt w w2) := ⟨hs1, HX1.out.2.tr hb1⟩;clear hs1 hb1;clear n0 n3 n4 n11 cx0 cx1;have hz := (HE.out w2 HX2.out.2).blk;have n0 := nc0 hz;rw [hk] at n0;have n3 := nc3 hz;have n4 := nc4 hz;have n11 := nc11 hz;rw [hga] at n11;have cx0 := (HCX.out w2 HX2.out.2).1;have cx1 := (HCX.out w2 HX2.out.2).2.2.1;clear hz;dsimp only;go_wp2_with fail
 refine (say1 bt _ (d.op) w2 HX2.out.1 (by have := HLN.out; simp only [zla, zlc, zln] at this ⊢; omega)).mono ?_;rintro e w3 ⟨rfl, hs1, hb1⟩;have HX3 : Hid (SayAt w3 bt (l ++ ([⟨#[40]⟩] : List ByteArray) ++ nodeT t0 ++ ([d.op] : List ByteArray)) ∧ Oth bt w w3) := ⟨hs1, HX2.out.2.tr hb1⟩;clear hs1 hb1;clear n0 n3 n4 n11 cx0 cx1;have hz := (HE.out w3 HX3.out.2).blk;have n0 := nc0 hz;rw [hk] at n0;have n3 := nc3 hz;have n4 := nc4 hz;have n11 := nc11 hz;rw [hga] at n11;have cx0 := (HCX.out w3 HX3.out.2).1;have cx1 := (HCX.out w3 HX3.out.2).2.2.1;clear hz;dsimp only;go_wp2_with fail
 refine (HN1.out bt x1 lo hi _ w3 HX3.out.1 (HS.out.2.keep HX3.out.2.bel) (HCX.out w3 HX3.out.2).2.2.2 hhi (by have := HLN.out; simp only [zla, zlc, zln] at this ⊢; omega)).mono ?_;rintro e w4 ⟨rfl, hs1, hb1⟩;have HX4 : Hid (SayAt w4 bt (l ++ ([⟨#[40]⟩] : List ByteArray) ++ nodeT t0 ++ ([d.op] : List ByteArray) ++ nodeT t1) ∧ Oth bt w w4) := ⟨hs1, HX3.out.2.tr hb1⟩;clear hs1 hb1;clear n0 n3 n4 n11 cx0 cx1;have hz := (HE.out w4 HX4.out.2).blk;have n0 := nc0 hz;rw [hk] at n0;have n3 := nc3 hz;have n4 := nc4 hz;have n11 := nc11 hz;rw [hga] at n11;have cx0 := (HCX.out w4 HX4.out.2).1;have cx1 := (HCX.out w4 HX4.out.2).2.2.1;clear hz;dsimp only;go_wp2_with fail
 refine (say1 bt _ (⟨#[41]⟩) w4 HX4.out.1 (by have := HLN.out; simp only [zla, zlc, zln] at this ⊢; omega)).mono ?_;rintro e w5 ⟨rfl, hs1, hb1⟩;have HX5 : Hid (SayAt w5 bt (l ++ ([⟨#[40]⟩] : List ByteArray) ++ nodeT t0 ++ ([d.op] : List ByteArray) ++ nodeT t1 ++ ([⟨#[41]⟩] : List ByteArray)) ∧ Oth bt w w5) := ⟨hs1, HX4.out.2.tr hb1⟩;clear hs1 hb1;clear n0 n3 n4 n11 cx0 cx1;have hz := (HE.out w5 HX5.out.2).blk;have n0 := nc0 hz;rw [hk] at n0;have n3 := nc3 hz;have n4 := nc4 hz;have n11 := nc11 hz;rw [hga] at n11;have cx0 := (HCX.out w5 HX5.out.2).1;have cx1 := (HCX.out w5 HX5.out.2).2.2.1;clear hz;dsimp only;go_wp2;go_end0;exact ⟨rfl, HX5.out⟩
theorem encl_cast (bt x lo hi : Nat) (d : ND) (ps : List Tr) (a : Option Addr) (cap : Nat) (bs : List Nat) (h : Int) (l : List ByteArray) (w : World) (hs : SayAt w bt l) (ht : TG bt w) (he : NE w bt x lo hi d ps a cap bs h) (HN : Hid (∀ (i : Nat) (t : Tr), ps[i]? = some t → NOk t)) (hok : ndOk d ps.length = true) (hk : d.k = 22)  (hl : (l ++ enclT d (kidsT ps)).length ≤ 2000000000) : Calls prog 108 #[.pointer (some ⟨bt, 0, none⟩), .pointer (some ⟨x, 0, none⟩)] w (sayR bt (l ++ enclT d (kidsT ps)) w) := by
 have ok := okIs hok;have lB := hs.lt;have HS : Hid (SayAt w bt l ∧ TG bt w) := ⟨hs, ht⟩;have HE : Hid (∀ W, Oth bt w W → NE W bt x lo hi d ps a cap bs h) := fun W hW => he.keep hW;have xl : x < bt := he.x;have hlen : 1 ≤ ps.length := by unfold ndOk at hok; simp [hk] at hok; omega
 obtain ⟨t0, ht0⟩ : ∃ t, ps[0]? = some t := ⟨_, List.getElem?_eq_getElem (by omega)⟩;obtain ⟨x0, hx0⟩ : ∃ x, bs[0]? = some x := ⟨_, List.getElem?_eq_getElem (by have := he.row.hl; omega)⟩;obtain ⟨g, hga, hg1, hg2, _⟩ := he.row.hrow (by intro hz; rw [hz] at hlen; simp at hlen)
 have HCX : Hid (∀ W, Oth bt w W → W.cell? ⟨g, 0, none⟩ = some (.pointer (some ⟨x0, 0, none⟩)) ∧ TreeAt W lo hi t0 x0) := fun W hW => by
  have hr := (he.keep hW).row;obtain ⟨g', e1, _, _, e4⟩ := hr.hrow (by intro hz; rw [hz] at hlen; simp at hlen);rw [hga] at e1
  injection e1 with e1
  injection e1 with e1
  subst e1;exact ⟨e4 0 x0 hx0, hr.sub 0 t0 x0 ht0 hx0⟩
 have HN0 : Hid (NOk t0) := HN.out 0 t0 ht0
 have heq : l ++ enclT d (kidsT ps) = l ++ ([⟨#[40]⟩] : List ByteArray) ++ ([⟨#[40]⟩] : List ByteArray) ++ baseT d.ty ++ ([⟨#[41]⟩] : List ByteArray) ++ nodeT t0 ++ ([⟨#[41]⟩] : List ByteArray) := by
  unfold enclT; simp [hk, kid_eq ht0]
 rw [heq] at hl ⊢;have HLN : Hid ((l ++ ([⟨#[40]⟩] : List ByteArray) ++ ([⟨#[40]⟩] : List ByteArray) ++ baseT d.ty ++ ([⟨#[41]⟩] : List ByteArray) ++ nodeT t0 ++ ([⟨#[41]⟩] : List ByteArray)).length ≤ 2000000000) := hl;have hhi : hi ≤ bt := he.hi;have hcap := he.row.hcap;have hpl := ok.len;have p0 : (0 : Int) ≤ (ps.length : Int) := by omega
 have p1 : 1 ≤ ps.length := by omega
 have p1i : (1 : Int) ≤ (ps.length : Int) := by omega
 have pci : (ps.length : Int) ≤ (cap : Int) := by omega
 have HX0 : Hid (SayAt w bt l ∧ Oth bt w w) := ⟨hs, Oth.refl _ _⟩;have hz := (HE.out w HX0.out.2).blk;have n0 := nc0 hz;rw [hk] at n0;have n3 := nc3 hz;have n4 := nc4 hz;have n6 := nc6 hz;have n7 := nc7 hz;have n8 := nc8 hz;have n9 := nc9 hz;have n11 := nc11 hz;rw [hga] at n11;have cx0 := (HCX.out w HX0.out.2).1;clear hz;clear hs ht he hok hl heq
 go_enter func108, ntmps108
 go_wp2_with fail
 refine (say1 bt _ (⟨#[40]⟩) w HX0.out.1 (by have := HLN.out; simp only [zla, zlc, zln] at this ⊢; omega)).mono ?_;rintro e w1 ⟨rfl, hs1, hb1⟩;have HX1 : Hid (SayAt w1 bt (l ++ ([⟨#[40]⟩] : List ByteArray)) ∧ Oth bt w w1) := ⟨hs1, HX0.out.2.tr hb1⟩;clear hs1 hb1;clear n0 n3 n4 n6 n7 n8 n9 n11 cx0;have hz := (HE.out w1 HX1.out.2).blk;have n0 := nc0 hz;rw [hk] at n0;have n3 := nc3 hz;have n4 := nc4 hz;have n6 := nc6 hz;have n7 := nc7 hz;have n8 := nc8 hz;have n9 := nc9 hz;have n11 := nc11 hz;rw [hga] at n11;have cx0 := (HCX.out w1 HX1.out.2).1;clear hz;dsimp only;go_wp2_with fail
 refine (say1 bt _ (⟨#[40]⟩) w1 HX1.out.1 (by have := HLN.out; simp only [zla, zlc, zln] at this ⊢; omega)).mono ?_;rintro e w2 ⟨rfl, hs1, hb1⟩;have HX2 : Hid (SayAt w2 bt (l ++ ([⟨#[40]⟩] : List ByteArray) ++ ([⟨#[40]⟩] : List ByteArray)) ∧ Oth bt w w2) := ⟨hs1, HX1.out.2.tr hb1⟩;clear hs1 hb1;clear n0 n3 n4 n6 n7 n8 n9 n11 cx0;have hz := (HE.out w2 HX2.out.2).blk;have n0 := nc0 hz;rw [hk] at n0;have n3 := nc3 hz;have n4 := nc4 hz;have n6 := nc6 hz;have n7 := nc7 hz;have n8 := nc8 hz;have n9 := nc9 hz;have n11 := nc11 hz;rw [hga] at n11;have cx0 := (HCX.out w2 HX2.out.2).1;clear hz;dsimp only;go_wp2_with fail
 refine (base_any bt _ d.ty w2 HX2.out.1 ok.s0 ok.s9 (by have := HLN.out; simp only [zla, zlc, zln] at this ⊢; omega)).mono ?_;rintro e w3 ⟨rfl, hs1, hb1⟩;have HX3 : Hid (SayAt w3 bt (l ++ ([⟨#[40]⟩] : List ByteArray) ++ ([⟨#[40]⟩] : List ByteArray) ++ baseT d.ty) ∧ Oth bt w w3) := ⟨hs1, HX2.out.2.tr hb1⟩;clear hs1 hb1;clear n0 n3 n4 n6 n7 n8 n9 n11 cx0;have hz := (HE.out w3 HX3.out.2).blk;have n0 := nc0 hz;rw [hk] at n0;have n3 := nc3 hz;have n4 := nc4 hz;have n6 := nc6 hz;have n7 := nc7 hz;have n8 := nc8 hz;have n9 := nc9 hz;have n11 := nc11 hz;rw [hga] at n11;have cx0 := (HCX.out w3 HX3.out.2).1;clear hz;dsimp only;go_wp2_with fail
 refine (say1 bt _ (⟨#[41]⟩) w3 HX3.out.1 (by have := HLN.out; simp only [zla, zlc, zln] at this ⊢; omega)).mono ?_;rintro e w4 ⟨rfl, hs1, hb1⟩;have HX4 : Hid (SayAt w4 bt (l ++ ([⟨#[40]⟩] : List ByteArray) ++ ([⟨#[40]⟩] : List ByteArray) ++ baseT d.ty ++ ([⟨#[41]⟩] : List ByteArray)) ∧ Oth bt w w4) := ⟨hs1, HX3.out.2.tr hb1⟩;clear hs1 hb1;clear n0 n3 n4 n6 n7 n8 n9 n11 cx0;have hz := (HE.out w4 HX4.out.2).blk;have n0 := nc0 hz;rw [hk] at n0;have n3 := nc3 hz;have n4 := nc4 hz;have n6 := nc6 hz;have n7 := nc7 hz;have n8 := nc8 hz;have n9 := nc9 hz;have n11 := nc11 hz;rw [hga] at n11;have cx0 := (HCX.out w4 HX4.out.2).1;clear hz;dsimp only;go_wp2_with fail
 refine (HN0.out bt x0 lo hi _ w4 HX4.out.1 (HS.out.2.keep HX4.out.2.bel) (HCX.out w4 HX4.out.2).2 hhi (by have := HLN.out; simp only [zla, zlc, zln] at this ⊢; omega)).mono ?_;rintro e w5 ⟨rfl, hs1, hb1⟩;have HX5 : Hid (SayAt w5 bt (l ++ ([⟨#[40]⟩] : List ByteArray) ++ ([⟨#[40]⟩] : List ByteArray) ++ baseT d.ty ++ ([⟨#[41]⟩] : List ByteArray) ++ nodeT t0) ∧ Oth bt w w5) := ⟨hs1, HX4.out.2.tr hb1⟩;clear hs1 hb1;clear n0 n3 n4 n6 n7 n8 n9 n11 cx0;have hz := (HE.out w5 HX5.out.2).blk;have n0 := nc0 hz;rw [hk] at n0;have n3 := nc3 hz;have n4 := nc4 hz;have n6 := nc6 hz;have n7 := nc7 hz;have n8 := nc8 hz;have n9 := nc9 hz;have n11 := nc11 hz;rw [hga] at n11;have cx0 := (HCX.out w5 HX5.out.2).1;clear hz;dsimp only;go_wp2_with fail
 refine (say1 bt _ (⟨#[41]⟩) w5 HX5.out.1 (by have := HLN.out; simp only [zla, zlc, zln] at this ⊢; omega)).mono ?_;rintro e w6 ⟨rfl, hs1, hb1⟩;have HX6 : Hid (SayAt w6 bt (l ++ ([⟨#[40]⟩] : List ByteArray) ++ ([⟨#[40]⟩] : List ByteArray) ++ baseT d.ty ++ ([⟨#[41]⟩] : List ByteArray) ++ nodeT t0 ++ ([⟨#[41]⟩] : List ByteArray)) ∧ Oth bt w w6) := ⟨hs1, HX5.out.2.tr hb1⟩;clear hs1 hb1;clear n0 n3 n4 n6 n7 n8 n9 n11 cx0;have hz := (HE.out w6 HX6.out.2).blk;have n0 := nc0 hz;rw [hk] at n0;have n3 := nc3 hz;have n4 := nc4 hz;have n6 := nc6 hz;have n7 := nc7 hz;have n8 := nc8 hz;have n9 := nc9 hz;have n11 := nc11 hz;rw [hga] at n11;have cx0 := (HCX.out w6 HX6.out.2).1;clear hz;dsimp only;go_wp2;go_end0;exact ⟨rfl, HX6.out⟩
open nodeT okT

theorem expr_num (bt x lo hi : Nat) (d : ND) (ps : List Tr) (a : Option Addr) (cap : Nat) (bs : List Nat) (h : Int) (l : List ByteArray) (w : World) (hs : SayAt w bt l) (ht : TG bt w) (he : NE w bt x lo hi d ps a cap bs h) (HN : Hid (∀ (i : Nat) (t : Tr), ps[i]? = some t → NOk t)) (hok : ndOk d ps.length = true) (hk : d.k = 17)  (hl : (l ++ exprT d (kidsT ps)).length ≤ 2000000000) : Calls prog 71 #[.pointer (some ⟨bt, 0, none⟩), .pointer (some ⟨x, 0, none⟩)] w (sayR bt (l ++ exprT d (kidsT ps)) w) := by
 have ok := okIs hok;have lB := hs.lt;have HS : Hid (SayAt w bt l ∧ TG bt w) := ⟨hs, ht⟩;have HE : Hid (∀ W, Oth bt w W → NE W bt x lo hi d ps a cap bs h) := fun W hW => he.keep hW;have xl : x < bt := he.x
 have heq : l ++ exprT d (kidsT ps) = l ++ [fmtI d.n] := by
  unfold exprT; simp [hk]
 rw [heq] at hl ⊢;have HLN : Hid ((l ++ [fmtI d.n]).length ≤ 2000000000) := hl;have hhi : hi ≤ bt := he.hi;have hcap := he.row.hcap;have hpl := ok.len;have p0 : (0 : Int) ≤ (ps.length : Int) := by omega
 have HX0 : Hid (SayAt w bt l ∧ Oth bt w w) := ⟨hs, Oth.refl _ _⟩;have hz := (HE.out w HX0.out.2).blk;have n0 := nc0 hz;rw [hk] at n0;have n5 := nc5 hz;clear hz;clear hs ht he hok hl heq
 go_enter func71, ntmps71
 go_wp2_with fail
 refine (fmtT_to d.n w ok.n0 ok.n9 (HS.out.2.keep HX0.out.2.bel).1).mono ?_;rintro e u1 ⟨rfl, hb⟩;have HU : Hid (SayAt u1 bt (l) ∧ Oth bt w u1) := ⟨HX0.out.1.below hb, HX0.out.2.tr (Oth.of hb (Nat.le_of_lt HX0.out.1.lt))⟩;clear hb;clear n0 n5;have hz := (HE.out u1 HU.out.2).blk;have n0 := nc0 hz;rw [hk] at n0;have n5 := nc5 hz;clear hz;dsimp only;go_wp2_with fail
 refine (say1 bt _ (fmtI d.n) u1 HU.out.1 (by have := HLN.out; simp only [zla, zlc, zln] at this ⊢; omega)).mono ?_;rintro e w1 ⟨rfl, hs1, hb1⟩;have HX1 : Hid (SayAt w1 bt (l ++ [fmtI d.n]) ∧ Oth bt w w1) := ⟨hs1, HU.out.2.tr hb1⟩;clear hs1 hb1;clear n0 n5;have hz := (HE.out w1 HX1.out.2).blk;have n0 := nc0 hz;rw [hk] at n0;have n5 := nc5 hz;clear hz;dsimp only;go_wp2;go_end0;exact ⟨rfl, HX1.out⟩
theorem expr_name (bt x lo hi : Nat) (d : ND) (ps : List Tr) (a : Option Addr) (cap : Nat) (bs : List Nat) (h : Int) (l : List ByteArray) (w : World) (hs : SayAt w bt l) (ht : TG bt w) (he : NE w bt x lo hi d ps a cap bs h) (HN : Hid (∀ (i : Nat) (t : Tr), ps[i]? = some t → NOk t)) (hok : ndOk d ps.length = true) (hk : d.k = 18)  (hl : (l ++ exprT d (kidsT ps)).length ≤ 2000000000) : Calls prog 71 #[.pointer (some ⟨bt, 0, none⟩), .pointer (some ⟨x, 0, none⟩)] w (sayR bt (l ++ exprT d (kidsT ps)) w) := by
 have ok := okIs hok;have lB := hs.lt;have HS : Hid (SayAt w bt l ∧ TG bt w) := ⟨hs, ht⟩;have HE : Hid (∀ W, Oth bt w W → NE W bt x lo hi d ps a cap bs h) := fun W hW => he.keep hW;have xl : x < bt := he.x
 have heq : l ++ exprT d (kidsT ps) = l ++ ([d.name] : List ByteArray) := by
  unfold exprT; simp [hk]
 rw [heq] at hl ⊢;have HLN : Hid ((l ++ ([d.name] : List ByteArray)).length ≤ 2000000000) := hl;have hhi : hi ≤ bt := he.hi;have hcap := he.row.hcap;have hpl := ok.len;have p0 : (0 : Int) ≤ (ps.length : Int) := by omega
 have HX0 : Hid (SayAt w bt l ∧ Oth bt w w) := ⟨hs, Oth.refl _ _⟩;have hz := (HE.out w HX0.out.2).blk;have n0 := nc0 hz;rw [hk] at n0;have n3 := nc3 hz;have n4 := nc4 hz;clear hz;clear hs ht he hok hl heq
 go_enter func71, ntmps71
 go_wp2_with fail
 refine (say1 bt _ (d.name) w HX0.out.1 (by have := HLN.out; simp only [zla, zlc, zln] at this ⊢; omega)).mono ?_;rintro e w1 ⟨rfl, hs1, hb1⟩;have HX1 : Hid (SayAt w1 bt (l ++ ([d.name] : List ByteArray)) ∧ Oth bt w w1) := ⟨hs1, HX0.out.2.tr hb1⟩;clear hs1 hb1;clear n0 n3 n4;have hz := (HE.out w1 HX1.out.2).blk;have n0 := nc0 hz;rw [hk] at n0;have n3 := nc3 hz;have n4 := nc4 hz;clear hz;dsimp only;go_wp2;go_end0;exact ⟨rfl, HX1.out⟩
theorem expr_call (bt x lo hi : Nat) (d : ND) (ps : List Tr) (a : Option Addr) (cap : Nat) (bs : List Nat) (h : Int) (l : List ByteArray) (w : World) (hs : SayAt w bt l) (ht : TG bt w) (he : NE w bt x lo hi d ps a cap bs h) (HN : Hid (∀ (i : Nat) (t : Tr), ps[i]? = some t → NOk t)) (hok : ndOk d ps.length = true) (hk : d.k = 19)  (hl : (l ++ exprT d (kidsT ps)).length ≤ 2000000000) : Calls prog 71 #[.pointer (some ⟨bt, 0, none⟩), .pointer (some ⟨x, 0, none⟩)] w (sayR bt (l ++ exprT d (kidsT ps)) w) := by
 have ok := okIs hok;have lB := hs.lt;have HS : Hid (SayAt w bt l ∧ TG bt w) := ⟨hs, ht⟩;have HE : Hid (∀ W, Oth bt w W → NE W bt x lo hi d ps a cap bs h) := fun W hW => he.keep hW;have xl : x < bt := he.x
 have heq : l ++ exprT d (kidsT ps) = l ++ ([d.name] : List ByteArray) ++ listT (kidsT ps) := by
  unfold exprT; simp [hk]
 rw [heq] at hl ⊢;have HLN : Hid ((l ++ ([d.name] : List ByteArray) ++ listT (kidsT ps)).length ≤ 2000000000) := hl;have hhi : hi ≤ bt := he.hi;have hcap := he.row.hcap;have hpl := ok.len;have p0 : (0 : Int) ≤ (ps.length : Int) := by omega
 have HX0 : Hid (SayAt w bt l ∧ Oth bt w w) := ⟨hs, Oth.refl _ _⟩;have hz := (HE.out w HX0.out.2).blk;have n0 := nc0 hz;rw [hk] at n0;have n3 := nc3 hz;have n4 := nc4 hz;have n11 := nc11 hz;clear hz;clear hs ht he hok hl heq
 go_enter func71, ntmps71
 go_wp2_with fail
 refine (say1 bt _ (d.name) w HX0.out.1 (by have := HLN.out; simp only [zla, zlc, zln] at this ⊢; omega)).mono ?_;rintro e w1 ⟨rfl, hs1, hb1⟩;have HX1 : Hid (SayAt w1 bt (l ++ ([d.name] : List ByteArray)) ∧ Oth bt w w1) := ⟨hs1, HX0.out.2.tr hb1⟩;clear hs1 hb1;clear n0 n3 n4 n11;have hz := (HE.out w1 HX1.out.2).blk;have n0 := nc0 hz;rw [hk] at n0;have n3 := nc3 hz;have n4 := nc4 hz;have n11 := nc11 hz;clear hz;dsimp only;go_wp2_with fail
 refine (list_say bt lo hi cap a ps bs _ w1 HX1.out.1 (HS.out.2.keep HX1.out.2.bel) (HE.out w1 HX1.out.2).row hhi HN hpl (by have := HLN.out; simp only [zla, zlc, zln] at this ⊢; omega)).mono ?_;rintro e w2 ⟨rfl, hs1, hb1⟩;have HX2 : Hid (SayAt w2 bt (l ++ ([d.name] : List ByteArray) ++ listT (kidsT ps)) ∧ Oth bt w w2) := ⟨hs1, HX1.out.2.tr hb1⟩;clear hs1 hb1;clear n0 n3 n4 n11;have hz := (HE.out w2 HX2.out.2).blk;have n0 := nc0 hz;rw [hk] at n0;have n3 := nc3 hz;have n4 := nc4 hz;have n11 := nc11 hz;clear hz;dsimp only;go_wp2;go_end0;exact ⟨rfl, HX2.out⟩
theorem expr_in (bt x lo hi : Nat) (d : ND) (ps : List Tr) (a : Option Addr) (cap : Nat) (bs : List Nat) (h : Int) (l : List ByteArray) (w : World) (hs : SayAt w bt l) (ht : TG bt w) (he : NE w bt x lo hi d ps a cap bs h) (HN : Hid (∀ (i : Nat) (t : Tr), ps[i]? = some t → NOk t)) (hok : ndOk d ps.length = true) (hk : d.k = 25)  (hl : (l ++ exprT d (kidsT ps)).length ≤ 2000000000) : Calls prog 71 #[.pointer (some ⟨bt, 0, none⟩), .pointer (some ⟨x, 0, none⟩)] w (sayR bt (l ++ exprT d (kidsT ps)) w) := by
 have ok := okIs hok;have lB := hs.lt;have HS : Hid (SayAt w bt l ∧ TG bt w) := ⟨hs, ht⟩;have HE : Hid (∀ W, Oth bt w W → NE W bt x lo hi d ps a cap bs h) := fun W hW => he.keep hW;have xl : x < bt := he.x
 have heq : l ++ exprT d (kidsT ps) = l ++ ([⟨#[105, 110]⟩] : List ByteArray) ++ listT (kidsT []) := by
  unfold exprT; simp [hk, kidsT]
 rw [heq] at hl ⊢;have HLN : Hid ((l ++ ([⟨#[105, 110]⟩] : List ByteArray) ++ listT (kidsT [])).length ≤ 2000000000) := hl;have hhi : hi ≤ bt := he.hi;have hcap := he.row.hcap;have hpl := ok.len;have p0 : (0 : Int) ≤ (ps.length : Int) := by omega
 have HX0 : Hid (SayAt w bt l ∧ Oth bt w w) := ⟨hs, Oth.refl _ _⟩;have hz := (HE.out w HX0.out.2).blk;have n0 := nc0 hz;rw [hk] at n0;have n3 := nc3 hz;have n4 := nc4 hz;have n11 := nc11 hz;clear hz;clear hs ht he hok hl heq
 go_enter func71, ntmps71
 go_wp2_with fail
 refine (say1 bt _ (⟨#[105, 110]⟩) w HX0.out.1 (by have := HLN.out; simp only [zla, zlc, zln] at this ⊢; omega)).mono ?_;rintro e w1 ⟨rfl, hs1, hb1⟩;have HX1 : Hid (SayAt w1 bt (l ++ ([⟨#[105, 110]⟩] : List ByteArray)) ∧ Oth bt w w1) := ⟨hs1, HX0.out.2.tr hb1⟩;clear hs1 hb1;clear n0 n3 n4 n11;have hz := (HE.out w1 HX1.out.2).blk;have n0 := nc0 hz;rw [hk] at n0;have n3 := nc3 hz;have n4 := nc4 hz;have n11 := nc11 hz;clear hz;dsimp only;go_wp2_with fail
 refine (list_say bt 0 0 0 none [] [] _ w1 HX1.out.1 (HS.out.2.keep HX1.out.2.bel) (RowAt.nil _ _ _ _ _) (Nat.zero_le _) (fun i t h => by simp at h) (by decide) (by have := HLN.out; simp only [zla, zlc, zln] at this ⊢; omega)).mono ?_;rintro e w2 ⟨rfl, hs1, hb1⟩;have HX2 : Hid (SayAt w2 bt (l ++ ([⟨#[105, 110]⟩] : List ByteArray) ++ listT (kidsT [])) ∧ Oth bt w w2) := ⟨hs1, HX1.out.2.tr hb1⟩;clear hs1 hb1;clear n0 n3 n4 n11;have hz := (HE.out w2 HX2.out.2).blk;have n0 := nc0 hz;rw [hk] at n0;have n3 := nc3 hz;have n4 := nc4 hz;have n11 := nc11 hz;clear hz;dsimp only;go_wp2;go_end0;exact ⟨rfl, HX2.out⟩
theorem expr_sizeof (bt x lo hi : Nat) (d : ND) (ps : List Tr) (a : Option Addr) (cap : Nat) (bs : List Nat) (h : Int) (l : List ByteArray) (w : World) (hs : SayAt w bt l) (ht : TG bt w) (he : NE w bt x lo hi d ps a cap bs h) (HN : Hid (∀ (i : Nat) (t : Tr), ps[i]? = some t → NOk t)) (hok : ndOk d ps.length = true) (hk : d.k = 26)  (hl : (l ++ exprT d (kidsT ps)).length ≤ 2000000000) : Calls prog 71 #[.pointer (some ⟨bt, 0, none⟩), .pointer (some ⟨x, 0, none⟩)] w (sayR bt (l ++ exprT d (kidsT ps)) w) := by
 have ok := okIs hok;have lB := hs.lt;have HS : Hid (SayAt w bt l ∧ TG bt w) := ⟨hs, ht⟩;have HE : Hid (∀ W, Oth bt w W → NE W bt x lo hi d ps a cap bs h) := fun W hW => he.keep hW;have xl : x < bt := he.x
 have heq : l ++ exprT d (kidsT ps) = l ++ ([⟨#[115, 105, 122, 101, 111, 102]⟩, ⟨#[40]⟩] : List ByteArray) ++ baseT d.ty ++ brackT d.ty ++ ([⟨#[41]⟩] : List ByteArray) := by
  unfold exprT; simp [hk]
 rw [heq] at hl ⊢;have HLN : Hid ((l ++ ([⟨#[115, 105, 122, 101, 111, 102]⟩, ⟨#[40]⟩] : List ByteArray) ++ baseT d.ty ++ brackT d.ty ++ ([⟨#[41]⟩] : List ByteArray)).length ≤ 2000000000) := hl;have hhi : hi ≤ bt := he.hi;have hcap := he.row.hcap;have hpl := ok.len;have p0 : (0 : Int) ≤ (ps.length : Int) := by omega
 have HX0 : Hid (SayAt w bt l ∧ Oth bt w w) := ⟨hs, Oth.refl _ _⟩;have hz := (HE.out w HX0.out.2).blk;have n0 := nc0 hz;rw [hk] at n0;have n3 := nc3 hz;have n4 := nc4 hz;have n6 := nc6 hz;have n7 := nc7 hz;have n8 := nc8 hz;have n9 := nc9 hz;clear hz;clear hs ht he hok hl heq
 go_enter func71, ntmps71
 go_wp2_with fail
 refine (say2 bt _ (⟨#[115, 105, 122, 101, 111, 102]⟩) (⟨#[40]⟩) w HX0.out.1 (by have := HLN.out; simp only [zla, zlc, zln] at this ⊢; omega)).mono ?_;rintro e w1 ⟨rfl, hs1, hb1⟩;have HX1 : Hid (SayAt w1 bt (l ++ ([⟨#[115, 105, 122, 101, 111, 102]⟩, ⟨#[40]⟩] : List ByteArray)) ∧ Oth bt w w1) := ⟨hs1, HX0.out.2.tr hb1⟩;clear hs1 hb1;clear n0 n3 n4 n6 n7 n8 n9;have hz := (HE.out w1 HX1.out.2).blk;have n0 := nc0 hz;rw [hk] at n0;have n3 := nc3 hz;have n4 := nc4 hz;have n6 := nc6 hz;have n7 := nc7 hz;have n8 := nc8 hz;have n9 := nc9 hz;clear hz;dsimp only;go_wp2_with fail
 refine (base_any bt _ d.ty w1 HX1.out.1 ok.s0 ok.s9 (by have := HLN.out; simp only [zla, zlc, zln] at this ⊢; omega)).mono ?_;rintro e w2 ⟨rfl, hs1, hb1⟩;have HX2 : Hid (SayAt w2 bt (l ++ ([⟨#[115, 105, 122, 101, 111, 102]⟩, ⟨#[40]⟩] : List ByteArray) ++ baseT d.ty) ∧ Oth bt w w2) := ⟨hs1, HX1.out.2.tr hb1⟩;clear hs1 hb1;clear n0 n3 n4 n6 n7 n8 n9;have hz := (HE.out w2 HX2.out.2).blk;have n0 := nc0 hz;rw [hk] at n0;have n3 := nc3 hz;have n4 := nc4 hz;have n6 := nc6 hz;have n7 := nc7 hz;have n8 := nc8 hz;have n9 := nc9 hz;clear hz;dsimp only;go_wp2_with fail
 refine (brackets_say bt _ d.ty w2 HX2.out.1 (HS.out.2.keep HX2.out.2.bel) ok.c0 ok.c9 (by have := HLN.out; simp only [zla, zlc, zln] at this ⊢; omega)).mono ?_;rintro e w3 ⟨rfl, hs1, hb1⟩;have HX3 : Hid (SayAt w3 bt (l ++ ([⟨#[115, 105, 122, 101, 111, 102]⟩, ⟨#[40]⟩] : List ByteArray) ++ baseT d.ty ++ brackT d.ty) ∧ Oth bt w w3) := ⟨hs1, HX2.out.2.tr hb1⟩;clear hs1 hb1;clear n0 n3 n4 n6 n7 n8 n9;have hz := (HE.out w3 HX3.out.2).blk;have n0 := nc0 hz;rw [hk] at n0;have n3 := nc3 hz;have n4 := nc4 hz;have n6 := nc6 hz;have n7 := nc7 hz;have n8 := nc8 hz;have n9 := nc9 hz;clear hz;dsimp only;go_wp2_with fail
 refine (say1 bt _ (⟨#[41]⟩) w3 HX3.out.1 (by have := HLN.out; simp only [zla, zlc, zln] at this ⊢; omega)).mono ?_;rintro e w4 ⟨rfl, hs1, hb1⟩;have HX4 : Hid (SayAt w4 bt (l ++ ([⟨#[115, 105, 122, 101, 111, 102]⟩, ⟨#[40]⟩] : List ByteArray) ++ baseT d.ty ++ brackT d.ty ++ ([⟨#[41]⟩] : List ByteArray)) ∧ Oth bt w w4) := ⟨hs1, HX3.out.2.tr hb1⟩;clear hs1 hb1;clear n0 n3 n4 n6 n7 n8 n9;have hz := (HE.out w4 HX4.out.2).blk;have n0 := nc0 hz;rw [hk] at n0;have n3 := nc3 hz;have n4 := nc4 hz;have n6 := nc6 hz;have n7 := nc7 hz;have n8 := nc8 hz;have n9 := nc9 hz;clear hz;dsimp only;go_wp2;go_end0;exact ⟨rfl, HX4.out⟩
theorem expr_index (bt x lo hi : Nat) (d : ND) (ps : List Tr) (a : Option Addr) (cap : Nat) (bs : List Nat) (h : Int) (l : List ByteArray) (w : World) (hs : SayAt w bt l) (ht : TG bt w) (he : NE w bt x lo hi d ps a cap bs h) (HN : Hid (∀ (i : Nat) (t : Tr), ps[i]? = some t → NOk t)) (hok : ndOk d ps.length = true) (hk : d.k = 23)  (hl : (l ++ exprT d (kidsT ps)).length ≤ 2000000000) : Calls prog 71 #[.pointer (some ⟨bt, 0, none⟩), .pointer (some ⟨x, 0, none⟩)] w (sayR bt (l ++ exprT d (kidsT ps)) w) := by
 have ok := okIs hok;have lB := hs.lt;have HS : Hid (SayAt w bt l ∧ TG bt w) := ⟨hs, ht⟩;have HE : Hid (∀ W, Oth bt w W → NE W bt x lo hi d ps a cap bs h) := fun W hW => he.keep hW;have xl : x < bt := he.x;have hlen : 2 ≤ ps.length := by unfold ndOk at hok; simp [hk] at hok; omega
 obtain ⟨t0, ht0⟩ : ∃ t, ps[0]? = some t := ⟨_, List.getElem?_eq_getElem (by omega)⟩;obtain ⟨x0, hx0⟩ : ∃ x, bs[0]? = some x := ⟨_, List.getElem?_eq_getElem (by have := he.row.hl; omega)⟩;obtain ⟨t1, ht1⟩ : ∃ t, ps[1]? = some t := ⟨_, List.getElem?_eq_getElem (by omega)⟩;obtain ⟨x1, hx1⟩ : ∃ x, bs[1]? = some x := ⟨_, List.getElem?_eq_getElem (by have := he.row.hl; omega)⟩;obtain ⟨g, hga, hg1, hg2, _⟩ := he.row.hrow (by intro hz; rw [hz] at hlen; simp at hlen)
 have HCX : Hid (∀ W, Oth bt w W → W.cell? ⟨g, 0, none⟩ = some (.pointer (some ⟨x0, 0, none⟩)) ∧ TreeAt W lo hi t0 x0 ∧ W.cell? ⟨g, 1, none⟩ = some (.pointer (some ⟨x1, 0, none⟩)) ∧ TreeAt W lo hi t1 x1) := fun W hW => by
  have hr := (he.keep hW).row;obtain ⟨g', e1, _, _, e4⟩ := hr.hrow (by intro hz; rw [hz] at hlen; simp at hlen);rw [hga] at e1
  injection e1 with e1
  injection e1 with e1
  subst e1;exact ⟨e4 0 x0 hx0, hr.sub 0 t0 x0 ht0 hx0, e4 1 x1 hx1, hr.sub 1 t1 x1 ht1 hx1⟩
 have HN0 : Hid (NOk t0) := HN.out 0 t0 ht0;have HN1 : Hid (NOk t1) := HN.out 1 t1 ht1
 have heq : l ++ exprT d (kidsT ps) = l ++ nodeT t0 ++ ([⟨#[91]⟩] : List ByteArray) ++ nodeT t1 ++ ([⟨#[93]⟩] : List ByteArray) := by
  unfold exprT; simp [hk, kid_eq ht0, kid_eq ht1]
 rw [heq] at hl ⊢;have HLN : Hid ((l ++ nodeT t0 ++ ([⟨#[91]⟩] : List ByteArray) ++ nodeT t1 ++ ([⟨#[93]⟩] : List ByteArray)).length ≤ 2000000000) := hl;have hhi : hi ≤ bt := he.hi;have hcap := he.row.hcap;have hpl := ok.len;have p0 : (0 : Int) ≤ (ps.length : Int) := by omega
 have p1 : 1 ≤ ps.length := by omega
 have p1i : (1 : Int) ≤ (ps.length : Int) := by omega
 have pci : (ps.length : Int) ≤ (cap : Int) := by omega
 have HX0 : Hid (SayAt w bt l ∧ Oth bt w w) := ⟨hs, Oth.refl _ _⟩;have hz := (HE.out w HX0.out.2).blk;have n0 := nc0 hz;rw [hk] at n0;have n3 := nc3 hz;have n4 := nc4 hz;have n11 := nc11 hz;rw [hga] at n11;have cx0 := (HCX.out w HX0.out.2).1;have cx1 := (HCX.out w HX0.out.2).2.2.1;clear hz;clear hs ht he hok hl heq
 go_enter func71, ntmps71
 go_wp2_with fail
 refine (HN0.out bt x0 lo hi _ w HX0.out.1 (HS.out.2.keep HX0.out.2.bel) (HCX.out w HX0.out.2).2.1 hhi (by have := HLN.out; simp only [zla, zlc, zln] at this ⊢; omega)).mono ?_;rintro e w1 ⟨rfl, hs1, hb1⟩;have HX1 : Hid (SayAt w1 bt (l ++ nodeT t0) ∧ Oth bt w w1) := ⟨hs1, HX0.out.2.tr hb1⟩;clear hs1 hb1;clear n0 n3 n4 n11 cx0 cx1;have hz := (HE.out w1 HX1.out.2).blk;have n0 := nc0 hz;rw [hk] at n0;have n3 := nc3 hz;have n4 := nc4 hz;have n11 := nc11 hz;rw [hga] at n11;have cx0 := (HCX.out w1 HX1.out.2).1;have cx1 := (HCX.out w1 HX1.out.2).2.2.1;clear hz;dsimp only;go_wp2_with fail
 refine (say1 bt _ (⟨#[91]⟩) w1 HX1.out.1 (by have := HLN.out; simp only [zla, zlc, zln] at this ⊢; omega)).mono ?_;rintro e w2 ⟨rfl, hs1, hb1⟩;have HX2 : Hid (SayAt w2 bt (l ++ nodeT t0 ++ ([⟨#[91]⟩] : List ByteArray)) ∧ Oth bt w w2) := ⟨hs1, HX1.out.2.tr hb1⟩;clear hs1 hb1;clear n0 n3 n4 n11 cx0 cx1;have hz := (HE.out w2 HX2.out.2).blk;have n0 := nc0 hz;rw [hk] at n0;have n3 := nc3 hz;have n4 := nc4 hz;have n11 := nc11 hz;rw [hga] at n11;have cx0 := (HCX.out w2 HX2.out.2).1;have cx1 := (HCX.out w2 HX2.out.2).2.2.1;clear hz;dsimp only;go_wp2_with fail
 refine (HN1.out bt x1 lo hi _ w2 HX2.out.1 (HS.out.2.keep HX2.out.2.bel) (HCX.out w2 HX2.out.2).2.2.2 hhi (by have := HLN.out; simp only [zla, zlc, zln] at this ⊢; omega)).mono ?_;rintro e w3 ⟨rfl, hs1, hb1⟩;have HX3 : Hid (SayAt w3 bt (l ++ nodeT t0 ++ ([⟨#[91]⟩] : List ByteArray) ++ nodeT t1) ∧ Oth bt w w3) := ⟨hs1, HX2.out.2.tr hb1⟩;clear hs1 hb1;clear n0 n3 n4 n11 cx0 cx1;have hz := (HE.out w3 HX3.out.2).blk;have n0 := nc0 hz;rw [hk] at n0;have n3 := nc3 hz;have n4 := nc4 hz;have n11 := nc11 hz;rw [hga] at n11;have cx0 := (HCX.out w3 HX3.out.2).1;have cx1 := (HCX.out w3 HX3.out.2).2.2.1;clear hz;dsimp only;go_wp2_with fail
 refine (say1 bt _ (⟨#[93]⟩) w3 HX3.out.1 (by have := HLN.out; simp only [zla, zlc, zln] at this ⊢; omega)).mono ?_;rintro e w4 ⟨rfl, hs1, hb1⟩;have HX4 : Hid (SayAt w4 bt (l ++ nodeT t0 ++ ([⟨#[91]⟩] : List ByteArray) ++ nodeT t1 ++ ([⟨#[93]⟩] : List ByteArray)) ∧ Oth bt w w4) := ⟨hs1, HX3.out.2.tr hb1⟩;clear hs1 hb1;clear n0 n3 n4 n11 cx0 cx1;have hz := (HE.out w4 HX4.out.2).blk;have n0 := nc0 hz;rw [hk] at n0;have n3 := nc3 hz;have n4 := nc4 hz;have n11 := nc11 hz;rw [hga] at n11;have cx0 := (HCX.out w4 HX4.out.2).1;have cx1 := (HCX.out w4 HX4.out.2).2.2.1;clear hz;dsimp only;go_wp2;go_end0;exact ⟨rfl, HX4.out⟩
theorem expr_un (bt x lo hi : Nat) (d : ND) (ps : List Tr) (a : Option Addr) (cap : Nat) (bs : List Nat) (h : Int) (l : List ByteArray) (w : World) (hs : SayAt w bt l) (ht : TG bt w) (he : NE w bt x lo hi d ps a cap bs h) (HN : Hid (∀ (i : Nat) (t : Tr), ps[i]? = some t → NOk t)) (hok : ndOk d ps.length = true) (hk : d.k = 20)  (hl : (l ++ exprT d (kidsT ps)).length ≤ 2000000000) : Calls prog 71 #[.pointer (some ⟨bt, 0, none⟩), .pointer (some ⟨x, 0, none⟩)] w (sayR bt (l ++ exprT d (kidsT ps)) w) := by
 have ok := okIs hok;have lB := hs.lt;have HS : Hid (SayAt w bt l ∧ TG bt w) := ⟨hs, ht⟩;have HE : Hid (∀ W, Oth bt w W → NE W bt x lo hi d ps a cap bs h) := fun W hW => he.keep hW;have xl : x < bt := he.x;have HOK : Hid (ndOk d ps.length = true) := hok;have HK : Hid (d.k = 20) := hk
 have heq : l ++ exprT d (kidsT ps) = l ++ enclT d (kidsT ps) := by
  unfold exprT; simp [hk]
 rw [heq] at hl ⊢;have HLN : Hid ((l ++ enclT d (kidsT ps)).length ≤ 2000000000) := hl;have hhi : hi ≤ bt := he.hi;have hcap := he.row.hcap;have hpl := ok.len;have p0 : (0 : Int) ≤ (ps.length : Int) := by omega
 have HX0 : Hid (SayAt w bt l ∧ Oth bt w w) := ⟨hs, Oth.refl _ _⟩;have hz := (HE.out w HX0.out.2).blk;have n0 := nc0 hz;rw [hk] at n0;clear hz;clear hs ht he hok hl heq
 go_enter func71, ntmps71
 go_wp2_with fail
 refine (encl_un bt x lo hi d ps a cap bs h _ w HX0.out.1 (HS.out.2.keep HX0.out.2.bel) (HE.out w HX0.out.2) HN HOK.out HK.out (by have := HLN.out; simp only [zla, zlc, zln] at this ⊢; omega)).mono ?_;rintro e w1 ⟨rfl, hs1, hb1⟩;have HX1 : Hid (SayAt w1 bt (l ++ enclT d (kidsT ps)) ∧ Oth bt w w1) := ⟨hs1, HX0.out.2.tr hb1⟩;clear hs1 hb1;clear n0;have hz := (HE.out w1 HX1.out.2).blk;have n0 := nc0 hz;rw [hk] at n0;clear hz;dsimp only;go_wp2;go_end0;exact ⟨rfl, HX1.out⟩
theorem expr_bin (bt x lo hi : Nat) (d : ND) (ps : List Tr) (a : Option Addr) (cap : Nat) (bs : List Nat) (h : Int) (l : List ByteArray) (w : World) (hs : SayAt w bt l) (ht : TG bt w) (he : NE w bt x lo hi d ps a cap bs h) (HN : Hid (∀ (i : Nat) (t : Tr), ps[i]? = some t → NOk t)) (hok : ndOk d ps.length = true) (hk : d.k = 21)  (hl : (l ++ exprT d (kidsT ps)).length ≤ 2000000000) : Calls prog 71 #[.pointer (some ⟨bt, 0, none⟩), .pointer (some ⟨x, 0, none⟩)] w (sayR bt (l ++ exprT d (kidsT ps)) w) := by
 have ok := okIs hok;have lB := hs.lt;have HS : Hid (SayAt w bt l ∧ TG bt w) := ⟨hs, ht⟩;have HE : Hid (∀ W, Oth bt w W → NE W bt x lo hi d ps a cap bs h) := fun W hW => he.keep hW;have xl : x < bt := he.x;have HOK : Hid (ndOk d ps.length = true) := hok;have HK : Hid (d.k = 21) := hk
 have heq : l ++ exprT d (kidsT ps) = l ++ enclT d (kidsT ps) := by
  unfold exprT; simp [hk]
 rw [heq] at hl ⊢;have HLN : Hid ((l ++ enclT d (kidsT ps)).length ≤ 2000000000) := hl;have hhi : hi ≤ bt := he.hi;have hcap := he.row.hcap;have hpl := ok.len;have p0 : (0 : Int) ≤ (ps.length : Int) := by omega
 have HX0 : Hid (SayAt w bt l ∧ Oth bt w w) := ⟨hs, Oth.refl _ _⟩;have hz := (HE.out w HX0.out.2).blk;have n0 := nc0 hz;rw [hk] at n0;clear hz;clear hs ht he hok hl heq
 go_enter func71, ntmps71
 go_wp2_with fail
 refine (encl_bin bt x lo hi d ps a cap bs h _ w HX0.out.1 (HS.out.2.keep HX0.out.2.bel) (HE.out w HX0.out.2) HN HOK.out HK.out (by have := HLN.out; simp only [zla, zlc, zln] at this ⊢; omega)).mono ?_;rintro e w1 ⟨rfl, hs1, hb1⟩;have HX1 : Hid (SayAt w1 bt (l ++ enclT d (kidsT ps)) ∧ Oth bt w w1) := ⟨hs1, HX0.out.2.tr hb1⟩;clear hs1 hb1;clear n0;have hz := (HE.out w1 HX1.out.2).blk;have n0 := nc0 hz;rw [hk] at n0;clear hz;dsimp only;go_wp2;go_end0;exact ⟨rfl, HX1.out⟩
theorem expr_cast (bt x lo hi : Nat) (d : ND) (ps : List Tr) (a : Option Addr) (cap : Nat) (bs : List Nat) (h : Int) (l : List ByteArray) (w : World) (hs : SayAt w bt l) (ht : TG bt w) (he : NE w bt x lo hi d ps a cap bs h) (HN : Hid (∀ (i : Nat) (t : Tr), ps[i]? = some t → NOk t)) (hok : ndOk d ps.length = true) (hk : d.k = 22)  (hl : (l ++ exprT d (kidsT ps)).length ≤ 2000000000) : Calls prog 71 #[.pointer (some ⟨bt, 0, none⟩), .pointer (some ⟨x, 0, none⟩)] w (sayR bt (l ++ exprT d (kidsT ps)) w) := by
 have ok := okIs hok;have lB := hs.lt;have HS : Hid (SayAt w bt l ∧ TG bt w) := ⟨hs, ht⟩;have HE : Hid (∀ W, Oth bt w W → NE W bt x lo hi d ps a cap bs h) := fun W hW => he.keep hW;have xl : x < bt := he.x;have HOK : Hid (ndOk d ps.length = true) := hok;have HK : Hid (d.k = 22) := hk
 have heq : l ++ exprT d (kidsT ps) = l ++ enclT d (kidsT ps) := by
  unfold exprT; simp [hk]
 rw [heq] at hl ⊢;have HLN : Hid ((l ++ enclT d (kidsT ps)).length ≤ 2000000000) := hl;have hhi : hi ≤ bt := he.hi;have hcap := he.row.hcap;have hpl := ok.len;have p0 : (0 : Int) ≤ (ps.length : Int) := by omega
 have HX0 : Hid (SayAt w bt l ∧ Oth bt w w) := ⟨hs, Oth.refl _ _⟩;have hz := (HE.out w HX0.out.2).blk;have n0 := nc0 hz;rw [hk] at n0;clear hz;clear hs ht he hok hl heq
 go_enter func71, ntmps71
 go_wp2_with fail
 refine (encl_cast bt x lo hi d ps a cap bs h _ w HX0.out.1 (HS.out.2.keep HX0.out.2.bel) (HE.out w HX0.out.2) HN HOK.out HK.out (by have := HLN.out; simp only [zla, zlc, zln] at this ⊢; omega)).mono ?_;rintro e w1 ⟨rfl, hs1, hb1⟩;have HX1 : Hid (SayAt w1 bt (l ++ enclT d (kidsT ps)) ∧ Oth bt w w1) := ⟨hs1, HX0.out.2.tr hb1⟩;clear hs1 hb1;clear n0;have hz := (HE.out w1 HX1.out.2).blk;have n0 := nc0 hz;rw [hk] at n0;clear hz;dsimp only;go_wp2;go_end0;exact ⟨rfl, HX1.out⟩
theorem expr_member (bt x lo hi : Nat) (d : ND) (ps : List Tr) (a : Option Addr) (cap : Nat) (bs : List Nat) (h : Int) (l : List ByteArray) (w : World) (hs : SayAt w bt l) (ht : TG bt w) (he : NE w bt x lo hi d ps a cap bs h) (HN : Hid (∀ (i : Nat) (t : Tr), ps[i]? = some t → NOk t)) (hok : ndOk d ps.length = true) (hk : d.k = 24)  (hl : (l ++ exprT d (kidsT ps)).length ≤ 2000000000) : Calls prog 71 #[.pointer (some ⟨bt, 0, none⟩), .pointer (some ⟨x, 0, none⟩)] w (sayR bt (l ++ exprT d (kidsT ps)) w) := by
 have ok := okIs hok;have lB := hs.lt;have HS : Hid (SayAt w bt l ∧ TG bt w) := ⟨hs, ht⟩;have HE : Hid (∀ W, Oth bt w W → NE W bt x lo hi d ps a cap bs h) := fun W hW => he.keep hW;have xl : x < bt := he.x;have hlen : 1 ≤ ps.length := by unfold ndOk at hok; simp [hk] at hok; omega
 obtain ⟨t0, ht0⟩ : ∃ t, ps[0]? = some t := ⟨_, List.getElem?_eq_getElem (by omega)⟩;obtain ⟨x0, hx0⟩ : ∃ x, bs[0]? = some x := ⟨_, List.getElem?_eq_getElem (by have := he.row.hl; omega)⟩;obtain ⟨g, hga, hg1, hg2, _⟩ := he.row.hrow (by intro hz; rw [hz] at hlen; simp at hlen)
 have HCX : Hid (∀ W, Oth bt w W → W.cell? ⟨g, 0, none⟩ = some (.pointer (some ⟨x0, 0, none⟩)) ∧ TreeAt W lo hi t0 x0) := fun W hW => by
  have hr := (he.keep hW).row;obtain ⟨g', e1, _, _, e4⟩ := hr.hrow (by intro hz; rw [hz] at hlen; simp at hlen);rw [hga] at e1
  injection e1 with e1
  injection e1 with e1
  subst e1;exact ⟨e4 0 x0 hx0, hr.sub 0 t0 x0 ht0 hx0⟩
 have HN0 : Hid (NOk t0) := HN.out 0 t0 ht0
 have heq : l ++ exprT d (kidsT ps) = l ++ nodeT t0 ++ ([d.op, d.name] : List ByteArray) := by
  unfold exprT; simp [hk, kid_eq ht0]
 rw [heq] at hl ⊢;have HLN : Hid ((l ++ nodeT t0 ++ ([d.op, d.name] : List ByteArray)).length ≤ 2000000000) := hl;have hhi : hi ≤ bt := he.hi;have hcap := he.row.hcap;have hpl := ok.len;have p0 : (0 : Int) ≤ (ps.length : Int) := by omega
 have p1 : 1 ≤ ps.length := by omega
 have p1i : (1 : Int) ≤ (ps.length : Int) := by omega
 have pci : (ps.length : Int) ≤ (cap : Int) := by omega
 have HX0 : Hid (SayAt w bt l ∧ Oth bt w w) := ⟨hs, Oth.refl _ _⟩;have hz := (HE.out w HX0.out.2).blk;have n0 := nc0 hz;rw [hk] at n0;have n3 := nc3 hz;have n4 := nc4 hz;have n11 := nc11 hz;rw [hga] at n11;have cx0 := (HCX.out w HX0.out.2).1;clear hz;clear hs ht he hok hl heq
 go_enter func71, ntmps71
 go_wp2_with fail
 refine (HN0.out bt x0 lo hi _ w HX0.out.1 (HS.out.2.keep HX0.out.2.bel) (HCX.out w HX0.out.2).2 hhi (by have := HLN.out; simp only [zla, zlc, zln] at this ⊢; omega)).mono ?_;rintro e w1 ⟨rfl, hs1, hb1⟩;have HX1 : Hid (SayAt w1 bt (l ++ nodeT t0) ∧ Oth bt w w1) := ⟨hs1, HX0.out.2.tr hb1⟩;clear hs1 hb1;clear n0 n3 n4 n11 cx0;have hz := (HE.out w1 HX1.out.2).blk;have n0 := nc0 hz;rw [hk] at n0;have n3 := nc3 hz;have n4 := nc4 hz;have n11 := nc11 hz;rw [hga] at n11;have cx0 := (HCX.out w1 HX1.out.2).1;clear hz;dsimp only;have xw1 : x < w1.heap.size := by have := HX1.out.1.lt; omega
 go_upto_region 24 with fail
 refine wp_region_held_drew (S := (fun w' => w'.cell? ⟨x, 3, none⟩ = some (.string d.name) ∧ w'.cell? ⟨x, 4, none⟩ = some (.string d.op))) (by kernel_rfl) (⟨n3, n4⟩) (fun hHeld => ?_);refine wpAnyH_take (i := 0) (oi := ?o0) (v := ?v0) ?i0 (by kernel_rfl) (by kernel_rfl) (by kernel_rfl) ?q0 ?y0 hHeld ?_
 case i0 => simp only [zga, zgs, zgz]; rfl
 case q0 => exact fun _ _ _ h => h
 case y0 => refine .inl ⟨by rfl, ?_⟩; intro w' hSw; (try dsimp only at hSw); go_simp; try with_reducible rfl
 simp only [Act.put, zsa, zsz, zss];refine wpAnyH_take (i := 1) (oi := ?o1) (v := ?v1) ?i1 (by kernel_rfl) (by kernel_rfl) (by kernel_rfl) ?q1 ?y1 hHeld ?_
 case i1 => simp only [zga, zgs, zgz]; rfl
 case q1 => exact fun _ _ _ h => h
 case y1 => refine .inl ⟨by rfl, ?_⟩; intro w' hSw; (try dsimp only at hSw); go_simp; try with_reducible rfl
 simp only [Act.put, zsa, zsz, zss];refine wpAnyH_take (i := 2) (oi := ?o2) (v := ?v2) ?i2 (by kernel_rfl) (by kernel_rfl) (by kernel_rfl) ?q2 ?y2 hHeld ?_
 case i2 => simp only [zga, zgs, zgz]; rfl
 case q2 => exact fun _ _ _ h => h
 case y2 => refine .inl ⟨by rfl, ?_⟩; intro w' hSw; (try dsimp only at hSw); go_simp; try with_reducible rfl
 simp only [Act.put, zsa, zsz, zss];refine wpAnyH_take (i := 3) (oi := ?o3) (v := ?v3) ?i3 (by kernel_rfl) (by kernel_rfl) (by kernel_rfl) ?q3 ?y3 hHeld ?_
 case i3 => simp only [zga, zgs, zgz]; rfl
 case q3 => exact fun _ _ _ h => h
 case y3 => refine .inl ⟨by rfl, ?_⟩; intro w' hSw; (try dsimp only at hSw); go_simp; try with_reducible rfl
 simp only [Act.put, zsa, zsz, zss];refine wpAnyH_take (i := 4) (oi := ?o4) (v := ?v4) ?i4 (by kernel_rfl) (by kernel_rfl) (by kernel_rfl) ?q4 ?y4 hHeld ?_
 case i4 => simp only [zga, zgs, zgz]; rfl
 case q4 => exact fun _ _ _ h => h
 case y4 => refine .inl ⟨by rfl, ?_⟩; intro w' hSw; (try dsimp only at hSw); go_simp; try with_reducible rfl
 simp only [Act.put, zsa, zsz, zss];refine wpAnyH_take (i := 5) (oi := ?o5) (v := ?v5) ?i5 (by kernel_rfl) (by kernel_rfl) (by kernel_rfl) ?q5 ?y5 hHeld ?_
 case i5 => simp only [zga, zgs, zgz]; rfl
 case q5 => exact fun _ _ _ h => h
 case y5 => refine .inl ⟨by rfl, ?_⟩; intro w' hSw; (try dsimp only at hSw); go_simp; try with_reducible rfl
 simp only [Act.put, zsa, zsz, zss];refine wpAnyH_take (i := 6) (oi := ?o6) (v := ?v6) ?i6 (by kernel_rfl) (by kernel_rfl) (by kernel_rfl) ?q6 ?y6 hHeld ?_
 case i6 => simp only [zga, zgs, zgz]; rfl
 case q6 => exact fun _ _ _ h => h
 case y6 => refine .inl ⟨by rfl, ?_⟩; intro w' hSw; (try dsimp only at hSw); go_simp; try with_reducible rfl
 simp only [Act.put, zsa, zsz, zss];refine wpAnyH_take (i := 7) (oi := ?o7) (v := ?v7) ?i7 (by kernel_rfl) (by kernel_rfl) (by kernel_rfl) ?q7 ?y7 hHeld ?_
 case i7 => simp only [zga, zgs, zgz]; rfl
 case q7 => exact fun _ _ _ h => h
 case y7 => refine .inl ⟨by rfl, ?_⟩; intro w' hSw; (try dsimp only at hSw); go_simp; try with_reducible rfl
 simp only [Act.put, zsa, zsz, zss];refine wpAnyH_take (i := 8) (oi := ?o8) (v := ?v8) ?i8 (by kernel_rfl) (by kernel_rfl) (by kernel_rfl) ?q8 ?y8 hHeld ?_
 case i8 => simp only [zga, zgs, zgz]; rfl
 case q8 => exact fun _ _ _ h => h
 case y8 => refine .inl ⟨by rfl, ?_⟩; intro w' hSw; (try dsimp only at hSw); go_simp; try with_reducible rfl
 simp only [Act.put, zsa, zsz, zss];refine zr (r := 9) (o := ?o9) (by kernel_rfl) ?i9 (fun K hK => ?g9)
 case i9 => simp only [zga, zgs, zgz]; rfl
 case g9 =>
  go_simp;refine hK.out _ _ (⟨by go_simp, by go_simp⟩) (fun hN => ?_);clear hK K hHeld;have hHeld := hN;clear hN
  try simp only [Act.put, zsa, zsz, zss]
  refine zr (r := 10) (o := ?o10) (by kernel_rfl) ?i10 (fun K hK => ?g10)
  case i10 => simp only [zga, zgs, zgz]; rfl
  case g10 =>
   go_simp;refine (say2q bt (l ++ nodeT t0) d.op d.name w1.heap.size w1.drew rfl (HX1.out.1.below (Below.refl _ _).drew) (by have := HLN.out; simp only [zla, zlc, zln] at this ⊢; omega)).mono ?_;rintro e w2 ⟨rfl, hs1, hb1⟩;have HX2 : Hid (SayAt w2 bt (l ++ nodeT t0 ++ ([d.op, d.name] : List ByteArray)) ∧ Oth bt w w2) := ⟨hs1, HX1.out.2.tr ((Oth.of (Below.refl _ _).drew (Nat.le_of_lt HX1.out.1.lt)).tr hb1)⟩;have hz2 := (HE.out w2 HX2.out.2).blk;have m3 := nc3 hz2;have m4 := nc4 hz2;clear hs1 hb1 hz2;dsimp only;go_wp2_with fail
   refine hK.out _ _ (⟨m3, m4⟩) (fun hN => ?_);clear hK K hHeld;have hHeld := hN;clear hN
   try simp only [Act.put, zsa, zsz, zss]
   refine wpAnyH_done (by kernel_rfl) ?_ _;clear hHeld;go_wp2;go_end0;exact ⟨rfl, HX2.out⟩
theorem titem_struct (bt x lo hi : Nat) (d : ND) (ps : List Tr) (a : Option Addr) (cap : Nat) (bs : List Nat) (h : Int) (l : List ByteArray) (w : World) (hs : SayAt w bt l) (ht : TG bt w) (he : NE w bt x lo hi d ps a cap bs h) (HN : Hid (∀ (i : Nat) (t : Tr), ps[i]? = some t → NOk t)) (hok : ndOk d ps.length = true) (hk : d.k = 1)  (hl : (l ++ itemT d (kidsT ps)).length ≤ 2000000000) : Calls prog 69 #[.pointer (some ⟨bt, 0, none⟩), .pointer (some ⟨x, 0, none⟩)] w (sayR bt (l ++ itemT d (kidsT ps)) w) := by
 have ok := okIs hok;have lB := hs.lt;have HS : Hid (SayAt w bt l ∧ TG bt w) := ⟨hs, ht⟩;have HE : Hid (∀ W, Oth bt w W → NE W bt x lo hi d ps a cap bs h) := fun W hW => he.keep hW;have xl : x < bt := he.x
 have heq : l ++ itemT d (kidsT ps) = l ++ ([⟨#[115, 116, 114, 117, 99, 116]⟩, d.name, ⟨#[123]⟩] : List ByteArray) ++ joinT (kidsT ps) ++ ([⟨#[125]⟩, ⟨#[59]⟩] : List ByteArray) := by
  unfold itemT; simp [hk]
 rw [heq] at hl ⊢;have HLN : Hid ((l ++ ([⟨#[115, 116, 114, 117, 99, 116]⟩, d.name, ⟨#[123]⟩] : List ByteArray) ++ joinT (kidsT ps) ++ ([⟨#[125]⟩, ⟨#[59]⟩] : List ByteArray)).length ≤ 2000000000) := hl;have hhi : hi ≤ bt := he.hi;have hcap := he.row.hcap;have hpl := ok.len;have p0 : (0 : Int) ≤ (ps.length : Int) := by omega
 have HX0 : Hid (SayAt w bt l ∧ Oth bt w w) := ⟨hs, Oth.refl _ _⟩;have hz := (HE.out w HX0.out.2).blk;have n0 := nc0 hz;rw [hk] at n0;have n3 := nc3 hz;have n4 := nc4 hz;have n11 := nc11 hz;clear hz;clear hs ht he hok hl heq
 go_enter func69, ntmps69
 go_wp2_with fail
 refine (say3 bt _ (⟨#[115, 116, 114, 117, 99, 116]⟩) (d.name) (⟨#[123]⟩) w HX0.out.1 (by have := HLN.out; simp only [zla, zlc, zln] at this ⊢; omega)).mono ?_;rintro e w1 ⟨rfl, hs1, hb1⟩;have HX1 : Hid (SayAt w1 bt (l ++ ([⟨#[115, 116, 114, 117, 99, 116]⟩, d.name, ⟨#[123]⟩] : List ByteArray)) ∧ Oth bt w w1) := ⟨hs1, HX0.out.2.tr hb1⟩;clear hs1 hb1;clear n0 n3 n4 n11;have hz := (HE.out w1 HX1.out.2).blk;have n0 := nc0 hz;rw [hk] at n0;have n3 := nc3 hz;have n4 := nc4 hz;have n11 := nc11 hz;clear hz;dsimp only;go_wp2_with fail
 refine (each_any bt lo hi cap a ps bs _ w1 HX1.out.1 (HS.out.2.keep HX1.out.2.bel) (HE.out w1 HX1.out.2).row hhi HN hpl (by have := HLN.out; simp only [zla, zlc, zln] at this ⊢; omega)).mono ?_;rintro e w2 ⟨rfl, hs1, hb1⟩;have HX2 : Hid (SayAt w2 bt (l ++ ([⟨#[115, 116, 114, 117, 99, 116]⟩, d.name, ⟨#[123]⟩] : List ByteArray) ++ joinT (kidsT ps)) ∧ Oth bt w w2) := ⟨hs1, HX1.out.2.tr hb1⟩;clear hs1 hb1;clear n0 n3 n4 n11;have hz := (HE.out w2 HX2.out.2).blk;have n0 := nc0 hz;rw [hk] at n0;have n3 := nc3 hz;have n4 := nc4 hz;have n11 := nc11 hz;clear hz;dsimp only;go_wp2_with fail
 refine (say2 bt _ (⟨#[125]⟩) (⟨#[59]⟩) w2 HX2.out.1 (by have := HLN.out; simp only [zla, zlc, zln] at this ⊢; omega)).mono ?_;rintro e w3 ⟨rfl, hs1, hb1⟩;have HX3 : Hid (SayAt w3 bt (l ++ ([⟨#[115, 116, 114, 117, 99, 116]⟩, d.name, ⟨#[123]⟩] : List ByteArray) ++ joinT (kidsT ps) ++ ([⟨#[125]⟩, ⟨#[59]⟩] : List ByteArray)) ∧ Oth bt w w3) := ⟨hs1, HX2.out.2.tr hb1⟩;clear hs1 hb1;clear n0 n3 n4 n11;have hz := (HE.out w3 HX3.out.2).blk;have n0 := nc0 hz;rw [hk] at n0;have n3 := nc3 hz;have n4 := nc4 hz;have n11 := nc11 hz;clear hz;dsimp only;go_wp2;go_end0;exact ⟨rfl, HX3.out⟩
theorem titem_field (bt x lo hi : Nat) (d : ND) (ps : List Tr) (a : Option Addr) (cap : Nat) (bs : List Nat) (h : Int) (l : List ByteArray) (w : World) (hs : SayAt w bt l) (ht : TG bt w) (he : NE w bt x lo hi d ps a cap bs h) (HN : Hid (∀ (i : Nat) (t : Tr), ps[i]? = some t → NOk t)) (hok : ndOk d ps.length = true) (hk : d.k = 2)  (hl : (l ++ itemT d (kidsT ps)).length ≤ 2000000000) : Calls prog 69 #[.pointer (some ⟨bt, 0, none⟩), .pointer (some ⟨x, 0, none⟩)] w (sayR bt (l ++ itemT d (kidsT ps)) w) := by
 have ok := okIs hok;have lB := hs.lt;have HS : Hid (SayAt w bt l ∧ TG bt w) := ⟨hs, ht⟩;have HE : Hid (∀ W, Oth bt w W → NE W bt x lo hi d ps a cap bs h) := fun W hW => he.keep hW;have xl : x < bt := he.x
 have heq : l ++ itemT d (kidsT ps) = l ++ varT d ++ ([⟨#[59]⟩] : List ByteArray) := by
  unfold itemT; simp [hk]
 rw [heq] at hl ⊢;have HLN : Hid ((l ++ varT d ++ ([⟨#[59]⟩] : List ByteArray)).length ≤ 2000000000) := hl;have hhi : hi ≤ bt := he.hi;have hcap := he.row.hcap;have hpl := ok.len;have p0 : (0 : Int) ≤ (ps.length : Int) := by omega
 have HX0 : Hid (SayAt w bt l ∧ Oth bt w w) := ⟨hs, Oth.refl _ _⟩;have hz := (HE.out w HX0.out.2).blk;have n0 := nc0 hz;rw [hk] at n0;have n3 := nc3 hz;have n4 := nc4 hz;have n6 := nc6 hz;have n7 := nc7 hz;have n8 := nc8 hz;have n9 := nc9 hz;clear hz;clear hs ht he hok hl heq
 go_enter func69, ntmps69
 go_wp2_with fail
 refine (variable_any bt x _ d _ h w HX0.out.1 (HS.out.2.keep HX0.out.2.bel) xl (HE.out w HX0.out.2).blk ok.s0 ok.s9 ok.c0 ok.c9 (by have := HLN.out; simp only [zla, zlc, zln] at this ⊢; omega)).mono ?_;rintro e w1 ⟨rfl, hs1, hb1⟩;have HX1 : Hid (SayAt w1 bt (l ++ varT d) ∧ Oth bt w w1) := ⟨hs1, HX0.out.2.tr hb1⟩;clear hs1 hb1;clear n0 n3 n4 n6 n7 n8 n9;have hz := (HE.out w1 HX1.out.2).blk;have n0 := nc0 hz;rw [hk] at n0;have n3 := nc3 hz;have n4 := nc4 hz;have n6 := nc6 hz;have n7 := nc7 hz;have n8 := nc8 hz;have n9 := nc9 hz;clear hz;dsimp only;go_wp2_with fail
 refine (say1 bt _ (⟨#[59]⟩) w1 HX1.out.1 (by have := HLN.out; simp only [zla, zlc, zln] at this ⊢; omega)).mono ?_;rintro e w2 ⟨rfl, hs1, hb1⟩;have HX2 : Hid (SayAt w2 bt (l ++ varT d ++ ([⟨#[59]⟩] : List ByteArray)) ∧ Oth bt w w2) := ⟨hs1, HX1.out.2.tr hb1⟩;clear hs1 hb1;clear n0 n3 n4 n6 n7 n8 n9;have hz := (HE.out w2 HX2.out.2).blk;have n0 := nc0 hz;rw [hk] at n0;have n3 := nc3 hz;have n4 := nc4 hz;have n6 := nc6 hz;have n7 := nc7 hz;have n8 := nc8 hz;have n9 := nc9 hz;clear hz;dsimp only;go_wp2;go_end0;exact ⟨rfl, HX2.out⟩
theorem titem_global (bt x lo hi : Nat) (d : ND) (ps : List Tr) (a : Option Addr) (cap : Nat) (bs : List Nat) (h : Int) (l : List ByteArray) (w : World) (hs : SayAt w bt l) (ht : TG bt w) (he : NE w bt x lo hi d ps a cap bs h) (HN : Hid (∀ (i : Nat) (t : Tr), ps[i]? = some t → NOk t)) (hok : ndOk d ps.length = true) (hk : d.k = 3)  (hl : (l ++ itemT d (kidsT ps)).length ≤ 2000000000) : Calls prog 69 #[.pointer (some ⟨bt, 0, none⟩), .pointer (some ⟨x, 0, none⟩)] w (sayR bt (l ++ itemT d (kidsT ps)) w) := by
 have ok := okIs hok;have lB := hs.lt;have HS : Hid (SayAt w bt l ∧ TG bt w) := ⟨hs, ht⟩;have HE : Hid (∀ W, Oth bt w W → NE W bt x lo hi d ps a cap bs h) := fun W hW => he.keep hW;have xl : x < bt := he.x
 have heq : l ++ itemT d (kidsT ps) = l ++ varT d ++ ([⟨#[59]⟩] : List ByteArray) := by
  unfold itemT; simp [hk]
 rw [heq] at hl ⊢;have HLN : Hid ((l ++ varT d ++ ([⟨#[59]⟩] : List ByteArray)).length ≤ 2000000000) := hl;have hhi : hi ≤ bt := he.hi;have hcap := he.row.hcap;have hpl := ok.len;have p0 : (0 : Int) ≤ (ps.length : Int) := by omega
 have HX0 : Hid (SayAt w bt l ∧ Oth bt w w) := ⟨hs, Oth.refl _ _⟩;have hz := (HE.out w HX0.out.2).blk;have n0 := nc0 hz;rw [hk] at n0;have n3 := nc3 hz;have n4 := nc4 hz;have n6 := nc6 hz;have n7 := nc7 hz;have n8 := nc8 hz;have n9 := nc9 hz;clear hz;clear hs ht he hok hl heq
 go_enter func69, ntmps69
 go_wp2_with fail
 refine (variable_any bt x _ d _ h w HX0.out.1 (HS.out.2.keep HX0.out.2.bel) xl (HE.out w HX0.out.2).blk ok.s0 ok.s9 ok.c0 ok.c9 (by have := HLN.out; simp only [zla, zlc, zln] at this ⊢; omega)).mono ?_;rintro e w1 ⟨rfl, hs1, hb1⟩;have HX1 : Hid (SayAt w1 bt (l ++ varT d) ∧ Oth bt w w1) := ⟨hs1, HX0.out.2.tr hb1⟩;clear hs1 hb1;clear n0 n3 n4 n6 n7 n8 n9;have hz := (HE.out w1 HX1.out.2).blk;have n0 := nc0 hz;rw [hk] at n0;have n3 := nc3 hz;have n4 := nc4 hz;have n6 := nc6 hz;have n7 := nc7 hz;have n8 := nc8 hz;have n9 := nc9 hz;clear hz;dsimp only;go_wp2_with fail
 refine (say1 bt _ (⟨#[59]⟩) w1 HX1.out.1 (by have := HLN.out; simp only [zla, zlc, zln] at this ⊢; omega)).mono ?_;rintro e w2 ⟨rfl, hs1, hb1⟩;have HX2 : Hid (SayAt w2 bt (l ++ varT d ++ ([⟨#[59]⟩] : List ByteArray)) ∧ Oth bt w w2) := ⟨hs1, HX1.out.2.tr hb1⟩;clear hs1 hb1;clear n0 n3 n4 n6 n7 n8 n9;have hz := (HE.out w2 HX2.out.2).blk;have n0 := nc0 hz;rw [hk] at n0;have n3 := nc3 hz;have n4 := nc4 hz;have n6 := nc6 hz;have n7 := nc7 hz;have n8 := nc8 hz;have n9 := nc9 hz;clear hz;dsimp only;go_wp2;go_end0;exact ⟨rfl, HX2.out⟩
theorem titem_param1 (bt x lo hi : Nat) (d : ND) (ps : List Tr) (a : Option Addr) (cap : Nat) (bs : List Nat) (h : Int) (l : List ByteArray) (w : World) (hs : SayAt w bt l) (ht : TG bt w) (he : NE w bt x lo hi d ps a cap bs h) (HN : Hid (∀ (i : Nat) (t : Tr), ps[i]? = some t → NOk t)) (hok : ndOk d ps.length = true) (hk : d.k = 5) (hz : d.pub = true) (hl : (l ++ itemT d (kidsT ps)).length ≤ 2000000000) : Calls prog 69 #[.pointer (some ⟨bt, 0, none⟩), .pointer (some ⟨x, 0, none⟩)] w (sayR bt (l ++ itemT d (kidsT ps)) w) := by
 have ok := okIs hok;have lB := hs.lt;have HS : Hid (SayAt w bt l ∧ TG bt w) := ⟨hs, ht⟩;have HE : Hid (∀ W, Oth bt w W → NE W bt x lo hi d ps a cap bs h) := fun W hW => he.keep hW;have xl : x < bt := he.x
 have heq : l ++ itemT d (kidsT ps) = l ++ ([⟨#[112, 117, 98, 108, 105, 99]⟩] : List ByteArray) ++ varT d := by
  unfold itemT; simp [hk, hz]
 rw [heq] at hl ⊢;have HLN : Hid ((l ++ ([⟨#[112, 117, 98, 108, 105, 99]⟩] : List ByteArray) ++ varT d).length ≤ 2000000000) := hl;have hhi : hi ≤ bt := he.hi;have hcap := he.row.hcap;have hpl := ok.len;have p0 : (0 : Int) ≤ (ps.length : Int) := by omega
 have HX0 : Hid (SayAt w bt l ∧ Oth bt w w) := ⟨hs, Oth.refl _ _⟩;have hz := (HE.out w HX0.out.2).blk;have n0 := nc0 hz;rw [hk] at n0;have n3 := nc3 hz;have n4 := nc4 hz;have n6 := nc6 hz;have n7 := nc7 hz;have n8 := nc8 hz;have n9 := nc9 hz;have n10 := nc10 hz;clear hz;clear hs ht he hok hl heq
 go_enter func69, ntmps69
 go_wp2_with fail
 refine (say1 bt _ (⟨#[112, 117, 98, 108, 105, 99]⟩) w HX0.out.1 (by have := HLN.out; simp only [zla, zlc, zln] at this ⊢; omega)).mono ?_;rintro e w1 ⟨rfl, hs1, hb1⟩;have HX1 : Hid (SayAt w1 bt (l ++ ([⟨#[112, 117, 98, 108, 105, 99]⟩] : List ByteArray)) ∧ Oth bt w w1) := ⟨hs1, HX0.out.2.tr hb1⟩;clear hs1 hb1;clear n0 n3 n4 n6 n7 n8 n9 n10;have hz := (HE.out w1 HX1.out.2).blk;have n0 := nc0 hz;rw [hk] at n0;have n3 := nc3 hz;have n4 := nc4 hz;have n6 := nc6 hz;have n7 := nc7 hz;have n8 := nc8 hz;have n9 := nc9 hz;have n10 := nc10 hz;clear hz;dsimp only;go_wp2_with fail
 refine (variable_any bt x _ d _ h w1 HX1.out.1 (HS.out.2.keep HX1.out.2.bel) xl (HE.out w1 HX1.out.2).blk ok.s0 ok.s9 ok.c0 ok.c9 (by have := HLN.out; simp only [zla, zlc, zln] at this ⊢; omega)).mono ?_;rintro e w2 ⟨rfl, hs1, hb1⟩;have HX2 : Hid (SayAt w2 bt (l ++ ([⟨#[112, 117, 98, 108, 105, 99]⟩] : List ByteArray) ++ varT d) ∧ Oth bt w w2) := ⟨hs1, HX1.out.2.tr hb1⟩;clear hs1 hb1;clear n0 n3 n4 n6 n7 n8 n9 n10;have hz := (HE.out w2 HX2.out.2).blk;have n0 := nc0 hz;rw [hk] at n0;have n3 := nc3 hz;have n4 := nc4 hz;have n6 := nc6 hz;have n7 := nc7 hz;have n8 := nc8 hz;have n9 := nc9 hz;have n10 := nc10 hz;clear hz;dsimp only;go_wp2;go_end0;exact ⟨rfl, HX2.out⟩
theorem titem_param0 (bt x lo hi : Nat) (d : ND) (ps : List Tr) (a : Option Addr) (cap : Nat) (bs : List Nat) (h : Int) (l : List ByteArray) (w : World) (hs : SayAt w bt l) (ht : TG bt w) (he : NE w bt x lo hi d ps a cap bs h) (HN : Hid (∀ (i : Nat) (t : Tr), ps[i]? = some t → NOk t)) (hok : ndOk d ps.length = true) (hk : d.k = 5) (hz : d.pub = false) (hl : (l ++ itemT d (kidsT ps)).length ≤ 2000000000) : Calls prog 69 #[.pointer (some ⟨bt, 0, none⟩), .pointer (some ⟨x, 0, none⟩)] w (sayR bt (l ++ itemT d (kidsT ps)) w) := by
 have ok := okIs hok;have lB := hs.lt;have HS : Hid (SayAt w bt l ∧ TG bt w) := ⟨hs, ht⟩;have HE : Hid (∀ W, Oth bt w W → NE W bt x lo hi d ps a cap bs h) := fun W hW => he.keep hW;have xl : x < bt := he.x
 have heq : l ++ itemT d (kidsT ps) = l ++ varT d := by
  unfold itemT; simp [hk, hz]
 rw [heq] at hl ⊢;have HLN : Hid ((l ++ varT d).length ≤ 2000000000) := hl;have hhi : hi ≤ bt := he.hi;have hcap := he.row.hcap;have hpl := ok.len;have p0 : (0 : Int) ≤ (ps.length : Int) := by omega
 have HX0 : Hid (SayAt w bt l ∧ Oth bt w w) := ⟨hs, Oth.refl _ _⟩;have hz := (HE.out w HX0.out.2).blk;have n0 := nc0 hz;rw [hk] at n0;have n3 := nc3 hz;have n6 := nc6 hz;have n7 := nc7 hz;have n8 := nc8 hz;have n9 := nc9 hz;have n10 := nc10 hz;clear hz;clear hs ht he hok hl heq
 go_enter func69, ntmps69
 go_wp2_with fail
 refine (variable_any bt x _ d _ h w HX0.out.1 (HS.out.2.keep HX0.out.2.bel) xl (HE.out w HX0.out.2).blk ok.s0 ok.s9 ok.c0 ok.c9 (by have := HLN.out; simp only [zla, zlc, zln] at this ⊢; omega)).mono ?_;rintro e w1 ⟨rfl, hs1, hb1⟩;have HX1 : Hid (SayAt w1 bt (l ++ varT d) ∧ Oth bt w w1) := ⟨hs1, HX0.out.2.tr hb1⟩;clear hs1 hb1;clear n0 n3 n6 n7 n8 n9 n10;have hz := (HE.out w1 HX1.out.2).blk;have n0 := nc0 hz;rw [hk] at n0;have n3 := nc3 hz;have n6 := nc6 hz;have n7 := nc7 hz;have n8 := nc8 hz;have n9 := nc9 hz;have n10 := nc10 hz;clear hz;dsimp only;go_wp2;go_end0;exact ⟨rfl, HX1.out⟩
theorem titem_function (bt x lo hi : Nat) (d : ND) (ps : List Tr) (a : Option Addr) (cap : Nat) (bs : List Nat) (h : Int) (l : List ByteArray) (w : World) (hs : SayAt w bt l) (ht : TG bt w) (he : NE w bt x lo hi d ps a cap bs h) (HN : Hid (∀ (i : Nat) (t : Tr), ps[i]? = some t → NOk t)) (hok : ndOk d ps.length = true) (hk : d.k = 4)  (hl : (l ++ itemT d (kidsT ps)).length ≤ 2000000000) : Calls prog 69 #[.pointer (some ⟨bt, 0, none⟩), .pointer (some ⟨x, 0, none⟩)] w (sayR bt (l ++ itemT d (kidsT ps)) w) := by
 have ok := okIs hok;have lB := hs.lt;have HS : Hid (SayAt w bt l ∧ TG bt w) := ⟨hs, ht⟩;have HE : Hid (∀ W, Oth bt w W → NE W bt x lo hi d ps a cap bs h) := fun W hW => he.keep hW;have xl : x < bt := he.x;have hlen : 1 ≤ ps.length := by unfold ndOk at hok; simp [hk] at hok; omega
 obtain ⟨m, hm⟩ : ∃ m, ps.length = m + 1 := ⟨ps.length - 1, by omega⟩;have hmi : IntKind.i64.wrap ((ps.length : Int) - 1) = (m : Int) := by rw [IntKind.wrap_i64]; have := ok.len; omega
 have m0 : (0 : Int) ≤ (m : Int) := by omega
 have m1 : (m : Int) < (ps.length : Int) := by omega
 obtain ⟨t0, ht0⟩ : ∃ t, ps[m]? = some t := ⟨_, List.getElem?_eq_getElem (by omega)⟩;obtain ⟨x0, hx0⟩ : ∃ x, bs[m]? = some x := ⟨_, List.getElem?_eq_getElem (by have := he.row.hl; omega)⟩;obtain ⟨g, hga, hg1, hg2, _⟩ := he.row.hrow (by intro hz; rw [hz] at hlen; simp at hlen)
 have HCX : Hid (∀ W, Oth bt w W → W.cell? ⟨g, m, none⟩ = some (.pointer (some ⟨x0, 0, none⟩)) ∧ TreeAt W lo hi t0 x0) := fun W hW => by
  have hr := (he.keep hW).row;obtain ⟨g', e1, _, _, e4⟩ := hr.hrow (by intro hz; rw [hz] at hlen; simp at hlen);rw [hga] at e1
  injection e1 with e1
  injection e1 with e1
  subst e1;exact ⟨e4 m x0 hx0, hr.sub m t0 x0 ht0 hx0⟩
 have HN0 : Hid (NOk t0) := HN.out m t0 ht0
 have heq : l ++ itemT d (kidsT ps) = l ++ varT d ++ listT (kidsT (ps.take m)) ++ nodeT t0 := by
  unfold itemT; simp [hk, kids_len, hm, kids_take, kid_eq ht0]
 rw [heq] at hl ⊢;have HLN : Hid ((l ++ varT d ++ listT (kidsT (ps.take m)) ++ nodeT t0).length ≤ 2000000000) := hl;have hhi : hi ≤ bt := he.hi;have hcap := he.row.hcap;have hpl := ok.len;have p0 : (0 : Int) ≤ (ps.length : Int) := by omega
 have p1 : 1 ≤ ps.length := by omega
 have p1i : (1 : Int) ≤ (ps.length : Int) := by omega
 have pci : (ps.length : Int) ≤ (cap : Int) := by omega
 have HX0 : Hid (SayAt w bt l ∧ Oth bt w w) := ⟨hs, Oth.refl _ _⟩;have hz := (HE.out w HX0.out.2).blk;have n0 := nc0 hz;rw [hk] at n0;have n3 := nc3 hz;have n6 := nc6 hz;have n7 := nc7 hz;have n8 := nc8 hz;have n9 := nc9 hz;have n11 := nc11 hz;rw [hga] at n11;have cx0 := (HCX.out w HX0.out.2).1;clear hz;clear hs ht he hok hl heq;have HM : Hid (ps.length = m + 1) := hm;clear hm
 go_enter func69, ntmps69
 go_wp2_with fail
 refine (variable_any bt x _ d _ h w HX0.out.1 (HS.out.2.keep HX0.out.2.bel) xl (HE.out w HX0.out.2).blk ok.s0 ok.s9 ok.c0 ok.c9 (by have := HLN.out; simp only [zla, zlc, zln] at this ⊢; omega)).mono ?_;rintro e w1 ⟨rfl, hs1, hb1⟩;have HX1 : Hid (SayAt w1 bt (l ++ varT d) ∧ Oth bt w w1) := ⟨hs1, HX0.out.2.tr hb1⟩;clear hs1 hb1;clear n0 n3 n6 n7 n8 n9 n11 cx0;have hz := (HE.out w1 HX1.out.2).blk;have n0 := nc0 hz;rw [hk] at n0;have n3 := nc3 hz;have n6 := nc6 hz;have n7 := nc7 hz;have n8 := nc8 hz;have n9 := nc9 hz;have n11 := nc11 hz;rw [hga] at n11;have cx0 := (HCX.out w1 HX1.out.2).1;clear hz;dsimp only;go_wp2_with fail
 have htk : (ps.take m).length = m := by rw [List.length_take]; have := HM.out; omega
 have hls := list_say bt lo hi cap (some ⟨g, 0, none⟩) (ps.take m) (bs.take m) (l ++ varT d) w1 HX1.out.1 (HS.out.2.keep HX1.out.2.bel) ((hga ▸ (HE.out w1 HX1.out.2).row).take m) hhi (fun i t h => HN.out i t (take_get h)) (by rw [htk]; omega) (by have := HLN.out; simp only [zla, zlc, zln] at this ⊢; omega);rw [htk] at hls;refine hls.mono ?_;clear hls;rintro e w2 ⟨rfl, hs1, hb1⟩;have HX2 : Hid (SayAt w2 bt (l ++ varT d ++ listT (kidsT (ps.take m))) ∧ Oth bt w w2) := ⟨hs1, HX1.out.2.tr hb1⟩;clear hs1 hb1;clear n0 n3 n6 n7 n8 n9 n11 cx0;have hz := (HE.out w2 HX2.out.2).blk;have n0 := nc0 hz;rw [hk] at n0;have n3 := nc3 hz;have n6 := nc6 hz;have n7 := nc7 hz;have n8 := nc8 hz;have n9 := nc9 hz;have n11 := nc11 hz;rw [hga] at n11;have cx0 := (HCX.out w2 HX2.out.2).1;clear hz;dsimp only;go_wp2_with fail
 refine (HN0.out bt x0 lo hi _ w2 HX2.out.1 (HS.out.2.keep HX2.out.2.bel) (HCX.out w2 HX2.out.2).2 hhi (by have := HLN.out; simp only [zla, zlc, zln] at this ⊢; omega)).mono ?_;rintro e w3 ⟨rfl, hs1, hb1⟩;have HX3 : Hid (SayAt w3 bt (l ++ varT d ++ listT (kidsT (ps.take m)) ++ nodeT t0) ∧ Oth bt w w3) := ⟨hs1, HX2.out.2.tr hb1⟩;clear hs1 hb1;clear n0 n3 n6 n7 n8 n9 n11 cx0;have hz := (HE.out w3 HX3.out.2).blk;have n0 := nc0 hz;rw [hk] at n0;have n3 := nc3 hz;have n6 := nc6 hz;have n7 := nc7 hz;have n8 := nc8 hz;have n9 := nc9 hz;have n11 := nc11 hz;rw [hga] at n11;have cx0 := (HCX.out w3 HX3.out.2).1;clear hz;dsimp only;go_wp2;go_end0;exact ⟨rfl, HX3.out⟩
theorem told_item (bt x lo hi : Nat) (d : ND) (ps : List Tr) (a : Option Addr) (cap : Nat) (bs : List Nat) (h : Int) (l : List ByteArray) (w : World) (hs : SayAt w bt l) (ht : TG bt w) (he : NE w bt x lo hi d ps a cap bs h) (HN : Hid (∀ (i : Nat) (t : Tr), ps[i]? = some t → NOk t)) (hok : ndOk d ps.length = true) (hc : d.k = 1 ∨ d.k = 2 ∨ d.k = 3 ∨ d.k = 4 ∨ d.k = 5) (hl : (l ++ itemT d (kidsT ps)).length ≤ 2000000000) : Calls prog 69 #[.pointer (some ⟨bt, 0, none⟩), .pointer (some ⟨x, 0, none⟩)] w (sayR bt (l ++ itemT d (kidsT ps)) w) := by
 rcases hc with e | e | e | e | e
 ·exact titem_struct bt x lo hi d ps a cap bs h l w hs ht he HN hok e hl
 ·exact titem_field bt x lo hi d ps a cap bs h l w hs ht he HN hok e hl
 ·exact titem_global bt x lo hi d ps a cap bs h l w hs ht he HN hok e hl
 ·exact titem_function bt x lo hi d ps a cap bs h l w hs ht he HN hok e hl
 ·cases hz : d.pub with
  | true => exact titem_param1 bt x lo hi d ps a cap bs h l w hs ht he HN hok e hz hl
  | false => exact titem_param0 bt x lo hi d ps a cap bs h l w hs ht he HN hok e hz hl
theorem told_expr (bt x lo hi : Nat) (d : ND) (ps : List Tr) (a : Option Addr) (cap : Nat) (bs : List Nat) (h : Int) (l : List ByteArray) (w : World) (hs : SayAt w bt l) (ht : TG bt w) (he : NE w bt x lo hi d ps a cap bs h) (HN : Hid (∀ (i : Nat) (t : Tr), ps[i]? = some t → NOk t)) (hok : ndOk d ps.length = true) (hc : d.k = 17 ∨ d.k = 18 ∨ d.k = 19 ∨ d.k = 20 ∨ d.k = 21 ∨ d.k = 22 ∨ d.k = 23 ∨ d.k = 24 ∨ d.k = 25 ∨ d.k = 26) (hl : (l ++ exprT d (kidsT ps)).length ≤ 2000000000) : Calls prog 71 #[.pointer (some ⟨bt, 0, none⟩), .pointer (some ⟨x, 0, none⟩)] w (sayR bt (l ++ exprT d (kidsT ps)) w) := by
 rcases hc with e | e | e | e | e | e | e | e | e | e
 ·exact expr_num bt x lo hi d ps a cap bs h l w hs ht he HN hok e hl
 ·exact expr_name bt x lo hi d ps a cap bs h l w hs ht he HN hok e hl
 ·exact expr_call bt x lo hi d ps a cap bs h l w hs ht he HN hok e hl
 ·exact expr_un bt x lo hi d ps a cap bs h l w hs ht he HN hok e hl
 ·exact expr_bin bt x lo hi d ps a cap bs h l w hs ht he HN hok e hl
 ·exact expr_cast bt x lo hi d ps a cap bs h l w hs ht he HN hok e hl
 ·exact expr_index bt x lo hi d ps a cap bs h l w hs ht he HN hok e hl
 ·exact expr_member bt x lo hi d ps a cap bs h l w hs ht he HN hok e hl
 ·exact expr_in bt x lo hi d ps a cap bs h l w hs ht he HN hok e hl
 ·exact expr_sizeof bt x lo hi d ps a cap bs h l w hs ht he HN hok e hl
theorem told_stmt (bt x lo hi : Nat) (d : ND) (ps : List Tr) (a : Option Addr) (cap : Nat) (bs : List Nat) (h : Int) (l : List ByteArray) (w : World) (hs : SayAt w bt l) (ht : TG bt w) (he : NE w bt x lo hi d ps a cap bs h) (HN : Hid (∀ (i : Nat) (t : Tr), ps[i]? = some t → NOk t)) (hok : ndOk d ps.length = true) (h6 : 6 ≤ d.k) (h17 : d.k < 17) (hl : (l ++ stmtT d (kidsT ps)).length ≤ 2000000000) : Calls prog 70 #[.pointer (some ⟨bt, 0, none⟩), .pointer (some ⟨x, 0, none⟩)] w (sayR bt (l ++ stmtT d (kidsT ps)) w) := by
 by_cases e6 : d.k = 6
 ·exact stmt_block bt x lo hi d ps a cap bs h l w hs ht he HN hok e6 hl
 by_cases e9 : d.k = 9
 ·have hlen : 2 ≤ ps.length := by
   have h := hok;unfold ndOk at h;simp [e9] at h
   omega
  by_cases hz : 2 < ps.length
  ·exact stmt_if3 bt x lo hi d ps a cap bs h l w hs ht he HN hok e9 hz hl
  ·exact stmt_if2 bt x lo hi d ps a cap bs h l w hs ht he HN hok e9 (by omega) hl
 by_cases e10 : d.k = 10
 ·exact stmt_while bt x lo hi d ps a cap bs h l w hs ht he HN hok e10 hl
 ·exact stmt_plain bt x lo hi d ps a cap bs h l w hs ht he HN hok (by omega) h17 hl
theorem node_of (bt x lo hi : Nat) (d : ND) (ps : List Tr) (a : Option Addr) (cap : Nat) (bs : List Nat) (h : Int) (l : List ByteArray) (w : World) (hs : SayAt w bt l) (ht : TG bt w) (he : NE w bt x lo hi d ps a cap bs h) (HN : Hid (∀ (i : Nat) (t : Tr), ps[i]? = some t → NOk t)) (hok : ndOk d ps.length = true) (hkk : 1 ≤ d.k ∧ d.k ≤ 26) (hl : (l ++ tellT d (kidsT ps)).length ≤ 2000000000) : Calls prog 40 #[.pointer (some ⟨bt, 0, none⟩), .pointer (some ⟨x, 0, none⟩)] w (sayR bt (l ++ tellT d (kidsT ps)) w) := by
 have n0 : w.cell? ⟨x, 0, none⟩ = some (.int .i64 d.k) := heap_cell he.blk (by simp [nodeCells])
 by_cases h6 : d.k < 6
 ·have heq : tellT d (kidsT ps) = itemT d (kidsT ps) := by unfold tellT; rw [if_pos h6]
  rw [heq] at hl ⊢;have HC : Hid (Calls prog 69 #[.pointer (some ⟨bt, 0, none⟩), .pointer (some ⟨x, 0, none⟩)] w (sayR bt (l ++ itemT d (kidsT ps)) w)) := told_item bt x lo hi d ps a cap bs h l w hs ht he HN hok (by omega) hl;have b6 : decide (d.k < 6) = true := decide_eq_true h6;clear hs ht he hok hl heq
  go_enter func40, ntmps40
  go_wp2_with fail
  refine HC.out.mono ?_;rintro e w1 ⟨rfl, hs1, hb1⟩;have HX1 : Hid (SayAt w1 bt (l ++ itemT d (kidsT ps)) ∧ Oth bt w w1) := ⟨hs1, hb1⟩;clear hs1 hb1;dsimp only;go_wp2;go_end0;exact ⟨rfl, HX1.out⟩
 by_cases h17 : d.k < 17
 ·have heq : tellT d (kidsT ps) = stmtT d (kidsT ps) := by unfold tellT; rw [if_neg h6, if_pos h17]
  rw [heq] at hl ⊢;have HC : Hid (Calls prog 70 #[.pointer (some ⟨bt, 0, none⟩), .pointer (some ⟨x, 0, none⟩)] w (sayR bt (l ++ stmtT d (kidsT ps)) w)) := told_stmt bt x lo hi d ps a cap bs h l w hs ht he HN hok (by omega) h17 hl;have b6 : decide (d.k < 6) = false := decide_eq_false h6;have b17 : decide (d.k < 17) = true := decide_eq_true h17;clear hs ht he hok hl heq
  go_enter func40, ntmps40
  go_wp2_with fail
  refine HC.out.mono ?_;rintro e w1 ⟨rfl, hs1, hb1⟩;have HX1 : Hid (SayAt w1 bt (l ++ stmtT d (kidsT ps)) ∧ Oth bt w w1) := ⟨hs1, hb1⟩;clear hs1 hb1;dsimp only;go_wp2;go_end0;exact ⟨rfl, HX1.out⟩
 ·have heq : tellT d (kidsT ps) = exprT d (kidsT ps) := by unfold tellT; rw [if_neg h6, if_neg h17]
  rw [heq] at hl ⊢;have HC : Hid (Calls prog 71 #[.pointer (some ⟨bt, 0, none⟩), .pointer (some ⟨x, 0, none⟩)] w (sayR bt (l ++ exprT d (kidsT ps)) w)) := told_expr bt x lo hi d ps a cap bs h l w hs ht he HN hok (by omega) hl;have b6 : decide (d.k < 6) = false := decide_eq_false h6;have b17 : decide (d.k < 17) = false := decide_eq_false h17;clear hs ht he hok hl heq
  go_enter func40, ntmps40
  go_wp2_with fail
  refine HC.out.mono ?_;rintro e w1 ⟨rfl, hs1, hb1⟩;have HX1 : Hid (SayAt w1 bt (l ++ exprT d (kidsT ps)) ∧ Oth bt w w1) := ⟨hs1, hb1⟩;clear hs1 hb1;dsimp only;go_wp2;go_end0;exact ⟨rfl, HX1.out⟩

def kdT : Tr → Bool
 | .mk d ps _ => decide (1 ≤ d.k ∧ d.k ≤ 26) && kdsT ps
where kdsT : List Tr → Bool
 | [] => true
 | t :: r => kdT t && kdsT r
open kdT
theorem kds_get : ∀ (l : List Tr) (i : Nat) (t : Tr), kdsT l = true → l[i]? = some t → kdT t = true
 | [], i, t, _, h => by simp at h
 | x :: r, 0, t, ho, h => by rw [kdsT] at ho; simp at h; subst h; exact (Bool.and_eq_true_iff.1 ho).1
 | x :: r, i + 1, t, ho, h => by rw [kdsT] at ho; exact kds_get r i t (Bool.and_eq_true_iff.1 ho).2 (by simpa using h)
theorem nok (t : Tr) (ho : okT t = true) (hk : kdT t = true) : NOk t := by
 match t, ho, hk with
 | .mk d ps h, ho, hk =>
  rw [okT] at ho;rw [kdT] at hk;intro bt x lo hi l w hs ht htr hh hl;obtain ⟨a, cap, bs, h1, h2, h3, h4⟩ := htr.row;rw [nodeT] at hl ⊢;exact node_of bt x lo hi d ps a cap bs h l w hs ht ⟨h1, h2, hh, by omega⟩ (fun i t hti => nok t (oks_get ps i t (Bool.and_eq_true_iff.1 ho).2 hti) (kds_get ps i t (Bool.and_eq_true_iff.1 hk).2 hti)) (Bool.and_eq_true_iff.1 ho).1 (of_decide_eq_true (Bool.and_eq_true_iff.1 hk).1) hl
termination_by SizeOf.sizeOf t
decreasing_by
 have := List.sizeOf_lt_of_mem (List.mem_of_getElem? hti);simp
 omega
end Go.Proofs.YtlonbaefdffbeaaGreatDoor

