import Derived.Test.YtlonbaefdffbeaaGreatDoorShelf
import Derived.Test.YtlonbaefdffbeaaGreatDoorXIt
namespace Go.Proofs.YtlonbaefdffbeaaGreatDoor
open Go.ChangeShapes Go.WideShapes Go.ChangeAt Go.RowKit Go.Proofs.Tryz
set_option linter.unusedSimpArgs false
set_option linter.unusedVariables false
set_option maxRecDepth 20000
set_option maxHeartbeats 4000000

def fmtI (n : Int) : ByteArray := ⟨(Lib.itoa n).toArray⟩
def starsT : Nat → List ByteArray
 | 0 => []
 | n + 1 => starsT n ++ [⟨#[42]⟩]
def baseT (t : Sh) : List ByteArray := [t.base] ++ starsT t.stars.toNat
def brackT (t : Sh) : List ByteArray := if t.isList = true then [⟨#[91]⟩, fmtI t.count, ⟨#[93]⟩] else []
def varT (d : ND) : List ByteArray := baseT d.ty ++ [d.name] ++ brackT d.ty
abbrev KW := Int × List ByteArray
def joinT : List KW → List ByteArray
 | [] => []
 | k :: r => k.2 ++ joinT r
def commaT : List KW → List ByteArray
 | [] => []
 | k :: r => [⟨#[44]⟩] ++ k.2 ++ commaT r
def innerT : List KW → List ByteArray
 | [] => []
 | k :: r => k.2 ++ commaT r
def listT (l : List KW) : List ByteArray := [⟨#[40]⟩] ++ innerT l ++ [⟨#[41]⟩]
def bodyT (k : KW) : List ByteArray := if k.1 = 6 then k.2 else [⟨#[123]⟩] ++ k.2 ++ [⟨#[125]⟩]
def kid (l : List KW) (i : Nat) : KW := (l[i]?).getD (0, [])
def itemT (d : ND) (l : List KW) : List ByteArray :=
 if d.k = 1 then [⟨#[115, 116, 114, 117, 99, 116]⟩, d.name, ⟨#[123]⟩] ++ joinT l ++ [⟨#[125]⟩, ⟨#[59]⟩]
 else if d.k = 2 ∨ d.k = 3 then varT d ++ [⟨#[59]⟩]
 else if d.k = 4 then varT d ++ listT (l.take (l.length - 1)) ++ (kid l (l.length - 1)).2
 else if d.k = 5 then (if d.pub = true then [⟨#[112, 117, 98, 108, 105, 99]⟩] else []) ++ varT d
 else []
def plainT (d : ND) (l : List KW) : List ByteArray :=
 if d.k = 7 then varT d ++ (if l.length = 0 then [] else [⟨#[61]⟩]) ++ joinT l
 else if d.k = 11 then [⟨#[98, 114, 101, 97, 107]⟩]
 else if d.k = 12 then [⟨#[99, 111, 110, 116, 105, 110, 117, 101]⟩]
 else if d.k = 13 then [⟨#[114, 101, 116, 117, 114, 110]⟩] ++ joinT l
 else if d.k = 14 then [⟨#[111, 117, 116]⟩] ++ listT l
 else if d.k = 15 then (kid l 0).2 ++ [⟨#[61]⟩] ++ (kid l 1).2
 else if d.k = 16 then joinT l
 else []
def stmtT (d : ND) (l : List KW) : List ByteArray :=
 if d.k = 6 then [⟨#[123]⟩] ++ joinT l ++ [⟨#[125]⟩]
 else if d.k = 9 then [⟨#[105, 102]⟩] ++ listT (l.take 1) ++ bodyT (kid l 1) ++ (if 2 < l.length then [⟨#[101, 108, 115, 101]⟩] ++ bodyT (kid l 2) else [])
 else if d.k = 10 then [⟨#[119, 104, 105, 108, 101]⟩] ++ listT (l.take 1) ++ bodyT (kid l 1)
 else plainT d l ++ [⟨#[59]⟩]
def enclT (d : ND) (l : List KW) : List ByteArray :=
 [⟨#[40]⟩] ++ (if d.k = 20 then [d.op] ++ (kid l 0).2 else if d.k = 21 then (kid l 0).2 ++ [d.op] ++ (kid l 1).2 else if d.k = 22 then [⟨#[40]⟩] ++ baseT d.ty ++ [⟨#[41]⟩] ++ (kid l 0).2 else []) ++ [⟨#[41]⟩]
def exprT (d : ND) (l : List KW) : List ByteArray :=
 if d.k = 17 then [fmtI d.n]
 else if d.k = 18 then [d.name]
 else if d.k = 19 then [d.name] ++ listT l
 else if d.k = 25 then [⟨#[105, 110]⟩] ++ listT []
 else if d.k = 26 then [⟨#[115, 105, 122, 101, 111, 102]⟩, ⟨#[40]⟩] ++ baseT d.ty ++ brackT d.ty ++ [⟨#[41]⟩]
 else if d.k = 23 then (kid l 0).2 ++ [⟨#[91]⟩] ++ (kid l 1).2 ++ [⟨#[93]⟩]
 else if d.k = 24 then (kid l 0).2 ++ [d.op, d.name]
 else enclT d l
def tellT (d : ND) (l : List KW) : List ByteArray := if d.k < 6 then itemT d l else if d.k < 17 then stmtT d l else exprT d l
def ndOk (d : ND) (n : Nat) : Bool :=
 decide (0 ≤ d.ty.stars ∧ d.ty.stars ≤ 65536 ∧ -9223372036854775808 ≤ d.ty.count ∧ d.ty.count ≤ 9223372036854775807 ∧ -9223372036854775808 ≤ d.n ∧ d.n ≤ 9223372036854775807 ∧ n ≤ 100000) &&
 (if d.k = 4 then decide (1 ≤ n) else if d.k = 9 ∨ d.k = 10 ∨ d.k = 15 ∨ d.k = 21 ∨ d.k = 23 then decide (2 ≤ n) else if d.k = 20 ∨ d.k = 22 ∨ d.k = 24 then decide (1 ≤ n) else true)
def nodeT : Tr → List ByteArray
 | .mk d ps _ => tellT d (kidsT ps)
where kidsT : List Tr → List KW
 | [] => []
 | t :: r => (t.d.k, nodeT t) :: kidsT r
def okT : Tr → Bool
 | .mk d ps _ => ndOk d ps.length && oksT ps
where oksT : List Tr → Bool
 | [] => true
 | t :: r => okT t && oksT r
open nodeT okT
theorem kids_len : ∀ l : List Tr, (kidsT l).length = l.length
 | [] => rfl
 | t :: r => by rw [kidsT, List.length_cons, List.length_cons, kids_len r]
theorem kids_get : ∀ (l : List Tr) (i : Nat) (t : Tr), l[i]? = some t → (kidsT l)[i]? = some (t.d.k, nodeT t)
 | [], i, t, h => by simp at h
 | x :: r, 0, t, h => by simp at h; subst h; rw [kidsT]; rfl
 | x :: r, i + 1, t, h => by rw [kidsT]; simpa using kids_get r i t (by simpa using h)
theorem oks_get : ∀ (l : List Tr) (i : Nat) (t : Tr), oksT l = true → l[i]? = some t → okT t = true
 | [], i, t, _, h => by simp at h
 | x :: r, 0, t, ho, h => by rw [oksT] at ho; simp at h; subst h; exact (Bool.and_eq_true_iff.1 ho).1
 | x :: r, i + 1, t, ho, h => by rw [oksT] at ho; exact oks_get r i t (Bool.and_eq_true_iff.1 ho).2 (by simpa using h)
structure SayAt (W : World) (bt : Nat) (l : List ByteArray) : Prop where
 ex : ∃ a cap, W.heap[bt]? = some (.cells #[.slice a l.length cap] 66 (0, 0)) ∧ W.ownsRow (bt + 1) 9 1 (.slice a l.length cap) l.length (l.map Value.string)
theorem SayAt.lt {W : World} {bt : Nat} {l : List ByteArray} (h : SayAt W bt l) : bt < W.heap.size := by
 obtain ⟨a, cap, h1, _⟩ := h.ex;exact (zge h1).1
theorem SayAt.below {W W' : World} {bt : Nat} {l : List ByteArray} (h : SayAt W bt l) (hb : Below W.heap.size W W') : SayAt W' bt l := by
 obtain ⟨a, cap, h1, h2⟩ := h.ex;exact ⟨a, cap, (hb.block _ h.lt).trans h1, ownsRow_same' h2 (fun k _ k2 => hb.block k k2)⟩
structure Oth (bt : Nat) (w W : World) : Prop where
 bel : Below bt w W
 oth : ∀ k, k < w.heap.size → k ≠ bt → (∀ cs z, w.heap[k]? ≠ some (.cells cs 9 z)) → W.heap[k]? = w.heap[k]?
theorem Oth.refl (bt : Nat) (w : World) : Oth bt w w := ⟨Below.refl _ _, fun _ _ _ _ => rfl⟩
theorem Oth.tr {bt : Nat} {w W V : World} (h : Oth bt w W) (h2 : Oth bt W V) : Oth bt w V :=
 ⟨⟨h2.bel.os.trans h.bel.os, h2.bel.tape.trans h.bel.tape, h2.bel.output.trans h.bel.output, Nat.le_trans h.bel.size h2.bel.size, fun k hk => (h2.bel.block k hk).trans (h.bel.block k hk)⟩,
  fun k k1 k2 k3 => (h2.oth k (Nat.lt_of_lt_of_le k1 h.bel.size) k2 (fun cs z => by rw [h.oth k k1 k2 k3]; exact k3 cs z)).trans (h.oth k k1 k2 k3)⟩
theorem Oth.of {bt : Nat} {w W : World} (h : Below w.heap.size w W) (hb : bt ≤ w.heap.size) : Oth bt w W := ⟨⟨h.os, h.tape, h.output, h.size, fun k hk => h.block k (by omega)⟩, fun k k1 _ _ => h.block k k1⟩
def sayR (bt : Nat) (l : List ByteArray) (w : World) : Ending → World → Prop := fun e W => e = .returned (.tuple #[]) ∧ SayAt W bt l ∧ Oth bt w W
theorem infoStr : (prog.info? 9).map (fun i => (i.zero, i.size, i.bytes)) = some (some (.string ⟨#[]⟩), 1, 16) := by kernel_rfl
def Tab10 (w : World) : Prop := Lib.TabIs prog w "internal/strconv.uint64pow10" .u64 Lib.pow10Tab
def TG (bt : Nat) (w : World) : Prop := Tab10 w ∧ 4 < bt
theorem tab10_keep {w w' : World} (h : Tab10 w) (hb : w'.heap[4]? = w.heap[4]?) : Tab10 w' := by
 have hg : prog.globalNamed "internal/strconv.uint64pow10" = some 4 := by kernel_rfl
 unfold Tab10 Lib.TabIs World.var? at h ⊢;rw [hg] at h ⊢;simp only [Option.bind_some] at h ⊢;rw [hb];exact h
theorem TG.keep {bt : Nat} {w W : World} (h : TG bt w) (hb : Below bt w W) : TG bt W := ⟨tab10_keep h.1 (hb.block _ h.2), h.2⟩
theorem fmtT_to (n : Int) (w : World) (h0 : -9223372036854775808 ≤ n) (h1 : n ≤ 9223372036854775807) (ht : Tab10 w) : Calls prog 105 #[.int .i64 n, .int .i64 10] w (retP (.string (fmtI n)) w) := by
 refine (Tryz.strconv_FormatInt_10 n h0 h1 w ht).mono ?_;rintro e W ⟨he, k, os, hw⟩;refine ⟨he, ?_⟩;rw [hw];exact ⟨rfl, rfl, rfl, by show w.heap.size ≤ (w.heap ++ os).size; rw [Array.size_append]; omega, fun j hj => by show (w.heap ++ os)[j]? = w.heap[j]?; rw [Array.getElem?_append, if_pos hj]⟩
theorem say1 (bt : Nat) (l : List ByteArray) (x : ByteArray) (w : World) (h : SayAt w bt l) (hl : l.length ≤ 2000000000) : Calls prog 100 #[.pointer (some ⟨bt, 0, none⟩), .slice (some ⟨w.heap.size, 0, none⟩) 1 1] (w.alloc (.cells #[.string x] 9)) (sayR bt (l ++ [x]) w) := by
 obtain ⟨i0', hinf, hz0, hz1, hz2⟩ := info_parts infoStr;have lB := h.lt;obtain ⟨a, cap, h1, h2⟩ := h.ex;have c0 : w.cell? ⟨bt, 0, none⟩ = some (.slice a l.length cap) := heap_cell h1 (by simp);have HB : Hid (w.heap[bt]? = some (.cells #[.slice a l.length cap] 66 (0, 0))) := h1;have HO : Hid (w.ownsRow (bt + 1) 9 1 (.slice a l.length cap) l.length (l.map Value.string)) := h2;clear h h1 h2
 go_enter func100, ntmps100
 go_wp2_with (at_builtin; refine wpList_append_own_at _ rfl _ _ 38 rfl (bt + 1) 9 i0' (.string ⟨#[]⟩) 1 16 underlying38 hinf hz0 hz1 hz2 rfl (by decide) (.slice a l.length cap) l.length (l.map Value.string) (by rfl) (HO.out.alloc _) ⟨w.heap.size, 0, none⟩ 1 1 [.string x] (by rfl) (by rfl) ?c1 ?c2 ?c3 ?c4 ?c5 ?_)
 case c1 => exact World.news_of_block (World.alloc_heap_new w (.cells #[.string x] 9))
 case c2 => intro u hu; simp at hu; subst hu; rfl
 case c3 => unfold maxLen; omega
 case c4 => omega
 case c5 => simp; omega
 intro v' W2 hown' hgrow _ hat;have hnb : some bt ≠ (Value.slice a l.length cap).ownBlock := fun he => by have := (own_lt HO.out he.symm).1; omega
 have HB2 : Hid (W2.heap[bt]? = some (.cells #[.slice a l.length cap] 66 (0, 0))) := (hgrow.block _ (by simp; omega) hnb).trans ((Below.heap_alloc w _ bt lB).trans HB.out)
 have HT2 : Hid (∀ k, k < w.heap.size → (∀ cs z, w.heap[k]? ≠ some (.cells cs 9 z)) → W2.heap[k]? = w.heap[k]?) := fun k hk hty => (hgrow.block _ (by simp; omega) (fun he => by
  rcases HO.out.2 with ⟨hv, _⟩ | ⟨g, cp, cur, hv, _, hg3, _⟩
  ·rw [hv] at he; simp [Value.ownBlock] at he
  ·rw [hv] at he
   simp [Value.ownBlock] at he;subst he;exact hty _ _ hg3)).trans (Below.heap_alloc w _ k (by omega))
 have HK2 : Hid (Below bt w W2) := ⟨hgrow.os, hgrow.tape, hgrow.output, by have := hgrow.size; simp at this; omega, fun k hk => (hgrow.block _ (by simp; omega) (fun he => by have := (own_lt HO.out he.symm).1; omega)).trans (Below.heap_alloc w _ k (by omega))⟩;have HO2 : Hid (W2.ownsRow (bt + 1) 9 1 v' (l.length + 1) (l.map Value.string ++ [.string x])) := hown';have d0 : W2.cell? ⟨bt, 0, none⟩ = some (.slice a l.length cap) := heap_cell HB2.out (by simp);have f0 : W2.frozen? ⟨bt, 0, none⟩ = false := heap_frozen HB2.out
 obtain ⟨a2, n2, cap2, rfl⟩ : ∃ a2 n2 cap2, v' = .slice a2 n2 cap2 := by
  rcases hown'.2 with ⟨hv, _⟩ | ⟨g, cap, cur, hv, _⟩
  ·exact ⟨_, _, _, hv⟩
  ·exact ⟨_, _, _, hv⟩
 have hn2 : n2 = l.length + 1 := by
  rcases hown'.2 with ⟨hv, hz⟩ | ⟨g, cap, cur, hv, _⟩
  ·injection hv with _ hv2 _; omega
  ·injection hv with _ hv2 _
 clear hown' hgrow hat hnb c0;subst hn2;go_wp2;go_end0;refine ⟨rfl, ⟨a2, cap2, ?_, ?_⟩, ?_⟩
 ·rw [List.length_append]
  exact Eq.trans (heap_set_same (o := 0) HB2.out _) (by simp)
 ·rw [List.length_append, List.map_append]
  exact ownsRow_same' HO2.out (fun k k1 _ => heap_set_other (by omega))
 ·exact ⟨HK2.out.setCell (p := ⟨bt, 0, none⟩) (Nat.le_refl _) _, fun k k1 k2 k3 => (heap_set_other k2).trans (HT2.out k k1 k3)⟩
theorem say2 (bt : Nat) (l : List ByteArray) (x y : ByteArray) (w : World) (h : SayAt w bt l) (hl : l.length ≤ 2000000000) : Calls prog 100 #[.pointer (some ⟨bt, 0, none⟩), .slice (some ⟨w.heap.size, 0, none⟩) 2 2] (w.alloc (.cells #[.string x, .string y] 9)) (sayR bt (l ++ [x, y]) w) := by
 obtain ⟨i0', hinf, hz0, hz1, hz2⟩ := info_parts infoStr;have lB := h.lt;obtain ⟨a, cap, h1, h2⟩ := h.ex;have c0 : w.cell? ⟨bt, 0, none⟩ = some (.slice a l.length cap) := heap_cell h1 (by simp);have HB : Hid (w.heap[bt]? = some (.cells #[.slice a l.length cap] 66 (0, 0))) := h1;have HO : Hid (w.ownsRow (bt + 1) 9 1 (.slice a l.length cap) l.length (l.map Value.string)) := h2;clear h h1 h2
 go_enter func100, ntmps100
 go_wp2_with (at_builtin; refine wpList_append_own_at _ rfl _ _ 38 rfl (bt + 1) 9 i0' (.string ⟨#[]⟩) 1 16 underlying38 hinf hz0 hz1 hz2 rfl (by decide) (.slice a l.length cap) l.length (l.map Value.string) (by rfl) (HO.out.alloc _) ⟨w.heap.size, 0, none⟩ 2 2 [.string x, .string y] (by rfl) (by rfl) ?c1 ?c2 ?c3 ?c4 ?c5 ?_)
 case c1 => exact World.news_of_block (World.alloc_heap_new w (.cells #[.string x, .string y] 9))
 case c2 => intro u hu; simp at hu; rcases hu with rfl | rfl <;> rfl
 case c3 => unfold maxLen; omega
 case c4 => omega
 case c5 => simp; omega
 intro v' W2 hown' hgrow _ hat;have hnb : some bt ≠ (Value.slice a l.length cap).ownBlock := fun he => by have := (own_lt HO.out he.symm).1; omega
 have HB2 : Hid (W2.heap[bt]? = some (.cells #[.slice a l.length cap] 66 (0, 0))) := (hgrow.block _ (by simp; omega) hnb).trans ((Below.heap_alloc w _ bt lB).trans HB.out)
 have HT2 : Hid (∀ k, k < w.heap.size → (∀ cs z, w.heap[k]? ≠ some (.cells cs 9 z)) → W2.heap[k]? = w.heap[k]?) := fun k hk hty => (hgrow.block _ (by simp; omega) (fun he => by
  rcases HO.out.2 with ⟨hv, _⟩ | ⟨g, cp, cur, hv, _, hg3, _⟩
  ·rw [hv] at he; simp [Value.ownBlock] at he
  ·rw [hv] at he
   simp [Value.ownBlock] at he;subst he;exact hty _ _ hg3)).trans (Below.heap_alloc w _ k (by omega))
 have HK2 : Hid (Below bt w W2) := ⟨hgrow.os, hgrow.tape, hgrow.output, by have := hgrow.size; simp at this; omega, fun k hk => (hgrow.block _ (by simp; omega) (fun he => by have := (own_lt HO.out he.symm).1; omega)).trans (Below.heap_alloc w _ k (by omega))⟩;have HO2 : Hid (W2.ownsRow (bt + 1) 9 1 v' (l.length + 2) (l.map Value.string ++ [.string x, .string y])) := hown';have d0 : W2.cell? ⟨bt, 0, none⟩ = some (.slice a l.length cap) := heap_cell HB2.out (by simp);have f0 : W2.frozen? ⟨bt, 0, none⟩ = false := heap_frozen HB2.out
 obtain ⟨a2, n2, cap2, rfl⟩ : ∃ a2 n2 cap2, v' = .slice a2 n2 cap2 := by
  rcases hown'.2 with ⟨hv, _⟩ | ⟨g, cap, cur, hv, _⟩
  ·exact ⟨_, _, _, hv⟩
  ·exact ⟨_, _, _, hv⟩
 have hn2 : n2 = l.length + 2 := by
  rcases hown'.2 with ⟨hv, hz⟩ | ⟨g, cap, cur, hv, _⟩
  ·injection hv with _ hv2 _; omega
  ·injection hv with _ hv2 _
 clear hown' hgrow hat hnb c0;subst hn2;go_wp2;go_end0;refine ⟨rfl, ⟨a2, cap2, ?_, ?_⟩, ?_⟩
 ·rw [List.length_append]
  exact Eq.trans (heap_set_same (o := 0) HB2.out _) (by simp)
 ·rw [List.length_append, List.map_append]
  exact ownsRow_same' HO2.out (fun k k1 _ => heap_set_other (by omega))
 ·exact ⟨HK2.out.setCell (p := ⟨bt, 0, none⟩) (Nat.le_refl _) _, fun k k1 k2 k3 => (heap_set_other k2).trans (HT2.out k k1 k3)⟩
theorem say3 (bt : Nat) (l : List ByteArray) (x y z : ByteArray) (w : World) (h : SayAt w bt l) (hl : l.length ≤ 2000000000) : Calls prog 100 #[.pointer (some ⟨bt, 0, none⟩), .slice (some ⟨w.heap.size, 0, none⟩) 3 3] (w.alloc (.cells #[.string x, .string y, .string z] 9)) (sayR bt (l ++ [x, y, z]) w) := by
 obtain ⟨i0', hinf, hz0, hz1, hz2⟩ := info_parts infoStr;have lB := h.lt;obtain ⟨a, cap, h1, h2⟩ := h.ex;have c0 : w.cell? ⟨bt, 0, none⟩ = some (.slice a l.length cap) := heap_cell h1 (by simp);have HB : Hid (w.heap[bt]? = some (.cells #[.slice a l.length cap] 66 (0, 0))) := h1;have HO : Hid (w.ownsRow (bt + 1) 9 1 (.slice a l.length cap) l.length (l.map Value.string)) := h2;clear h h1 h2
 go_enter func100, ntmps100
 go_wp2_with (at_builtin; refine wpList_append_own_at _ rfl _ _ 38 rfl (bt + 1) 9 i0' (.string ⟨#[]⟩) 1 16 underlying38 hinf hz0 hz1 hz2 rfl (by decide) (.slice a l.length cap) l.length (l.map Value.string) (by rfl) (HO.out.alloc _) ⟨w.heap.size, 0, none⟩ 3 3 [.string x, .string y, .string z] (by rfl) (by rfl) ?c1 ?c2 ?c3 ?c4 ?c5 ?_)
 case c1 => exact World.news_of_block (World.alloc_heap_new w (.cells #[.string x, .string y, .string z] 9))
 case c2 => intro u hu; simp at hu; rcases hu with rfl | rfl | rfl <;> rfl
 case c3 => unfold maxLen; omega
 case c4 => omega
 case c5 => simp; omega
 intro v' W2 hown' hgrow _ hat;have hnb : some bt ≠ (Value.slice a l.length cap).ownBlock := fun he => by have := (own_lt HO.out he.symm).1; omega
 have HB2 : Hid (W2.heap[bt]? = some (.cells #[.slice a l.length cap] 66 (0, 0))) := (hgrow.block _ (by simp; omega) hnb).trans ((Below.heap_alloc w _ bt lB).trans HB.out)
 have HT2 : Hid (∀ k, k < w.heap.size → (∀ cs z, w.heap[k]? ≠ some (.cells cs 9 z)) → W2.heap[k]? = w.heap[k]?) := fun k hk hty => (hgrow.block _ (by simp; omega) (fun he => by
  rcases HO.out.2 with ⟨hv, _⟩ | ⟨g, cp, cur, hv, _, hg3, _⟩
  ·rw [hv] at he; simp [Value.ownBlock] at he
  ·rw [hv] at he
   simp [Value.ownBlock] at he;subst he;exact hty _ _ hg3)).trans (Below.heap_alloc w _ k (by omega))
 have HK2 : Hid (Below bt w W2) := ⟨hgrow.os, hgrow.tape, hgrow.output, by have := hgrow.size; simp at this; omega, fun k hk => (hgrow.block _ (by simp; omega) (fun he => by have := (own_lt HO.out he.symm).1; omega)).trans (Below.heap_alloc w _ k (by omega))⟩;have HO2 : Hid (W2.ownsRow (bt + 1) 9 1 v' (l.length + 3) (l.map Value.string ++ [.string x, .string y, .string z])) := hown';have d0 : W2.cell? ⟨bt, 0, none⟩ = some (.slice a l.length cap) := heap_cell HB2.out (by simp);have f0 : W2.frozen? ⟨bt, 0, none⟩ = false := heap_frozen HB2.out
 obtain ⟨a2, n2, cap2, rfl⟩ : ∃ a2 n2 cap2, v' = .slice a2 n2 cap2 := by
  rcases hown'.2 with ⟨hv, _⟩ | ⟨g, cap, cur, hv, _⟩
  ·exact ⟨_, _, _, hv⟩
  ·exact ⟨_, _, _, hv⟩
 have hn2 : n2 = l.length + 3 := by
  rcases hown'.2 with ⟨hv, hz⟩ | ⟨g, cap, cur, hv, _⟩
  ·injection hv with _ hv2 _; omega
  ·injection hv with _ hv2 _
 clear hown' hgrow hat hnb c0;subst hn2;go_wp2;go_end0;refine ⟨rfl, ⟨a2, cap2, ?_, ?_⟩, ?_⟩
 ·rw [List.length_append]
  exact Eq.trans (heap_set_same (o := 0) HB2.out _) (by simp)
 ·rw [List.length_append, List.map_append]
  exact ownsRow_same' HO2.out (fun k k1 _ => heap_set_other (by omega))
 ·exact ⟨HK2.out.setCell (p := ⟨bt, 0, none⟩) (Nat.le_refl _) _, fun k k1 k2 k3 => (heap_set_other k2).trans (HT2.out k k1 k3)⟩
open nodeT okT

theorem say1q (bt : Nat) (l : List ByteArray) (x : ByteArray) (q : Nat) (w : World) (hq : w.heap.size = q) (h : SayAt w bt l) (hl : l.length ≤ 2000000000) : Calls prog 100 #[.pointer (some ⟨bt, 0, none⟩), .slice (some ⟨q, 0, none⟩) 1 1] (w.alloc (.cells #[.string x] 9)) (sayR bt (l ++ [x]) w) := hq ▸ say1 bt l x w h hl
theorem say2q (bt : Nat) (l : List ByteArray) (x y : ByteArray) (q : Nat) (w : World) (hq : w.heap.size = q) (h : SayAt w bt l) (hl : l.length ≤ 2000000000) : Calls prog 100 #[.pointer (some ⟨bt, 0, none⟩), .slice (some ⟨q, 0, none⟩) 2 2] (w.alloc (.cells #[.string x, .string y] 9)) (sayR bt (l ++ [x, y]) w) := hq ▸ say2 bt l x y w h hl
theorem starsT_len : ∀ n, (starsT n).length = n
 | 0 => rfl
 | n + 1 => by rw [starsT, List.length_append, starsT_len n]; rfl
theorem base_any (bt : Nat) (l : List ByteArray) (t : Sh) (w : World) (h : SayAt w bt l) (h0 : 0 ≤ t.stars) (h9 : t.stars ≤ 65536) (hl : (l ++ baseT t).length ≤ 2000000000) : Calls prog 106 #[.pointer (some ⟨bt, 0, none⟩), .agg #[.string t.base, .int .i64 t.stars, .bool t.isList, .int .i64 t.count]] w (sayR bt (l ++ baseT t) w) := by
 obtain ⟨tb, ts, tl, tc⟩ := t;obtain ⟨m, hm⟩ : ∃ m : Nat, ts = (m : Int) := ⟨ts.toNat, by dsimp only at h0; omega⟩;subst hm;unfold baseT at hl ⊢;dsimp only at h0 h9 hl ⊢;have e1 : ((m : Int)).toNat = m := by omega
 rw [e1] at hl ⊢;have hlen : l.length + 1 + m ≤ 2000000000 := by simp [starsT_len] at hl; omega
 have lB := h.lt;have HA : Hid (Below w.heap.size w (w.alloc (.cells #[.string tb, .int .i64 (m : Int), .bool tl, .int .i64 tc] 85))) := bel_alloc (Below.refl _ _) _;have HS : Hid (SayAt (w.alloc (.cells #[.string tb, .int .i64 (m : Int), .bool tl, .int .i64 tc] 85)) bt l) := h.below HA.out;have HBX : Hid ((w.alloc (.cells #[.string tb, .int .i64 (m : Int), .bool tl, .int .i64 tc] 85)).heap[w.heap.size]? = some (.cells #[.string tb, .int .i64 (m : Int), .bool tl, .int .i64 tc] 85 (0, 0))) := World.alloc_heap_new w _;have hsA : (w.alloc (.cells #[.string tb, .int .i64 (m : Int), .bool tl, .int .i64 tc] 85)).heap.size = w.heap.size + 1 := by simp
 have m9 : (m : Int) ≤ 65536 := by omega
 have m0 : (0 : Int) ≤ (m : Int) := by omega
 clear h hl e1 h9 h0
 go_enter func106, ntmps106
 go_wp2_with fail
 refine (say1q bt l tb _ _ hsA HS.out (by omega)).mono ?_;rintro e w1 ⟨rfl, hs1, hb1⟩;have hX1 : SayAt w1 bt (l ++ [tb]) ∧ Oth bt w w1 ∧ w1.heap[w.heap.size]? = some (.cells #[.string tb, .int .i64 (m : Int), .bool tl, .int .i64 tc] 85 (0, 0)) := ⟨hs1, (Oth.of HA.out (by omega)).tr hb1, (hb1.oth _ (by rw [hsA]; omega) (by omega) (fun cs z => by rw [HBX.out]; intro h; injection h with h; injection h with _ h2; revert h2; decide)).trans HBX.out⟩;have HX1 : Hid (SayAt w1 bt (l ++ [tb]) ∧ Oth bt w w1) := ⟨hX1.1, hX1.2.1⟩;have q1 : w1.cell? ⟨w.heap.size, 1, none⟩ = some (.int .i64 (m : Int)) := heap_cell hX1.2.2 (by simp);clear hs1 hb1 hX1;dsimp only;go_wp2;clear q1
 go_loopw [11] (fun v wr => ∃ i : Nat, i ≤ m ∧ v = .int .i64 (i : Int) ∧ Hid (SayAt wr bt (l ++ [tb] ++ starsT i) ∧ Oth bt w wr)) (fun v _ => m - (intOf v).toNat)
 case atStart => exact ⟨0, Nat.zero_le _, rfl, ⟨by rw [starsT, List.append_nil]; exact HX1.out.1, HX1.out.2⟩⟩
 case round =>
  obtain ⟨i, hi, rfl, HI⟩ := hrel;have i0 : (0 : Int) ≤ (i : Int) := by omega
  by_cases hin : i < m
  ·have i1 : (i : Int) < (m : Int) := by omega
   go_wp2_with fail
   refine (say1 bt _ ⟨#[42]⟩ _ HI.out.1 (by simp [starsT_len]; omega)).mono ?_;rintro e w2 ⟨rfl, hs2, hb2⟩;have HX2 : Hid (SayAt w2 bt (l ++ [tb] ++ starsT (i + 1)) ∧ Oth bt w w2) := ⟨by rw [starsT, ← List.append_assoc]; exact hs2, HI.out.2.tr hb2⟩;clear hs2 hb2;dsimp only;go_wp2
   go_roundw
   case rel => exact ⟨i + 1, by omega, by simp, HX2⟩
   case measure => simp [intOf]; omega
  ·have hie : i = m := by omega
   subst hie;go_wp2;go_end0;exact ⟨rfl, by have h := HI.out.1; simpa using h, HI.out.2⟩
theorem brackets_say (bt : Nat) (l : List ByteArray) (t : Sh) (w : World) (h : SayAt w bt l) (ht : TG bt w) (h0 : -9223372036854775808 ≤ t.count) (h9 : t.count ≤ 9223372036854775807) (hl : (l ++ brackT t).length ≤ 2000000000) : Calls prog 107 #[.pointer (some ⟨bt, 0, none⟩), .agg #[.string t.base, .int .i64 t.stars, .bool t.isList, .int .i64 t.count]] w (sayR bt (l ++ brackT t) w) := by
 unfold brackT at hl ⊢;have lB := h.lt;have HA : Hid (Below w.heap.size w (w.alloc (.cells #[.string t.base, .int .i64 t.stars, .bool t.isList, .int .i64 t.count] 85))) := bel_alloc (Below.refl _ _) _;have HS : Hid (SayAt (w.alloc (.cells #[.string t.base, .int .i64 t.stars, .bool t.isList, .int .i64 t.count] 85)) bt l) := h.below HA.out;have hsA : (w.alloc (.cells #[.string t.base, .int .i64 t.stars, .bool t.isList, .int .i64 t.count] 85)).heap.size = w.heap.size + 1 := by simp
 have HTG : Hid (TG bt (w.alloc (.cells #[.string t.base, .int .i64 t.stars, .bool t.isList, .int .i64 t.count] 85))) := ht.keep (Oth.of HA.out (by omega)).bel
 cases hq : t.isList with
 | false =>
  rw [if_neg (by decide), List.append_nil];clear h ht
  go_enter func107, ntmps107
  go_wp2;go_end0;rw [hq] at HS HA;exact ⟨rfl, HS.out, Oth.of HA.out (by omega)⟩
 | true =>
  rw [hq, if_pos rfl] at hl;rw [if_pos rfl];have HFM : Hid (∀ W, Tab10 W → Calls prog 105 #[.int .i64 t.count, .int .i64 10] W (retP (.string (fmtI t.count)) W)) := fun W hW => fmtT_to t.count W h0 h9 hW;have hll : l.length ≤ 2000000000 := by simp at hl; omega
  rw [hq] at HA HS HTG hsA;clear h ht hl
  go_enter func107, ntmps107
  go_wp2_with fail
  refine (HFM.out _ HTG.out.1).mono ?_;rintro e w1 ⟨rfl, hb1⟩;have HX1 : Hid (SayAt w1 bt l ∧ Oth bt w w1) := ⟨HS.out.below hb1, (Oth.of HA.out (by omega)).tr (Oth.of hb1 (by rw [hsA]; omega))⟩;clear hb1;dsimp only;go_wp2_with fail
  refine (say3 bt l ⟨#[91]⟩ (fmtI t.count) ⟨#[93]⟩ _ HX1.out.1 hll).mono ?_;rintro e w2 ⟨rfl, hs2, hb2⟩;have HX2 : Hid (SayAt w2 bt (l ++ [⟨#[91]⟩, fmtI t.count, ⟨#[93]⟩]) ∧ Oth bt w w2) := ⟨hs2, HX1.out.2.tr hb2⟩;clear hs2 hb2;dsimp only;go_wp2;go_end0;exact ⟨rfl, HX2.out⟩
theorem variable_any (bt x : Nat) (l : List ByteArray) (d : ND) (v : Value) (h : Int) (w : World) (hs : SayAt w bt l) (ht : TG bt w) (hx : x < bt) (hb : w.heap[x]? = some (.cells (nodeCells d v h) 87 (0, 0))) (q0 : 0 ≤ d.ty.stars) (q1 : d.ty.stars ≤ 65536) (q2 : -9223372036854775808 ≤ d.ty.count) (q3 : d.ty.count ≤ 9223372036854775807) (hl : (l ++ varT d).length ≤ 2000000000) : Calls prog 101 #[.pointer (some ⟨bt, 0, none⟩), .pointer (some ⟨x, 0, none⟩)] w (sayR bt (l ++ varT d) w) := by
 unfold varT at hl ⊢;have HB : Hid (w.heap[x]? = some (.cells (nodeCells d v h) 87 (0, 0))) := hb;have HS : Hid (SayAt w bt l ∧ TG bt w) := ⟨hs, ht⟩;have hln : l.length + (baseT d.ty).length + 1 + (brackT d.ty).length ≤ 2000000000 := by simp at hl; omega
 have n3 := nc3 hb;have n6 := nc6 hb;have n7 := nc7 hb;have n8 := nc8 hb;have n9 := nc9 hb;clear hs ht hb hl
 go_enter func101, ntmps101
 go_wp2_with fail
 refine (base_any bt l d.ty w HS.out.1 q0 q1 (by simp; omega)).mono ?_;rintro e w1 ⟨rfl, hs1, hb1⟩;have HX1 : Hid (SayAt w1 bt (l ++ baseT d.ty) ∧ Oth bt w w1 ∧ w1.heap[x]? = some (.cells (nodeCells d v h) 87 (0, 0))) := ⟨hs1, hb1, (hb1.bel.block _ hx).trans HB.out⟩;clear hs1 hb1 n3 n6 n7 n8 n9;have n3 := nc3 HX1.out.2.2;have n6 := nc6 HX1.out.2.2;have n7 := nc7 HX1.out.2.2;have n8 := nc8 HX1.out.2.2;have n9 := nc9 HX1.out.2.2;dsimp only;go_wp2_with fail
 refine (say1 bt _ d.name _ HX1.out.1 (by simp; omega)).mono ?_;rintro e w2 ⟨rfl, hs2, hb2⟩;have HX2 : Hid (SayAt w2 bt (l ++ baseT d.ty ++ [d.name]) ∧ Oth bt w w2 ∧ w2.heap[x]? = some (.cells (nodeCells d v h) 87 (0, 0))) := ⟨hs2, HX1.out.2.1.tr hb2, (hb2.bel.block _ hx).trans HX1.out.2.2⟩;clear hs2 hb2 n3 n6 n7 n8 n9;have n3 := nc3 HX2.out.2.2;have n6 := nc6 HX2.out.2.2;have n7 := nc7 HX2.out.2.2;have n8 := nc8 HX2.out.2.2;have n9 := nc9 HX2.out.2.2;dsimp only;go_wp2_with fail
 refine (brackets_say bt _ d.ty w2 HX2.out.1 (HS.out.2.keep HX2.out.2.1.bel) q2 q3 (by simp; omega)).mono ?_;rintro e w3 ⟨rfl, hs3, hb3⟩;have HX3 : Hid (SayAt w3 bt (l ++ baseT d.ty ++ [d.name] ++ brackT d.ty) ∧ Oth bt w w3) := ⟨hs3, HX2.out.2.1.tr hb3⟩;clear hs3 hb3 n3 n6 n7 n8 n9;dsimp only;go_wp2;go_end0;exact ⟨rfl, by have h := HX3.out.1; simpa using h, HX3.out.2⟩
def NOk (t : Tr) : Prop := ∀ (bt x lo hi : Nat) (l : List ByteArray) (w : World), SayAt w bt l → TG bt w → TreeAt w lo hi t x → hi ≤ bt → (l ++ nodeT t).length ≤ 2000000000 → Calls prog 40 #[.pointer (some ⟨bt, 0, none⟩), .pointer (some ⟨x, 0, none⟩)] w (sayR bt (l ++ nodeT t) w)
theorem kids_app : ∀ (l m : List Tr), kidsT (l ++ m) = kidsT l ++ kidsT m
 | [], m => rfl
 | t :: r, m => by rw [List.cons_append, kidsT, kidsT, kids_app r m]; rfl
theorem joinT_app : ∀ (l m : List KW), joinT (l ++ m) = joinT l ++ joinT m
 | [], m => rfl
 | k :: r, m => by rw [List.cons_append, joinT, joinT, joinT_app r m, List.append_assoc]
theorem commaT_app : ∀ (l m : List KW), commaT (l ++ m) = commaT l ++ commaT m
 | [], m => rfl
 | k :: r, m => by rw [List.cons_append, commaT, commaT, commaT_app r m]; simp
theorem innerT_snoc (l : List KW) (k : KW) (hl : l ≠ []) : innerT (l ++ [k]) = innerT l ++ [⟨#[44]⟩] ++ k.2 := by
 cases l with
 | nil => exact absurd rfl hl
 | cons x r => rw [List.cons_append, innerT, innerT, commaT_app]; simp [commaT]
theorem innerT_app_le (l m : List KW) : (innerT l).length ≤ (innerT (l ++ m)).length := by
 cases l with
 | nil => simp [innerT]
 | cons x r => rw [List.cons_append, innerT, innerT, commaT_app]; simp
theorem take_succ_kids {ts : List Tr} {i : Nat} {t : Tr} (ht : ts[i]? = some t) : kidsT (ts.take (i + 1)) = kidsT (ts.take i) ++ [(t.d.k, nodeT t)] := by
 rw [List.take_add_one, ht]
 show kidsT (ts.take i ++ [t]) = _
 rw [kids_app, kidsT, kidsT]
theorem join_take_le (ts : List Tr) (i : Nat) : (joinT (kidsT (ts.take i))).length ≤ (joinT (kidsT ts)).length := by
 have h : kidsT ts = kidsT (ts.take i) ++ kidsT (ts.drop i) := by rw [← kids_app, List.take_append_drop]
 rw [h, joinT_app];simp
theorem inner_take_le (ts : List Tr) (i : Nat) : (innerT (kidsT (ts.take i))).length ≤ (innerT (kidsT ts)).length := by
 have h : kidsT ts = kidsT (ts.take i) ++ kidsT (ts.drop i) := by rw [← kids_app, List.take_append_drop]
 rw [h];exact innerT_app_le _ _
theorem RowAt.bel {w W : World} {lo hi bt : Nat} {a : Option Addr} {cap : Nat} {ps : List Tr} {bs : List Nat} (h : RowAt w lo hi a cap ps bs) (hb : Below bt w W) (hh : hi ≤ bt) : RowAt W lo hi a cap ps bs := h.keep (fun k _ k2 => hb.block k (by omega))
theorem each_any (bt lo hi cap : Nat) (a : Option Addr) (ts : List Tr) (bs : List Nat) (l : List ByteArray) (w : World) (hs : SayAt w bt l) (ht : TG bt w) (hr : RowAt w lo hi a cap ts bs) (hh : hi ≤ bt) (HN : Hid (∀ (i : Nat) (t : Tr), ts[i]? = some t → NOk t)) (hn : ts.length ≤ 100000) (hl : (l ++ joinT (kidsT ts)).length ≤ 2000000000) : Calls prog 22 #[.pointer (some ⟨bt, 0, none⟩), .slice a ts.length cap] w (sayR bt (l ++ joinT (kidsT ts)) w) := by
 have HS : Hid (SayAt w bt l ∧ TG bt w ∧ RowAt w lo hi a cap ts bs) := ⟨hs, ht, hr⟩;have n0 : (0 : Int) ≤ (ts.length : Int) := by omega
 have n9 : (ts.length : Int) ≤ 100000 := by omega
 have HLN : Hid (l.length + (joinT (kidsT ts)).length ≤ 2000000000) := by show _ ≤ _; simp at hl; omega
 clear hs ht hr hl
 go_enter func22, ntmps22
 go_wp2
 go_loopw [8] (fun v wr => ∃ i : Nat, i ≤ ts.length ∧ v = .int .i64 (i : Int) ∧ Hid (SayAt wr bt (l ++ joinT (kidsT (ts.take i))) ∧ Oth bt w wr)) (fun v _ => ts.length - (intOf v).toNat)
 case atStart => exact ⟨0, Nat.zero_le _, rfl, ⟨by rw [List.take_zero, kidsT, joinT, List.append_nil]; exact HS.out.1, Oth.refl _ _⟩⟩
 case round =>
  obtain ⟨i, hi', rfl, HI⟩ := hrel;have i0 : (0 : Int) ≤ (i : Int) := by omega
  have hrw := HS.out.2.2.bel HI.out.2.bel hh
  by_cases hin : i < ts.length
  ·have i1 : (i : Int) < (ts.length : Int) := by omega
   obtain ⟨t, hti⟩ : ∃ t, ts[i]? = some t := ⟨_, List.getElem?_eq_getElem hin⟩;obtain ⟨x, hxi⟩ : ∃ x, bs[i]? = some x := ⟨_, List.getElem?_eq_getElem (by have := hrw.hl; omega)⟩;obtain ⟨g, hga, hg1, hg2, hcl⟩ := hrw.hrow (by intro h; rw [h] at hin; simp at hin);have cx := hcl i x hxi;have hcap := hrw.hcap;have hle := join_take_le ts (i + 1);rw [take_succ_kids hti, joinT_app] at hle;have HND : Hid (∀ W, SayAt W bt (l ++ joinT (kidsT (ts.take i))) → TG bt W → TreeAt W lo hi t x → Calls prog 40 #[.pointer (some ⟨bt, 0, none⟩), .pointer (some ⟨x, 0, none⟩)] W (sayR bt (l ++ joinT (kidsT (ts.take i)) ++ nodeT t) W)) := fun W h1 h2 h3 => HN.out i t hti bt x lo hi _ W h1 h2 h3 hh (by have := HLN.out; simp [joinT] at hle ⊢; omega);have HTR : Hid (TreeAt wr lo hi t x) := hrw.sub i t x hti hxi;have HEQ : Hid (kidsT (ts.take (i + 1)) = kidsT (ts.take i) ++ [(t.d.k, nodeT t)]) := take_succ_kids hti;subst hga;clear hti hxi hcl hle hrw;go_wp2_with fail
   refine (HND.out _ HI.out.1 (HS.out.2.1.keep HI.out.2.bel) HTR.out).mono ?_;rintro e w2 ⟨rfl, hs2, hb2⟩;have HX2 : Hid (SayAt w2 bt (l ++ joinT (kidsT (ts.take (i + 1)))) ∧ Oth bt w w2) := ⟨by rw [HEQ.out, joinT_app]; simpa [joinT] using hs2, HI.out.2.tr hb2⟩;clear hs2 hb2;dsimp only;go_wp2
   go_roundw
   case rel => exact ⟨i + 1, by omega, by simp, HX2⟩
   case measure => simp [intOf]; omega
  ·have hie : i = ts.length := by omega
   subst hie;have HZ : Hid (SayAt wr bt (l ++ joinT (kidsT ts)) ∧ Oth bt w wr) := ⟨by have h := HI.out.1; rwa [List.take_length] at h, HI.out.2⟩;go_wp2;go_end0;exact ⟨rfl, HZ.out⟩
theorem list_say (bt lo hi cap : Nat) (a : Option Addr) (ts : List Tr) (bs : List Nat) (l : List ByteArray) (w : World) (hs : SayAt w bt l) (ht : TG bt w) (hr : RowAt w lo hi a cap ts bs) (hh : hi ≤ bt) (HN : Hid (∀ (i : Nat) (t : Tr), ts[i]? = some t → NOk t)) (hn : ts.length ≤ 100000) (hl : (l ++ listT (kidsT ts)).length ≤ 2000000000) : Calls prog 102 #[.pointer (some ⟨bt, 0, none⟩), .slice a ts.length cap] w (sayR bt (l ++ listT (kidsT ts)) w) := by
 have HS : Hid (SayAt w bt l ∧ TG bt w ∧ RowAt w lo hi a cap ts bs) := ⟨hs, ht, hr⟩;have n0 : (0 : Int) ≤ (ts.length : Int) := by omega
 have n9 : (ts.length : Int) ≤ 100000 := by omega
 have HLN : Hid (l.length + 2 + (innerT (kidsT ts)).length ≤ 2000000000) := by show _ ≤ _; unfold listT at hl; simp at hl; omega
 unfold listT;clear hs ht hr hl
 go_enter func102, ntmps102
 go_wp2_with fail
 refine (say1 bt l ⟨#[40]⟩ w HS.out.1 (by have := HLN.out; omega)).mono ?_;rintro e w0 ⟨rfl, hs0, hb0⟩;have HX0 : Hid (SayAt w0 bt (l ++ [⟨#[40]⟩]) ∧ Oth bt w w0) := ⟨hs0, hb0⟩;clear hs0 hb0;dsimp only;go_wp2
 go_loopw [11] (fun v wr => ∃ i : Nat, i ≤ ts.length ∧ v = .int .i64 (i : Int) ∧ Hid (SayAt wr bt (l ++ [⟨#[40]⟩] ++ innerT (kidsT (ts.take i))) ∧ Oth bt w wr)) (fun v _ => ts.length - (intOf v).toNat)
 case atStart => exact ⟨0, Nat.zero_le _, rfl, ⟨by rw [List.take_zero, kidsT, innerT, List.append_nil]; exact HX0.out.1, HX0.out.2⟩⟩
 case round =>
  obtain ⟨i, hi', rfl, HI⟩ := hrel;have i0 : (0 : Int) ≤ (i : Int) := by omega
  have hrw := HS.out.2.2.bel HI.out.2.bel hh
  by_cases hin : i < ts.length
  ·have i1 : (i : Int) < (ts.length : Int) := by omega
   obtain ⟨t, hti⟩ : ∃ t, ts[i]? = some t := ⟨_, List.getElem?_eq_getElem hin⟩;obtain ⟨x, hxi⟩ : ∃ x, bs[i]? = some x := ⟨_, List.getElem?_eq_getElem (by have := hrw.hl; omega)⟩;obtain ⟨g, hga, hg1, hg2, hcl⟩ := hrw.hrow (by intro h; rw [h] at hin; simp at hin);have cx := hcl i x hxi;have hcap := hrw.hcap;have hle := inner_take_le ts (i + 1);rw [take_succ_kids hti] at hle;have HNB : Hid (NOk t) := HN.out i t hti;have HTW : Hid (∀ W, Oth bt w W → TreeAt W lo hi t x) := fun W hW => (HS.out.2.2.bel hW.bel hh).sub i t x hti hxi;have HEQ : Hid (kidsT (ts.take (i + 1)) = kidsT (ts.take i) ++ [(t.d.k, nodeT t)] ∧ (innerT (kidsT (ts.take i) ++ [(t.d.k, nodeT t)])).length ≤ (innerT (kidsT ts)).length) := ⟨take_succ_kids hti, hle⟩;subst hga;clear hti hxi hcl hle hrw
   by_cases hz : i = 0
   ·subst hz
    have HL0 : Hid ((nodeT t).length ≤ (innerT (kidsT ts)).length) := by have h := HEQ.out.2; rw [List.take_zero, kidsT, List.nil_append, innerT, commaT, List.append_nil] at h; exact h
    go_wp2_with fail
    refine (HNB.out bt x lo hi _ _ HI.out.1 (HS.out.2.1.keep HI.out.2.bel) (HTW.out _ HI.out.2) hh (by have := HLN.out; have := HL0.out; rw [List.take_zero, kidsT, innerT]; simp; omega)).mono ?_;rintro e w2 ⟨rfl, hs2, hb2⟩;have HX2 : Hid (SayAt w2 bt (l ++ [⟨#[40]⟩] ++ innerT (kidsT (ts.take (0 + 1)))) ∧ Oth bt w w2) := ⟨by rw [HEQ.out.1]; rw [List.take_zero, kidsT, innerT, List.append_nil] at hs2; rw [List.take_zero, kidsT, List.nil_append, innerT, commaT, List.append_nil]; exact hs2, HI.out.2.tr hb2⟩;clear hs2 hb2;dsimp only;go_wp2
    go_roundw
    case rel => exact ⟨1, by omega, by simp, HX2⟩
    case measure => simp [intOf]; omega
   ·have hz1 : (0 : Int) < (i : Int) := by omega
    have hz2 : 0 < i := by omega
    have hne : kidsT (ts.take i) ≠ [] := by
     intro h;have := congrArg List.length h;rw [kids_len, List.length_take] at this;simp only [List.length_nil] at this
     omega
    have HSN : Hid (innerT (kidsT (ts.take i) ++ [(t.d.k, nodeT t)]) = innerT (kidsT (ts.take i)) ++ [⟨#[44]⟩] ++ nodeT t) := innerT_snoc _ _ hne
    have HL1 : Hid ((innerT (kidsT (ts.take i))).length + 1 + (nodeT t).length ≤ (innerT (kidsT ts)).length) := by
     show _ ≤ _
     have h := HEQ.out.2;rw [HSN.out] at h;simp at h
     omega
    clear hne;go_wp2_with fail
    refine (say1 bt _ ⟨#[44]⟩ _ HI.out.1 (by have := HLN.out; have := HL1.out; simp; omega)).mono ?_;rintro e w1 ⟨rfl, hs1, hb1⟩;have HX1 : Hid (SayAt w1 bt (l ++ [⟨#[40]⟩] ++ innerT (kidsT (ts.take i)) ++ [⟨#[44]⟩]) ∧ Oth bt w w1) := ⟨hs1, HI.out.2.tr hb1⟩;clear hs1 hb1;dsimp only;go_wp2_with fail
    refine (HNB.out bt x lo hi _ _ HX1.out.1 (HS.out.2.1.keep HX1.out.2.bel) (HTW.out _ HX1.out.2) hh (by have := HLN.out; have := HL1.out; simp; omega)).mono ?_;rintro e w2 ⟨rfl, hs2, hb2⟩;have HX2 : Hid (SayAt w2 bt (l ++ [⟨#[40]⟩] ++ innerT (kidsT (ts.take (i + 1)))) ∧ Oth bt w w2) := ⟨by rw [HEQ.out.1, HSN.out]; simpa using hs2, HX1.out.2.tr hb2⟩;clear hs2 hb2;dsimp only;go_wp2
    go_roundw
    case rel => exact ⟨i + 1, by omega, by simp, HX2⟩
    case measure => simp [intOf]; omega
  ·have hie : i = ts.length := by omega
   subst hie;have HZ : Hid (SayAt wr bt (l ++ [⟨#[40]⟩] ++ innerT (kidsT ts)) ∧ Oth bt w wr) := ⟨by have h := HI.out.1; rwa [List.take_length] at h, HI.out.2⟩;go_wp2_with fail
   refine (say1 bt _ ⟨#[41]⟩ _ HZ.out.1 (by have := HLN.out; simp; omega)).mono ?_;rintro e w2 ⟨rfl, hs2, hb2⟩;have HX2 : Hid (SayAt w2 bt (l ++ [⟨#[40]⟩] ++ innerT (kidsT ts) ++ [⟨#[41]⟩]) ∧ Oth bt w w2) := ⟨hs2, HZ.out.2.tr hb2⟩;clear hs2 hb2;dsimp only;go_wp2;go_end0;exact ⟨rfl, by have h := HX2.out.1; simpa using h, HX2.out.2⟩
theorem body_any (bt x lo hi : Nat) (t : Tr) (l : List ByteArray) (w : World) (hs : SayAt w bt l) (ht : TG bt w) (hr : TreeAt w lo hi t x) (hh : hi ≤ bt) (HN : Hid (NOk t)) (hl : (l ++ bodyT (t.d.k, nodeT t)).length ≤ 2000000000) : Calls prog 103 #[.pointer (some ⟨bt, 0, none⟩), .pointer (some ⟨x, 0, none⟩)] w (sayR bt (l ++ bodyT (t.d.k, nodeT t)) w) := by
 have HS : Hid (SayAt w bt l ∧ TG bt w ∧ TreeAt w lo hi t x) := ⟨hs, ht, hr⟩;obtain ⟨a, cap, bs, hb, hrow, h1, h2⟩ := hr.row;have n0 : w.cell? ⟨x, 0, none⟩ = some (.int .i64 t.d.k) := heap_cell hb (by simp [nodeCells]);unfold bodyT at hl ⊢;dsimp only at hl ⊢;clear hs ht hr hb hrow
 by_cases hk : t.d.k = 6
 ·rw [if_pos hk] at hl ⊢
  have q0 : (t.d.k == 6) = true := by simpa using hk
  rw [hk] at n0
  go_enter func103, ntmps103
  go_wp2_with fail
  refine (HN.out bt x lo hi l w HS.out.1 HS.out.2.1 HS.out.2.2 hh hl).mono ?_;rintro e w1 ⟨rfl, hs1, hb1⟩;have HX1 : Hid (SayAt w1 bt (l ++ nodeT t) ∧ Oth bt w w1) := ⟨hs1, hb1⟩;clear hs1 hb1;dsimp only;go_wp2;refine bodyPost_ret (results_none rfl _ _ _) rfl ⟨rfl, HX1.out⟩
 ·rw [if_neg hk] at hl ⊢
  have q0 : (t.d.k == 6) = false := by simpa using hk
  have hln : l.length + 2 + (nodeT t).length ≤ 2000000000 := by simp at hl; omega
  go_enter func103, ntmps103
  go_wp2_with fail
  refine (say1 bt l ⟨#[123]⟩ w HS.out.1 (by omega)).mono ?_;rintro e w1 ⟨rfl, hs1, hb1⟩;have HX1 : Hid (SayAt w1 bt (l ++ [⟨#[123]⟩]) ∧ Oth bt w w1) := ⟨hs1, hb1⟩;clear hs1 hb1;dsimp only;go_wp2_with fail
  refine (HN.out bt x lo hi _ w1 HX1.out.1 (HS.out.2.1.keep HX1.out.2.bel) (HS.out.2.2.keep (fun k _ k2 => HX1.out.2.bel.block k (by omega))) hh (by simp; omega)).mono ?_;rintro e w2 ⟨rfl, hs2, hb2⟩;have HX2 : Hid (SayAt w2 bt (l ++ [⟨#[123]⟩] ++ nodeT t) ∧ Oth bt w w2) := ⟨hs2, HX1.out.2.tr hb2⟩;clear hs2 hb2;dsimp only;go_wp2_with fail
  refine (say1 bt _ ⟨#[125]⟩ w2 HX2.out.1 (by simp; omega)).mono ?_;rintro e w3 ⟨rfl, hs3, hb3⟩;have HX3 : Hid (SayAt w3 bt (l ++ [⟨#[123]⟩] ++ nodeT t ++ [⟨#[125]⟩]) ∧ Oth bt w w3) := ⟨hs3, HX2.out.2.tr hb3⟩;clear hs3 hb3;dsimp only;go_wp2;go_end0;exact ⟨rfl, by have h := HX3.out.1; simpa using h, HX3.out.2⟩
open nodeT okT

structure NE (w : World) (bt x lo hi : Nat) (d : ND) (ps : List Tr) (a : Option Addr) (cap : Nat) (bs : List Nat) (h : Int) : Prop where
 blk : w.heap[x]? = some (.cells (nodeCells d (.slice a ps.length cap) h) 87 (0, 0))
 row : RowAt w lo hi a cap ps bs
 hi : hi ≤ bt
 x : x < bt
theorem NE.keep {w W : World} {bt x lo hi : Nat} {d : ND} {ps : List Tr} {a : Option Addr} {cap : Nat} {bs : List Nat} {h : Int} (e : NE w bt x lo hi d ps a cap bs h) (hb : Oth bt w W) : NE W bt x lo hi d ps a cap bs h := ⟨(hb.bel.block _ e.x).trans e.blk, e.row.bel hb.bel e.hi, e.hi, e.x⟩
structure OkIs (d : ND) (n : Nat) : Prop where
 s0 : 0 ≤ d.ty.stars
 s9 : d.ty.stars ≤ 65536
 c0 : -9223372036854775808 ≤ d.ty.count
 c9 : d.ty.count ≤ 9223372036854775807
 n0 : -9223372036854775808 ≤ d.n
 n9 : d.n ≤ 9223372036854775807
 len : n ≤ 100000
theorem okIs {d : ND} {n : Nat} (h : ndOk d n = true) : OkIs d n := by
 unfold ndOk at h;have h1 := of_decide_eq_true (Bool.and_eq_true_iff.1 h).1;exact ⟨h1.1, h1.2.1, h1.2.2.1, h1.2.2.2.1, h1.2.2.2.2.1, h1.2.2.2.2.2.1, h1.2.2.2.2.2.2⟩
theorem kid_eq {ps : List Tr} {i : Nat} {t : Tr} (h : ps[i]? = some t) : kid (kidsT ps) i = (t.d.k, nodeT t) := by unfold kid; rw [kids_get ps i t h]; rfl
theorem take_get {α : Type} {l : List α} {m i : Nat} {x : α} (h : (l.take m)[i]? = some x) : l[i]? = some x := by
 rw [List.getElem?_take] at h
 split at h
 ·exact h
 ·cases h
theorem RowAt.take {w : World} {lo hi : Nat} {a : Option Addr} {cap : Nat} {ps : List Tr} {bs : List Nat} (h : RowAt w lo hi a cap ps bs) (m : Nat) : RowAt w lo hi a cap (ps.take m) (bs.take m) := by
 refine ⟨by rw [List.length_take]; have := h.hcap; omega, fun hne => ?_, by rw [List.length_take, List.length_take, h.hl], fun i t x ht hx => h.sub i t x (take_get ht) (take_get hx)⟩;obtain ⟨g, h1, h2, h3, h4⟩ := h.hrow (by intro hz; rw [hz] at hne; simp at hne);exact ⟨g, h1, h2, h3, fun i x hx => h4 i x (take_get hx)⟩
theorem plain_local0 (bt x lo hi : Nat) (d : ND) (ps : List Tr) (a : Option Addr) (cap : Nat) (bs : List Nat) (h : Int) (l : List ByteArray) (w : World) (hs : SayAt w bt l) (ht : TG bt w) (he : NE w bt x lo hi d ps a cap bs h) (HN : Hid (∀ (i : Nat) (t : Tr), ps[i]? = some t → NOk t)) (hok : ndOk d ps.length = true) (hk : d.k = 7) (hz : ps.length = 0) (hl : (l ++ plainT d (kidsT ps)).length ≤ 2000000000) : Calls prog 104 #[.pointer (some ⟨bt, 0, none⟩), .pointer (some ⟨x, 0, none⟩)] w (sayR bt (l ++ plainT d (kidsT ps)) w) := by
 have ok := okIs hok;have lB := hs.lt;have HS : Hid (SayAt w bt l ∧ TG bt w) := ⟨hs, ht⟩;have HE : Hid (∀ W, Oth bt w W → NE W bt x lo hi d ps a cap bs h) := fun W hW => he.keep hW;have xl : x < bt := he.x;have hz1 : ¬ (0 : Int) < (ps.length : Int) := by omega
 have hz3 : decide (0 < ps.length) = false := decide_eq_false (by omega)
 have heq : l ++ plainT d (kidsT ps) = l ++ varT d ++ joinT (kidsT ps) := by
  unfold plainT; simp [hk, kids_len, hz]
 rw [heq] at hl ⊢;have HLN : Hid ((l ++ varT d ++ joinT (kidsT ps)).length ≤ 2000000000) := hl;have hhi : hi ≤ bt := he.hi;have hcap := he.row.hcap;have hpl := ok.len;have p0 : (0 : Int) ≤ (ps.length : Int) := by omega
 have HX0 : Hid (SayAt w bt l ∧ Oth bt w w) := ⟨hs, Oth.refl _ _⟩;have hz := (HE.out w HX0.out.2).blk;have n0 := nc0 hz;rw [hk] at n0;have n3 := nc3 hz;have n6 := nc6 hz;have n7 := nc7 hz;have n8 := nc8 hz;have n9 := nc9 hz;have n11 := nc11 hz;clear hz;clear hs ht he hok hl heq hz
 go_enter func104, ntmps104
 go_wp2_with fail
 refine (variable_any bt x _ d _ h w HX0.out.1 (HS.out.2.keep HX0.out.2.bel) xl (HE.out w HX0.out.2).blk ok.s0 ok.s9 ok.c0 ok.c9 (by have := HLN.out; simp only [zla, zlc, zln] at this ⊢; omega)).mono ?_;rintro e w1 ⟨rfl, hs1, hb1⟩;have HX1 : Hid (SayAt w1 bt (l ++ varT d) ∧ Oth bt w w1) := ⟨hs1, HX0.out.2.tr hb1⟩;clear hs1 hb1;clear n0 n3 n6 n7 n8 n9 n11;have hz := (HE.out w1 HX1.out.2).blk;have n0 := nc0 hz;rw [hk] at n0;have n3 := nc3 hz;have n6 := nc6 hz;have n7 := nc7 hz;have n8 := nc8 hz;have n9 := nc9 hz;have n11 := nc11 hz;clear hz;dsimp only;go_wp2_with fail
 refine (each_any bt lo hi cap a ps bs _ w1 HX1.out.1 (HS.out.2.keep HX1.out.2.bel) (HE.out w1 HX1.out.2).row hhi HN hpl (by have := HLN.out; simp only [zla, zlc, zln] at this ⊢; omega)).mono ?_;rintro e w2 ⟨rfl, hs1, hb1⟩;have HX2 : Hid (SayAt w2 bt (l ++ varT d ++ joinT (kidsT ps)) ∧ Oth bt w w2) := ⟨hs1, HX1.out.2.tr hb1⟩;clear hs1 hb1;clear n0 n3 n6 n7 n8 n9 n11;have hz := (HE.out w2 HX2.out.2).blk;have n0 := nc0 hz;rw [hk] at n0;have n3 := nc3 hz;have n6 := nc6 hz;have n7 := nc7 hz;have n8 := nc8 hz;have n9 := nc9 hz;have n11 := nc11 hz;clear hz;dsimp only;go_wp2;go_end0;exact ⟨rfl, HX2.out⟩
theorem plain_local1 (bt x lo hi : Nat) (d : ND) (ps : List Tr) (a : Option Addr) (cap : Nat) (bs : List Nat) (h : Int) (l : List ByteArray) (w : World) (hs : SayAt w bt l) (ht : TG bt w) (he : NE w bt x lo hi d ps a cap bs h) (HN : Hid (∀ (i : Nat) (t : Tr), ps[i]? = some t → NOk t)) (hok : ndOk d ps.length = true) (hk : d.k = 7) (hz : 0 < ps.length) (hl : (l ++ plainT d (kidsT ps)).length ≤ 2000000000) : Calls prog 104 #[.pointer (some ⟨bt, 0, none⟩), .pointer (some ⟨x, 0, none⟩)] w (sayR bt (l ++ plainT d (kidsT ps)) w) := by
 have ok := okIs hok;have lB := hs.lt;have HS : Hid (SayAt w bt l ∧ TG bt w) := ⟨hs, ht⟩;have HE : Hid (∀ W, Oth bt w W → NE W bt x lo hi d ps a cap bs h) := fun W hW => he.keep hW;have xl : x < bt := he.x;have hz1 : (0 : Int) < (ps.length : Int) := by omega
 have hz2 : ¬ ps.length = 0 := by omega
 have heq : l ++ plainT d (kidsT ps) = l ++ varT d ++ ([⟨#[61]⟩] : List ByteArray) ++ joinT (kidsT ps) := by
  unfold plainT; simp [hk, kids_len, hz2]
 rw [heq] at hl ⊢;have HLN : Hid ((l ++ varT d ++ ([⟨#[61]⟩] : List ByteArray) ++ joinT (kidsT ps)).length ≤ 2000000000) := hl;have hhi : hi ≤ bt := he.hi;have hcap := he.row.hcap;have hpl := ok.len;have p0 : (0 : Int) ≤ (ps.length : Int) := by omega
 have HX0 : Hid (SayAt w bt l ∧ Oth bt w w) := ⟨hs, Oth.refl _ _⟩;have hz := (HE.out w HX0.out.2).blk;have n0 := nc0 hz;rw [hk] at n0;have n3 := nc3 hz;have n4 := nc4 hz;have n6 := nc6 hz;have n7 := nc7 hz;have n8 := nc8 hz;have n9 := nc9 hz;have n11 := nc11 hz;clear hz;clear hs ht he hok hl heq hz hz2
 go_enter func104, ntmps104
 go_wp2_with fail
 refine (variable_any bt x _ d _ h w HX0.out.1 (HS.out.2.keep HX0.out.2.bel) xl (HE.out w HX0.out.2).blk ok.s0 ok.s9 ok.c0 ok.c9 (by have := HLN.out; simp only [zla, zlc, zln] at this ⊢; omega)).mono ?_;rintro e w1 ⟨rfl, hs1, hb1⟩;have HX1 : Hid (SayAt w1 bt (l ++ varT d) ∧ Oth bt w w1) := ⟨hs1, HX0.out.2.tr hb1⟩;clear hs1 hb1;clear n0 n3 n4 n6 n7 n8 n9 n11;have hz := (HE.out w1 HX1.out.2).blk;have n0 := nc0 hz;rw [hk] at n0;have n3 := nc3 hz;have n4 := nc4 hz;have n6 := nc6 hz;have n7 := nc7 hz;have n8 := nc8 hz;have n9 := nc9 hz;have n11 := nc11 hz;clear hz;dsimp only;go_wp2_with fail
 refine (say1 bt _ (⟨#[61]⟩) w1 HX1.out.1 (by have := HLN.out; simp only [zla, zlc, zln] at this ⊢; omega)).mono ?_;rintro e w2 ⟨rfl, hs1, hb1⟩;have HX2 : Hid (SayAt w2 bt (l ++ varT d ++ ([⟨#[61]⟩] : List ByteArray)) ∧ Oth bt w w2) := ⟨hs1, HX1.out.2.tr hb1⟩;clear hs1 hb1;clear n0 n3 n4 n6 n7 n8 n9 n11;have hz := (HE.out w2 HX2.out.2).blk;have n0 := nc0 hz;rw [hk] at n0;have n3 := nc3 hz;have n4 := nc4 hz;have n6 := nc6 hz;have n7 := nc7 hz;have n8 := nc8 hz;have n9 := nc9 hz;have n11 := nc11 hz;clear hz;dsimp only;go_wp2_with fail
 refine (each_any bt lo hi cap a ps bs _ w2 HX2.out.1 (HS.out.2.keep HX2.out.2.bel) (HE.out w2 HX2.out.2).row hhi HN hpl (by have := HLN.out; simp only [zla, zlc, zln] at this ⊢; omega)).mono ?_;rintro e w3 ⟨rfl, hs1, hb1⟩;have HX3 : Hid (SayAt w3 bt (l ++ varT d ++ ([⟨#[61]⟩] : List ByteArray) ++ joinT (kidsT ps)) ∧ Oth bt w w3) := ⟨hs1, HX2.out.2.tr hb1⟩;clear hs1 hb1;clear n0 n3 n4 n6 n7 n8 n9 n11;have hz := (HE.out w3 HX3.out.2).blk;have n0 := nc0 hz;rw [hk] at n0;have n3 := nc3 hz;have n4 := nc4 hz;have n6 := nc6 hz;have n7 := nc7 hz;have n8 := nc8 hz;have n9 := nc9 hz;have n11 := nc11 hz;clear hz;dsimp only;go_wp2;go_end0;exact ⟨rfl, HX3.out⟩
theorem plain_break (bt x lo hi : Nat) (d : ND) (ps : List Tr) (a : Option Addr) (cap : Nat) (bs : List Nat) (h : Int) (l : List ByteArray) (w : World) (hs : SayAt w bt l) (ht : TG bt w) (he : NE w bt x lo hi d ps a cap bs h) (HN : Hid (∀ (i : Nat) (t : Tr), ps[i]? = some t → NOk t)) (hok : ndOk d ps.length = true) (hk : d.k = 11)  (hl : (l ++ plainT d (kidsT ps)).length ≤ 2000000000) : Calls prog 104 #[.pointer (some ⟨bt, 0, none⟩), .pointer (some ⟨x, 0, none⟩)] w (sayR bt (l ++ plainT d (kidsT ps)) w) := by
 have ok := okIs hok;have lB := hs.lt;have HS : Hid (SayAt w bt l ∧ TG bt w) := ⟨hs, ht⟩;have HE : Hid (∀ W, Oth bt w W → NE W bt x lo hi d ps a cap bs h) := fun W hW => he.keep hW;have xl : x < bt := he.x
 have heq : l ++ plainT d (kidsT ps) = l ++ ([⟨#[98, 114, 101, 97, 107]⟩] : List ByteArray) := by
  unfold plainT; simp [hk]
 rw [heq] at hl ⊢;have HLN : Hid ((l ++ ([⟨#[98, 114, 101, 97, 107]⟩] : List ByteArray)).length ≤ 2000000000) := hl;have hhi : hi ≤ bt := he.hi;have hcap := he.row.hcap;have hpl := ok.len;have p0 : (0 : Int) ≤ (ps.length : Int) := by omega
 have HX0 : Hid (SayAt w bt l ∧ Oth bt w w) := ⟨hs, Oth.refl _ _⟩;have hz := (HE.out w HX0.out.2).blk;have n0 := nc0 hz;rw [hk] at n0;have n3 := nc3 hz;have n4 := nc4 hz;have n11 := nc11 hz;clear hz;clear hs ht he hok hl heq
 go_enter func104, ntmps104
 go_wp2_with fail
 refine (say1 bt _ (⟨#[98, 114, 101, 97, 107]⟩) w HX0.out.1 (by have := HLN.out; simp only [zla, zlc, zln] at this ⊢; omega)).mono ?_;rintro e w1 ⟨rfl, hs1, hb1⟩;have HX1 : Hid (SayAt w1 bt (l ++ ([⟨#[98, 114, 101, 97, 107]⟩] : List ByteArray)) ∧ Oth bt w w1) := ⟨hs1, HX0.out.2.tr hb1⟩;clear hs1 hb1;clear n0 n3 n4 n11;have hz := (HE.out w1 HX1.out.2).blk;have n0 := nc0 hz;rw [hk] at n0;have n3 := nc3 hz;have n4 := nc4 hz;have n11 := nc11 hz;clear hz;dsimp only;go_wp2;go_end0;exact ⟨rfl, HX1.out⟩
theorem plain_cont (bt x lo hi : Nat) (d : ND) (ps : List Tr) (a : Option Addr) (cap : Nat) (bs : List Nat) (h : Int) (l : List ByteArray) (w : World) (hs : SayAt w bt l) (ht : TG bt w) (he : NE w bt x lo hi d ps a cap bs h) (HN : Hid (∀ (i : Nat) (t : Tr), ps[i]? = some t → NOk t)) (hok : ndOk d ps.length = true) (hk : d.k = 12)  (hl : (l ++ plainT d (kidsT ps)).length ≤ 2000000000) : Calls prog 104 #[.pointer (some ⟨bt, 0, none⟩), .pointer (some ⟨x, 0, none⟩)] w (sayR bt (l ++ plainT d (kidsT ps)) w) := by
 have ok := okIs hok;have lB := hs.lt;have HS : Hid (SayAt w bt l ∧ TG bt w) := ⟨hs, ht⟩;have HE : Hid (∀ W, Oth bt w W → NE W bt x lo hi d ps a cap bs h) := fun W hW => he.keep hW;have xl : x < bt := he.x
 have heq : l ++ plainT d (kidsT ps) = l ++ ([⟨#[99, 111, 110, 116, 105, 110, 117, 101]⟩] : List ByteArray) := by
  unfold plainT; simp [hk]
 rw [heq] at hl ⊢;have HLN : Hid ((l ++ ([⟨#[99, 111, 110, 116, 105, 110, 117, 101]⟩] : List ByteArray)).length ≤ 2000000000) := hl;have hhi : hi ≤ bt := he.hi;have hcap := he.row.hcap;have hpl := ok.len;have p0 : (0 : Int) ≤ (ps.length : Int) := by omega
 have HX0 : Hid (SayAt w bt l ∧ Oth bt w w) := ⟨hs, Oth.refl _ _⟩;have hz := (HE.out w HX0.out.2).blk;have n0 := nc0 hz;rw [hk] at n0;have n3 := nc3 hz;have n4 := nc4 hz;have n11 := nc11 hz;clear hz;clear hs ht he hok hl heq
 go_enter func104, ntmps104
 go_wp2_with fail
 refine (say1 bt _ (⟨#[99, 111, 110, 116, 105, 110, 117, 101]⟩) w HX0.out.1 (by have := HLN.out; simp only [zla, zlc, zln] at this ⊢; omega)).mono ?_;rintro e w1 ⟨rfl, hs1, hb1⟩;have HX1 : Hid (SayAt w1 bt (l ++ ([⟨#[99, 111, 110, 116, 105, 110, 117, 101]⟩] : List ByteArray)) ∧ Oth bt w w1) := ⟨hs1, HX0.out.2.tr hb1⟩;clear hs1 hb1;clear n0 n3 n4 n11;have hz := (HE.out w1 HX1.out.2).blk;have n0 := nc0 hz;rw [hk] at n0;have n3 := nc3 hz;have n4 := nc4 hz;have n11 := nc11 hz;clear hz;dsimp only;go_wp2;go_end0;exact ⟨rfl, HX1.out⟩
theorem plain_ret (bt x lo hi : Nat) (d : ND) (ps : List Tr) (a : Option Addr) (cap : Nat) (bs : List Nat) (h : Int) (l : List ByteArray) (w : World) (hs : SayAt w bt l) (ht : TG bt w) (he : NE w bt x lo hi d ps a cap bs h) (HN : Hid (∀ (i : Nat) (t : Tr), ps[i]? = some t → NOk t)) (hok : ndOk d ps.length = true) (hk : d.k = 13)  (hl : (l ++ plainT d (kidsT ps)).length ≤ 2000000000) : Calls prog 104 #[.pointer (some ⟨bt, 0, none⟩), .pointer (some ⟨x, 0, none⟩)] w (sayR bt (l ++ plainT d (kidsT ps)) w) := by
 have ok := okIs hok;have lB := hs.lt;have HS : Hid (SayAt w bt l ∧ TG bt w) := ⟨hs, ht⟩;have HE : Hid (∀ W, Oth bt w W → NE W bt x lo hi d ps a cap bs h) := fun W hW => he.keep hW;have xl : x < bt := he.x
 have heq : l ++ plainT d (kidsT ps) = l ++ ([⟨#[114, 101, 116, 117, 114, 110]⟩] : List ByteArray) ++ joinT (kidsT ps) := by
  unfold plainT; simp [hk]
 rw [heq] at hl ⊢;have HLN : Hid ((l ++ ([⟨#[114, 101, 116, 117, 114, 110]⟩] : List ByteArray) ++ joinT (kidsT ps)).length ≤ 2000000000) := hl;have hhi : hi ≤ bt := he.hi;have hcap := he.row.hcap;have hpl := ok.len;have p0 : (0 : Int) ≤ (ps.length : Int) := by omega
 have HX0 : Hid (SayAt w bt l ∧ Oth bt w w) := ⟨hs, Oth.refl _ _⟩;have hz := (HE.out w HX0.out.2).blk;have n0 := nc0 hz;rw [hk] at n0;have n3 := nc3 hz;have n4 := nc4 hz;have n11 := nc11 hz;clear hz;clear hs ht he hok hl heq
 go_enter func104, ntmps104
 go_wp2_with fail
 refine (say1 bt _ (⟨#[114, 101, 116, 117, 114, 110]⟩) w HX0.out.1 (by have := HLN.out; simp only [zla, zlc, zln] at this ⊢; omega)).mono ?_;rintro e w1 ⟨rfl, hs1, hb1⟩;have HX1 : Hid (SayAt w1 bt (l ++ ([⟨#[114, 101, 116, 117, 114, 110]⟩] : List ByteArray)) ∧ Oth bt w w1) := ⟨hs1, HX0.out.2.tr hb1⟩;clear hs1 hb1;clear n0 n3 n4 n11;have hz := (HE.out w1 HX1.out.2).blk;have n0 := nc0 hz;rw [hk] at n0;have n3 := nc3 hz;have n4 := nc4 hz;have n11 := nc11 hz;clear hz;dsimp only;go_wp2_with fail
 refine (each_any bt lo hi cap a ps bs _ w1 HX1.out.1 (HS.out.2.keep HX1.out.2.bel) (HE.out w1 HX1.out.2).row hhi HN hpl (by have := HLN.out; simp only [zla, zlc, zln] at this ⊢; omega)).mono ?_;rintro e w2 ⟨rfl, hs1, hb1⟩;have HX2 : Hid (SayAt w2 bt (l ++ ([⟨#[114, 101, 116, 117, 114, 110]⟩] : List ByteArray) ++ joinT (kidsT ps)) ∧ Oth bt w w2) := ⟨hs1, HX1.out.2.tr hb1⟩;clear hs1 hb1;clear n0 n3 n4 n11;have hz := (HE.out w2 HX2.out.2).blk;have n0 := nc0 hz;rw [hk] at n0;have n3 := nc3 hz;have n4 := nc4 hz;have n11 := nc11 hz;clear hz;dsimp only;go_wp2;go_end0;exact ⟨rfl, HX2.out⟩
theorem plain_out (bt x lo hi : Nat) (d : ND) (ps : List Tr) (a : Option Addr) (cap : Nat) (bs : List Nat) (h : Int) (l : List ByteArray) (w : World) (hs : SayAt w bt l) (ht : TG bt w) (he : NE w bt x lo hi d ps a cap bs h) (HN : Hid (∀ (i : Nat) (t : Tr), ps[i]? = some t → NOk t)) (hok : ndOk d ps.length = true) (hk : d.k = 14)  (hl : (l ++ plainT d (kidsT ps)).length ≤ 2000000000) : Calls prog 104 #[.pointer (some ⟨bt, 0, none⟩), .pointer (some ⟨x, 0, none⟩)] w (sayR bt (l ++ plainT d (kidsT ps)) w) := by
 have ok := okIs hok;have lB := hs.lt;have HS : Hid (SayAt w bt l ∧ TG bt w) := ⟨hs, ht⟩;have HE : Hid (∀ W, Oth bt w W → NE W bt x lo hi d ps a cap bs h) := fun W hW => he.keep hW;have xl : x < bt := he.x
 have heq : l ++ plainT d (kidsT ps) = l ++ ([⟨#[111, 117, 116]⟩] : List ByteArray) ++ listT (kidsT ps) := by
  unfold plainT; simp [hk]
 rw [heq] at hl ⊢;have HLN : Hid ((l ++ ([⟨#[111, 117, 116]⟩] : List ByteArray) ++ listT (kidsT ps)).length ≤ 2000000000) := hl;have hhi : hi ≤ bt := he.hi;have hcap := he.row.hcap;have hpl := ok.len;have p0 : (0 : Int) ≤ (ps.length : Int) := by omega
 have HX0 : Hid (SayAt w bt l ∧ Oth bt w w) := ⟨hs, Oth.refl _ _⟩;have hz := (HE.out w HX0.out.2).blk;have n0 := nc0 hz;rw [hk] at n0;have n3 := nc3 hz;have n4 := nc4 hz;have n11 := nc11 hz;clear hz;clear hs ht he hok hl heq
 go_enter func104, ntmps104
 go_wp2_with fail
 refine (say1 bt _ (⟨#[111, 117, 116]⟩) w HX0.out.1 (by have := HLN.out; simp only [zla, zlc, zln] at this ⊢; omega)).mono ?_;rintro e w1 ⟨rfl, hs1, hb1⟩;have HX1 : Hid (SayAt w1 bt (l ++ ([⟨#[111, 117, 116]⟩] : List ByteArray)) ∧ Oth bt w w1) := ⟨hs1, HX0.out.2.tr hb1⟩;clear hs1 hb1;clear n0 n3 n4 n11;have hz := (HE.out w1 HX1.out.2).blk;have n0 := nc0 hz;rw [hk] at n0;have n3 := nc3 hz;have n4 := nc4 hz;have n11 := nc11 hz;clear hz;dsimp only;go_wp2_with fail
 refine (list_say bt lo hi cap a ps bs _ w1 HX1.out.1 (HS.out.2.keep HX1.out.2.bel) (HE.out w1 HX1.out.2).row hhi HN hpl (by have := HLN.out; simp only [zla, zlc, zln] at this ⊢; omega)).mono ?_;rintro e w2 ⟨rfl, hs1, hb1⟩;have HX2 : Hid (SayAt w2 bt (l ++ ([⟨#[111, 117, 116]⟩] : List ByteArray) ++ listT (kidsT ps)) ∧ Oth bt w w2) := ⟨hs1, HX1.out.2.tr hb1⟩;clear hs1 hb1;clear n0 n3 n4 n11;have hz := (HE.out w2 HX2.out.2).blk;have n0 := nc0 hz;rw [hk] at n0;have n3 := nc3 hz;have n4 := nc4 hz;have n11 := nc11 hz;clear hz;dsimp only;go_wp2;go_end0;exact ⟨rfl, HX2.out⟩
theorem plain_assign (bt x lo hi : Nat) (d : ND) (ps : List Tr) (a : Option Addr) (cap : Nat) (bs : List Nat) (h : Int) (l : List ByteArray) (w : World) (hs : SayAt w bt l) (ht : TG bt w) (he : NE w bt x lo hi d ps a cap bs h) (HN : Hid (∀ (i : Nat) (t : Tr), ps[i]? = some t → NOk t)) (hok : ndOk d ps.length = true) (hk : d.k = 15)  (hl : (l ++ plainT d (kidsT ps)).length ≤ 2000000000) : Calls prog 104 #[.pointer (some ⟨bt, 0, none⟩), .pointer (some ⟨x, 0, none⟩)] w (sayR bt (l ++ plainT d (kidsT ps)) w) := by
 have ok := okIs hok;have lB := hs.lt;have HS : Hid (SayAt w bt l ∧ TG bt w) := ⟨hs, ht⟩;have HE : Hid (∀ W, Oth bt w W → NE W bt x lo hi d ps a cap bs h) := fun W hW => he.keep hW;have xl : x < bt := he.x;have hlen : 2 ≤ ps.length := by unfold ndOk at hok; simp [hk] at hok; omega
 obtain ⟨t0, ht0⟩ : ∃ t, ps[0]? = some t := ⟨_, List.getElem?_eq_getElem (by omega)⟩;obtain ⟨x0, hx0⟩ : ∃ x, bs[0]? = some x := ⟨_, List.getElem?_eq_getElem (by have := he.row.hl; omega)⟩;obtain ⟨t1, ht1⟩ : ∃ t, ps[1]? = some t := ⟨_, List.getElem?_eq_getElem (by omega)⟩;obtain ⟨x1, hx1⟩ : ∃ x, bs[1]? = some x := ⟨_, List.getElem?_eq_getElem (by have := he.row.hl; omega)⟩;obtain ⟨g, hga, hg1, hg2, _⟩ := he.row.hrow (by intro hz; rw [hz] at hlen; simp at hlen)
 have HCX : Hid (∀ W, Oth bt w W → W.cell? ⟨g, 0, none⟩ = some (.pointer (some ⟨x0, 0, none⟩)) ∧ TreeAt W lo hi t0 x0 ∧ W.cell? ⟨g, 1, none⟩ = some (.pointer (some ⟨x1, 0, none⟩)) ∧ TreeAt W lo hi t1 x1) := fun W hW => by
  have hr := (he.keep hW).row;obtain ⟨g', e1, _, _, e4⟩ := hr.hrow (by intro hz; rw [hz] at hlen; simp at hlen);rw [hga] at e1
  injection e1 with e1
  injection e1 with e1
  subst e1;exact ⟨e4 0 x0 hx0, hr.sub 0 t0 x0 ht0 hx0, e4 1 x1 hx1, hr.sub 1 t1 x1 ht1 hx1⟩
 have HN0 : Hid (NOk t0) := HN.out 0 t0 ht0;have HN1 : Hid (NOk t1) := HN.out 1 t1 ht1
 have heq : l ++ plainT d (kidsT ps) = l ++ nodeT t0 ++ ([⟨#[61]⟩] : List ByteArray) ++ nodeT t1 := by
  unfold plainT; simp [hk, kid_eq ht0, kid_eq ht1]
 rw [heq] at hl ⊢;have HLN : Hid ((l ++ nodeT t0 ++ ([⟨#[61]⟩] : List ByteArray) ++ nodeT t1).length ≤ 2000000000) := hl;have hhi : hi ≤ bt := he.hi;have hcap := he.row.hcap;have hpl := ok.len;have p0 : (0 : Int) ≤ (ps.length : Int) := by omega
 have p1 : 1 ≤ ps.length := by omega
 have p1i : (1 : Int) ≤ (ps.length : Int) := by omega
 have pci : (ps.length : Int) ≤ (cap : Int) := by omega
 have HX0 : Hid (SayAt w bt l ∧ Oth bt w w) := ⟨hs, Oth.refl _ _⟩;have hz := (HE.out w HX0.out.2).blk;have n0 := nc0 hz;rw [hk] at n0;have n3 := nc3 hz;have n4 := nc4 hz;have n11 := nc11 hz;rw [hga] at n11;have cx0 := (HCX.out w HX0.out.2).1;have cx1 := (HCX.out w HX0.out.2).2.2.1;clear hz;clear hs ht he hok hl heq
 go_enter func104, ntmps104
 go_wp2_with fail
 refine (HN0.out bt x0 lo hi _ w HX0.out.1 (HS.out.2.keep HX0.out.2.bel) (HCX.out w HX0.out.2).2.1 hhi (by have := HLN.out; simp only [zla, zlc, zln] at this ⊢; omega)).mono ?_;rintro e w1 ⟨rfl, hs1, hb1⟩;have HX1 : Hid (SayAt w1 bt (l ++ nodeT t0) ∧ Oth bt w w1) := ⟨hs1, HX0.out.2.tr hb1⟩;clear hs1 hb1;clear n0 n3 n4 n11 cx0 cx1;have hz := (HE.out w1 HX1.out.2).blk;have n0 := nc0 hz;rw [hk] at n0;have n3 := nc3 hz;have n4 := nc4 hz;have n11 := nc11 hz;rw [hga] at n11;have cx0 := (HCX.out w1 HX1.out.2).1;have cx1 := (HCX.out w1 HX1.out.2).2.2.1;clear hz;dsimp only;go_wp2_with fail
 refine (say1 bt _ (⟨#[61]⟩) w1 HX1.out.1 (by have := HLN.out; simp only [zla, zlc, zln] at this ⊢; omega)).mono ?_;rintro e w2 ⟨rfl, hs1, hb1⟩;have HX2 : Hid (SayAt w2 bt (l ++ nodeT t0 ++ ([⟨#[61]⟩] : List ByteArray)) ∧ Oth bt w w2) := ⟨hs1, HX1.out.2.tr hb1⟩;clear hs1 hb1;clear n0 n3 n4 n11 cx0 cx1;have hz := (HE.out w2 HX2.out.2).blk;have n0 := nc0 hz;rw [hk] at n0;have n3 := nc3 hz;have n4 := nc4 hz;have n11 := nc11 hz;rw [hga] at n11;have cx0 := (HCX.out w2 HX2.out.2).1;have cx1 := (HCX.out w2 HX2.out.2).2.2.1;clear hz;dsimp only;go_wp2_with fail
 refine (HN1.out bt x1 lo hi _ w2 HX2.out.1 (HS.out.2.keep HX2.out.2.bel) (HCX.out w2 HX2.out.2).2.2.2 hhi (by have := HLN.out; simp only [zla, zlc, zln] at this ⊢; omega)).mono ?_;rintro e w3 ⟨rfl, hs1, hb1⟩;have HX3 : Hid (SayAt w3 bt (l ++ nodeT t0 ++ ([⟨#[61]⟩] : List ByteArray) ++ nodeT t1) ∧ Oth bt w w3) := ⟨hs1, HX2.out.2.tr hb1⟩;clear hs1 hb1;clear n0 n3 n4 n11 cx0 cx1;have hz := (HE.out w3 HX3.out.2).blk;have n0 := nc0 hz;rw [hk] at n0;have n3 := nc3 hz;have n4 := nc4 hz;have n11 := nc11 hz;rw [hga] at n11;have cx0 := (HCX.out w3 HX3.out.2).1;have cx1 := (HCX.out w3 HX3.out.2).2.2.1;clear hz;dsimp only;go_wp2;go_end0;exact ⟨rfl, HX3.out⟩
theorem plain_value (bt x lo hi : Nat) (d : ND) (ps : List Tr) (a : Option Addr) (cap : Nat) (bs : List Nat) (h : Int) (l : List ByteArray) (w : World) (hs : SayAt w bt l) (ht : TG bt w) (he : NE w bt x lo hi d ps a cap bs h) (HN : Hid (∀ (i : Nat) (t : Tr), ps[i]? = some t → NOk t)) (hok : ndOk d ps.length = true) (hk : d.k = 16)  (hl : (l ++ plainT d (kidsT ps)).length ≤ 2000000000) : Calls prog 104 #[.pointer (some ⟨bt, 0, none⟩), .pointer (some ⟨x, 0, none⟩)] w (sayR bt (l ++ plainT d (kidsT ps)) w) := by
 have ok := okIs hok;have lB := hs.lt;have HS : Hid (SayAt w bt l ∧ TG bt w) := ⟨hs, ht⟩;have HE : Hid (∀ W, Oth bt w W → NE W bt x lo hi d ps a cap bs h) := fun W hW => he.keep hW;have xl : x < bt := he.x
 have heq : l ++ plainT d (kidsT ps) = l ++ joinT (kidsT ps) := by
  unfold plainT; simp [hk]
 rw [heq] at hl ⊢;have HLN : Hid ((l ++ joinT (kidsT ps)).length ≤ 2000000000) := hl;have hhi : hi ≤ bt := he.hi;have hcap := he.row.hcap;have hpl := ok.len;have p0 : (0 : Int) ≤ (ps.length : Int) := by omega
 have HX0 : Hid (SayAt w bt l ∧ Oth bt w w) := ⟨hs, Oth.refl _ _⟩;have hz := (HE.out w HX0.out.2).blk;have n0 := nc0 hz;rw [hk] at n0;have n11 := nc11 hz;clear hz;clear hs ht he hok hl heq
 go_enter func104, ntmps104
 go_wp2_with fail
 refine (each_any bt lo hi cap a ps bs _ w HX0.out.1 (HS.out.2.keep HX0.out.2.bel) (HE.out w HX0.out.2).row hhi HN hpl (by have := HLN.out; simp only [zla, zlc, zln] at this ⊢; omega)).mono ?_;rintro e w1 ⟨rfl, hs1, hb1⟩;have HX1 : Hid (SayAt w1 bt (l ++ joinT (kidsT ps)) ∧ Oth bt w w1) := ⟨hs1, HX0.out.2.tr hb1⟩;clear hs1 hb1;clear n0 n11;have hz := (HE.out w1 HX1.out.2).blk;have n0 := nc0 hz;rw [hk] at n0;have n11 := nc11 hz;clear hz;dsimp only;go_wp2;go_end0;exact ⟨rfl, HX1.out⟩
end Go.Proofs.YtlonbaefdffbeaaGreatDoor

