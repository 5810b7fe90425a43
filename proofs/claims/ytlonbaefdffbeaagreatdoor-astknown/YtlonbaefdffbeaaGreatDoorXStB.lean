import Derived.Test.YtlonbaefdffbeaaGreatDoorAUnM
import Derived.Test.YtlonbaefdffbeaaGreatDoorXStA
import Derived.Deep.LoopGhost
namespace Go.Proofs.YtlonbaefdffbeaaGreatDoor
open Go.ChangeShapes Go.WideShapes Go.ChangeAt Go.RowKit Go.Proofs.Tryz
set_option linter.unusedSimpArgs false
set_option linter.unusedVariables false
set_option maxRecDepth 20000
set_option maxHeartbeats 16000000

def Back (f : PSt → Tr × PSt) : Prop := ∀ s, (f s).2.e = 0 → s.e = 0
theorem bk_fail (e pl pc : Int) (s : PSt) (h : (failF e pl pc s).e = 0) : s.e = 0 := by
 unfold failF at h
 split at h
 ·assumption
 ·exact h
theorem nz_refuse (c : PC) (s : PSt) : ¬ (refuseF c s).e = 0 := by
 unfold refuseF failF
 split
 ·simp
 ·assumption
theorem bk_take (c : PC) (s : PSt) (t : ByteArray) (h : (takeF c s t).2.e = 0) : s.e = 0 := by
 unfold takeF at h
 split at h <;> exact h
theorem bk_need (c : PC) (s : PSt) (t : ByteArray) (h : (needF c s t).e = 0) : s.e = 0 := by
 unfold needF at h
 split at h
 ·exact bk_take c s t h
 ·exact absurd h (nz_refuse c s)
theorem bk_needK (c : PC) (s : PSt) (k : Int) (h : (needKF c s k).2.e = 0) : s.e = 0 := by
 unfold needKF at h
 split at h
 ·exact h
 ·exact absurd h (nz_refuse c s)
theorem bk_high (h0 al ac : Int) (s : PSt) (h : (highF h0 al ac s).e = 0) : s.e = 0 := by
 unfold highF at h
 split at h
 ·exact bk_fail _ _ _ _ h
 ·exact h
theorem bk_grow (s : PSt) (d : ND) (ps : List Tr) (h : (growS s d ps).e = 0) : s.e = 0 := by
 unfold growS at h;have h1 := bk_high _ _ _ _ h;unfold manyF at h1
 split at h1
 ·exact bk_fail _ _ _ (countF s) h1
 ·exact h1
theorem bk_brack (c : PC) (s : PSt) (t : Sh) (h : (brackF c s t).2.e = 0) : s.e = 0 := by
 unfold brackF at h
 split at h
 ·exact bk_take _ _ _ (bk_needK _ _ _ (bk_need _ _ _ h))
 ·exact h
theorem beginN_lt (c : PC) (s : PSt) (n : Nat) (h : beginF c s n = true) : s.e = 0 ∧ n < c.ws.length := by
 unfold beginF at h
 split at h
 ·rename_i h0
  refine ⟨h0, ?_⟩
  split at h
  ·rename_i x hx
   exact (List.getElem?_eq_some_iff.1 hx).1
  ·cases h
 ·cases h
theorem pg_bump (c : PC) (s : PSt) (h0 : s.e = 0) (hl : s.i < c.ws.length) : remF c { s with i := s.i + 1 } < remF c s := by
 unfold remF;dsimp only;rw [if_pos h0, if_pos h0]
 omega
theorem pg_typ (c : PC) (s : PSt) (h : (typF c s).2.e = 0) : remF c (typF c s).2 < remF c s := by
 unfold typF at h ⊢
 split at h
 ·rename_i hb
  rw [if_pos hb];have hlt := beginN_lt c s _ hb;have h1 := pg_bump c s hlt.1 hlt.2;have h2 := rem_stars c (c.ws.length + 1 - (baseF c s).2.i) (baseF c s).2 0
  have h3 : remF c (baseF c s).2 ≤ remF c { s with i := s.i + 1 } := by
   unfold baseF
   split
   ·exact rem_needK _ _ _
   ·exact Nat.le_refl _
  unfold starsOf;dsimp only
  omega
 ·exact absurd h (nz_refuse c s)
theorem bk_typ (c : PC) (s : PSt) (h : (typF c s).2.e = 0) : s.e = 0 := by
 unfold typF at h
 split at h
 ·rename_i hb
  exact (beginN_lt c s _ hb).1
 ·exact absurd h (nz_refuse c s)
theorem pg_need (c : PC) (s : PSt) (t : ByteArray) (ht : 0 < t.size) (h : (needF c s t).e = 0) : remF c (needF c s t) < remF c s := by
 unfold needF at h ⊢
 split at h
 ·rename_i hk
  rw [if_pos hk];exact (takeF_true ht hk).2
 ·exact absurd h (nz_refuse c s)
theorem bk_sizeof (c : PC) (s : PSt) (pl pc : Int) (h : (sizeofF c s pl pc).2.e = 0) : s.e = 0 := by
 unfold sizeofF at h;have h1 := bk_need _ _ _ (bk_grow _ _ _ h);unfold sizeofS at h1;exact bk_need _ _ _ (bk_typ _ _ (bk_brack _ _ _ h1))
theorem bk_listLoop {one : PSt → Tr × PSt} {c : PC} (hb : Back one) : ∀ (f : Nat) (s : PSt) (acc : List Tr), (listLoop one c f s acc).2.e = 0 → s.e = 0
 | 0, s, acc, h => h
 | f + 1, s, acc, h => by
  rw [listLoop] at h
  split at h
  ·exact bk_take _ _ _ (hb _ (bk_listLoop hb f _ _ h))
  ·exact h
theorem bk_listF {one : PSt → Tr × PSt} {c : PC} (hb : Back one) (s : PSt) (h : (listF one c s).2.e = 0) : s.e = 0 := by
 unfold listF at h
 split at h
 ·exact bk_take _ _ _ h
 ·have h1 := bk_need _ _ _ h
  unfold listOf at h1;exact hb _ (bk_listLoop hb _ _ _ h1)
theorem bk_name {ex : PSt → Tr × PSt} {c : PC} (hb : Back ex) (s : PSt) (x : Wd) (h : (nameF ex c s x).2.e = 0) : s.e = 0 := by
 unfold nameF at h
 split at h
 ·exact bk_take _ _ _ (bk_listF hb _ (bk_grow _ _ _ h))
 ·exact bk_grow _ _ _ h
theorem bk_prim {ex : PSt → Tr × PSt} {c : PC} (hb : Back ex) : Back (primF ex c) := fun s h => by
 unfold primF at h
 split at h
 ·exact bk_grow { s with i := s.i + 1 } _ _ h
 ·split at h
  ·exact bk_name hb { s with i := s.i + 1 } _ h
  ·split at h
   ·unfold parenF at h
    exact bk_take _ _ _ (hb _ (bk_need _ _ _ (bk_high _ _ _ _ h)))
   ·split at h
    ·unfold inF at h
     exact bk_take _ _ _ (bk_need _ _ _ (bk_need _ _ _ (bk_grow _ _ _ h)))
    ·split at h
     ·exact bk_take _ _ _ (bk_sizeof _ _ _ _ h)
     ·exact absurd h (nz_refuse c s)
theorem pg_prim {ex : PSt → Tr × PSt} {c : PC} {r : Nat} (hm : Goes ex c r) (s : PSt) (hr : remF c s ≤ r) (h : (primF ex c s).2.e = 0) : remF c (primF ex c s).2 < remF c s := by
 unfold primF at h ⊢
 split at h
 ·rename_i hk
  rw [if_pos hk];have hlt := wordF_kind c s (by rw [hk]; decide);exact Nat.lt_of_le_of_lt (rem_grow _ _ _ _) (pg_bump c s hlt.1 hlt.2)
 ·rename_i hk
  rw [if_neg hk]
  split at h
  ·rename_i hk1
   rw [if_pos hk1];have hlt := wordF_kind c s (by rw [hk1]; decide);have h1 := pg_bump c s hlt.1 hlt.2;exact Nat.lt_of_le_of_lt (rem_name hm _ _ (by omega)) h1
  ·rename_i hk1
   rw [if_neg hk1]
   split at h
   ·rename_i hk2
    rw [if_pos hk2];have ht := (takeF_true (by decide) hk2).2;unfold parenF;have := hm (takeF c s ⟨#[40]⟩).2 (by omega);have h2 := rem_need c (ex (takeF c s ⟨#[40]⟩).2).2 ⟨#[41]⟩;have h3 := rem_high c (wrap64 ((ex (takeF c s ⟨#[40]⟩).2).1.h + 1)) (ex (takeF c s ⟨#[40]⟩).2).1.d.al (ex (takeF c s ⟨#[40]⟩).2).1.d.ac (needF c (ex (takeF c s ⟨#[40]⟩).2).2 ⟨#[41]⟩);dsimp only
    omega
   ·rename_i hk2
    rw [if_neg hk2]
    split at h
    ·rename_i hk3
     rw [if_pos hk3];have ht := (takeF_true (by decide) hk3).2;unfold inF;exact Nat.lt_of_le_of_lt (Nat.le_trans (rem_grow _ _ _ _) (Nat.le_trans (rem_need _ _ _) (rem_need _ _ _))) ht
    ·rename_i hk3
     rw [if_neg hk3]
     split at h
     ·rename_i hk4
      rw [if_pos hk4];have ht := (takeF_true (by decide) hk4).2;exact Nat.lt_of_le_of_lt (rem_sizeof _ _ _ _) ht
     ·exact absurd h (nz_refuse c s)
theorem bk_postLoop {ex : PSt → Tr × PSt} {c : PC} (hb : Back ex) : ∀ (f : Nat) (t : Tr) (s : PSt), (postLoop ex c f t s).2.e = 0 → s.e = 0
 | 0, t, s, h => h
 | f + 1, t, s, h => by
  rw [postLoop] at h
  split at h
  ·have h1 := bk_postLoop hb f _ _ h
   unfold idxF at h1;exact bk_take _ _ _ (hb _ (bk_need _ _ _ (bk_grow _ _ _ h1)))
  ·split at h
   ·have h1 := bk_postLoop hb f _ _ h
    unfold memF at h1;exact bk_take _ _ _ (bk_needK _ _ _ (bk_grow _ _ _ h1))
   ·split at h
    ·have h1 := bk_postLoop hb f _ _ h
     unfold memF at h1;exact bk_take _ _ _ (bk_needK _ _ _ (bk_grow _ _ _ h1))
    ·exact h
theorem bk_post {ex : PSt → Tr × PSt} {c : PC} (hb : Back ex) : Back (postF ex c) := fun s h => by
 unfold postF postOf at h;exact bk_prim hb s (bk_postLoop hb _ _ _ h)
theorem pg_post {ex : PSt → Tr × PSt} {c : PC} {r : Nat} (hb : Back ex) (hm : Goes ex c r) (s : PSt) (hr : remF c s ≤ r) (h : (postF ex c s).2.e = 0) : remF c (postF ex c s).2 < remF c s := by
 have h0 : (primF ex c s).2.e = 0 := by
  unfold postF postOf at h;exact bk_postLoop hb _ _ _ h
 have h1 := pg_prim hm s hr h0;unfold postF postOf;have := rem_postLoop hm (remF c (primF ex c s).2 + 1) (primF ex c s).1 (primF ex c s).2 (by omega)
 omega
theorem bk_aheadLoop (c : PC) : ∀ (f : Nat) (acc : List ND) (s : PSt), (aheadLoop c f acc s).2.e = 0 → s.e = 0
 | 0, _, _, h => h
 | f + 1, acc, s, h => by
  rw [aheadLoop] at h
  cases ho : opF c s preOps with
  | some op =>
   rw [ho] at h;exact bk_take _ _ _ (bk_aheadLoop c f _ _ h)
  | none =>
   rw [ho] at h;dsimp only at h
   split at h
   ·have h1 := bk_aheadLoop c f _ _ h
    unfold castS at h1;exact bk_typ c { s with i := s.i + 1 } (bk_need _ _ _ h1)
   ·exact h
theorem bk_putOn : ∀ (l : List ND) (t : Tr) (s : PSt), (putOn l t s).2.e = 0 → s.e = 0
 | [], _, _, h => h
 | d :: rest, t, s, h => bk_grow _ _ _ (bk_putOn rest _ _ h)
theorem bk_enter (c : PC) (s : PSt) (h : (enterF c s).e = 0) : s.e = 0 := by
 unfold enterF limF at h
 split at h
 ·exact bk_fail _ _ _ (upF s) h
 ·exact h
theorem bk_un {ex : PSt → Tr × PSt} {c : PC} (hb : Back ex) : Back (unF ex c) := fun s h => by
 unfold unF at h;exact bk_enter c s (bk_aheadLoop c _ _ _ (bk_post hb _ (bk_putOn _ _ _ h)))
def Pg (f : PSt → Tr × PSt) (c : PC) (r : Nat) : Prop := ∀ s, remF c s ≤ r → (f s).2.e = 0 → remF c (f s).2 < remF c s
theorem pg_un {ex : PSt → Tr × PSt} {c : PC} {r : Nat} (hb : Back ex) (hm : Goes ex c r) : Pg (unF ex c) c r := fun s hr h => by
 have h1 := rem_enter c s;have h2 := rem_aheadLoop c (remF c (enterF c s) + 1) [] (enterF c s);have h3 : remF c (aheadOf c [] (enterF c s)).2 ≤ remF c (enterF c s) := h2;have h0 : (postF ex c (aheadOf c [] (enterF c s)).2).2.e = 0 := bk_putOn (aheadOf c [] (enterF c s)).1.reverse (postF ex c (aheadOf c [] (enterF c s)).2).1 _ h;have h4 := pg_post hb hm (aheadOf c [] (enterF c s)).2 (by omega) h0;have h5 := rem_putOn c (aheadOf c [] (enterF c s)).1.reverse (postF ex c (aheadOf c [] (enterF c s)).2).1 (postF ex c (aheadOf c [] (enterF c s)).2).2
 show remF c (putOn (aheadOf c [] (enterF c s)).1.reverse (postF ex c (aheadOf c [] (enterF c s)).2).1 (postF ex c (aheadOf c [] (enterF c s)).2).2).2 < remF c s
 omega
theorem bk_binLoop {sub : PSt → Tr × PSt} {c : PC} {ops : List ByteArray} (hb : Back sub) : ∀ (f : Nat) (t : Tr) (s : PSt), (binLoop sub c ops f t s).2.e = 0 → s.e = 0
 | 0, _, _, h => h
 | f + 1, t, s, h => by
  rw [binLoop] at h
  cases ho : opF c s ops with
  | none => rw [ho] at h; exact h
  | some op =>
   rw [ho] at h;have h1 := bk_binLoop hb f _ _ h;unfold binStep at h1;exact bk_take _ _ _ (hb _ (bk_grow _ _ _ h1))
theorem bk_bin {un : PSt → Tr × PSt} {c : PC} (hb : Back un) : ∀ l : List (List ByteArray), Back (binF un c l)
 | [] => hb
 | ops :: rest => fun s h => bk_bin hb rest s (bk_binLoop (bk_bin hb rest) _ _ _ h)
theorem pg_bin {un : PSt → Tr × PSt} {c : PC} {r : Nat} (hb : Back un) (hm : Goes un c (r + 1)) (hp : Pg un c r) : ∀ l : List (List ByteArray), (∀ ops ∈ l, SizeOk ops) → Pg (binF un c l) c r
 | [], _ => hp
 | ops :: rest, ho => fun s hr h => by
  have h0 : (binF un c rest s).2.e = 0 := bk_binLoop (bk_bin hb rest) _ _ _ h;have h1 := pg_bin hb hm hp rest (fun o h => ho o (List.mem_cons_of_mem _ h)) s hr h0;have h2 := rem_binLoop (ho ops (List.mem_cons_self ..)) (rem_bin hm rest (fun o h => ho o (List.mem_cons_of_mem _ h))) (remF c (binF un c rest s).2 + 1) (binF un c rest s).1 (binF un c rest s).2 (by omega)
  show remF c (binLoop (binF un c rest) c ops _ _ _).2 < remF c s
  omega
theorem exN_back (c : PC) : ∀ n, Back (exN c n)
 | 0 => fun s h => h
 | n + 1 => bk_bin (bk_un (exN_back c n)) lvOps
theorem exN_pg (c : PC) (n : Nat) : Pg (exN c (n + 1)) c n := pg_bin (bk_un (exN_back c n)) (rem_un (exN_goes c n)) (pg_un (exN_back c n) (exN_goes c n)) lvOps lv_size

def plainD (k pl pc : Int) : ND := ⟨k, pl, pc, ⟨#[]⟩, ⟨#[]⟩, 0, noSh, false, 0⟩
def finishF (c : PC) (s : PSt) (d : ND) (ps : List Tr) : Tr × PSt := (growT (needF c s ⟨#[59]⟩) d ps, growS (needF c s ⟨#[59]⟩) d ps)
def enclosedF (ex : PSt → Tr × PSt) (c : PC) (s : PSt) : Tr × PSt := ((ex (needF c s ⟨#[40]⟩)).1, needF c (ex (needF c s ⟨#[40]⟩)).2 ⟨#[41]⟩)
def answerF (ex : PSt → Tr × PSt) (c : PC) (s : PSt) (pl pc : Int) : Tr × PSt := if isF c s ⟨#[59]⟩ = true then finishF c s (plainD 13 pl pc) [] else finishF c (ex s).2 (plainD 13 pl pc) [(ex s).1]
def assignF (ex : PSt → Tr × PSt) (c : PC) (s : PSt) (pl pc : Int) : Tr × PSt :=
 if (takeF c (ex s).2 ⟨#[61]⟩).1 = true then finishF c (ex (takeF c (ex s).2 ⟨#[61]⟩).2).2 (plainD 15 pl pc) [(ex s).1, (ex (takeF c (ex s).2 ⟨#[61]⟩).2).1] else finishF c (ex s).2 (plainD 16 pl pc) [(ex s).1]
def localD (x : Wd) (t : Sh) : ND := ⟨7, x.pl, x.pc, x.s, ⟨#[]⟩, 0, t, false, 0⟩
def lnS (c : PC) (s : PSt) : Wd × PSt := needKF c (typF c s).2 1
def localF (ex : PSt → Tr × PSt) (c : PC) (s : PSt) : Tr × PSt :=
 if (takeF c (lnS c s).2 ⟨#[61]⟩).1 = true then finishF c (ex (takeF c (lnS c s).2 ⟨#[61]⟩).2).2 (localD (lnS c s).1 (typF c s).1) [(ex (takeF c (lnS c s).2 ⟨#[61]⟩).2).1]
 else finishF c (brackF c (lnS c s).2 (typF c s).1).2 (localD (lnS c s).1 (brackF c (lnS c s).2 (typF c s).1).1) []
def choiceF (ex sx : PSt → Tr × PSt) (c : PC) (s : PSt) (pl pc : Int) : Tr × PSt :=
 if (takeF c (sx (enclosedF ex c s).2).2 ⟨#[101, 108, 115, 101]⟩).1 = true then (growT (sx (takeF c (sx (enclosedF ex c s).2).2 ⟨#[101, 108, 115, 101]⟩).2).2 (plainD 9 pl pc) [(enclosedF ex c s).1, (sx (enclosedF ex c s).2).1, (sx (takeF c (sx (enclosedF ex c s).2).2 ⟨#[101, 108, 115, 101]⟩).2).1], growS (sx (takeF c (sx (enclosedF ex c s).2).2 ⟨#[101, 108, 115, 101]⟩).2).2 (plainD 9 pl pc) [(enclosedF ex c s).1, (sx (enclosedF ex c s).2).1, (sx (takeF c (sx (enclosedF ex c s).2).2 ⟨#[101, 108, 115, 101]⟩).2).1])
 else (growT (sx (enclosedF ex c s).2).2 (plainD 9 pl pc) [(enclosedF ex c s).1, (sx (enclosedF ex c s).2).1], growS (sx (enclosedF ex c s).2).2 (plainD 9 pl pc) [(enclosedF ex c s).1, (sx (enclosedF ex c s).2).1])
def whileF (ex sx : PSt → Tr × PSt) (c : PC) (s : PSt) (pl pc : Int) : Tr × PSt := (growT (sx (enclosedF ex c s).2).2 (plainD 10 pl pc) [(enclosedF ex c s).1, (sx (enclosedF ex c s).2).1], growS (sx (enclosedF ex c s).2).2 (plainD 10 pl pc) [(enclosedF ex c s).1, (sx (enclosedF ex c s).2).1])
def partF (ex sx : PSt → Tr × PSt) (c : PC) (s : PSt) : Tr × PSt := if beginF c s s.i = true then localF ex c s else sx s
def blockLoop (ex sx : PSt → Tr × PSt) (c : PC) : Nat → List Tr → PSt → List Tr × PSt
 | 0, acc, s => (acc, s)
 | f + 1, acc, s => if goesF c s ⟨#[125]⟩ = true then blockLoop ex sx c f (acc ++ [(partF ex sx c s).1]) (partF ex sx c s).2 else (acc, s)
def mzF (c : PC) (s : PSt) : Nat := if s.e = 0 then remF c s + 1 else 0
def blockOf (ex sx : PSt → Tr × PSt) (c : PC) (acc : List Tr) (s : PSt) : List Tr × PSt := blockLoop ex sx c (mzF c s + 1) acc s
def blockD (x : Wd) : ND := plainD 6 x.pl x.pc
def blockF (ex sx : PSt → Tr × PSt) (c : PC) (s : PSt) : Tr × PSt :=
 (growT (needF c (blockOf ex sx c [] (needF c s ⟨#[123]⟩)).2 ⟨#[125]⟩) (blockD (wordF c s)) (blockOf ex sx c [] (needF c s ⟨#[123]⟩)).1, growS (needF c (blockOf ex sx c [] (needF c s ⟨#[123]⟩)).2 ⟨#[125]⟩) (blockD (wordF c s)) (blockOf ex sx c [] (needF c s ⟨#[123]⟩)).1)
def stmtF (ex sx : PSt → Tr × PSt) (c : PC) (s : PSt) (pl pc : Int) : Tr × PSt :=
 if isF c s ⟨#[123]⟩ = true then blockF ex sx c s
 else if isF c s ⟨#[59]⟩ = true then finishF c s (plainD 8 pl pc) []
 else if (takeF c s ⟨#[105, 102]⟩).1 = true then choiceF ex sx c (takeF c s ⟨#[105, 102]⟩).2 pl pc
 else if (takeF c s ⟨#[119, 104, 105, 108, 101]⟩).1 = true then whileF ex sx c (takeF c s ⟨#[119, 104, 105, 108, 101]⟩).2 pl pc
 else if (takeF c s ⟨#[98, 114, 101, 97, 107]⟩).1 = true then finishF c (takeF c s ⟨#[98, 114, 101, 97, 107]⟩).2 (plainD 11 pl pc) []
 else if (takeF c s ⟨#[99, 111, 110, 116, 105, 110, 117, 101]⟩).1 = true then finishF c (takeF c s ⟨#[99, 111, 110, 116, 105, 110, 117, 101]⟩).2 (plainD 12 pl pc) []
 else if (takeF c s ⟨#[114, 101, 116, 117, 114, 110]⟩).1 = true then answerF ex c (takeF c s ⟨#[114, 101, 116, 117, 114, 110]⟩).2 pl pc
 else if (takeF c s ⟨#[111, 117, 116]⟩).1 = true then finishF c (enclosedF ex c (takeF c s ⟨#[111, 117, 116]⟩).2).2 (plainD 14 pl pc) [(enclosedF ex c (takeF c s ⟨#[111, 117, 116]⟩).2).1]
 else assignF ex c s pl pc
def stF (ex sx : PSt → Tr × PSt) (c : PC) (s : PSt) : Tr × PSt :=
 ((stmtF ex sx c (enterF c s) (wordF c (enterF c s)).pl (wordF c (enterF c s)).pc).1, leaveF (stmtF ex sx c (enterF c s) (wordF c (enterF c s)).pl (wordF c (enterF c s)).pc).2)
structure ExIs (ex : PSt → Tr × PSt) (c : PC) : Prop where
 go : ∀ s, remF c (ex s).2 ≤ remF c s
 bk : Back ex
 pg : ∀ s, (ex s).2.e = 0 → remF c (ex s).2 < remF c s
structure SxIs (sx : PSt → Tr × PSt) (c : PC) (r : Nat) : Prop where
 go : ∀ s, remF c s < r → remF c (sx s).2 ≤ remF c s
 bk : Back sx
 pg : ∀ s, remF c s < r → (sx s).2.e = 0 → remF c (sx s).2 < remF c s
theorem exIs (c : PC) : ExIs (exN c (c.ws.length + 1)) c := ⟨fun s => exN_goes c _ s (by have := remF_le c s; omega), exN_back c _, fun s h => exN_pg c c.ws.length s (remF_le c s) h⟩
theorem rem_finish (c : PC) (s : PSt) (d : ND) (ps : List Tr) : remF c (finishF c s d ps).2 ≤ remF c s := Nat.le_trans (rem_grow _ _ _ _) (rem_need _ _ _)
theorem bk_finish (c : PC) (s : PSt) (d : ND) (ps : List Tr) (h : (finishF c s d ps).2.e = 0) : s.e = 0 := bk_need _ _ _ (bk_grow _ _ _ h)
theorem pg_finish (c : PC) (s : PSt) (d : ND) (ps : List Tr) (h : (finishF c s d ps).2.e = 0) : remF c (finishF c s d ps).2 < remF c s := Nat.lt_of_le_of_lt (rem_grow _ _ _ _) (pg_need _ _ _ (by decide) (bk_grow _ _ _ h))
theorem rem_encl {ex : PSt → Tr × PSt} {c : PC} (hx : ExIs ex c) (s : PSt) : remF c (enclosedF ex c s).2 ≤ remF c s := Nat.le_trans (rem_need _ _ _) (Nat.le_trans (hx.go _) (rem_need _ _ _))
theorem bk_encl {ex : PSt → Tr × PSt} {c : PC} (hx : ExIs ex c) (s : PSt) (h : (enclosedF ex c s).2.e = 0) : s.e = 0 := bk_need _ _ _ (hx.bk _ (bk_need _ _ _ h))
theorem rem_answer {ex : PSt → Tr × PSt} {c : PC} (hx : ExIs ex c) (s : PSt) (pl pc : Int) : remF c (answerF ex c s pl pc).2 ≤ remF c s := by
 unfold answerF
 split
 ·exact rem_finish _ _ _ _
 ·exact Nat.le_trans (rem_finish _ _ _ _) (hx.go _)
theorem bk_answer {ex : PSt → Tr × PSt} {c : PC} (hx : ExIs ex c) (s : PSt) (pl pc : Int) (h : (answerF ex c s pl pc).2.e = 0) : s.e = 0 := by
 unfold answerF at h
 split at h
 ·exact bk_finish _ _ _ _ h
 ·exact hx.bk _ (bk_finish _ _ _ _ h)
theorem rem_assign {ex : PSt → Tr × PSt} {c : PC} (hx : ExIs ex c) (s : PSt) (pl pc : Int) : remF c (assignF ex c s pl pc).2 ≤ remF c s := by
 unfold assignF
 split
 ·exact Nat.le_trans (rem_finish _ _ _ _) (Nat.le_trans (hx.go _) (Nat.le_trans (rem_take _ _ _) (hx.go _)))
 ·exact Nat.le_trans (rem_finish _ _ _ _) (hx.go _)
theorem bk_assign {ex : PSt → Tr × PSt} {c : PC} (hx : ExIs ex c) (s : PSt) (pl pc : Int) (h : (assignF ex c s pl pc).2.e = 0) : (ex s).2.e = 0 := by
 unfold assignF at h
 split at h
 ·exact bk_take _ _ _ (hx.bk _ (bk_finish _ _ _ _ h))
 ·exact bk_finish _ _ _ _ h
theorem pg_assign {ex : PSt → Tr × PSt} {c : PC} (hx : ExIs ex c) (s : PSt) (pl pc : Int) (h : (assignF ex c s pl pc).2.e = 0) : remF c (assignF ex c s pl pc).2 < remF c s := by
 have h1 := hx.pg s (bk_assign hx s pl pc h);unfold assignF
 split
 ·exact Nat.lt_of_le_of_lt (Nat.le_trans (rem_finish _ _ _ _) (Nat.le_trans (hx.go _) (rem_take _ _ _))) h1
 ·exact Nat.lt_of_le_of_lt (rem_finish _ _ _ _) h1
theorem bk_local0 {ex : PSt → Tr × PSt} {c : PC} (hx : ExIs ex c) (s : PSt) (h : (localF ex c s).2.e = 0) : (typF c s).2.e = 0 := by
 unfold localF at h
 split at h
 ·exact bk_needK _ _ _ (bk_take _ _ _ (hx.bk _ (bk_finish _ _ _ _ h)))
 ·exact bk_needK _ _ _ (bk_brack _ _ _ (bk_finish _ _ _ _ h))
theorem rem_local0 {ex : PSt → Tr × PSt} {c : PC} (hx : ExIs ex c) (s : PSt) : remF c (localF ex c s).2 ≤ remF c (typF c s).2 := by
 unfold localF
 split
 ·exact Nat.le_trans (rem_finish _ _ _ _) (Nat.le_trans (hx.go _) (Nat.le_trans (rem_take _ _ _) (rem_needK _ _ _)))
 ·exact Nat.le_trans (rem_finish _ _ _ _) (Nat.le_trans (rem_brack _ _ _) (rem_needK _ _ _))
theorem rem_choice {ex sx : PSt → Tr × PSt} {c : PC} {r : Nat} (hx : ExIs ex c) (hs : SxIs sx c r) (s : PSt) (hr : remF c s < r) (pl pc : Int) : remF c (choiceF ex sx c s pl pc).2 ≤ remF c s := by
 have h1 := rem_encl hx s;have h2 := hs.go (enclosedF ex c s).2 (by omega);have h3 := rem_take c (sx (enclosedF ex c s).2).2 ⟨#[101, 108, 115, 101]⟩;have h4 := hs.go (takeF c (sx (enclosedF ex c s).2).2 ⟨#[101, 108, 115, 101]⟩).2 (by omega);unfold choiceF
 split
 ·exact Nat.le_trans (rem_grow _ _ _ _) (by omega)
 ·exact Nat.le_trans (rem_grow _ _ _ _) (by omega)
theorem bk_choice {ex sx : PSt → Tr × PSt} {c : PC} {r : Nat} (hx : ExIs ex c) (hs : SxIs sx c r) (s : PSt) (pl pc : Int) (h : (choiceF ex sx c s pl pc).2.e = 0) : s.e = 0 := by
 unfold choiceF at h
 split at h
 ·exact bk_encl hx _ (hs.bk _ (bk_take _ _ _ (hs.bk _ (bk_grow _ _ _ h))))
 ·exact bk_encl hx _ (hs.bk _ (bk_grow _ _ _ h))
theorem rem_while {ex sx : PSt → Tr × PSt} {c : PC} {r : Nat} (hx : ExIs ex c) (hs : SxIs sx c r) (s : PSt) (hr : remF c s < r) (pl pc : Int) : remF c (whileF ex sx c s pl pc).2 ≤ remF c s := by
 have h1 := rem_encl hx s;have h2 := hs.go (enclosedF ex c s).2 (by omega);exact Nat.le_trans (rem_grow _ _ _ _) (by omega)
theorem bk_while {ex sx : PSt → Tr × PSt} {c : PC} {r : Nat} (hx : ExIs ex c) (hs : SxIs sx c r) (s : PSt) (pl pc : Int) (h : (whileF ex sx c s pl pc).2.e = 0) : s.e = 0 := bk_encl hx _ (hs.bk _ (bk_grow _ _ _ h))
theorem goes_e {c : PC} {s : PSt} {t : ByteArray} (h : goesF c s t = true) : s.e = 0 := by
 unfold goesF at h;simp at h;exact h.1
theorem mz_part {ex sx : PSt → Tr × PSt} {c : PC} {r : Nat} (hx : ExIs ex c) (hs : SxIs sx c r) (s : PSt) (hr : remF c s < r) (he : s.e = 0) : mzF c (partF ex sx c s).2 < mzF c s ∧ remF c (partF ex sx c s).2 ≤ remF c s := by
 have hgo : remF c (partF ex sx c s).2 ≤ remF c s := by
  unfold partF
  split
  ·exact Nat.le_trans (rem_local0 hx s) (rem_typ _ _)
  ·exact hs.go s hr
 refine ⟨?_, hgo⟩;unfold mzF;rw [if_pos he]
 split
 ·rename_i h0
  have : remF c (partF ex sx c s).2 < remF c s := by
   unfold partF at h0 ⊢
   split
   ·rename_i hb
    rw [if_pos hb] at h0;exact Nat.lt_of_le_of_lt (rem_local0 hx s) (pg_typ c s (bk_local0 hx s h0))
   ·rename_i hb
    rw [if_neg hb] at h0;exact hs.pg s hr h0
  omega
 ·omega
theorem blockLoop_fuel {ex sx : PSt → Tr × PSt} {c : PC} {r : Nat} (hx : ExIs ex c) (hs : SxIs sx c r) : ∀ (f f' : Nat) (acc : List Tr) (s : PSt), mzF c s < f → mzF c s < f' → remF c s < r → blockLoop ex sx c f acc s = blockLoop ex sx c f' acc s
 | 0, _, _, _, h, _, _ => by omega
 | f + 1, 0, _, _, _, h, _ => by omega
 | f + 1, f' + 1, acc, s, h1, h2, h3 => by
  rw [blockLoop, blockLoop]
  split
  ·rename_i hg
   have hm := mz_part hx hs s h3 (goes_e hg);exact blockLoop_fuel hx hs f f' _ _ (by omega) (by omega) (by omega)
  ·rfl
theorem blockOf_more {ex sx : PSt → Tr × PSt} {c : PC} {r : Nat} (hx : ExIs ex c) (hs : SxIs sx c r) {acc : List Tr} {s : PSt} (hr : remF c s < r) (hg : goesF c s ⟨#[125]⟩ = true) : blockOf ex sx c acc s = blockOf ex sx c (acc ++ [(partF ex sx c s).1]) (partF ex sx c s).2 := by
 have hm := mz_part hx hs s hr (goes_e hg);unfold blockOf;rw [blockLoop, if_pos hg];exact blockLoop_fuel hx hs _ _ _ _ (by omega) (by omega) (by omega)
theorem blockOf_end {ex sx : PSt → Tr × PSt} {c : PC} {acc : List Tr} {s : PSt} (hg : goesF c s ⟨#[125]⟩ = false) : blockOf ex sx c acc s = (acc, s) := by
 unfold blockOf;rw [blockLoop, if_neg (by rw [hg]; decide)]
theorem rem_blockLoop {ex sx : PSt → Tr × PSt} {c : PC} {r : Nat} (hx : ExIs ex c) (hs : SxIs sx c r) : ∀ (f : Nat) (acc : List Tr) (s : PSt), (s.e = 0 → remF c s < r) → remF c (blockLoop ex sx c f acc s).2 ≤ remF c s ∧ ((blockLoop ex sx c f acc s).2.e = 0 → s.e = 0)
 | 0, acc, s, h => ⟨Nat.le_refl _, id⟩
 | f + 1, acc, s, h => by
  rw [blockLoop]
  split
  ·rename_i hg
   have he := goes_e hg;have hm := mz_part hx hs s (h he) he;have ih := rem_blockLoop hx hs f (acc ++ [(partF ex sx c s).1]) (partF ex sx c s).2 (fun _ => by have := h he; omega);exact ⟨by omega, fun _ => he⟩
  ·exact ⟨Nat.le_refl _, id⟩
theorem rem_block {ex sx : PSt → Tr × PSt} {c : PC} {r : Nat} (hx : ExIs ex c) (hs : SxIs sx c r) (s : PSt) (hr : remF c s ≤ r) : remF c (blockF ex sx c s).2 ≤ remF c s ∧ ((blockF ex sx c s).2.e = 0 → s.e = 0 ∧ remF c (blockF ex sx c s).2 < remF c s) := by
 have h1 := rem_need c s ⟨#[123]⟩;have h2 := rem_blockLoop hx hs (mzF c (needF c s ⟨#[123]⟩) + 1) [] (needF c s ⟨#[123]⟩) (fun he => by have := pg_need c s ⟨#[123]⟩ (by decide) he; omega);have h3 := rem_need c (blockOf ex sx c [] (needF c s ⟨#[123]⟩)).2 ⟨#[125]⟩;have h4 := rem_grow c (needF c (blockOf ex sx c [] (needF c s ⟨#[123]⟩)).2 ⟨#[125]⟩) (blockD (wordF c s)) (blockOf ex sx c [] (needF c s ⟨#[123]⟩)).1;have h5 : remF c (blockOf ex sx c [] (needF c s ⟨#[123]⟩)).2 ≤ remF c (needF c s ⟨#[123]⟩) := h2.1;refine ⟨by show remF c (growS _ _ _) ≤ _; omega, fun h => ?_⟩;have h6 : (needF c s ⟨#[123]⟩).e = 0 := h2.2 (bk_need _ _ _ (bk_grow _ _ _ h));have h7 := pg_need c s ⟨#[123]⟩ (by decide) h6;exact ⟨bk_need _ _ _ h6, by show remF c (growS _ _ _) < _; omega⟩
theorem rem_stmt {ex sx : PSt → Tr × PSt} {c : PC} {r : Nat} (hx : ExIs ex c) (hs : SxIs sx c r) (s : PSt) (hr : remF c s ≤ r) (pl pc : Int) : remF c (stmtF ex sx c s pl pc).2 ≤ remF c s ∧ ((stmtF ex sx c s pl pc).2.e = 0 → s.e = 0 ∧ remF c (stmtF ex sx c s pl pc).2 < remF c s) := by
 have tk : ∀ (t : ByteArray), 0 < t.size → (takeF c s t).1 = true → remF c (takeF c s t).2 < remF c s := fun t h1 h2 => (takeF_true h1 h2).2;unfold stmtF
 split
 ·exact rem_block hx hs s hr
 split
 ·exact ⟨rem_finish _ _ _ _, fun h => ⟨bk_finish _ _ _ _ h, pg_finish _ _ _ _ h⟩⟩
 split
 ·rename_i hk
  have := tk _ (by decide) hk;have h1 := rem_choice hx hs (takeF c s ⟨#[105, 102]⟩).2 (by omega) pl pc;exact ⟨by omega, fun h => ⟨bk_take _ _ _ (bk_choice hx hs _ _ _ h), by omega⟩⟩
 split
 ·rename_i hk
  have := tk _ (by decide) hk;have h1 := rem_while hx hs (takeF c s ⟨#[119, 104, 105, 108, 101]⟩).2 (by omega) pl pc;exact ⟨by omega, fun h => ⟨bk_take _ _ _ (bk_while hx hs _ _ _ h), by omega⟩⟩
 split
 ·rename_i hk
  have := tk _ (by decide) hk;have h1 := rem_finish c (takeF c s ⟨#[98, 114, 101, 97, 107]⟩).2 (plainD 11 pl pc) [];exact ⟨by omega, fun h => ⟨bk_take _ _ _ (bk_finish _ _ _ _ h), by omega⟩⟩
 split
 ·rename_i hk
  have := tk _ (by decide) hk;have h1 := rem_finish c (takeF c s ⟨#[99, 111, 110, 116, 105, 110, 117, 101]⟩).2 (plainD 12 pl pc) [];exact ⟨by omega, fun h => ⟨bk_take _ _ _ (bk_finish _ _ _ _ h), by omega⟩⟩
 split
 ·rename_i hk
  have := tk _ (by decide) hk;have h1 := rem_answer hx (takeF c s ⟨#[114, 101, 116, 117, 114, 110]⟩).2 pl pc;exact ⟨by omega, fun h => ⟨bk_take _ _ _ (bk_answer hx _ _ _ h), by omega⟩⟩
 split
 ·rename_i hk
  have := tk _ (by decide) hk;have h1 := rem_encl hx (takeF c s ⟨#[111, 117, 116]⟩).2;have h2 := rem_finish c (enclosedF ex c (takeF c s ⟨#[111, 117, 116]⟩).2).2 (plainD 14 pl pc) [(enclosedF ex c (takeF c s ⟨#[111, 117, 116]⟩).2).1];exact ⟨by omega, fun h => ⟨bk_take _ _ _ (bk_encl hx _ (bk_finish _ _ _ _ h)), by omega⟩⟩
 ·exact ⟨rem_assign hx s pl pc, fun h => ⟨hx.bk _ (bk_assign hx s pl pc h), pg_assign hx s pl pc h⟩⟩
theorem sxIs_st {ex sx : PSt → Tr × PSt} {c : PC} {r : Nat} (hx : ExIs ex c) (hs : SxIs sx c r) (hb : ∀ s, (stF ex sx c s).2.e = 0 → s.e = 0) : SxIs (stF ex sx c) c (r + 1) := by
 have key : ∀ s, remF c s < r + 1 → remF c (stF ex sx c s).2 ≤ remF c s ∧ ((stF ex sx c s).2.e = 0 → remF c (stF ex sx c s).2 < remF c s) := fun s hr => by
  have h1 := rem_enter c s;have h2 := rem_stmt hx hs (enterF c s) (by omega) (wordF c (enterF c s)).pl (wordF c (enterF c s)).pc;exact ⟨Nat.le_trans h2.1 h1, fun h => Nat.lt_of_lt_of_le (h2.2 h).2 h1⟩
 exact ⟨fun s hr => (key s hr).1, hb, fun s hr h => (key s hr).2 h⟩

def XOk (G : World → Prop) (ex : PSt → Tr × PSt) (c : PC) : Prop := ∀ (s : PSt) (w : World), PAt w c s → G w → Calls prog 136 #[pp c] w (retE c (ex s) w)
theorem finish_any (c : PC) (s : PSt) (d : ND) (ps : List Tr) (bs : List Nat) (a : Option Addr) (cap lo : Nat) (w : World) (hp : PAt w c s) (hr : RowAt w lo w.heap.size a cap ps bs) (hlo : c.PB < lo) (hg : c.g < lo) (hle : lo ≤ w.heap.size) (hn : ps.length ≤ 1000000) :
  Calls prog 137 #[.pointer (some ⟨c.PB, 0, none⟩), .agg (nodeCells d (.slice a ps.length cap) 0)] w (retRow c (finishF c s d ps).2 (finishF c s d ps).1 lo w) := by
 unfold finishF nodeCells;have PL := hp.lt;have gz : w.heap.size ≠ c.PB := by omega
 have HP : Hid (PAt w c s) := hp;have HR : Hid (RowAt w lo w.heap.size a cap ps bs) := hr;have HL : Hid (c.PB < lo ∧ c.g < lo ∧ lo ≤ w.heap.size) := ⟨hlo, hg, hle⟩;have HA : Hid (Below w.heap.size w (w.alloc (.cells #[.int .i64 d.k, .int .i64 d.al, .int .i64 d.ac, .string d.name, .string d.op, .int .i64 d.n, .string d.ty.base, .int .i64 d.ty.stars, .bool d.ty.isList, .int .i64 d.ty.count, .bool d.pub, .slice a ps.length cap, .int .i64 d.sr, .int .i64 0] 87))) := bel_alloc (Below.refl _ _) _;have HB : Hid ((w.alloc (.cells #[.int .i64 d.k, .int .i64 d.al, .int .i64 d.ac, .string d.name, .string d.op, .int .i64 d.n, .string d.ty.base, .int .i64 d.ty.stars, .bool d.ty.isList, .int .i64 d.ty.count, .bool d.pub, .slice a ps.length cap, .int .i64 d.sr, .int .i64 0] 87)).heap[w.heap.size]? = some (.cells #[.int .i64 d.k, .int .i64 d.al, .int .i64 d.ac, .string d.name, .string d.op, .int .i64 d.n, .string d.ty.base, .int .i64 d.ty.stars, .bool d.ty.isList, .int .i64 d.ty.count, .bool d.pub, .slice a ps.length cap, .int .i64 d.sr, .int .i64 0] 87 (0, 0))) := World.alloc_heap_new w _;have HN : Hid (∀ W, PAt W c s → Calls prog 68 #[pp c, .string ⟨#[59]⟩] W (pret (.tuple #[]) c (needF c s ⟨#[59]⟩) W)) := fun W h => need_any c s _ W h (by decide);obtain ⟨s1, hs1⟩ : ∃ y, needF c s ⟨#[59]⟩ = y := ⟨_, rfl⟩;rw [hs1] at HN ⊢;have HGR : Hid (∀ W, PAt W c s1 → Chg c.PB w W → RowAt W lo W.heap.size a cap ps bs → Calls prog 125 #[pp c, .agg #[.int .i64 d.k, .int .i64 d.al, .int .i64 d.ac, .string d.name, .string d.op, .int .i64 d.n, .string d.ty.base, .int .i64 d.ty.stars, .bool d.ty.isList, .int .i64 d.ty.count, .bool d.pub, .slice a ps.length cap, .int .i64 d.sr, .int .i64 0]] W (retTr c (growS s1 d ps) (growT s1 d ps) lo W)) := fun W h h2 h3 => grow_any c s1 d ps bs a cap lo W h h3 hlo hg (Nat.le_trans hle h2.size) hn;clear hp hr hlo hg hle hs1
 go_enter func137, ntmps137
 go_wp2_with fail
 refine (HN.out _ (HP.out.below HA.out)).mono ?_;rintro e w1 ⟨rfl, hp1, hg1⟩;have HP1 : Hid (PAt w1 c s1) := hp1;have HG1 : Hid (Chg c.PB w w1) := (Chg.of HA.out).trans hg1;have b1 : w1.heap[w.heap.size]? = some (.cells #[.int .i64 d.k, .int .i64 d.al, .int .i64 d.ac, .string d.name, .string d.op, .int .i64 d.n, .string d.ty.base, .int .i64 d.ty.stars, .bool d.ty.isList, .int .i64 d.ty.count, .bool d.pub, .slice a ps.length cap, .int .i64 d.sr, .int .i64 0] 87 (0, 0)) := zero_blk HB.out hg1 gz;have HR1 : Hid (RowAt w1 lo w1.heap.size a cap ps bs) := (HR.out.chg HG1.out HL.out.1 (Nat.le_refl _)).mono (Nat.le_refl _) HG1.out.size;have n0 : w1.cell? ⟨w.heap.size, 0, none⟩ = some (.int .i64 d.k) := heap_cell b1 (by simp [nodeCells]);have n1 : w1.cell? ⟨w.heap.size, 1, none⟩ = some (.int .i64 d.al) := heap_cell b1 (by simp [nodeCells]);have n2 : w1.cell? ⟨w.heap.size, 2, none⟩ = some (.int .i64 d.ac) := heap_cell b1 (by simp [nodeCells]);have n3 : w1.cell? ⟨w.heap.size, 3, none⟩ = some (.string d.name) := heap_cell b1 (by simp [nodeCells]);have n4 : w1.cell? ⟨w.heap.size, 4, none⟩ = some (.string d.op) := heap_cell b1 (by simp [nodeCells]);have n5 : w1.cell? ⟨w.heap.size, 5, none⟩ = some (.int .i64 d.n) := heap_cell b1 (by simp [nodeCells]);have n6 : w1.cell? ⟨w.heap.size, 6, none⟩ = some (.string d.ty.base) := heap_cell b1 (by simp [nodeCells]);have n7 : w1.cell? ⟨w.heap.size, 7, none⟩ = some (.int .i64 d.ty.stars) := heap_cell b1 (by simp [nodeCells]);have n8 : w1.cell? ⟨w.heap.size, 8, none⟩ = some (.bool d.ty.isList) := heap_cell b1 (by simp [nodeCells]);have n9 : w1.cell? ⟨w.heap.size, 9, none⟩ = some (.int .i64 d.ty.count) := heap_cell b1 (by simp [nodeCells]);have n10 : w1.cell? ⟨w.heap.size, 10, none⟩ = some (.bool d.pub) := heap_cell b1 (by simp [nodeCells]);have n11 : w1.cell? ⟨w.heap.size, 11, none⟩ = some (.slice a ps.length cap) := heap_cell b1 (by simp [nodeCells]);have n12 : w1.cell? ⟨w.heap.size, 12, none⟩ = some (.int .i64 d.sr) := heap_cell b1 (by simp [nodeCells]);have n13 : w1.cell? ⟨w.heap.size, 13, none⟩ = some (.int .i64 0) := heap_cell b1 (by simp [nodeCells]);clear hp1 hg1 b1;dsimp only;go_wp2_with fail
 refine (HGR.out _ HP1.out HG1.out HR1.out).mono ?_;rintro e w6 ⟨b, rfl, ht6, hb6, hp6, hg6⟩;have HF6 : Hid (Top w6 lo (growT s1 d ps) b ∧ PAt w6 c (growS s1 d ps) ∧ Chg c.PB w w6) := ⟨ht6, hp6, HG1.out.trans hg6⟩;clear ht6 hp6 hg6 hb6;clear n0 n1 n2 n3 n4 n5 n6 n7 n8 n9 n10 n11 n12 n13;dsimp only;go_wp2;go_ret;exact ⟨b, rfl, HF6.out.1, HF6.out.2.1, HF6.out.2.2⟩
theorem enclosed_any (G : World → Prop) (ex : PSt → Tr × PSt) (c : PC) (s : PSt) (w : World) (hp : PAt w c s) (hG : G w) (HGk : Hid (∀ W W', G W → Chg c.PB W W' → G W')) (HX : Hid (XOk G ex c)) (hgl : c.g < w.heap.size) : Calls prog 141 #[.pointer (some ⟨c.PB, 0, none⟩)] w (retE c (enclosedF ex c s) w) := by
 unfold enclosedF;have PL := hp.lt;have HP : Hid (PAt w c s) := hp;have HN : Hid (∀ W, PAt W c s → Calls prog 68 #[pp c, .string ⟨#[40]⟩] W (pret (.tuple #[]) c (needF c s ⟨#[40]⟩) W)) := fun W h => need_any c s _ W h (by decide);obtain ⟨s1, hs1⟩ : ∃ y, needF c s ⟨#[40]⟩ = y := ⟨_, rfl⟩;rw [hs1] at HN ⊢;have HE0 : Hid (∀ W, PAt W c s1 → Chg c.PB w W → Calls prog 136 #[pp c] W (retE c (ex s1) W)) := fun W h h2 => HX.out s1 W h (HGk.out _ _ hG h2);obtain ⟨t, ht⟩ : ∃ y, (ex s1).1 = y := ⟨_, rfl⟩;obtain ⟨s2, hs2⟩ : ∃ y, (ex s1).2 = y := ⟨_, rfl⟩;have HE : Hid (∀ W, PAt W c s1 → Chg c.PB w W → Calls prog 136 #[pp c] W (retE c (t, s2) W)) := by rw [← ht, ← hs2]; exact HE0
 rw [ht, hs2];clear HE0;have HN2 : Hid (∀ W, PAt W c s2 → Calls prog 68 #[pp c, .string ⟨#[41]⟩] W (pret (.tuple #[]) c (needF c s2 ⟨#[41]⟩) W)) := fun W h => need_any c s2 _ W h (by decide);obtain ⟨s3, hs3⟩ : ∃ y, needF c s2 ⟨#[41]⟩ = y := ⟨_, rfl⟩;rw [hs3] at HN2 ⊢;clear hp hG hs1 ht hs2 hs3
 go_enter func141, ntmps141
 go_wp2_with fail
 refine (HN.out _ HP.out).mono ?_;rintro e w1 ⟨rfl, hp1, hg1⟩;have HP1 : Hid (PAt w1 c s1) := hp1;have HG1 : Hid (Chg c.PB w w1) := hg1;clear hp1 hg1;dsimp only;go_wp2_with fail
 refine (HE.out _ HP1.out HG1.out).mono ?_;rintro e w2 ⟨b, rfl, ht2, hp2, hg2⟩;have HX2 : Hid (PAt w2 c s2 ∧ Chg c.PB w w2 ∧ Top w2 w.heap.size t b) := ⟨hp2, HG1.out.trans hg2, ht2.mono HG1.out.size⟩;clear ht2 hp2 hg2;dsimp only;go_wp2_with fail
 refine (HN2.out _ HX2.out.1).mono ?_;rintro e w3 ⟨rfl, hp3, hg3⟩;have HX3 : Hid (PAt w3 c s3 ∧ Chg c.PB w w3 ∧ Top w3 w.heap.size t b) := ⟨hp3, HX2.out.2.1.trans hg3, HX2.out.2.2.chg hg3 PL⟩;clear hp3 hg3;dsimp only;go_wp2;go_ret;exact ⟨b, rfl, HX3.out.2.2, HX3.out.1, HX3.out.2.1⟩
theorem answer_any (G : World → Prop) (ex : PSt → Tr × PSt) (c : PC) (s : PSt) (w : World) (hp : PAt w c s) (hG : G w) (HGk : Hid (∀ W W', G W → Chg c.PB W W' → G W')) (HX : Hid (XOk G ex c)) (hgl : c.g < w.heap.size) (pl pc : Int) : Calls prog 142 #[.pointer (some ⟨c.PB, 0, none⟩), .agg #[.int .i64 pl, .int .i64 pc]] w (retE c (answerF ex c s pl pc) w) := by
 have PL := hp.lt;have HP : Hid (PAt w c s) := hp;have gz : w.heap.size ≠ c.PB := by omega
 have gz2 : w.heap.size + 1 ≠ c.PB := by omega
 have HA : Hid (Below w.heap.size w ((w.alloc (.cells #[.int .i64 pl, .int .i64 pc] 25)).alloc (.cells #[.int .i64 13, .int .i64 pl, .int .i64 pc, .string ⟨#[]⟩, .string ⟨#[]⟩, .int .i64 0, .string ⟨#[]⟩, .int .i64 0, .bool false, .int .i64 0, .bool false, .slice none 0 0, .int .i64 0, .int .i64 0] 87))) := bel_alloc (bel_alloc (Below.refl _ _) _) _
 have HB : Hid (((w.alloc (.cells #[.int .i64 pl, .int .i64 pc] 25)).alloc (.cells #[.int .i64 13, .int .i64 pl, .int .i64 pc, .string ⟨#[]⟩, .string ⟨#[]⟩, .int .i64 0, .string ⟨#[]⟩, .int .i64 0, .bool false, .int .i64 0, .bool false, .slice none 0 0, .int .i64 0, .int .i64 0] 87)).heap[w.heap.size + 1]? = some (.cells #[.int .i64 13, .int .i64 pl, .int .i64 pc, .string ⟨#[]⟩, .string ⟨#[]⟩, .int .i64 0, .string ⟨#[]⟩, .int .i64 0, .bool false, .int .i64 0, .bool false, .slice none 0 0, .int .i64 0, .int .i64 0] 87 (0, 0))) := by
  have := World.alloc_heap_new (w.alloc (.cells #[.int .i64 pl, .int .i64 pc] 25)) (.cells #[.int .i64 13, .int .i64 pl, .int .i64 pc, .string ⟨#[]⟩, .string ⟨#[]⟩, .int .i64 0, .string ⟨#[]⟩, .int .i64 0, .bool false, .int .i64 0, .bool false, .slice none 0 0, .int .i64 0, .int .i64 0] 87);rw [World.size_alloc] at this;exact this
 have HIS : Hid (∀ W, PAt W c s → Calls prog 94 #[pp c, .string ⟨#[59]⟩] W (retP (.bool (isF c s ⟨#[59]⟩)) W)) := fun W h => is_any c s ⟨#[59]⟩ W h;unfold answerF
 cases hi : isF c s ⟨#[59]⟩ with
 | true =>
  rw [hi] at HIS;rw [if_pos rfl];have HF : Hid (∀ W a cap bs, PAt W c s → Chg c.PB w W → RowAt W w.heap.size W.heap.size a cap [] bs → Calls prog 137 #[pp c, .agg #[.int .i64 13, .int .i64 pl, .int .i64 pc, .string ⟨#[]⟩, .string ⟨#[]⟩, .int .i64 0, .string ⟨#[]⟩, .int .i64 0, .bool false, .int .i64 0, .bool false, .slice a 0 cap, .int .i64 0, .int .i64 0]] W (retRow c (finishF c s (plainD 13 pl pc) []).2 (finishF c s (plainD 13 pl pc) []).1 w.heap.size W)) := fun W a cap bs h h2 h3 => finish_any c s (plainD 13 pl pc) [] bs a cap w.heap.size W h h3 PL hgl h2.size (by simp);clear hp hG hi
  go_enter func142, ntmps142
  go_wp2_with fail
  refine (HIS.out _ (HP.out.below HA.out)).mono ?_;rintro e w1 ⟨rfl, hb1⟩;have HX1 : Hid (PAt w1 c s ∧ Chg c.PB w w1) := ⟨(HP.out.below HA.out).below hb1, (Chg.of HA.out).trans (.of hb1)⟩;have b1 : w1.heap[w.heap.size + 1]? = some (.cells #[.int .i64 13, .int .i64 pl, .int .i64 pc, .string ⟨#[]⟩, .string ⟨#[]⟩, .int .i64 0, .string ⟨#[]⟩, .int .i64 0, .bool false, .int .i64 0, .bool false, .slice none 0 0, .int .i64 0, .int .i64 0] 87 (0, 0)) := (hb1.block _ (by simp)).trans HB.out;have n0 : w1.cell? ⟨w.heap.size + 1, 0, none⟩ = some (.int .i64 13) := heap_cell b1 (by simp [nodeCells]);have n1 : w1.cell? ⟨w.heap.size + 1, 1, none⟩ = some (.int .i64 pl) := heap_cell b1 (by simp [nodeCells]);have n2 : w1.cell? ⟨w.heap.size + 1, 2, none⟩ = some (.int .i64 pc) := heap_cell b1 (by simp [nodeCells]);have n3 : w1.cell? ⟨w.heap.size + 1, 3, none⟩ = some (.string ⟨#[]⟩) := heap_cell b1 (by simp [nodeCells]);have n4 : w1.cell? ⟨w.heap.size + 1, 4, none⟩ = some (.string ⟨#[]⟩) := heap_cell b1 (by simp [nodeCells]);have n5 : w1.cell? ⟨w.heap.size + 1, 5, none⟩ = some (.int .i64 0) := heap_cell b1 (by simp [nodeCells]);have n6 : w1.cell? ⟨w.heap.size + 1, 6, none⟩ = some (.string ⟨#[]⟩) := heap_cell b1 (by simp [nodeCells]);have n7 : w1.cell? ⟨w.heap.size + 1, 7, none⟩ = some (.int .i64 0) := heap_cell b1 (by simp [nodeCells]);have n8 : w1.cell? ⟨w.heap.size + 1, 8, none⟩ = some (.bool false) := heap_cell b1 (by simp [nodeCells]);have n9 : w1.cell? ⟨w.heap.size + 1, 9, none⟩ = some (.int .i64 0) := heap_cell b1 (by simp [nodeCells]);have n10 : w1.cell? ⟨w.heap.size + 1, 10, none⟩ = some (.bool false) := heap_cell b1 (by simp [nodeCells]);have n11 : w1.cell? ⟨w.heap.size + 1, 11, none⟩ = some (.slice none 0 0) := heap_cell b1 (by simp [nodeCells]);have n12 : w1.cell? ⟨w.heap.size + 1, 12, none⟩ = some (.int .i64 0) := heap_cell b1 (by simp [nodeCells]);have n13 : w1.cell? ⟨w.heap.size + 1, 13, none⟩ = some (.int .i64 0) := heap_cell b1 (by simp [nodeCells]);clear hb1 b1;dsimp only;go_wp2_with fail
  refine (HF.out _ none 0 [] HX1.out.1 HX1.out.2 (RowAt.nil _ _ _ _ _)).mono ?_;rintro e w6 ⟨b, rfl, ht6, hp6, hg6⟩;have HF6 : Hid (Top w6 w.heap.size (finishF c s (plainD 13 pl pc) []).1 b ∧ PAt w6 c (finishF c s (plainD 13 pl pc) []).2 ∧ Chg c.PB w w6) := ⟨ht6, hp6, HX1.out.2.trans hg6⟩;clear ht6 hp6 hg6;clear n0 n1 n2 n3 n4 n5 n6 n7 n8 n9 n10 n11 n12 n13;dsimp only;go_wp2;go_ret;exact ⟨b, rfl, HF6.out.1, HF6.out.2.1, HF6.out.2.2⟩
 | false =>
  rw [hi] at HIS;rw [if_neg (by decide)];have HE0 : Hid (∀ W, PAt W c s → Chg c.PB w W → Calls prog 136 #[pp c] W (retE c (ex s) W)) := fun W h h2 => HX.out s W h (HGk.out _ _ hG h2);obtain ⟨t, ht⟩ : ∃ y, (ex s).1 = y := ⟨_, rfl⟩;obtain ⟨s2, hs2⟩ : ∃ y, (ex s).2 = y := ⟨_, rfl⟩;have HE : Hid (∀ W, PAt W c s → Chg c.PB w W → Calls prog 136 #[pp c] W (retE c (t, s2) W)) := by rw [← ht, ← hs2]; exact HE0
  rw [ht, hs2];clear HE0;have HF : Hid (∀ W a cap bs, PAt W c s2 → Chg c.PB w W → RowAt W w.heap.size W.heap.size a cap [t] bs → Calls prog 137 #[pp c, .agg #[.int .i64 13, .int .i64 pl, .int .i64 pc, .string ⟨#[]⟩, .string ⟨#[]⟩, .int .i64 0, .string ⟨#[]⟩, .int .i64 0, .bool false, .int .i64 0, .bool false, .slice a 1 cap, .int .i64 0, .int .i64 0]] W (retRow c (finishF c s2 (plainD 13 pl pc) [t]).2 (finishF c s2 (plainD 13 pl pc) [t]).1 w.heap.size W)) := fun W a cap bs h h2 h3 => finish_any c s2 (plainD 13 pl pc) [t] bs a cap w.heap.size W h h3 PL hgl h2.size (by simp);clear hp hG hi ht hs2
  go_enter func142, ntmps142
  go_wp2_with fail
  refine (HIS.out _ (HP.out.below HA.out)).mono ?_;rintro e w1 ⟨rfl, hb1⟩;have HX1 : Hid (PAt w1 c s ∧ Chg c.PB w w1 ∧ w1.heap[w.heap.size + 1]? = some (.cells #[.int .i64 13, .int .i64 pl, .int .i64 pc, .string ⟨#[]⟩, .string ⟨#[]⟩, .int .i64 0, .string ⟨#[]⟩, .int .i64 0, .bool false, .int .i64 0, .bool false, .slice none 0 0, .int .i64 0, .int .i64 0] 87 (0, 0))) := ⟨(HP.out.below HA.out).below hb1, (Chg.of HA.out).trans (.of hb1), (hb1.block _ (by simp)).trans HB.out⟩;clear hb1;dsimp only;go_wp2_with fail
  refine (HE.out _ HX1.out.1 HX1.out.2.1).mono ?_;rintro e w2 ⟨x, rfl, ht2, hp2, hg2⟩;have l1 : w.heap.size + 1 < w1.heap.size := (zge HX1.out.2.2).1;have b2 : w2.heap[w.heap.size + 1]? = some (.cells #[.int .i64 13, .int .i64 pl, .int .i64 pc, .string ⟨#[]⟩, .string ⟨#[]⟩, .int .i64 0, .string ⟨#[]⟩, .int .i64 0, .bool false, .int .i64 0, .bool false, .slice none 0 0, .int .i64 0, .int .i64 0] 87 (0, 0)) := (hg2.block _ l1 gz2).trans HX1.out.2.2;have l2 : w.heap.size + 1 < w2.heap.size := (zge b2).1;have HX2 : Hid (PAt w2 c s2 ∧ Chg c.PB w w2 ∧ w2.heap[w.heap.size + 1]? = some (.cells #[.int .i64 13, .int .i64 pl, .int .i64 pc, .string ⟨#[]⟩, .string ⟨#[]⟩, .int .i64 0, .string ⟨#[]⟩, .int .i64 0, .bool false, .int .i64 0, .bool false, .slice none 0 0, .int .i64 0, .int .i64 0] 87 (0, 0)) ∧ TreeIn w2 (fun k => w.heap.size ≤ k ∧ k < w2.heap.size ∧ k ≠ w.heap.size + 1) t x) := ⟨hp2, HX1.out.2.1.trans hg2, b2, ht2.tree.within (fun k k1 k2 => ⟨by omega, k2, by omega⟩)⟩;have f11 : w2.frozen? ⟨w.heap.size + 1, 11, none⟩ = false := heap_frozen b2;have n0 : w2.cell? ⟨w.heap.size + 1, 0, none⟩ = some (.int .i64 13) := heap_cell b2 (by simp [nodeCells]);have n1 : w2.cell? ⟨w.heap.size + 1, 1, none⟩ = some (.int .i64 pl) := heap_cell b2 (by simp [nodeCells]);have n2 : w2.cell? ⟨w.heap.size + 1, 2, none⟩ = some (.int .i64 pc) := heap_cell b2 (by simp [nodeCells]);have n3 : w2.cell? ⟨w.heap.size + 1, 3, none⟩ = some (.string ⟨#[]⟩) := heap_cell b2 (by simp [nodeCells]);have n4 : w2.cell? ⟨w.heap.size + 1, 4, none⟩ = some (.string ⟨#[]⟩) := heap_cell b2 (by simp [nodeCells]);have n5 : w2.cell? ⟨w.heap.size + 1, 5, none⟩ = some (.int .i64 0) := heap_cell b2 (by simp [nodeCells]);have n6 : w2.cell? ⟨w.heap.size + 1, 6, none⟩ = some (.string ⟨#[]⟩) := heap_cell b2 (by simp [nodeCells]);have n7 : w2.cell? ⟨w.heap.size + 1, 7, none⟩ = some (.int .i64 0) := heap_cell b2 (by simp [nodeCells]);have n8 : w2.cell? ⟨w.heap.size + 1, 8, none⟩ = some (.bool false) := heap_cell b2 (by simp [nodeCells]);have n9 : w2.cell? ⟨w.heap.size + 1, 9, none⟩ = some (.int .i64 0) := heap_cell b2 (by simp [nodeCells]);have n10 : w2.cell? ⟨w.heap.size + 1, 10, none⟩ = some (.bool false) := heap_cell b2 (by simp [nodeCells]);have n11 : w2.cell? ⟨w.heap.size + 1, 11, none⟩ = some (.slice none 0 0) := heap_cell b2 (by simp [nodeCells]);have n12 : w2.cell? ⟨w.heap.size + 1, 12, none⟩ = some (.int .i64 0) := heap_cell b2 (by simp [nodeCells]);have n13 : w2.cell? ⟨w.heap.size + 1, 13, none⟩ = some (.int .i64 0) := heap_cell b2 (by simp [nodeCells]);clear ht2 hp2 hg2 b2;dsimp only;go_wp2_with fail
  obtain ⟨W4, hW4⟩ : ∃ W, (w2.setCell ⟨w.heap.size + 1, 11, none⟩ (.slice (some ⟨w2.heap.size, 0, none⟩) 1 1)).alloc (.cells #[.pointer (some ⟨x, 0, none⟩)] 83) = W := ⟨_, rfl⟩
  have hF4 : PAt W4 c s2 ∧ Chg c.PB w W4 ∧ RowAt W4 w.heap.size W4.heap.size (some ⟨w2.heap.size, 0, none⟩) 1 [t] [x] := by
   have hk : ∀ k, k < w2.heap.size → k ≠ w.heap.size + 1 → W4.heap[k]? = w2.heap[k]? := fun k k1 k2 => by
    rw [← hW4, Below.heap_alloc _ _ k (by rw [size_set]; exact k1)];exact heap_set_other k2
   have hs4 : W4.heap.size = w2.heap.size + 1 := by rw [← hW4]; simp [size_set]
   have hg4 : W4.heap[w2.heap.size]? = some (.cells #[ptrV x] 83 (0, 0)) := by
    rw [← hW4];have := World.alloc_heap_new (w2.setCell ⟨w.heap.size + 1, 11, none⟩ (.slice (some ⟨w2.heap.size, 0, none⟩) 1 1)) (.cells #[ptrV x] 83);rw [size_set] at this;exact this
   have hq := PartsAt.one (lo := w.heap.size) (B := w.heap.size + 1) (cap := 1) hg4 (by omega) (by omega) (HX2.out.2.2.2.keep (fun k hk' => hk k hk'.2.1 hk'.2.2) (fun k hk' => ⟨hk'.1, by have := hk'.2.1; omega, hk'.2.2, by have := hk'.2.1; omega⟩));obtain ⟨a9, cap9, e9, hr9⟩ := hq.row
   injection e9 with e91 e92 e93
   subst e91 e93;refine ⟨HX2.out.1.blocks (hk _ HX2.out.1.lt (by omega)) (hk _ (by omega) (by omega)), ?_, hr9⟩;rw [← hW4];exact (HX2.out.2.1.setNew (by omega) _ _).alloc _
  rw [hW4];clear hW4;refine (HF.out _ _ _ _ hF4.1 hF4.2.1 hF4.2.2).mono ?_;rintro e w6 ⟨b, rfl, ht6, hp6, hg6⟩;have HF6 : Hid (Top w6 w.heap.size (finishF c s2 (plainD 13 pl pc) [t]).1 b ∧ PAt w6 c (finishF c s2 (plainD 13 pl pc) [t]).2 ∧ Chg c.PB w w6) := ⟨ht6, hp6, hF4.2.1.trans hg6⟩;clear ht6 hp6 hg6 hF4 f11;clear n0 n1 n2 n3 n4 n5 n6 n7 n8 n9 n10 n11 n12 n13;dsimp only;go_wp2;go_ret;exact ⟨b, rfl, HF6.out.1, HF6.out.2.1, HF6.out.2.2⟩

theorem assignment_any (G : World → Prop) (ex : PSt → Tr × PSt) (c : PC) (s : PSt) (w : World) (hp : PAt w c s) (hG : G w) (HGk : Hid (∀ W W', G W → Chg c.PB W W' → G W')) (HX : Hid (XOk G ex c)) (hgl : c.g < w.heap.size) (pl pc : Int) : Calls prog 143 #[.pointer (some ⟨c.PB, 0, none⟩), .agg #[.int .i64 pl, .int .i64 pc]] w (retE c (assignF ex c s pl pc) w) := by
 have PL := hp.lt;have HP : Hid (PAt w c s) := hp;have gz : w.heap.size ≠ c.PB := by omega
 have HA : Hid (Below w.heap.size w (w.alloc (.cells #[.int .i64 pl, .int .i64 pc] 25))) := bel_alloc (Below.refl _ _) _;have HB : Hid ((w.alloc (.cells #[.int .i64 pl, .int .i64 pc] 25)).heap[w.heap.size]? = some (.cells #[.int .i64 pl, .int .i64 pc] 25 (0, 0))) := World.alloc_heap_new w _;have hsA : (w.alloc (.cells #[.int .i64 pl, .int .i64 pc] 25)).heap.size = w.heap.size + 1 := by simp
 unfold assignF;have HE0 : Hid (∀ W, PAt W c s → Chg c.PB w W → Calls prog 136 #[pp c] W (retE c (ex s) W)) := fun W h h2 => HX.out s W h (HGk.out _ _ hG h2);obtain ⟨t, ht⟩ : ∃ y, (ex s).1 = y := ⟨_, rfl⟩;obtain ⟨s2, hs2⟩ : ∃ y, (ex s).2 = y := ⟨_, rfl⟩;have HE : Hid (∀ W, PAt W c s → Chg c.PB w W → Calls prog 136 #[pp c] W (retE c (t, s2) W)) := by rw [← ht, ← hs2]; exact HE0
 rw [ht, hs2];clear HE0;have HTK : Hid (∀ W, PAt W c s2 → Calls prog 63 #[pp c, .string ⟨#[61]⟩] W (pret (.bool (takeF c s2 ⟨#[61]⟩).1) c (takeF c s2 ⟨#[61]⟩).2 W)) := fun W h => take_any c s2 _ W h (by decide)
 cases hk : (takeF c s2 ⟨#[61]⟩).1 with
 | false =>
  rw [hk, takeF_false hk] at HTK;rw [if_neg (by decide)];have HF : Hid (∀ W a cap bs, PAt W c s2 → Chg c.PB w W → w.heap.size + 1 ≤ W.heap.size → RowAt W (w.heap.size + 1) W.heap.size a cap [t] bs → Calls prog 137 #[pp c, .agg #[.int .i64 16, .int .i64 pl, .int .i64 pc, .string ⟨#[]⟩, .string ⟨#[]⟩, .int .i64 0, .string ⟨#[]⟩, .int .i64 0, .bool false, .int .i64 0, .bool false, .slice a 1 cap, .int .i64 0, .int .i64 0]] W (retRow c (finishF c s2 (plainD 16 pl pc) [t]).2 (finishF c s2 (plainD 16 pl pc) [t]).1 (w.heap.size + 1) W)) := fun W a cap bs h h2 h4 h3 => finish_any c s2 (plainD 16 pl pc) [t] bs a cap (w.heap.size + 1) W h h3 (by omega) (by omega) h4 (by simp);clear hp hG hk ht hs2
  go_enter func143, ntmps143
  go_upto_region 1 with fail
  refine mk_assign w.heap.size pl pc t c s s2 _ _ _ _ _ _ _ _ _ _ _ _ _ _ _ _ _ _ _ _ _ _ _ _ _ _ (HP.out.below HA.out) (heap_cell HB.out (by simp)) (heap_cell HB.out (by simp)) gz (by omega) (fun W h h2 => HE.out W h ((Chg.of HA.out).trans h2)) ?_;intro y6 y7 y8 y9 y10 W B g x hB hpW hcW hbx hq;rw [hsA] at hB hq;have HW : Hid (PAt W c s2 ∧ Chg c.PB w W ∧ W.heap[B]? = some (.cells #[.int .i64 16, .int .i64 pl, .int .i64 pc, .string ⟨#[]⟩, .string ⟨#[]⟩, .int .i64 0, .string ⟨#[]⟩, .int .i64 0, .bool false, .int .i64 0, .bool false, .slice (some ⟨g, 0, none⟩) 1 1, .int .i64 0, .int .i64 0] 87 (0, 0)) ∧ PartsAt W (w.heap.size + 1) B (.slice (some ⟨g, 0, none⟩) 1 1) [t] [x]) := ⟨hpW, (Chg.of HA.out).trans hcW, hbx, hq⟩;have lB : B < W.heap.size := (zge hbx).1;have gB : B ≠ c.PB := by omega
  clear hpW hcW hbx hq;go_wp2_with fail
  refine (HTK.out _ HW.out.1).mono ?_;rintro e w3 ⟨rfl, hp3, hg3⟩;have b3 : w3.heap[B]? = some (.cells #[.int .i64 16, .int .i64 pl, .int .i64 pc, .string ⟨#[]⟩, .string ⟨#[]⟩, .int .i64 0, .string ⟨#[]⟩, .int .i64 0, .bool false, .int .i64 0, .bool false, .slice (some ⟨g, 0, none⟩) 1 1, .int .i64 0, .int .i64 0] 87 (0, 0)) := (hg3.block _ lB gB).trans HW.out.2.2.1;have HX3 : Hid (PAt w3 c s2 ∧ Chg c.PB w w3 ∧ PartsAt w3 (w.heap.size + 1) B (.slice (some ⟨g, 0, none⟩) 1 1) [t] [x]) := ⟨hp3, HW.out.2.1.trans hg3, HW.out.2.2.2.chg hg3 (by omega)⟩;have l3 : B < w3.heap.size := (zge b3).1;have n0 : w3.cell? ⟨B, 0, none⟩ = some (.int .i64 16) := heap_cell b3 (by simp [nodeCells]);have n1 : w3.cell? ⟨B, 1, none⟩ = some (.int .i64 pl) := heap_cell b3 (by simp [nodeCells]);have n2 : w3.cell? ⟨B, 2, none⟩ = some (.int .i64 pc) := heap_cell b3 (by simp [nodeCells]);have n3 : w3.cell? ⟨B, 3, none⟩ = some (.string ⟨#[]⟩) := heap_cell b3 (by simp [nodeCells]);have n4 : w3.cell? ⟨B, 4, none⟩ = some (.string ⟨#[]⟩) := heap_cell b3 (by simp [nodeCells]);have n5 : w3.cell? ⟨B, 5, none⟩ = some (.int .i64 0) := heap_cell b3 (by simp [nodeCells]);have n6 : w3.cell? ⟨B, 6, none⟩ = some (.string ⟨#[]⟩) := heap_cell b3 (by simp [nodeCells]);have n7 : w3.cell? ⟨B, 7, none⟩ = some (.int .i64 0) := heap_cell b3 (by simp [nodeCells]);have n8 : w3.cell? ⟨B, 8, none⟩ = some (.bool false) := heap_cell b3 (by simp [nodeCells]);have n9 : w3.cell? ⟨B, 9, none⟩ = some (.int .i64 0) := heap_cell b3 (by simp [nodeCells]);have n10 : w3.cell? ⟨B, 10, none⟩ = some (.bool false) := heap_cell b3 (by simp [nodeCells]);have n11 : w3.cell? ⟨B, 11, none⟩ = some (.slice (some ⟨g, 0, none⟩) 1 1) := heap_cell b3 (by simp [nodeCells]);have n12 : w3.cell? ⟨B, 12, none⟩ = some (.int .i64 0) := heap_cell b3 (by simp [nodeCells]);have n13 : w3.cell? ⟨B, 13, none⟩ = some (.int .i64 0) := heap_cell b3 (by simp [nodeCells]);clear hp3 hg3 b3;dsimp only;go_wp2_with fail
  obtain ⟨a9, cap9, e9, hr9⟩ := HX3.out.2.2.row
  injection e9 with e91 e92 e93
  subst e91 e93;have HCF : Hid (Chg c.PB w w3) := HX3.out.2.1;refine (HF.out _ _ _ _ HX3.out.1 HX3.out.2.1 (by omega) hr9).mono ?_;clear hr9 e92;rintro e w9 ⟨b9, rfl, ht9, hp9, hg9⟩;have HF9 : Hid (Top w9 w.heap.size (finishF c s2 (plainD 16 pl pc) [t]).1 b9 ∧ PAt w9 c (finishF c s2 (plainD 16 pl pc) [t]).2 ∧ Chg c.PB w w9) := ⟨ht9.mono (by omega), hp9, HCF.out.trans hg9⟩;clear ht9 hp9 hg9;clear n0 n1 n2 n3 n4 n5 n6 n7 n8 n9 n10 n11 n12 n13;dsimp only;go_wp2;go_ret;exact ⟨b9, rfl, HF9.out.1, HF9.out.2.1, HF9.out.2.2⟩
 | true =>
  obtain ⟨s3, hs3⟩ : ∃ y, (takeF c s2 ⟨#[61]⟩).2 = y := ⟨_, rfl⟩;rw [hk, hs3] at HTK;rw [if_pos rfl, hs3];have HE20 : Hid (∀ W, PAt W c s3 → Chg c.PB w W → Calls prog 136 #[pp c] W (retE c (ex s3) W)) := fun W h h2 => HX.out s3 W h (HGk.out _ _ hG h2);obtain ⟨t2, ht2⟩ : ∃ y, (ex s3).1 = y := ⟨_, rfl⟩;obtain ⟨s4, hs4⟩ : ∃ y, (ex s3).2 = y := ⟨_, rfl⟩;have HE2 : Hid (∀ W, PAt W c s3 → Chg c.PB w W → Calls prog 136 #[pp c] W (retE c (t2, s4) W)) := by rw [← ht2, ← hs4]; exact HE20
  rw [ht2, hs4];clear HE20;have HF : Hid (∀ W a cap bs, PAt W c s4 → Chg c.PB w W → w.heap.size + 1 ≤ W.heap.size → RowAt W (w.heap.size + 1) W.heap.size a cap [t, t2] bs → Calls prog 137 #[pp c, .agg #[.int .i64 15, .int .i64 pl, .int .i64 pc, .string ⟨#[]⟩, .string ⟨#[]⟩, .int .i64 0, .string ⟨#[]⟩, .int .i64 0, .bool false, .int .i64 0, .bool false, .slice a 2 cap, .int .i64 0, .int .i64 0]] W (retRow c (finishF c s4 (plainD 15 pl pc) [t, t2]).2 (finishF c s4 (plainD 15 pl pc) [t, t2]).1 (w.heap.size + 1) W)) := fun W a cap bs h h2 h4 h3 => finish_any c s4 (plainD 15 pl pc) [t, t2] bs a cap (w.heap.size + 1) W h h3 (by omega) (by omega) h4 (by simp);clear hp hG hk ht hs2 hs3 ht2 hs4
  go_enter func143, ntmps143
  go_upto_region 1 with fail
  refine mk_assign w.heap.size pl pc t c s s2 _ _ _ _ _ _ _ _ _ _ _ _ _ _ _ _ _ _ _ _ _ _ _ _ _ _ (HP.out.below HA.out) (heap_cell HB.out (by simp)) (heap_cell HB.out (by simp)) gz (by omega) (fun W h h2 => HE.out W h ((Chg.of HA.out).trans h2)) ?_;intro y6 y7 y8 y9 y10 W B g x hB hpW hcW hbx hq;rw [hsA] at hB hq;have HW : Hid (PAt W c s2 ∧ Chg c.PB w W ∧ W.heap[B]? = some (.cells #[.int .i64 16, .int .i64 pl, .int .i64 pc, .string ⟨#[]⟩, .string ⟨#[]⟩, .int .i64 0, .string ⟨#[]⟩, .int .i64 0, .bool false, .int .i64 0, .bool false, .slice (some ⟨g, 0, none⟩) 1 1, .int .i64 0, .int .i64 0] 87 (0, 0)) ∧ PartsAt W (w.heap.size + 1) B (.slice (some ⟨g, 0, none⟩) 1 1) [t] [x]) := ⟨hpW, (Chg.of HA.out).trans hcW, hbx, hq⟩;have lB : B < W.heap.size := (zge hbx).1;have gB : B ≠ c.PB := by omega
  clear hpW hcW hbx hq;go_wp2_with fail
  refine (HTK.out _ HW.out.1).mono ?_;rintro e w3 ⟨rfl, hp3, hg3⟩;have b3 : w3.heap[B]? = some (.cells #[.int .i64 16, .int .i64 pl, .int .i64 pc, .string ⟨#[]⟩, .string ⟨#[]⟩, .int .i64 0, .string ⟨#[]⟩, .int .i64 0, .bool false, .int .i64 0, .bool false, .slice (some ⟨g, 0, none⟩) 1 1, .int .i64 0, .int .i64 0] 87 (0, 0)) := (hg3.block _ lB gB).trans HW.out.2.2.1;have l3 : B < w3.heap.size := (zge b3).1;have c0 : w3.cell? ⟨B, 0, none⟩ = some (.int .i64 16) := heap_cell b3 (by simp);have f0 : w3.frozen? ⟨B, 0, none⟩ = false := heap_frozen b3;have hb4 : (w3.setCell ⟨B, 0, none⟩ (.int .i64 15)).heap[B]? = some (.cells #[.int .i64 15, .int .i64 pl, .int .i64 pc, .string ⟨#[]⟩, .string ⟨#[]⟩, .int .i64 0, .string ⟨#[]⟩, .int .i64 0, .bool false, .int .i64 0, .bool false, .slice (some ⟨g, 0, none⟩) 1 1, .int .i64 0, .int .i64 0] 87 (0, 0)) := Eq.trans (heap_set_same (o := 0) b3 _) (by simp);have HX4 : Hid (PAt (w3.setCell ⟨B, 0, none⟩ (.int .i64 15)) c s3 ∧ Chg c.PB w (w3.setCell ⟨B, 0, none⟩ (.int .i64 15)) ∧ (w3.setCell ⟨B, 0, none⟩ (.int .i64 15)).heap[B]? = some (.cells #[.int .i64 15, .int .i64 pl, .int .i64 pc, .string ⟨#[]⟩, .string ⟨#[]⟩, .int .i64 0, .string ⟨#[]⟩, .int .i64 0, .bool false, .int .i64 0, .bool false, .slice (some ⟨g, 0, none⟩) 1 1, .int .i64 0, .int .i64 0] 87 (0, 0)) ∧ PartsAt (w3.setCell ⟨B, 0, none⟩ (.int .i64 15)) (w.heap.size + 1) B (.slice (some ⟨g, 0, none⟩) 1 1) [t] [x] ∧ w.heap.size + 1 ≤ (w3.setCell ⟨B, 0, none⟩ (.int .i64 15)).heap.size) := ⟨hp3.blocks (heap_set_other (Ne.symm gB)) (heap_set_other (by omega)), (HW.out.2.1.trans hg3).setNew (by omega) _ _, hb4, (HW.out.2.2.2.chg hg3 (by omega)).keep (by rw [size_set]; exact Nat.le_refl _) (fun k _ _ hk => heap_set_other hk), by rw [size_set]; omega⟩;clear hp3 hg3 b3 hb4;dsimp only
  go_upto_region 4 with fail
  obtain ⟨W4, hW4⟩ : ∃ W, w3.setCell ⟨B, 0, none⟩ (.int .i64 15) = W := ⟨_, rfl⟩;rw [hW4] at HX4 ⊢;clear hW4 c0 f0;refine ap_assign B (w.heap.size + 1) 1 1 (some ⟨g, 0, none⟩) (plainD 15 pl pc) [t] [x] t2 c s3 s4 W4 _ _ _ _ _ _ _ _ _ _ _ _ _ _ _ _ _ _ _ _ _ _ _ _ _ HX4.out.1 HX4.out.2.2.1 HX4.out.2.2.2.1 rfl (by omega) (by omega) hB HX4.out.2.2.2.2 (by omega) (fun W h h2 => HE2.out W h (HX4.out.2.1.trans h2)) ?_;intro y14 y15 y16 y17 y18 y19 y20 W5 q cap2 y hp5 hc5 hb5 hq5;have hC5 : Chg c.PB w W5 := hc5.chg HX4.out.2.1 (by omega);have HX5 : Hid (PAt W5 c s4 ∧ Chg c.PB w W5 ∧ PartsAt W5 (w.heap.size + 1) B (.slice (some ⟨q, 0, none⟩) (1 + 1) cap2) ([t] ++ [t2]) ([x] ++ [y])) := ⟨hp5, hC5, hq5⟩;have l5 : B < W5.heap.size := (zge hb5).1;have n0 : W5.cell? ⟨B, 0, none⟩ = some (.int .i64 15) := heap_cell hb5 (by simp [nodeCells, plainD, noSh]);have n1 : W5.cell? ⟨B, 1, none⟩ = some (.int .i64 pl) := heap_cell hb5 (by simp [nodeCells, plainD, noSh]);have n2 : W5.cell? ⟨B, 2, none⟩ = some (.int .i64 pc) := heap_cell hb5 (by simp [nodeCells, plainD, noSh]);have n3 : W5.cell? ⟨B, 3, none⟩ = some (.string ⟨#[]⟩) := heap_cell hb5 (by simp [nodeCells, plainD, noSh]);have n4 : W5.cell? ⟨B, 4, none⟩ = some (.string ⟨#[]⟩) := heap_cell hb5 (by simp [nodeCells, plainD, noSh]);have n5 : W5.cell? ⟨B, 5, none⟩ = some (.int .i64 0) := heap_cell hb5 (by simp [nodeCells, plainD, noSh]);have n6 : W5.cell? ⟨B, 6, none⟩ = some (.string ⟨#[]⟩) := heap_cell hb5 (by simp [nodeCells, plainD, noSh]);have n7 : W5.cell? ⟨B, 7, none⟩ = some (.int .i64 0) := heap_cell hb5 (by simp [nodeCells, plainD, noSh]);have n8 : W5.cell? ⟨B, 8, none⟩ = some (.bool false) := heap_cell hb5 (by simp [nodeCells, plainD, noSh]);have n9 : W5.cell? ⟨B, 9, none⟩ = some (.int .i64 0) := heap_cell hb5 (by simp [nodeCells, plainD, noSh]);have n10 : W5.cell? ⟨B, 10, none⟩ = some (.bool false) := heap_cell hb5 (by simp [nodeCells, plainD, noSh]);have n11 : W5.cell? ⟨B, 11, none⟩ = some (.slice (some ⟨q, 0, none⟩) 2 cap2) := heap_cell hb5 (by simp [nodeCells, plainD, noSh]);have n12 : W5.cell? ⟨B, 12, none⟩ = some (.int .i64 0) := heap_cell hb5 (by simp [nodeCells, plainD, noSh]);have n13 : W5.cell? ⟨B, 13, none⟩ = some (.int .i64 0) := heap_cell hb5 (by simp [nodeCells, plainD, noSh]);clear hp5 hc5 hb5 hq5 hC5;go_wp2_with fail
  obtain ⟨a9, cap9, e9, hr9⟩ := HX5.out.2.2.row
  injection e9 with e91 e92 e93
  subst e91 e93;have HCF : Hid (Chg c.PB w W5) := HX5.out.2.1;refine (HF.out _ _ _ _ HX5.out.1 HX5.out.2.1 (by omega) hr9).mono ?_;clear hr9 e92;rintro e w9 ⟨b9, rfl, ht9, hp9, hg9⟩;have HF9 : Hid (Top w9 w.heap.size (finishF c s4 (plainD 15 pl pc) [t, t2]).1 b9 ∧ PAt w9 c (finishF c s4 (plainD 15 pl pc) [t, t2]).2 ∧ Chg c.PB w w9) := ⟨ht9.mono (by omega), hp9, HCF.out.trans hg9⟩;clear ht9 hp9 hg9;clear n0 n1 n2 n3 n4 n5 n6 n7 n8 n9 n10 n11 n12 n13;dsimp only;go_wp2;go_ret;exact ⟨b9, rfl, HF9.out.1, HF9.out.2.1, HF9.out.2.2⟩

theorem local_any (G : World → Prop) (ex : PSt → Tr × PSt) (c : PC) (s : PSt) (w : World) (hp : PAt w c s) (hG : G w) (HGk : Hid (∀ W W', G W → Chg c.PB W W' → G W')) (HX : Hid (XOk G ex c)) (hgl : c.g < w.heap.size) (HGt : Hid (∀ W, G W → TwTab W)) (hT : 2 ≠ c.PB) : Calls prog 123 #[.pointer (some ⟨c.PB, 0, none⟩)] w (retE c (localF ex c s) w) := by
 have PL := hp.lt;have HP0 : Hid (PAt w c s) := hp;have HC0 : Hid (Chg c.PB w w) := Chg.refl _ _;have HTY : Hid (∀ W, PAt W c s → Chg c.PB w W → Calls prog 61 #[pp c] W (retSh c (typF c s).2 (typF c s).1 W)) := fun W h h2 => typ_any c s W h (HGt.out _ (HGk.out _ _ hG h2)) hT;have HNM : Hid (∀ W, PAt W c (typF c s).2 → Calls prog 65 #[pp c, shV (typF c s).1] W (retNd c (needKF c (typF c s).2 1).2 (namedD (needKF c (typF c s).2 1).1 (typF c s).1) W)) := fun W h => named_any c _ _ W h;obtain ⟨ty, hty⟩ : ∃ y, (typF c s).1 = y := ⟨_, rfl⟩;obtain ⟨s1, hs1⟩ : ∃ y, (typF c s).2 = y := ⟨_, rfl⟩;rw [hty, hs1] at HTY HNM;obtain ⟨x, hx⟩ : ∃ y, (needKF c s1 1).1 = y := ⟨_, rfl⟩;obtain ⟨s2, hs2⟩ : ∃ y, (needKF c s1 1).2 = y := ⟨_, rfl⟩;rw [hx, hs2] at HNM;unfold localF lnS;rw [hs1, hty, hx, hs2];have HTK : Hid (∀ W, PAt W c s2 → Calls prog 63 #[pp c, .string ⟨#[61]⟩] W (pret (.bool (takeF c s2 ⟨#[61]⟩).1) c (takeF c s2 ⟨#[61]⟩).2 W)) := fun W h => take_any c s2 _ W h (by decide)
 cases hk : (takeF c s2 ⟨#[61]⟩).1 with
 | true =>
  obtain ⟨s3, hs3⟩ : ∃ y, (takeF c s2 ⟨#[61]⟩).2 = y := ⟨_, rfl⟩;rw [hk, hs3] at HTK;rw [if_pos rfl, hs3];have HE0 : Hid (∀ W, PAt W c s3 → Chg c.PB w W → Calls prog 136 #[pp c] W (retE c (ex s3) W)) := fun W h h2 => HX.out s3 W h (HGk.out _ _ hG h2);obtain ⟨t, ht⟩ : ∃ y, (ex s3).1 = y := ⟨_, rfl⟩;obtain ⟨s4, hs4⟩ : ∃ y, (ex s3).2 = y := ⟨_, rfl⟩;have HE : Hid (∀ W, PAt W c s3 → Chg c.PB w W → Calls prog 136 #[pp c] W (retE c (t, s4) W)) := by rw [← ht, ← hs4]; exact HE0
  rw [ht, hs4];clear HE0;have HF : Hid (∀ W a cap bs, PAt W c s4 → Chg c.PB w W → w.heap.size ≤ W.heap.size → RowAt W (w.heap.size) W.heap.size a cap [t] bs → Calls prog 137 #[pp c, .agg #[.int .i64 7, .int .i64 x.pl, .int .i64 x.pc, .string x.s, .string ⟨#[]⟩, .int .i64 0, .string ty.base, .int .i64 ty.stars, .bool ty.isList, .int .i64 ty.count, .bool false, .slice a 1 cap, .int .i64 0, .int .i64 0]] W (retRow c (finishF c s4 (localD x ty) [t]).2 (finishF c s4 (localD x ty) [t]).1 (w.heap.size) W)) := fun W a cap bs h h2 h4 h3 => finish_any c s4 (localD x ty) [t] bs a cap (w.heap.size) W h h3 (by omega) (by omega) h4 (by simp);clear hp hG hty hs1 hx hs2 hk hs3 ht hs4
  go_enter func123, ntmps123
  go_wp2_with fail
  refine (HTY.out _ HP0.out HC0.out).mono ?_;rintro e w1 ⟨rfl, hp1, hg1⟩;have HX1 : Hid (PAt w1 c s1 ∧ Chg c.PB w w1) := ⟨hp1, HC0.out.trans hg1⟩;clear hp1 hg1;dsimp only [shV];go_wp2_with fail
  refine (HNM.out _ HX1.out.1).mono ?_;rintro e w2 ⟨B, rfl, hb2, hB2, hp2, hg2⟩;have hC2 := HX1.out.2.trans hg2;have hBw : w.heap.size ≤ B := Nat.le_trans HX1.out.2.size hB2;have gB : B ≠ c.PB := by omega
  have lB : B < w2.heap.size := (zge hb2).1;have c0 : w2.cell? ⟨B, 0, none⟩ = some (.int .i64 0) := heap_cell hb2 (by simp [nodeCells, namedD]);have f0 : w2.frozen? ⟨B, 0, none⟩ = false := heap_frozen hb2;have hb3 : (w2.setCell ⟨B, 0, none⟩ (.int .i64 7)).heap[B]? = some (.cells #[.int .i64 7, .int .i64 x.pl, .int .i64 x.pc, .string x.s, .string ⟨#[]⟩, .int .i64 0, .string ty.base, .int .i64 ty.stars, .bool ty.isList, .int .i64 ty.count, .bool false, .slice none 0 0, .int .i64 0, .int .i64 0] 87 (0, 0)) := Eq.trans (heap_set_same (o := 0) hb2 _) (by simp [nodeCells, namedD]);have HX3 : Hid (PAt (w2.setCell ⟨B, 0, none⟩ (.int .i64 7)) c s2 ∧ Chg c.PB w (w2.setCell ⟨B, 0, none⟩ (.int .i64 7)) ∧ (w2.setCell ⟨B, 0, none⟩ (.int .i64 7)).heap[B]? = some (.cells #[.int .i64 7, .int .i64 x.pl, .int .i64 x.pc, .string x.s, .string ⟨#[]⟩, .int .i64 0, .string ty.base, .int .i64 ty.stars, .bool ty.isList, .int .i64 ty.count, .bool false, .slice none 0 0, .int .i64 0, .int .i64 0] 87 (0, 0)) ∧ B < (w2.setCell ⟨B, 0, none⟩ (.int .i64 7)).heap.size) := ⟨hp2.blocks (heap_set_other (Ne.symm gB)) (heap_set_other (by omega)), hC2.setNew hBw _ _, hb3, by rw [size_set]; exact lB⟩;clear hp2 hg2 hb2 hb3 hC2;dsimp only;go_wp2_with fail
  refine (HTK.out _ HX3.out.1).mono ?_;rintro e w4 ⟨rfl, hp4, hg4⟩;have HX4 : Hid (PAt w4 c s3 ∧ Chg c.PB w w4 ∧ w4.heap[B]? = some (.cells #[.int .i64 7, .int .i64 x.pl, .int .i64 x.pc, .string x.s, .string ⟨#[]⟩, .int .i64 0, .string ty.base, .int .i64 ty.stars, .bool ty.isList, .int .i64 ty.count, .bool false, .slice none 0 0, .int .i64 0, .int .i64 0] 87 (0, 0))) := ⟨hp4, HX3.out.2.1.trans hg4, (hg4.block _ HX3.out.2.2.2 gB).trans HX3.out.2.2.1⟩;clear hp4 hg4 c0 f0;dsimp only;go_wp2_with fail
  refine (HE.out _ HX4.out.1 HX4.out.2.1).mono ?_;rintro e w5 ⟨y, rfl, ht5, hp5, hg5⟩;have l4 : B < w4.heap.size := (zge HX4.out.2.2).1;have b5 : w5.heap[B]? = some (.cells #[.int .i64 7, .int .i64 x.pl, .int .i64 x.pc, .string x.s, .string ⟨#[]⟩, .int .i64 0, .string ty.base, .int .i64 ty.stars, .bool ty.isList, .int .i64 ty.count, .bool false, .slice none 0 0, .int .i64 0, .int .i64 0] 87 (0, 0)) := (hg5.block _ l4 gB).trans HX4.out.2.2;have l5 : B < w5.heap.size := (zge b5).1;have s4w := HX4.out.2.1.size;have HX5 : Hid (PAt w5 c s4 ∧ Chg c.PB w w5 ∧ w5.heap[B]? = some (.cells #[.int .i64 7, .int .i64 x.pl, .int .i64 x.pc, .string x.s, .string ⟨#[]⟩, .int .i64 0, .string ty.base, .int .i64 ty.stars, .bool ty.isList, .int .i64 ty.count, .bool false, .slice none 0 0, .int .i64 0, .int .i64 0] 87 (0, 0)) ∧ TreeIn w5 (fun k => w.heap.size ≤ k ∧ k < w5.heap.size ∧ k ≠ B) t y) := ⟨hp5, HX4.out.2.1.trans hg5, b5, ht5.tree.within (fun k k1 k2 => ⟨by omega, k2, by omega⟩)⟩;have f11 : w5.frozen? ⟨B, 11, none⟩ = false := heap_frozen b5;have n0 : w5.cell? ⟨B, 0, none⟩ = some (.int .i64 7) := heap_cell b5 (by simp [nodeCells]);have n1 : w5.cell? ⟨B, 1, none⟩ = some (.int .i64 x.pl) := heap_cell b5 (by simp [nodeCells]);have n2 : w5.cell? ⟨B, 2, none⟩ = some (.int .i64 x.pc) := heap_cell b5 (by simp [nodeCells]);have n3 : w5.cell? ⟨B, 3, none⟩ = some (.string x.s) := heap_cell b5 (by simp [nodeCells]);have n4 : w5.cell? ⟨B, 4, none⟩ = some (.string ⟨#[]⟩) := heap_cell b5 (by simp [nodeCells]);have n5 : w5.cell? ⟨B, 5, none⟩ = some (.int .i64 0) := heap_cell b5 (by simp [nodeCells]);have n6 : w5.cell? ⟨B, 6, none⟩ = some (.string ty.base) := heap_cell b5 (by simp [nodeCells]);have n7 : w5.cell? ⟨B, 7, none⟩ = some (.int .i64 ty.stars) := heap_cell b5 (by simp [nodeCells]);have n8 : w5.cell? ⟨B, 8, none⟩ = some (.bool ty.isList) := heap_cell b5 (by simp [nodeCells]);have n9 : w5.cell? ⟨B, 9, none⟩ = some (.int .i64 ty.count) := heap_cell b5 (by simp [nodeCells]);have n10 : w5.cell? ⟨B, 10, none⟩ = some (.bool false) := heap_cell b5 (by simp [nodeCells]);have n11 : w5.cell? ⟨B, 11, none⟩ = some (.slice none 0 0) := heap_cell b5 (by simp [nodeCells]);have n12 : w5.cell? ⟨B, 12, none⟩ = some (.int .i64 0) := heap_cell b5 (by simp [nodeCells]);have n13 : w5.cell? ⟨B, 13, none⟩ = some (.int .i64 0) := heap_cell b5 (by simp [nodeCells]);clear ht5 hp5 hg5 b5;dsimp only;go_wp2_with fail
  obtain ⟨W6, hW6⟩ : ∃ W, (w5.setCell ⟨B, 11, none⟩ (.slice (some ⟨w5.heap.size, 0, none⟩) 1 1)).alloc (.cells #[.pointer (some ⟨y, 0, none⟩)] 83) = W := ⟨_, rfl⟩
  have hF6 : PAt W6 c s4 ∧ Chg c.PB w W6 ∧ RowAt W6 w.heap.size W6.heap.size (some ⟨w5.heap.size, 0, none⟩) 1 [t] [y] := by
   have hk : ∀ k, k < w5.heap.size → k ≠ B → W6.heap[k]? = w5.heap[k]? := fun k k1 k2 => by
    rw [← hW6, Below.heap_alloc _ _ k (by rw [size_set]; exact k1)];exact heap_set_other k2
   have hs6 : W6.heap.size = w5.heap.size + 1 := by rw [← hW6]; simp [size_set]
   have hg6 : W6.heap[w5.heap.size]? = some (.cells #[ptrV y] 83 (0, 0)) := by
    rw [← hW6];have := World.alloc_heap_new (w5.setCell ⟨B, 11, none⟩ (.slice (some ⟨w5.heap.size, 0, none⟩) 1 1)) (.cells #[ptrV y] 83);rw [size_set] at this;exact this
   have hw5 := HX5.out.2.1.size;have hq := PartsAt.one (lo := w.heap.size) (B := B) (cap := 1) hg6 (by omega) (by omega) (HX5.out.2.2.2.keep (fun k hk' => hk k hk'.2.1 hk'.2.2) (fun k hk' => ⟨hk'.1, by have := hk'.2.1; omega, hk'.2.2, by have := hk'.2.1; omega⟩));obtain ⟨a9, cap9, e9, hr9⟩ := hq.row
   injection e9 with e91 e92 e93
   subst e91 e93;refine ⟨HX5.out.1.blocks (hk _ HX5.out.1.lt (by omega)) (hk _ (by omega) (by omega)), ?_, hr9⟩;rw [← hW6];exact (HX5.out.2.1.setNew hBw _ _).alloc _
  rw [hW6];clear hW6;have HCF : Hid (Chg c.PB w W6) := hF6.2.1;refine (HF.out _ _ _ _ hF6.1 hF6.2.1 hF6.2.1.size hF6.2.2).mono ?_;clear hF6 f11;rintro e w9 ⟨b9, rfl, ht9, hp9, hg9⟩;have HF9 : Hid (Top w9 w.heap.size (finishF c s4 (localD x ty) [t]).1 b9 ∧ PAt w9 c (finishF c s4 (localD x ty) [t]).2 ∧ Chg c.PB w w9) := ⟨ht9.mono (by omega), hp9, HCF.out.trans hg9⟩;clear ht9 hp9 hg9;clear n0 n1 n2 n3 n4 n5 n6 n7 n8 n9 n10 n11 n12 n13;dsimp only;go_wp2;go_ret;exact ⟨b9, rfl, HF9.out.1, HF9.out.2.1, HF9.out.2.2⟩
 | false =>
  rw [hk, takeF_false hk] at HTK;rw [if_neg (by decide)];have HBR : Hid (∀ W, PAt W c s2 → Calls prog 67 #[pp c, .agg #[.string ty.base, .int .i64 ty.stars, .bool ty.isList, .int .i64 ty.count]] W (retSh c (brackF c s2 ty).2 (brackF c s2 ty).1 W)) := fun W h => brackets_any c s2 ty W h;obtain ⟨u, hu⟩ : ∃ y, (brackF c s2 ty).1 = y := ⟨_, rfl⟩;obtain ⟨s3, hs3⟩ : ∃ y, (brackF c s2 ty).2 = y := ⟨_, rfl⟩;rw [hu, hs3] at HBR ⊢;have HF : Hid (∀ W a cap bs, PAt W c s3 → Chg c.PB w W → w.heap.size ≤ W.heap.size → RowAt W (w.heap.size) W.heap.size a cap [] bs → Calls prog 137 #[pp c, .agg #[.int .i64 7, .int .i64 x.pl, .int .i64 x.pc, .string x.s, .string ⟨#[]⟩, .int .i64 0, .string u.base, .int .i64 u.stars, .bool u.isList, .int .i64 u.count, .bool false, .slice a 0 cap, .int .i64 0, .int .i64 0]] W (retRow c (finishF c s3 (localD x u) []).2 (finishF c s3 (localD x u) []).1 (w.heap.size) W)) := fun W a cap bs h h2 h4 h3 => finish_any c s3 (localD x u) [] bs a cap (w.heap.size) W h h3 (by omega) (by omega) h4 (by simp);clear hp hG hty hs1 hx hs2 hk hu hs3
  go_enter func123, ntmps123
  go_wp2_with fail
  refine (HTY.out _ HP0.out HC0.out).mono ?_;rintro e w1 ⟨rfl, hp1, hg1⟩;have HX1 : Hid (PAt w1 c s1 ∧ Chg c.PB w w1) := ⟨hp1, HC0.out.trans hg1⟩;clear hp1 hg1;dsimp only [shV];go_wp2_with fail
  refine (HNM.out _ HX1.out.1).mono ?_;rintro e w2 ⟨B, rfl, hb2, hB2, hp2, hg2⟩;have hC2 := HX1.out.2.trans hg2;have hBw : w.heap.size ≤ B := Nat.le_trans HX1.out.2.size hB2;have gB : B ≠ c.PB := by omega
  have lB : B < w2.heap.size := (zge hb2).1;have c0 : w2.cell? ⟨B, 0, none⟩ = some (.int .i64 0) := heap_cell hb2 (by simp [nodeCells, namedD]);have f0 : w2.frozen? ⟨B, 0, none⟩ = false := heap_frozen hb2;have hb3 : (w2.setCell ⟨B, 0, none⟩ (.int .i64 7)).heap[B]? = some (.cells #[.int .i64 7, .int .i64 x.pl, .int .i64 x.pc, .string x.s, .string ⟨#[]⟩, .int .i64 0, .string ty.base, .int .i64 ty.stars, .bool ty.isList, .int .i64 ty.count, .bool false, .slice none 0 0, .int .i64 0, .int .i64 0] 87 (0, 0)) := Eq.trans (heap_set_same (o := 0) hb2 _) (by simp [nodeCells, namedD]);have HX3 : Hid (PAt (w2.setCell ⟨B, 0, none⟩ (.int .i64 7)) c s2 ∧ Chg c.PB w (w2.setCell ⟨B, 0, none⟩ (.int .i64 7)) ∧ (w2.setCell ⟨B, 0, none⟩ (.int .i64 7)).heap[B]? = some (.cells #[.int .i64 7, .int .i64 x.pl, .int .i64 x.pc, .string x.s, .string ⟨#[]⟩, .int .i64 0, .string ty.base, .int .i64 ty.stars, .bool ty.isList, .int .i64 ty.count, .bool false, .slice none 0 0, .int .i64 0, .int .i64 0] 87 (0, 0)) ∧ B < (w2.setCell ⟨B, 0, none⟩ (.int .i64 7)).heap.size) := ⟨hp2.blocks (heap_set_other (Ne.symm gB)) (heap_set_other (by omega)), hC2.setNew hBw _ _, hb3, by rw [size_set]; exact lB⟩;clear hp2 hg2 hb2 hb3 hC2;dsimp only;go_wp2_with fail
  refine (HTK.out _ HX3.out.1).mono ?_;rintro e w4 ⟨rfl, hp4, hg4⟩;have b4 : w4.heap[B]? = some (.cells #[.int .i64 7, .int .i64 x.pl, .int .i64 x.pc, .string x.s, .string ⟨#[]⟩, .int .i64 0, .string ty.base, .int .i64 ty.stars, .bool ty.isList, .int .i64 ty.count, .bool false, .slice none 0 0, .int .i64 0, .int .i64 0] 87 (0, 0)) := (hg4.block _ HX3.out.2.2.2 gB).trans HX3.out.2.2.1;have HX4 : Hid (PAt w4 c s2 ∧ Chg c.PB w w4 ∧ w4.heap[B]? = some (.cells #[.int .i64 7, .int .i64 x.pl, .int .i64 x.pc, .string x.s, .string ⟨#[]⟩, .int .i64 0, .string ty.base, .int .i64 ty.stars, .bool ty.isList, .int .i64 ty.count, .bool false, .slice none 0 0, .int .i64 0, .int .i64 0] 87 (0, 0))) := ⟨hp4, HX3.out.2.1.trans hg4, b4⟩;have q6 : w4.cell? ⟨B, 6, none⟩ = some (.string ty.base) := heap_cell b4 (by simp);have q7 : w4.cell? ⟨B, 7, none⟩ = some (.int .i64 ty.stars) := heap_cell b4 (by simp);have q8 : w4.cell? ⟨B, 8, none⟩ = some (.bool ty.isList) := heap_cell b4 (by simp);have q9 : w4.cell? ⟨B, 9, none⟩ = some (.int .i64 ty.count) := heap_cell b4 (by simp);clear hp4 hg4 c0 f0 b4;dsimp only;go_wp2_with fail
  refine (HBR.out _ HX4.out.1).mono ?_;rintro e w5 ⟨rfl, hp5, hg5⟩;have l4 : B < w4.heap.size := (zge HX4.out.2.2).1;have b5 : w5.heap[B]? = some (.cells #[.int .i64 7, .int .i64 x.pl, .int .i64 x.pc, .string x.s, .string ⟨#[]⟩, .int .i64 0, .string ty.base, .int .i64 ty.stars, .bool ty.isList, .int .i64 ty.count, .bool false, .slice none 0 0, .int .i64 0, .int .i64 0] 87 (0, 0)) := (hg5.block _ l4 gB).trans HX4.out.2.2;have l5 : B < w5.heap.size := (zge b5).1;have HX5 : Hid (PAt w5 c s3 ∧ Chg c.PB w w5) := ⟨hp5, HX4.out.2.1.trans hg5⟩;have HB5 : Hid (w5.heap[B]? = some (.cells #[.int .i64 7, .int .i64 x.pl, .int .i64 x.pc, .string x.s, .string ⟨#[]⟩, .int .i64 0, .string ty.base, .int .i64 ty.stars, .bool ty.isList, .int .i64 ty.count, .bool false, .slice none 0 0, .int .i64 0, .int .i64 0] 87 (0, 0))) := b5;have ff : ∀ j, w5.frozen? ⟨B, j, none⟩ = false := fun j => heap_frozen b5;have n0 : w5.cell? ⟨B, 0, none⟩ = some (.int .i64 7) := heap_cell b5 (by simp [nodeCells]);have n1 : w5.cell? ⟨B, 1, none⟩ = some (.int .i64 x.pl) := heap_cell b5 (by simp [nodeCells]);have n2 : w5.cell? ⟨B, 2, none⟩ = some (.int .i64 x.pc) := heap_cell b5 (by simp [nodeCells]);have n3 : w5.cell? ⟨B, 3, none⟩ = some (.string x.s) := heap_cell b5 (by simp [nodeCells]);have n4 : w5.cell? ⟨B, 4, none⟩ = some (.string ⟨#[]⟩) := heap_cell b5 (by simp [nodeCells]);have n5 : w5.cell? ⟨B, 5, none⟩ = some (.int .i64 0) := heap_cell b5 (by simp [nodeCells]);have n6 : w5.cell? ⟨B, 6, none⟩ = some (.string ty.base) := heap_cell b5 (by simp [nodeCells]);have n7 : w5.cell? ⟨B, 7, none⟩ = some (.int .i64 ty.stars) := heap_cell b5 (by simp [nodeCells]);have n8 : w5.cell? ⟨B, 8, none⟩ = some (.bool ty.isList) := heap_cell b5 (by simp [nodeCells]);have n9 : w5.cell? ⟨B, 9, none⟩ = some (.int .i64 ty.count) := heap_cell b5 (by simp [nodeCells]);have n10 : w5.cell? ⟨B, 10, none⟩ = some (.bool false) := heap_cell b5 (by simp [nodeCells]);have n11 : w5.cell? ⟨B, 11, none⟩ = some (.slice none 0 0) := heap_cell b5 (by simp [nodeCells]);have n12 : w5.cell? ⟨B, 12, none⟩ = some (.int .i64 0) := heap_cell b5 (by simp [nodeCells]);have n13 : w5.cell? ⟨B, 13, none⟩ = some (.int .i64 0) := heap_cell b5 (by simp [nodeCells]);clear hp5 hg5 b5 q6 q7 q8 q9;dsimp only [shV];go_wp2_with fail
  obtain ⟨W6, hW6⟩ : ∃ W, (((w5.setCell ⟨B, 6, none⟩ (.string u.base)).setCell ⟨B, 7, none⟩ (.int .i64 u.stars)).setCell ⟨B, 8, none⟩ (.bool u.isList)).setCell ⟨B, 9, none⟩ (.int .i64 u.count) = W := ⟨_, rfl⟩
  have hF6 : PAt W6 c s3 ∧ Chg c.PB w W6 := by
   rw [← hW6];refine ⟨?_, (((HX5.out.2.setNew hBw _ _).setNew hBw _ _).setNew hBw _ _).setNew hBw _ _⟩;have o : ∀ k, k ≠ B → ((((w5.setCell ⟨B, 6, none⟩ (.string u.base)).setCell ⟨B, 7, none⟩ (.int .i64 u.stars)).setCell ⟨B, 8, none⟩ (.bool u.isList)).setCell ⟨B, 9, none⟩ (.int .i64 u.count)).heap[k]? = w5.heap[k]? := fun k hk => (heap_set_other hk).trans ((heap_set_other hk).trans ((heap_set_other hk).trans (heap_set_other hk)));exact HX5.out.1.blocks (o _ (Ne.symm gB)) (o _ (by omega))
  rw [hW6];clear hW6;have HCF : Hid (Chg c.PB w W6) := hF6.2;refine (HF.out _ none 0 [] hF6.1 hF6.2 hF6.2.size (RowAt.nil _ _ _ _ _)).mono ?_;clear hF6 ff;rintro e w9 ⟨b9, rfl, ht9, hp9, hg9⟩;have HF9 : Hid (Top w9 w.heap.size (finishF c s3 (localD x u) []).1 b9 ∧ PAt w9 c (finishF c s3 (localD x u) []).2 ∧ Chg c.PB w w9) := ⟨ht9.mono (by omega), hp9, HCF.out.trans hg9⟩;clear ht9 hp9 hg9;clear n0 n1 n2 n3 n4 n5 n6 n7 n8 n9 n10 n11 n12 n13;dsimp only;go_wp2;go_ret;exact ⟨b9, rfl, HF9.out.1, HF9.out.2.1, HF9.out.2.2⟩

theorem choice_any (G : World → Prop) (ex : PSt → Tr × PSt) (c : PC) (s : PSt) (w : World) (hp : PAt w c s) (hG : G w) (HGk : Hid (∀ W W', G W → Chg c.PB W W' → G W')) (HX : Hid (XOk G ex c)) (hgl : c.g < w.heap.size) (HGt : Hid (∀ W, G W → TwTab W)) (hT : 2 ≠ c.PB) (sx : PSt → Tr × PSt) (r : Nat) (HS : Hid (OneOk G 124 sx c r)) (HXI : Hid (ExIs ex c)) (HSI : Hid (SxIs sx c r)) (pl pc : Int) (hr : remF c s < r) : Calls prog 140 #[.pointer (some ⟨c.PB, 0, none⟩), .agg #[.int .i64 pl, .int .i64 pc]] w (retE c (choiceF ex sx c s pl pc) w) := by
 have PL := hp.lt;have HP : Hid (PAt w c s) := hp;have gz : w.heap.size ≠ c.PB := by omega
 have HA : Hid (Below w.heap.size w (w.alloc (.cells #[.int .i64 pl, .int .i64 pc] 25))) := bel_alloc (Below.refl _ _) _;have HB : Hid ((w.alloc (.cells #[.int .i64 pl, .int .i64 pc] 25)).heap[w.heap.size]? = some (.cells #[.int .i64 pl, .int .i64 pc] 25 (0, 0))) := World.alloc_heap_new w _;have hsA : (w.alloc (.cells #[.int .i64 pl, .int .i64 pc] 25)).heap.size = w.heap.size + 1 := by simp
 have hr1 := rem_encl HXI.out s;have hr2 := HSI.out.go (enclosedF ex c s).2 (by omega);have hr3 := rem_take c (sx (enclosedF ex c s).2).2 ⟨#[101, 108, 115, 101]⟩;unfold choiceF;have HE0 : Hid (∀ W, PAt W c s → Chg c.PB w W → Calls prog 141 #[pp c] W (retE c (enclosedF ex c s) W)) := fun W h h2 => enclosed_any G ex c s W h (HGk.out _ _ hG h2) HGk HX (by have := h2.size; omega);obtain ⟨t0, ht0⟩ : ∃ y, (enclosedF ex c s).1 = y := ⟨_, rfl⟩;obtain ⟨s1, hs1⟩ : ∃ y, (enclosedF ex c s).2 = y := ⟨_, rfl⟩;have HE : Hid (∀ W, PAt W c s → Chg c.PB w W → Calls prog 141 #[pp c] W (retE c (t0, s1) W)) := by rw [← ht0, ← hs1]; exact HE0
 rw [ht0, hs1];clear HE0;rw [hs1] at hr1 hr2 hr3;have HE10 : Hid (∀ W, PAt W c s1 → Chg c.PB w W → Calls prog 124 #[pp c] W (retE c (sx s1) W)) := fun W h h2 => HS.out s1 W h (HGk.out _ _ hG h2) (by omega);obtain ⟨t1, ht1⟩ : ∃ y, (sx s1).1 = y := ⟨_, rfl⟩;obtain ⟨s2, hs2⟩ : ∃ y, (sx s1).2 = y := ⟨_, rfl⟩;have HE1 : Hid (∀ W, PAt W c s1 → Chg c.PB w W → Calls prog 124 #[pp c] W (retE c (t1, s2) W)) := by rw [← ht1, ← hs2]; exact HE10
 rw [ht1, hs2];clear HE10;rw [hs2] at hr2 hr3;have HTK : Hid (∀ W, PAt W c s2 → Calls prog 63 #[pp c, .string ⟨#[101, 108, 115, 101]⟩] W (pret (.bool (takeF c s2 ⟨#[101, 108, 115, 101]⟩).1) c (takeF c s2 ⟨#[101, 108, 115, 101]⟩).2 W)) := fun W h => take_any c s2 _ W h (by decide)
 cases hk : (takeF c s2 ⟨#[101, 108, 115, 101]⟩).1 with
 | false =>
  rw [hk, takeF_false hk] at HTK;rw [if_neg (by decide)];have HF : Hid (∀ W a cap bs, PAt W c s2 → w.heap.size + 1 ≤ W.heap.size → RowAt W (w.heap.size + 1) W.heap.size a cap [t0, t1] bs → Calls prog 125 #[pp c, .agg #[.int .i64 9, .int .i64 pl, .int .i64 pc, .string ⟨#[]⟩, .string ⟨#[]⟩, .int .i64 0, .string ⟨#[]⟩, .int .i64 0, .bool false, .int .i64 0, .bool false, .slice a 2 cap, .int .i64 0, .int .i64 0]] W (retTr c (growS s2 (plainD 9 pl pc) [t0, t1]) (growT s2 (plainD 9 pl pc) [t0, t1]) (w.heap.size + 1) W)) := fun W a cap bs h h4 h3 => grow_any c s2 (plainD 9 pl pc) [t0, t1] bs a cap (w.heap.size + 1) W h h3 (by omega) (by omega) h4 (by simp);clear hp hG hk ht0 hs1 ht1 hs2 hr1 hr2 hr3
  go_enter func140, ntmps140
  go_upto_region 1 with fail
  refine mk_choice w.heap.size pl pc t0 t1 c s s1 s2 _ _ _ _ _ _ _ _ _ _ _ _ _ _ _ _ _ _ _ _ _ _ _ _ _ _ _ (HP.out.below HA.out) (heap_cell HB.out (by simp)) (heap_cell HB.out (by simp)) gz (by omega) (fun W h h2 => HE.out W h ((Chg.of HA.out).trans h2)) (fun W h h2 => HE1.out W h ((Chg.of HA.out).trans h2)) ?_;intro y6 y7 y8 y9 y10 y11 y12 W B g x0 x1 hB hpW hcW hbx hq;rw [hsA] at hB hq;have HW : Hid (PAt W c s2 ∧ Chg c.PB w W ∧ W.heap[B]? = some (.cells #[.int .i64 9, .int .i64 pl, .int .i64 pc, .string ⟨#[]⟩, .string ⟨#[]⟩, .int .i64 0, .string ⟨#[]⟩, .int .i64 0, .bool false, .int .i64 0, .bool false, .slice (some ⟨g, 0, none⟩) 2 2, .int .i64 0, .int .i64 0] 87 (0, 0)) ∧ PartsAt W (w.heap.size + 1) B (.slice (some ⟨g, 0, none⟩) 2 2) [t0, t1] [x0, x1]) := ⟨hpW, (Chg.of HA.out).trans hcW, hbx, hq⟩;have lB : B < W.heap.size := (zge hbx).1;have gB : B ≠ c.PB := by omega
  clear hpW hcW hbx hq;go_wp2_with fail
  refine (HTK.out _ HW.out.1).mono ?_;rintro e w3 ⟨rfl, hp3, hg3⟩;have b3 : w3.heap[B]? = some (.cells #[.int .i64 9, .int .i64 pl, .int .i64 pc, .string ⟨#[]⟩, .string ⟨#[]⟩, .int .i64 0, .string ⟨#[]⟩, .int .i64 0, .bool false, .int .i64 0, .bool false, .slice (some ⟨g, 0, none⟩) 2 2, .int .i64 0, .int .i64 0] 87 (0, 0)) := (hg3.block _ lB gB).trans HW.out.2.2.1;have l3 : B < w3.heap.size := (zge b3).1;have HX3 : Hid (PAt w3 c s2 ∧ Chg c.PB w w3 ∧ PartsAt w3 (w.heap.size + 1) B (.slice (some ⟨g, 0, none⟩) 2 2) [t0, t1] [x0, x1]) := ⟨hp3, HW.out.2.1.trans hg3, HW.out.2.2.2.chg hg3 (by omega)⟩;have n0 : w3.cell? ⟨B, 0, none⟩ = some (.int .i64 9) := heap_cell b3 (by simp [nodeCells]);have n1 : w3.cell? ⟨B, 1, none⟩ = some (.int .i64 pl) := heap_cell b3 (by simp [nodeCells]);have n2 : w3.cell? ⟨B, 2, none⟩ = some (.int .i64 pc) := heap_cell b3 (by simp [nodeCells]);have n3 : w3.cell? ⟨B, 3, none⟩ = some (.string ⟨#[]⟩) := heap_cell b3 (by simp [nodeCells]);have n4 : w3.cell? ⟨B, 4, none⟩ = some (.string ⟨#[]⟩) := heap_cell b3 (by simp [nodeCells]);have n5 : w3.cell? ⟨B, 5, none⟩ = some (.int .i64 0) := heap_cell b3 (by simp [nodeCells]);have n6 : w3.cell? ⟨B, 6, none⟩ = some (.string ⟨#[]⟩) := heap_cell b3 (by simp [nodeCells]);have n7 : w3.cell? ⟨B, 7, none⟩ = some (.int .i64 0) := heap_cell b3 (by simp [nodeCells]);have n8 : w3.cell? ⟨B, 8, none⟩ = some (.bool false) := heap_cell b3 (by simp [nodeCells]);have n9 : w3.cell? ⟨B, 9, none⟩ = some (.int .i64 0) := heap_cell b3 (by simp [nodeCells]);have n10 : w3.cell? ⟨B, 10, none⟩ = some (.bool false) := heap_cell b3 (by simp [nodeCells]);have n11 : w3.cell? ⟨B, 11, none⟩ = some (.slice (some ⟨g, 0, none⟩) 2 2) := heap_cell b3 (by simp [nodeCells]);have n12 : w3.cell? ⟨B, 12, none⟩ = some (.int .i64 0) := heap_cell b3 (by simp [nodeCells]);have n13 : w3.cell? ⟨B, 13, none⟩ = some (.int .i64 0) := heap_cell b3 (by simp [nodeCells]);clear hp3 hg3 b3;dsimp only;go_wp2_with fail
  obtain ⟨a9, cap9, e9, hr9⟩ := HX3.out.2.2.row
  injection e9 with e91 e92 e93
  subst e91 e93;have HCF : Hid (Chg c.PB w w3) := HX3.out.2.1;refine (HF.out _ _ _ _ HX3.out.1 (by omega) hr9).mono ?_;clear hr9 e92;rintro e w9 ⟨b9, rfl, ht9, hb9, hp9, hg9⟩;have HF9 : Hid (Top w9 w.heap.size (growT s2 (plainD 9 pl pc) [t0, t1]) b9 ∧ PAt w9 c (growS s2 (plainD 9 pl pc) [t0, t1]) ∧ Chg c.PB w w9) := ⟨ht9.mono (by omega), hp9, HCF.out.trans hg9⟩;clear ht9 hp9 hg9 hb9;clear n0 n1 n2 n3 n4 n5 n6 n7 n8 n9 n10 n11 n12 n13;dsimp only;go_wp2;go_ret;exact ⟨b9, rfl, HF9.out.1, HF9.out.2.1, HF9.out.2.2⟩
 | true =>
  obtain ⟨s3, hs3⟩ : ∃ y, (takeF c s2 ⟨#[101, 108, 115, 101]⟩).2 = y := ⟨_, rfl⟩;rw [hk, hs3] at HTK;rw [hs3] at hr3;rw [if_pos rfl, hs3];have HE20 : Hid (∀ W, PAt W c s3 → Chg c.PB w W → Calls prog 124 #[pp c] W (retE c (sx s3) W)) := fun W h h2 => HS.out s3 W h (HGk.out _ _ hG h2) (by omega);obtain ⟨t2, ht2⟩ : ∃ y, (sx s3).1 = y := ⟨_, rfl⟩;obtain ⟨s4, hs4⟩ : ∃ y, (sx s3).2 = y := ⟨_, rfl⟩;have HE2 : Hid (∀ W, PAt W c s3 → Chg c.PB w W → Calls prog 124 #[pp c] W (retE c (t2, s4) W)) := by rw [← ht2, ← hs4]; exact HE20
  rw [ht2, hs4];clear HE20;have HF : Hid (∀ W a cap bs, PAt W c s4 → w.heap.size + 1 ≤ W.heap.size → RowAt W (w.heap.size + 1) W.heap.size a cap [t0, t1, t2] bs → Calls prog 125 #[pp c, .agg #[.int .i64 9, .int .i64 pl, .int .i64 pc, .string ⟨#[]⟩, .string ⟨#[]⟩, .int .i64 0, .string ⟨#[]⟩, .int .i64 0, .bool false, .int .i64 0, .bool false, .slice a 3 cap, .int .i64 0, .int .i64 0]] W (retTr c (growS s4 (plainD 9 pl pc) [t0, t1, t2]) (growT s4 (plainD 9 pl pc) [t0, t1, t2]) (w.heap.size + 1) W)) := fun W a cap bs h h4 h3 => grow_any c s4 (plainD 9 pl pc) [t0, t1, t2] bs a cap (w.heap.size + 1) W h h3 (by omega) (by omega) h4 (by simp);clear hp hG hk ht0 hs1 ht1 hs2 hs3 ht2 hs4 hr1 hr2 hr3
  go_enter func140, ntmps140
  go_upto_region 1 with fail
  refine mk_choice w.heap.size pl pc t0 t1 c s s1 s2 _ _ _ _ _ _ _ _ _ _ _ _ _ _ _ _ _ _ _ _ _ _ _ _ _ _ _ (HP.out.below HA.out) (heap_cell HB.out (by simp)) (heap_cell HB.out (by simp)) gz (by omega) (fun W h h2 => HE.out W h ((Chg.of HA.out).trans h2)) (fun W h h2 => HE1.out W h ((Chg.of HA.out).trans h2)) ?_;intro y6 y7 y8 y9 y10 y11 y12 W B g x0 x1 hB hpW hcW hbx hq;rw [hsA] at hB hq;have HW : Hid (PAt W c s2 ∧ Chg c.PB w W ∧ W.heap[B]? = some (.cells #[.int .i64 9, .int .i64 pl, .int .i64 pc, .string ⟨#[]⟩, .string ⟨#[]⟩, .int .i64 0, .string ⟨#[]⟩, .int .i64 0, .bool false, .int .i64 0, .bool false, .slice (some ⟨g, 0, none⟩) 2 2, .int .i64 0, .int .i64 0] 87 (0, 0)) ∧ PartsAt W (w.heap.size + 1) B (.slice (some ⟨g, 0, none⟩) 2 2) [t0, t1] [x0, x1]) := ⟨hpW, (Chg.of HA.out).trans hcW, hbx, hq⟩;have lB : B < W.heap.size := (zge hbx).1;have gB : B ≠ c.PB := by omega
  clear hpW hcW hbx hq;go_wp2_with fail
  refine (HTK.out _ HW.out.1).mono ?_;rintro e w3 ⟨rfl, hp3, hg3⟩;have b3 : w3.heap[B]? = some (.cells #[.int .i64 9, .int .i64 pl, .int .i64 pc, .string ⟨#[]⟩, .string ⟨#[]⟩, .int .i64 0, .string ⟨#[]⟩, .int .i64 0, .bool false, .int .i64 0, .bool false, .slice (some ⟨g, 0, none⟩) 2 2, .int .i64 0, .int .i64 0] 87 (0, 0)) := (hg3.block _ lB gB).trans HW.out.2.2.1;have l3 : B < w3.heap.size := (zge b3).1;have HX4 : Hid (PAt w3 c s3 ∧ Chg c.PB w w3 ∧ w3.heap[B]? = some (.cells #[.int .i64 9, .int .i64 pl, .int .i64 pc, .string ⟨#[]⟩, .string ⟨#[]⟩, .int .i64 0, .string ⟨#[]⟩, .int .i64 0, .bool false, .int .i64 0, .bool false, .slice (some ⟨g, 0, none⟩) 2 2, .int .i64 0, .int .i64 0] 87 (0, 0)) ∧ PartsAt w3 (w.heap.size + 1) B (.slice (some ⟨g, 0, none⟩) 2 2) [t0, t1] [x0, x1]) := ⟨hp3, HW.out.2.1.trans hg3, b3, HW.out.2.2.2.chg hg3 (by omega)⟩;clear hp3 hg3 b3;dsimp only
  go_upto_region 3 with fail
  refine ap_choice B (w.heap.size + 1) 2 2 (some ⟨g, 0, none⟩) (plainD 9 pl pc) [t0, t1] [x0, x1] t2 c s3 s4 w3 _ _ _ _ _ _ _ _ _ _ _ _ _ _ _ _ _ _ _ _ _ _ _ _ _ _ HX4.out.1 HX4.out.2.2.1 HX4.out.2.2.2 rfl (by omega) (by omega) hB (by omega) (by omega) (fun W h h2 => HE2.out W h (HX4.out.2.1.trans h2)) ?_;intro y15 y16 y17 y18 y19 y20 y21 W5 q cap2 y hp5 hc5 hb5 hq5;have HX5 : Hid (PAt W5 c s4 ∧ Chg c.PB w W5 ∧ PartsAt W5 (w.heap.size + 1) B (.slice (some ⟨q, 0, none⟩) (2 + 1) cap2) ([t0, t1] ++ [t2]) ([x0, x1] ++ [y])) := ⟨hp5, hc5.chg HX4.out.2.1 (by omega), hq5⟩;have l5 : B < W5.heap.size := (zge hb5).1;have n0 : W5.cell? ⟨B, 0, none⟩ = some (.int .i64 9) := heap_cell hb5 (by simp [nodeCells, plainD, noSh]);have n1 : W5.cell? ⟨B, 1, none⟩ = some (.int .i64 pl) := heap_cell hb5 (by simp [nodeCells, plainD, noSh]);have n2 : W5.cell? ⟨B, 2, none⟩ = some (.int .i64 pc) := heap_cell hb5 (by simp [nodeCells, plainD, noSh]);have n3 : W5.cell? ⟨B, 3, none⟩ = some (.string ⟨#[]⟩) := heap_cell hb5 (by simp [nodeCells, plainD, noSh]);have n4 : W5.cell? ⟨B, 4, none⟩ = some (.string ⟨#[]⟩) := heap_cell hb5 (by simp [nodeCells, plainD, noSh]);have n5 : W5.cell? ⟨B, 5, none⟩ = some (.int .i64 0) := heap_cell hb5 (by simp [nodeCells, plainD, noSh]);have n6 : W5.cell? ⟨B, 6, none⟩ = some (.string ⟨#[]⟩) := heap_cell hb5 (by simp [nodeCells, plainD, noSh]);have n7 : W5.cell? ⟨B, 7, none⟩ = some (.int .i64 0) := heap_cell hb5 (by simp [nodeCells, plainD, noSh]);have n8 : W5.cell? ⟨B, 8, none⟩ = some (.bool false) := heap_cell hb5 (by simp [nodeCells, plainD, noSh]);have n9 : W5.cell? ⟨B, 9, none⟩ = some (.int .i64 0) := heap_cell hb5 (by simp [nodeCells, plainD, noSh]);have n10 : W5.cell? ⟨B, 10, none⟩ = some (.bool false) := heap_cell hb5 (by simp [nodeCells, plainD, noSh]);have n11 : W5.cell? ⟨B, 11, none⟩ = some (.slice (some ⟨q, 0, none⟩) 3 cap2) := heap_cell hb5 (by simp [nodeCells, plainD, noSh]);have n12 : W5.cell? ⟨B, 12, none⟩ = some (.int .i64 0) := heap_cell hb5 (by simp [nodeCells, plainD, noSh]);have n13 : W5.cell? ⟨B, 13, none⟩ = some (.int .i64 0) := heap_cell hb5 (by simp [nodeCells, plainD, noSh]);clear hp5 hc5 hb5 hq5;go_wp2_with fail
  obtain ⟨a9, cap9, e9, hr9⟩ := HX5.out.2.2.row
  injection e9 with e91 e92 e93
  subst e91 e93;have HCF : Hid (Chg c.PB w W5) := HX5.out.2.1;refine (HF.out _ _ _ _ HX5.out.1 (by omega) hr9).mono ?_;clear hr9 e92;rintro e w9 ⟨b9, rfl, ht9, hb9, hp9, hg9⟩;have HF9 : Hid (Top w9 w.heap.size (growT s4 (plainD 9 pl pc) [t0, t1, t2]) b9 ∧ PAt w9 c (growS s4 (plainD 9 pl pc) [t0, t1, t2]) ∧ Chg c.PB w w9) := ⟨ht9.mono (by omega), hp9, HCF.out.trans hg9⟩;clear ht9 hp9 hg9 hb9;clear n0 n1 n2 n3 n4 n5 n6 n7 n8 n9 n10 n11 n12 n13;dsimp only;go_wp2;go_ret;exact ⟨b9, rfl, HF9.out.1, HF9.out.2.1, HF9.out.2.2⟩

theorem wp_then {P : Program} {c : Code} {Q : Exit → Act → World → Prop} {a : Act} {w : World} (h : Code.wp P c (Exit.then (fun a w => Q .normal a w) Q) a w) : Code.wp P c Q a w := Go.wp_mono h (fun e a w hq => by cases e <;> exact hq)
theorem block_any (G : World → Prop) (ex : PSt → Tr × PSt) (c : PC) (s : PSt) (w : World) (hp : PAt w c s) (hG : G w) (HGk : Hid (∀ W W', G W → Chg c.PB W W' → G W')) (HX : Hid (XOk G ex c)) (hgl : c.g < w.heap.size) (HGt : Hid (∀ W, G W → TwTab W)) (hT : 2 ≠ c.PB) (sx : PSt → Tr × PSt) (r : Nat) (HS : Hid (OneOk G 124 sx c r)) (HXI : Hid (ExIs ex c)) (HSI : Hid (SxIs sx c r)) (hr : remF c s ≤ r) : Calls prog 99 #[.pointer (some ⟨c.PB, 0, none⟩)] w (retE c (blockF ex sx c s) w) := by
 have PL := hp.lt;have HP : Hid (PAt w c s) := hp;have HG0 : Hid (G w) := hG;have hlim := hp.wds.lim;have HW : Hid (∀ W, PAt W c s → Calls prog 60 #[pp c] W (retWd (wordF c s) W)) := fun W h => word_any c s W h;have HN : Hid (∀ W, PAt W c s → Calls prog 68 #[pp c, .string ⟨#[123]⟩] W (pret (.tuple #[]) c (needF c s ⟨#[123]⟩) W)) := fun W h => need_any c s _ W h (by decide);have hpg := pg_need c s ⟨#[123]⟩ (by decide);have hrn := rem_need c s ⟨#[123]⟩;unfold blockF;obtain ⟨x, hx⟩ : ∃ y, wordF c s = y := ⟨_, rfl⟩;rw [hx] at HW ⊢;have fa := field_at x.k x.n x.pl x.pc x.s;obtain ⟨s1, hs1⟩ : ∃ y, needF c s ⟨#[123]⟩ = y := ⟨_, rfl⟩;rw [hs1] at HN hpg hrn ⊢;obtain ⟨R, hR⟩ : ∃ R, blockOf ex sx c [] s1 = R := ⟨_, rfl⟩;rw [hR];have HR : Hid (blockOf ex sx c [] s1 = R ∧ (s1.e = 0 → remF c s1 < r) ∧ mzF c s1 ≤ 65538) := ⟨hR, fun he => by have := hpg he; omega, by have := remF_le c s1; unfold mzF; split <;> omega⟩;clear hp hG hx hs1 hR hr hpg hrn
 go_enter func99, ntmps99
 go_wp2_with fail
 refine (HW.out _ HP.out).mono ?_;rintro e wa ⟨rfl, hba⟩;have hsa : w.heap.size ≤ wa.heap.size := hba.size;have gB : wa.heap.size ≠ c.PB := by omega
 have HWA : Hid (PAt (wa.alloc (.cells #[.int .i64 6, .int .i64 x.pl, .int .i64 x.pc, .string ⟨#[]⟩, .string ⟨#[]⟩, .int .i64 0, .string ⟨#[]⟩, .int .i64 0, .bool false, .int .i64 0, .bool false, .slice none 0 0, .int .i64 0, .int .i64 0] 87)) c s ∧ Chg c.PB w (wa.alloc (.cells #[.int .i64 6, .int .i64 x.pl, .int .i64 x.pc, .string ⟨#[]⟩, .string ⟨#[]⟩, .int .i64 0, .string ⟨#[]⟩, .int .i64 0, .bool false, .int .i64 0, .bool false, .slice none 0 0, .int .i64 0, .int .i64 0] 87)) ∧ (wa.alloc (.cells #[.int .i64 6, .int .i64 x.pl, .int .i64 x.pc, .string ⟨#[]⟩, .string ⟨#[]⟩, .int .i64 0, .string ⟨#[]⟩, .int .i64 0, .bool false, .int .i64 0, .bool false, .slice none 0 0, .int .i64 0, .int .i64 0] 87)).heap[wa.heap.size]? = some (.cells #[.int .i64 6, .int .i64 x.pl, .int .i64 x.pc, .string ⟨#[]⟩, .string ⟨#[]⟩, .int .i64 0, .string ⟨#[]⟩, .int .i64 0, .bool false, .int .i64 0, .bool false, .slice none 0 0, .int .i64 0, .int .i64 0] 87 (0, 0))) := by
  have hA : Below wa.heap.size wa (wa.alloc (.cells #[.int .i64 6, .int .i64 x.pl, .int .i64 x.pc, .string ⟨#[]⟩, .string ⟨#[]⟩, .int .i64 0, .string ⟨#[]⟩, .int .i64 0, .bool false, .int .i64 0, .bool false, .slice none 0 0, .int .i64 0, .int .i64 0] 87)) := bel_alloc (Below.refl _ _) _;exact ⟨(HP.out.below hba).below hA, (Chg.of hba).trans (.of hA), World.alloc_heap_new wa _⟩
 clear hba;dsimp only;go_wp2_with fail
 refine (HN.out _ HWA.out.1).mono ?_;rintro e w1 ⟨rfl, hp1, hg1⟩;have HX1 : Hid (PAt w1 c s1 ∧ Chg c.PB w w1 ∧ w1.heap[wa.heap.size]? = some (.cells #[.int .i64 6, .int .i64 x.pl, .int .i64 x.pc, .string ⟨#[]⟩, .string ⟨#[]⟩, .int .i64 0, .string ⟨#[]⟩, .int .i64 0, .bool false, .int .i64 0, .bool false, .slice none 0 0, .int .i64 0, .int .i64 0] 87 (0, 0))) := ⟨hp1, HWA.out.2.1.trans hg1, (hg1.block _ (by simp) gB).trans HWA.out.2.2⟩;clear hp1 hg1 HWA;dsimp only;go_wp2
 go_loopg [11] (mzF c s1) (fun k v11 wr => ∃ (st : PSt) (acc : List Tr) (bs : List Nat) (a : Option Addr) (cap : Nat), mzF c st ≤ k ∧ Hid (PAt wr c st ∧ Chg c.PB w wr ∧ wr.heap[wa.heap.size]? = some (.cells (nodeCells (blockD x) (.slice a acc.length cap) 0) 87 (0, 0)) ∧ PartsAt wr w.heap.size wa.heap.size (.slice a acc.length cap) acc bs ∧ blockOf ex sx c acc st = R ∧ (st.e = 0 → remF c st < r) ∧ acc.length + mzF c st ≤ 65538))
 case atStart => exact ⟨s1, [], [], none, 0, Nat.le_refl _, ⟨HX1.out.1, HX1.out.2.1, HX1.out.2.2, PartsAt.nil _ _ _, HR.out.1, HR.out.2.1, by have := HR.out.2.2; simpa using this⟩⟩
 case round =>
  obtain ⟨st, acc, bs, a, cap, hk, HI⟩ := hrel;clear HX1;have HGO : Hid (∀ W, PAt W c st → Calls prog 95 #[pp c, .string ⟨#[125]⟩] W (retP (.bool (goesF c st ⟨#[125]⟩)) W)) := fun W h => goes_any c st _ W h;have lB : wa.heap.size < wr.heap.size := (zge HI.out.2.2.1).1
  cases hg : goesF c st ⟨#[125]⟩ with
  | false =>
   rw [hg] at HGO;have HRE : Hid (R = (acc, st)) := HI.out.2.2.2.2.1.symm.trans (blockOf_end hg);have hn9 : acc.length ≤ 1000000 := by have := HI.out.2.2.2.2.2.2; omega
   have HN2 : Hid (∀ W, PAt W c st → Calls prog 68 #[pp c, .string ⟨#[125]⟩] W (pret (.tuple #[]) c (needF c st ⟨#[125]⟩) W)) := fun W h => need_any c st _ W h (by decide);obtain ⟨s3, hs3⟩ : ∃ y, needF c st ⟨#[125]⟩ = y := ⟨_, rfl⟩;rw [hs3] at HN2;have HS3 : Hid (needF c st ⟨#[125]⟩ = s3) := hs3;have HF : Hid (∀ W, PAt W c s3 → w.heap.size ≤ W.heap.size → RowAt W w.heap.size W.heap.size a cap acc bs → Calls prog 125 #[pp c, .agg #[.int .i64 6, .int .i64 x.pl, .int .i64 x.pc, .string ⟨#[]⟩, .string ⟨#[]⟩, .int .i64 0, .string ⟨#[]⟩, .int .i64 0, .bool false, .int .i64 0, .bool false, .slice a acc.length cap, .int .i64 0, .int .i64 0]] W (retTr c (growS s3 (blockD x) acc) (growT s3 (blockD x) acc) w.heap.size W)) := fun W h h4 h3 => grow_any c s3 (blockD x) acc bs a cap w.heap.size W h h3 PL hgl h4 hn9;clear hg hs3 hn9;go_wp2_with fail
   refine (HGO.out _ HI.out.1).mono ?_;rintro e w2 ⟨rfl, hb2⟩;have HX2 : Hid (PAt w2 c st ∧ Chg c.PB w w2 ∧ w2.heap[wa.heap.size]? = some (.cells (nodeCells (blockD x) (.slice a acc.length cap) 0) 87 (0, 0)) ∧ PartsAt w2 w.heap.size wa.heap.size (.slice a acc.length cap) acc bs) := ⟨HI.out.1.below hb2, HI.out.2.1.trans (.of hb2), (hb2.block _ lB).trans HI.out.2.2.1, HI.out.2.2.2.1.chg (.of hb2) PL⟩;clear hb2;dsimp only;go_wp2_with fail
   refine (HN2.out _ HX2.out.1).mono ?_;rintro e w3 ⟨rfl, hp3, hg3⟩;have l2 : wa.heap.size < w2.heap.size := (zge HX2.out.2.2.1).1;have b3 : w3.heap[wa.heap.size]? = some (.cells (nodeCells (blockD x) (.slice a acc.length cap) 0) 87 (0, 0)) := (hg3.block _ l2 gB).trans HX2.out.2.2.1;have HX3 : Hid (PAt w3 c s3 ∧ Chg c.PB w w3 ∧ PartsAt w3 w.heap.size wa.heap.size (.slice a acc.length cap) acc bs) := ⟨hp3, HX2.out.2.1.trans hg3, HX2.out.2.2.2.chg hg3 PL⟩;have n0 : w3.cell? ⟨wa.heap.size, 0, none⟩ = some (.int .i64 6) := heap_cell b3 (by simp [nodeCells, blockD, plainD, noSh]);have n1 : w3.cell? ⟨wa.heap.size, 1, none⟩ = some (.int .i64 x.pl) := heap_cell b3 (by simp [nodeCells, blockD, plainD, noSh]);have n2 : w3.cell? ⟨wa.heap.size, 2, none⟩ = some (.int .i64 x.pc) := heap_cell b3 (by simp [nodeCells, blockD, plainD, noSh]);have n3 : w3.cell? ⟨wa.heap.size, 3, none⟩ = some (.string ⟨#[]⟩) := heap_cell b3 (by simp [nodeCells, blockD, plainD, noSh]);have n4 : w3.cell? ⟨wa.heap.size, 4, none⟩ = some (.string ⟨#[]⟩) := heap_cell b3 (by simp [nodeCells, blockD, plainD, noSh]);have n5 : w3.cell? ⟨wa.heap.size, 5, none⟩ = some (.int .i64 0) := heap_cell b3 (by simp [nodeCells, blockD, plainD, noSh]);have n6 : w3.cell? ⟨wa.heap.size, 6, none⟩ = some (.string ⟨#[]⟩) := heap_cell b3 (by simp [nodeCells, blockD, plainD, noSh]);have n7 : w3.cell? ⟨wa.heap.size, 7, none⟩ = some (.int .i64 0) := heap_cell b3 (by simp [nodeCells, blockD, plainD, noSh]);have n8 : w3.cell? ⟨wa.heap.size, 8, none⟩ = some (.bool false) := heap_cell b3 (by simp [nodeCells, blockD, plainD, noSh]);have n9 : w3.cell? ⟨wa.heap.size, 9, none⟩ = some (.int .i64 0) := heap_cell b3 (by simp [nodeCells, blockD, plainD, noSh]);have n10 : w3.cell? ⟨wa.heap.size, 10, none⟩ = some (.bool false) := heap_cell b3 (by simp [nodeCells, blockD, plainD, noSh]);have n11 : w3.cell? ⟨wa.heap.size, 11, none⟩ = some (.slice a acc.length cap) := heap_cell b3 (by simp [nodeCells, blockD, plainD, noSh]);have n12 : w3.cell? ⟨wa.heap.size, 12, none⟩ = some (.int .i64 0) := heap_cell b3 (by simp [nodeCells, blockD, plainD, noSh]);have n13 : w3.cell? ⟨wa.heap.size, 13, none⟩ = some (.int .i64 0) := heap_cell b3 (by simp [nodeCells, blockD, plainD, noSh]);clear hp3 hg3 b3;dsimp only;go_wp2_with fail
   obtain ⟨a9, cap9, e9, hr9⟩ := HX3.out.2.2.row
   injection e9 with e91 e92 e93
   subst e91 e93;have HCF : Hid (Chg c.PB w w3) := HX3.out.2.1;refine (HF.out _ HX3.out.1 HX3.out.2.1.size hr9).mono ?_;clear hr9;rintro e w9 ⟨b9, rfl, ht9, hb9, hp9, hg9⟩;have HF9 : Hid (Top w9 w.heap.size (growT s3 (blockD x) acc) b9 ∧ PAt w9 c (growS s3 (blockD x) acc) ∧ Chg c.PB w w9) := ⟨ht9, hp9, HCF.out.trans hg9⟩;clear ht9 hp9 hg9 hb9;clear n0 n1 n2 n3 n4 n5 n6 n7 n8 n9 n10 n11 n12 n13;dsimp only;go_wp2;go_ret;rw [HRE.out];dsimp only;rw [HS3.out];exact ⟨b9, rfl, HF9.out.1, HF9.out.2.1, HF9.out.2.2⟩
  | true =>
   rw [hg] at HGO;have he0 := goes_e hg;have HE0 : Hid (st.e = 0) := he0;have hrr := HI.out.2.2.2.2.2.1 he0;have hmz := mz_part HXI.out HSI.out st hrr he0;have hmore := (blockOf_more (acc := acc) HXI.out HSI.out hrr hg).symm.trans HI.out.2.2.2.2.1;have hi9 : st.i ≤ 65537 := by have := HI.out.1.lim; omega
   have HBG : Hid (∀ W, PAt W c st → Chg c.PB w W → Calls prog 90 #[pp c, .int .i64 (st.i : Int)] W (fun e W' => e = .returned (.bool (beginF c st st.i)) ∧ W' = W)) := fun W h h2 => begins_any c st st.i W h (HGt.out _ (HGk.out _ _ HG0.out h2)) hi9
   have HLC : Hid (beginF c st st.i = true → ∀ W, PAt W c st → Chg c.PB w W → Calls prog 123 #[pp c] W (retE c (partF ex sx c st) W)) := fun hb W h h2 => by
    unfold partF;rw [if_pos hb];exact local_any G ex c st W h (HGk.out _ _ HG0.out h2) HGk HX (by have := h2.size; omega) HGt hT
   have HSC : Hid (beginF c st st.i = false → ∀ W, PAt W c st → Chg c.PB w W → Calls prog 124 #[pp c] W (retE c (partF ex sx c st) W)) := fun hb W h h2 => by
    unfold partF;rw [if_neg (by rw [hb]; decide)];exact HS.out st W h (HGk.out _ _ HG0.out h2) hrr
   obtain ⟨t5, ht5⟩ : ∃ y, (partF ex sx c st).1 = y := ⟨_, rfl⟩;obtain ⟨s5, hs5⟩ : ∃ y, (partF ex sx c st).2 = y := ⟨_, rfl⟩;have he5 : partF ex sx c st = (t5, s5) := by rw [← ht5, ← hs5]
   rw [he5] at HLC HSC;rw [ht5, hs5] at hmore;rw [hs5] at hmz;have HMO : Hid (mzF c s5 < mzF c st ∧ blockOf ex sx c (acc ++ [t5]) s5 = R ∧ remF c s5 ≤ remF c st) := ⟨hmz.1, hmore, hmz.2⟩;have hn9 : acc.length ≤ 100000 := by have := HI.out.2.2.2.2.2.2; omega
   clear hg he0 hrr hmz hmore ht5 hs5 he5 hi9;go_wp2_with fail
   refine (HGO.out _ HI.out.1).mono ?_;rintro e w2 ⟨rfl, hb2⟩;have HX2 : Hid (PAt w2 c st ∧ Chg c.PB w w2 ∧ w2.heap[wa.heap.size]? = some (.cells (nodeCells (blockD x) (.slice a acc.length cap) 0) 87 (0, 0)) ∧ PartsAt w2 w.heap.size wa.heap.size (.slice a acc.length cap) acc bs) := ⟨HI.out.1.below hb2, HI.out.2.1.trans (.of hb2), (hb2.block _ lB).trans HI.out.2.2.1, HI.out.2.2.2.1.chg (.of hb2) PL⟩;have p3 := HX2.out.1.c3;clear hb2;dsimp only;go_wp2_with fail
   refine (HBG.out _ HX2.out.1 HX2.out.2.1).mono ?_;rintro e w3 ⟨rfl, hw3⟩;subst hw3;have HX4 : Hid (PAt w3 c st ∧ Chg c.PB w w3 ∧ w3.heap[wa.heap.size]? = some (.cells (nodeCells (blockD x) (.slice a acc.length cap) 0) 87 (0, 0)) ∧ PartsAt w3 w.heap.size wa.heap.size (.slice a acc.length cap) acc bs) := HX2;clear p3 HX2;have hsz3 : w.heap.size ≤ w3.heap.size := HX4.out.2.1.size
   cases hbg : beginF c st st.i with
   | true =>
      dsimp only
      go_upto_region 5 with fail
      refine wp_then ?_;refine ap_blockL wa.heap.size w.heap.size acc.length cap a (blockD x) acc bs t5 c st s5 w3 _ _ _ _ _ _ _ _ _ _ _ _ _ _ _ _ _ _ _ _ _ _ _ _ _ _ _ _ _ _ _ _ _ _ _ _ _ _ HX4.out.1 HX4.out.2.2.1 HX4.out.2.2.2 rfl PL hgl hsa hsz3 hn9 (fun W h h2 => HLC.out hbg W h (HX4.out.2.1.trans h2)) ?_;intro y18 y19 y20 y21 y22 y23 y24 W5 q cap2 y hp5 hc5 hb5 hq5;have HX5 : Hid (PAt W5 c s5 ∧ Chg c.PB w W5 ∧ W5.heap[wa.heap.size]? = some (.cells (nodeCells (blockD x) (.slice (some ⟨q, 0, none⟩) (acc.length + 1) cap2) 0) 87 (0, 0)) ∧ PartsAt W5 w.heap.size wa.heap.size (.slice (some ⟨q, 0, none⟩) (acc.length + 1) cap2) (acc ++ [t5]) (bs ++ [y])) := ⟨hp5, hc5.chg HX4.out.2.1 (Nat.le_refl _), hb5, hq5⟩;clear hp5 hc5 hb5 hq5;dsimp only;go_wp2
      go_roundg (mzF c s5)
      case measure => have := HMO.out; omega
      case rel => exact ⟨s5, acc ++ [t5], bs ++ [y], some ⟨q, 0, none⟩, cap2, Nat.le_refl _, ⟨HX5.out.1, HX5.out.2.1, by have h := HX5.out.2.2.1; simpa using h, by have h := HX5.out.2.2.2; simpa using h, HMO.out.2.1, fun he => by have := HMO.out.2.2; have := HI.out.2.2.2.2.2.1 HE0.out; omega, by have := HMO.out.1; have := HI.out.2.2.2.2.2.2; simp; omega⟩⟩
   | false =>
      dsimp only
      go_upto_region 6 with fail
      refine wp_then ?_;refine ap_blockS wa.heap.size w.heap.size acc.length cap a (blockD x) acc bs t5 c st s5 w3 _ _ _ _ _ _ _ _ _ _ _ _ _ _ _ _ _ _ _ _ _ _ _ _ _ _ _ _ _ _ _ _ _ _ _ _ _ _ HX4.out.1 HX4.out.2.2.1 HX4.out.2.2.2 rfl PL hgl hsa hsz3 hn9 (fun W h h2 => HSC.out hbg W h (HX4.out.2.1.trans h2)) ?_;intro y25 y26 y27 y28 y29 y30 y31 W5 q cap2 y hp5 hc5 hb5 hq5;have HX5 : Hid (PAt W5 c s5 ∧ Chg c.PB w W5 ∧ W5.heap[wa.heap.size]? = some (.cells (nodeCells (blockD x) (.slice (some ⟨q, 0, none⟩) (acc.length + 1) cap2) 0) 87 (0, 0)) ∧ PartsAt W5 w.heap.size wa.heap.size (.slice (some ⟨q, 0, none⟩) (acc.length + 1) cap2) (acc ++ [t5]) (bs ++ [y])) := ⟨hp5, hc5.chg HX4.out.2.1 (Nat.le_refl _), hb5, hq5⟩;clear hp5 hc5 hb5 hq5;dsimp only;go_wp2
      go_roundg (mzF c s5)
      case measure => have := HMO.out; omega
      case rel => exact ⟨s5, acc ++ [t5], bs ++ [y], some ⟨q, 0, none⟩, cap2, Nat.le_refl _, ⟨HX5.out.1, HX5.out.2.1, by have h := HX5.out.2.2.1; simpa using h, by have h := HX5.out.2.2.2; simpa using h, HMO.out.2.1, fun he => by have := HMO.out.2.2; have := HI.out.2.2.2.2.2.1 HE0.out; omega, by have := HMO.out.1; have := HI.out.2.2.2.2.2.2; simp; omega⟩⟩
end Go.Proofs.YtlonbaefdffbeaaGreatDoor

