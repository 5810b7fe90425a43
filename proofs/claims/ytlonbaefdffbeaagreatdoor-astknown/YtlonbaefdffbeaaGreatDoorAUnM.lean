import Derived.Test.YtlonbaefdffbeaaGreatDoorABin2
namespace Go.Proofs.YtlonbaefdffbeaaGreatDoor
open Go.ChangeShapes Go.WideShapes Go.ChangeAt Go.RowKit
set_option linter.unusedSimpArgs false
set_option linter.unusedVariables false

def preOps : List ByteArray := [⟨#[45]⟩, ⟨#[126]⟩, ⟨#[33]⟩, ⟨#[42]⟩, ⟨#[38]⟩]
theorem pre_size : SizeOk preOps := by
 have h : preOps.all (fun o => decide (0 < o.size)) = true := by decide
 intro op hp;have h3 := List.all_eq_true.1 h op hp;simpa using h3
def unD (x : Wd) (op : ByteArray) : ND := ⟨20, x.pl, x.pc, ⟨#[]⟩, op, 0, noSh, false, 0⟩
def castD (x : Wd) (t : Sh) : ND := ⟨22, x.pl, x.pc, ⟨#[]⟩, ⟨#[]⟩, 0, t, false, 0⟩
def castB (c : PC) (s : PSt) : Bool := isF c s ⟨#[40]⟩ && beginF c s (s.i + 1)
def castS (c : PC) (s : PSt) : PSt := needF c (typF c { s with i := s.i + 1 }).2 ⟨#[41]⟩
def aheadLoop (c : PC) : Nat → List ND → PSt → List ND × PSt
 | 0, acc, s => (acc, s)
 | f + 1, acc, s => match opF c s preOps with
  | some op => aheadLoop c f (acc ++ [unD (wordF c s) op]) (takeF c s op).2
  | none => if castB c s = true then aheadLoop c f (acc ++ [castD (wordF c s) (typF c { s with i := s.i + 1 }).1]) (castS c s) else (acc, s)
def aheadOf (c : PC) (acc : List ND) (s : PSt) : List ND × PSt := aheadLoop c (remF c s + 1) acc s
def putOn : List ND → Tr → PSt → Tr × PSt
 | [], t, s => (t, s)
 | d :: rest, t, s => putOn rest (growT s d [t]) (growS s d [t])
theorem rem_cast (c : PC) (s : PSt) (h : castB c s = true) : remF c (castS c s) < remF c s := by
 unfold castB at h;have hi := isF_lt c s _ (by decide) (Bool.and_eq_true_iff.1 h).1
 have h1 : remF c { s with i := s.i + 1 } < remF c s := by
  unfold remF;dsimp only;rw [if_pos hi.1, if_pos hi.1]
  omega
 unfold castS;exact Nat.lt_of_le_of_lt (Nat.le_trans (rem_need _ _ _) (rem_typ _ _)) h1
theorem rem_pre (c : PC) (s : PSt) (op : ByteArray) (h : opF c s preOps = some op) : remF c (takeF c s op).2 < remF c s := by
 have hk := opF_take c s preOps op h;exact (takeF_true (pre_size op hk.2) hk.1).2
theorem aheadLoop_fuel (c : PC) : ∀ (f f' : Nat) (acc : List ND) (s : PSt), remF c s < f → remF c s < f' → aheadLoop c f acc s = aheadLoop c f' acc s
 | 0, _, _, _, h, _ => by omega
 | f + 1, 0, _, _, _, h => by omega
 | f + 1, f' + 1, acc, s, h1, h2 => by
  rw [aheadLoop, aheadLoop]
  cases ho : opF c s preOps with
  | some op =>
   have := rem_pre c s op ho;exact aheadLoop_fuel c f f' _ _ (by omega) (by omega)
  | none =>
   dsimp only
   split
   ·rename_i hk
    have := rem_cast c s hk;exact aheadLoop_fuel c f f' _ _ (by omega) (by omega)
   ·rfl
theorem aheadOf_pre {c : PC} {s : PSt} {acc : List ND} {op : ByteArray} (ho : opF c s preOps = some op) : aheadOf c acc s = aheadOf c (acc ++ [unD (wordF c s) op]) (takeF c s op).2 := by
 have := rem_pre c s op ho;unfold aheadOf;rw [aheadLoop, ho];exact aheadLoop_fuel c _ _ _ _ (by omega) (by omega)
theorem aheadOf_cast {c : PC} {s : PSt} {acc : List ND} (ho : opF c s preOps = none) (hk : castB c s = true) : aheadOf c acc s = aheadOf c (acc ++ [castD (wordF c s) (typF c { s with i := s.i + 1 }).1]) (castS c s) := by
 have := rem_cast c s hk;unfold aheadOf;rw [aheadLoop, ho];dsimp only;rw [if_pos hk];exact aheadLoop_fuel c _ _ _ _ (by omega) (by omega)
theorem aheadOf_end {c : PC} {s : PSt} {acc : List ND} (ho : opF c s preOps = none) (hk : castB c s = false) : aheadOf c acc s = (acc, s) := by
 unfold aheadOf;rw [aheadLoop, ho];dsimp only;rw [if_neg (by rw [hk]; decide)]
theorem rem_aheadLoop (c : PC) : ∀ (f : Nat) (acc : List ND) (s : PSt), remF c (aheadLoop c f acc s).2 ≤ remF c s
 | 0, _, _ => Nat.le_refl _
 | f + 1, acc, s => by
  rw [aheadLoop]
  cases ho : opF c s preOps with
  | some op =>
   have := rem_pre c s op ho;have := rem_aheadLoop c f (acc ++ [unD (wordF c s) op]) (takeF c s op).2;dsimp only
   omega
  | none =>
   dsimp only
   split
   ·rename_i hk
    have := rem_cast c s hk;have := rem_aheadLoop c f (acc ++ [castD (wordF c s) (typF c { s with i := s.i + 1 }).1]) (castS c s)
    omega
   ·exact Nat.le_refl _
theorem rem_putOn (c : PC) : ∀ (l : List ND) (t : Tr) (s : PSt), remF c (putOn l t s).2 ≤ remF c s
 | [], _, _ => Nat.le_refl _
 | d :: rest, t, s => Nat.le_trans (rem_putOn c rest _ _) (rem_grow _ _ _ _)
def unF (ex : PSt → Tr × PSt) (c : PC) (s : PSt) : Tr × PSt :=
 let a := aheadOf c [] (enterF c s)
 let e := postF ex c a.2
 let z := putOn a.1.reverse e.1 e.2
 (z.1, leaveF z.2)
theorem rem_enter (c : PC) (s : PSt) : remF c (enterF c s) ≤ remF c s := by
 unfold enterF limF
 split
 ·exact Nat.le_trans (rem_fail _ _ _ _ _) (Nat.le_refl _)
 ·exact Nat.le_refl _
theorem rem_un {ex : PSt → Tr × PSt} {c : PC} {r : Nat} (hm : Goes ex c r) : Goes (unF ex c) c (r + 1) := fun s hr => by
 have h1 := rem_enter c s;have h2 := rem_aheadLoop c (remF c (enterF c s) + 1) [] (enterF c s);have h3 : remF c (aheadOf c [] (enterF c s)).2 ≤ remF c (enterF c s) := h2;have h4 := rem_post hm (aheadOf c [] (enterF c s)).2 (by omega);have h5 := rem_putOn c (aheadOf c [] (enterF c s)).1.reverse (postF ex c (aheadOf c [] (enterF c s)).2).1 (postF ex c (aheadOf c [] (enterF c s)).2).2
 show remF c (putOn (aheadOf c [] (enterF c s)).1.reverse (postF ex c (aheadOf c [] (enterF c s)).2).1 (postF ex c (aheadOf c [] (enterF c s)).2).2).2 ≤ remF c s
 omega
def exN (c : PC) : Nat → PSt → Tr × PSt
 | 0, s => (.mk zeroD [] 0, s)
 | n + 1, s => binF (unF (exN c n) c) c lvOps s
theorem exN_goes (c : PC) : ∀ n, Goes (exN c n) c n
 | 0 => fun s h => by omega
 | n + 1 => rem_bin (rem_un (exN_goes c n)) lvOps lv_size
theorem knot (G : World → Prop) (gb : Nat → Nat × Nat) (c : PC) (HGk : Hid (∀ W W', G W → Chg c.PB W W' → G W')) (HGl : Hid (∀ W, G W → LvTab gb W)) (HGg : Hid (∀ W, G W → c.g < W.heap.size)) (HU : ∀ (ex : PSt → Tr × PSt) (r : Nat), OneOk G 136 ex c r → Goes ex c r → UnOk G (unF ex c) c r) : ∀ n, OneOk G 136 (exN c n) c n
 | 0 => fun s w _ _ h => by omega
 | n + 1 => fun s w hp hG hr => expression_any G gb (unF (exN c n) c) c n HGk HGl (HU (exN c n) n (knot G gb c HGk HGl HGg HU n) (exN_goes c n)) (rem_un (exN_goes c n)) s w hp hG (by omega) (HGg.out w hG)
end Go.Proofs.YtlonbaefdffbeaaGreatDoor
