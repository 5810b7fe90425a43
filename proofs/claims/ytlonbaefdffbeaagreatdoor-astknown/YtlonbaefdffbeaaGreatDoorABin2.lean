import Derived.Test.YtlonbaefdffbeaaGreatDoorABin
namespace Go.Proofs.YtlonbaefdffbeaaGreatDoor
open Go.ChangeShapes Go.WideShapes Go.ChangeAt Go.RowKit Go.Proofs.Tryz
set_option linter.unusedSimpArgs false
set_option linter.unusedVariables false
set_option maxRecDepth 20000
set_option maxHeartbeats 2000000

def UnOk (G : World → Prop) (un : PSt → Tr × PSt) (c : PC) (r : Nat) : Prop := ∀ (s : PSt) (w : World), PAt w c s → G w → remF c s ≤ r → c.g < w.heap.size → Calls prog 167 #[pp c] w (retE c (un s) w)
theorem binary_top (G : World → Prop) (un : PSt → Tr × PSt) (c : PC) (r : Nat) (HU : Hid (UnOk G un c r)) : BinOk G un c r 10 := by
 intro s w hp hG hr hgl;have HC : Hid (Calls prog 167 #[.pointer (some ⟨c.PB, 0, none⟩)] w (retE c (un s) w)) := HU.out s w hp hG hr hgl;clear hp hG hr hgl
 go_enter func156, ntmps156
 go_wp2
 go_step3
 go_wp2_with fail
 refine HC.out.mono ?_;rintro e w1 ⟨b1, rfl, ht1, hp1, hg1⟩;have HF : Hid (Top w1 w.heap.size (un s).1 b1 ∧ PAt w1 c (un s).2 ∧ Chg c.PB w w1) := ⟨ht1, hp1, hg1⟩;clear ht1 hp1 hg1;dsimp only;go_wp2
 try rw [Exit.noGoto_ret]
 go_ret;exact ⟨b1, rfl, HF.out.1, HF.out.2.1, HF.out.2.2⟩
theorem binary_any (G : World → Prop) (gb : Nat → Nat × Nat) (un : PSt → Tr × PSt) (c : PC) (r : Nat) (HGk : Hid (∀ W W', G W → Chg c.PB W W' → G W')) (HGl : Hid (∀ W, G W → LvTab gb W)) (HU : Hid (UnOk G un c r)) (hm : Goes un c (r + 1)) : ∀ k l : Nat, l + k = 10 → BinOk G (binF un c (lvOps.drop l)) c r (l : Int)
 | 0, l, h => by
  have hl : l = 10 := by omega
  subst hl;exact binary_top G un c r HU
 | k + 1, l, h => by
  have hl : l < lvOps.length := by show l < 10; omega
  have ih := binary_any G gb un c r HGk HGl HU hm k (l + 1) (by omega);have he : lvOps.drop l = lvOps[l] :: lvOps.drop (l + 1) := List.drop_eq_getElem_cons hl;have hg : Goes (binF un c (lvOps.drop (l + 1))) c (r + 1) := rem_bin hm _ (fun o ho => lv_size o (List.mem_of_mem_drop ho));have ih2 : BinOk G (binF un c (lvOps.drop (l + 1))) c r ((l : Int) + 1) := by simpa using ih
  intro s w hp hG hr hgl;rw [he, binF];exact binary_step G gb (binF un c (lvOps.drop (l + 1))) c s r l lvOps[l] w hp hG HGk HGl (List.getElem?_eq_getElem hl) ih2 hg hr hgl
theorem expression_any (G : World → Prop) (gb : Nat → Nat × Nat) (un : PSt → Tr × PSt) (c : PC) (r : Nat) (HGk : Hid (∀ W W', G W → Chg c.PB W W' → G W')) (HGl : Hid (∀ W, G W → LvTab gb W)) (HU : Hid (UnOk G un c r)) (hm : Goes un c (r + 1)) (s : PSt) (w : World) (hp : PAt w c s) (hG : G w) (hr : remF c s ≤ r) (hgl : c.g < w.heap.size) : Calls prog 136 #[.pointer (some ⟨c.PB, 0, none⟩)] w (retE c (binF un c lvOps s) w) := by
 have HC : Hid (Calls prog 156 #[.pointer (some ⟨c.PB, 0, none⟩), .int .i64 0] w (retE c (binF un c lvOps s) w)) := binary_any G gb un c r HGk HGl HU hm 10 0 rfl s w hp hG hr hgl;clear hp hG hr hgl hm
 go_enter func136, ntmps136
 go_wp2_with fail
 refine HC.out.mono ?_;rintro e w1 ⟨b1, rfl, ht1, hp1, hg1⟩;have HF : Hid (Top w1 w.heap.size (binF un c lvOps s).1 b1 ∧ PAt w1 c (binF un c lvOps s).2 ∧ Chg c.PB w w1) := ⟨ht1, hp1, hg1⟩;clear ht1 hp1 hg1;dsimp only;go_wp2;go_ret;exact ⟨b1, rfl, HF.out.1, HF.out.2.1, HF.out.2.2⟩
end Go.Proofs.YtlonbaefdffbeaaGreatDoor
