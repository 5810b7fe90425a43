/- The document's own lexer: Words: a round of its loop that meets no word. -/
import Derived.Test.YtkbihcicnffjdaaDoorLRefW5
namespace Go.Proofs.YtkbihcicnffjdaaDoor
open Go.ChangeShapes Go.WideShapes Go.ChangeAt Go.RowKit
set_option linter.unusedSimpArgs false
set_option linter.unusedVariables false

set_option maxHeartbeats 8000000 in
set_option maxRecDepth 100000 in
theorem rw_mark_bad (t : ByteArray) (i line frm H : Nat) (w1 : World) (z1z z2z z4z z5z z9z z10z z11z z12z z13z z14z z15z z16z z17z z18z z19z z20z z21z z22z z23z z24z z25z z26z z27z z28z z29z z30z z31z z32z z33z z34z z35z z36z z37z z38z z39z z40z z41z z42z z43z z44z z45z z46z z47z z48z z49z z50z z51z z52z z53z z54z z55z z56z z57z z58z z59z z60z z61z z62z z63z z64z z65z z66z z67z z68z z69z z70z z71z z72z z73z z74z z75z z76z z77z z78z z79z z80z z81z z82z z83z z84z z85z z86z z87z z88z z89z z90z z91z z92z z93z z94z z95z z96z z97z z98z z99z z100z z101z z102z z103z z104z z105z z106z z107z z108z z109z z110z z111z z112z z113z z114z z115z z116z z117z z118z z119z z120z z121z z122z z123z z124z z125z z126z z127z z128z z129z z130z z131z z132z z133z z134z z135z z136z z137z z138z z139z z140z z141z z142z z143z z144z z145z z146z z147z z148z z149z z150z z151z z152z z153z z154z z155z z156z z157z z158z z159z z160z z161z z162z z163z z164z z165z z166z z167z z168z z169z z170z z171z z172z z173z z174z z175z z176z z177z z178z z179z z180z z181z z182z z183z z184z z185z z186z z187z z188z z189z z190z z191z z192z z193z z194z z195z z196z z197z z198z z199z z200z z201z z202z z203z z204z z205z z206z z207z z208z z209z z210z z211z z212z z213z z214z z215z z216z z217z z218z z219z z220z z221z z222z z223z z224z z225z z226z z227z z228z z229z z230z z231z z232z z233z z234z z235z z236z z237z z238z z239z z240z z241z z242z z243z : Value) (K : Act → World → Prop) (QQ : Exit → Act → World → Prop) (ht : t.size ≤ 65536) (hi : i < t.size) (HP : Hid (PlaceIs t i line frm))
    (r0 : w1.cell? ⟨H, 0, none⟩ = some (.int .i64 0)) (r1 : w1.cell? ⟨H, 1, none⟩ = some (.int .i64 0)) (f0' : w1.frozen? ⟨H, 0, none⟩ = false) (f1' : w1.frozen? ⟨H, 1, none⟩ = false) (c : Int) (hc : byteAt t i = c) (hb : blankB c = false) (h47 : ¬ c = 47) (hl : letterB c = false) (hd : digitB c = false) (HM : Hid (markP (t.extract i t.size) = ⟨#[]⟩))
    (HQ : Hid (∀ (w5 : World) (y9 y10 y11 y12 y13 y14 y15 y16 y27 y28 y29 y30 y31 y32 y33 y34 y35 y36 y37 y38 y39 y40 y41 y42 y43 y44 y45 y46 y47 y48 y49 y50 y51 y52 y53 y54 y55 y56 y57 y58 y59 y60 y61 y62 y63 y64 y65 y66 y67 y68 y69 y70 y71 y72 y73 y74 y75 y76 y77 y78 y79 y80 y81 y82 y83 y84 y85 y86 y87 y88 y89 y90 y91 y92 y93 y94 y95 y96 y97 y98 y99 y100 y101 y102 y103 y104 y105 y106 y107 y108 y109 y110 y111 y112 y113 y114 y115 y116 y117 y118 y119 y120 y121 y122 y123 y124 y125 y126 y127 y128 y129 y130 y131 y132 y133 y134 y135 y136 y137 y138 y139 y140 y141 y142 y143 y144 y145 y146 y147 y148 y149 y150 y151 y152 y153 y154 y155 y156 y157 y158 y159 y160 y161 y162 y163 y164 y165 y166 y167 y168 y169 y170 y171 y172 y173 y174 y175 y176 y177 y178 y179 y180 y181 y182 y183 y184 y185 y186 y187 y188 y189 y190 y191 y192 y193 y194 y195 y196 y197 y198 y199 y200 y201 y202 y203 y204 y205 y206 y207 y208 y209 y210 y211 y212 y213 y214 y215 y216 y217 y218 y219 y220 y221 y222 y223 y224 y225 y226 y227 y228 y229 y230 y231 y232 y233 y234 y235 y236 y237 y238 y239 y240 y241 : Value), Below w1.heap.size w1 w5 → QQ .ret ⟨#[.string t, z1z, z5z, .pointer (some ⟨H, 0, none⟩), .int .i64 3, z5z, .int .i64 (line : Int), .int .i64 (frm : Int), .int .i64 (i : Int), y9, y10, y11, y12, y13, y14, y15, y16, z17z, z18z, z19z, z20z, z21z, z22z, z23z, z24z, z25z, z26z, y27, y28, y29, y30, y31, y32, y33, y34, y35, y36, y37, y38, y39, y40, y41, y42, y43, y44, y45, y46, y47, y48, y49, y50, y51, y52, y53, y54, y55, y56, y57, y58, y59, y60, y61, y62, y63, y64, y65, y66, y67, y68, y69, y70, y71, y72, y73, y74, y75, y76, y77, y78, y79, y80, y81, y82, y83, y84, y85, y86, y87, y88, y89, y90, y91, y92, y93, y94, y95, y96, y97, y98, y99, y100, y101, y102, y103, y104, y105, y106, y107, y108, y109, y110, y111, y112, y113, y114, y115, y116, y117, y118, y119, y120, y121, y122, y123, y124, y125, y126, y127, y128, y129, y130, y131, y132, y133, y134, y135, y136, y137, y138, y139, y140, y141, y142, y143, y144, y145, y146, y147, y148, y149, y150, y151, y152, y153, y154, y155, y156, y157, y158, y159, y160, y161, y162, y163, y164, y165, y166, y167, y168, y169, y170, y171, y172, y173, y174, y175, y176, y177, y178, y179, y180, y181, y182, y183, y184, y185, y186, y187, y188, y189, y190, y191, y192, y193, y194, y195, y196, y197, y198, y199, y200, y201, y202, y203, y204, y205, y206, y207, y208, y209, y210, y211, y212, y213, y214, y215, y216, y217, y218, y219, y220, y221, y222, y223, y224, y225, y226, y227, y228, y229, y230, y231, y232, y233, y234, y235, y236, y237, y238, y239, y240, y241, z242z, z243z], []⟩ ((w5.setCell ⟨H, 0, none⟩ (.int .i64 (line : Int))).setCell ⟨H, 1, none⟩ (.int .i64 ((posOf t i).2 : Int))).drew)) :
    Code.wp Tryd.prog rwRound (Exit.then K QQ) ⟨#[.string t, z1z, z2z, .pointer (some ⟨H, 0, none⟩), z4z, z5z, .int .i64 (line : Int), .int .i64 (frm : Int), .int .i64 (i : Int), z9z, z10z, z11z, z12z, z13z, z14z, z15z, z16z, z17z, z18z, z19z, z20z, z21z, z22z, z23z, z24z, z25z, z26z, z27z, z28z, z29z, z30z, z31z, z32z, z33z, z34z, z35z, z36z, z37z, z38z, z39z, z40z, z41z, z42z, z43z, z44z, z45z, z46z, z47z, z48z, z49z, z50z, z51z, z52z, z53z, z54z, z55z, z56z, z57z, z58z, z59z, z60z, z61z, z62z, z63z, z64z, z65z, z66z, z67z, z68z, z69z, z70z, z71z, z72z, z73z, z74z, z75z, z76z, z77z, z78z, z79z, z80z, z81z, z82z, z83z, z84z, z85z, z86z, z87z, z88z, z89z, z90z, z91z, z92z, z93z, z94z, z95z, z96z, z97z, z98z, z99z, z100z, z101z, z102z, z103z, z104z, z105z, z106z, z107z, z108z, z109z, z110z, z111z, z112z, z113z, z114z, z115z, z116z, z117z, z118z, z119z, z120z, z121z, z122z, z123z, z124z, z125z, z126z, z127z, z128z, z129z, z130z, z131z, z132z, z133z, z134z, z135z, z136z, z137z, z138z, z139z, z140z, z141z, z142z, z143z, z144z, z145z, z146z, z147z, z148z, z149z, z150z, z151z, z152z, z153z, z154z, z155z, z156z, z157z, z158z, z159z, z160z, z161z, z162z, z163z, z164z, z165z, z166z, z167z, z168z, z169z, z170z, z171z, z172z, z173z, z174z, z175z, z176z, z177z, z178z, z179z, z180z, z181z, z182z, z183z, z184z, z185z, z186z, z187z, z188z, z189z, z190z, z191z, z192z, z193z, z194z, z195z, z196z, z197z, z198z, z199z, z200z, z201z, z202z, z203z, z204z, z205z, z206z, z207z, z208z, z209z, z210z, z211z, z212z, z213z, z214z, z215z, z216z, z217z, z218z, z219z, z220z, z221z, z222z, z223z, z224z, z225z, z226z, z227z, z228z, z229z, z230z, z231z, z232z, z233z, z234z, z235z, z236z, z237z, z238z, z239z, z240z, z241z, z242z, z243z], []⟩ w1 := by
  conv => arg 2; whnf
  have i0 : (0 : Int) ≤ (i : Int) := by omega
  have i9 : (i : Int) < (t.size : Int) := by omega
  have t9 : (t.size : Int) ≤ 65536 := by omega
  have hH : H < w1.heap.size := block_lt_of_cell r0
  have ix := index_byte t i hi
  have f1 : (frm : Int) ≤ (i : Int) := by have := HP.out.2; have : 1 ≤ (posOf t i).2 := pos_one t i; omega
  have ec : (i : Int) - (frm : Int) + 1 = ((posOf t i).2 : Int) := by have := HP.out.2; omega
  have f0 : (0 : Int) ≤ (frm : Int) := by omega
  obtain ⟨pc, hpc⟩ : ∃ pc, (posOf t i).2 = pc := ⟨_, rfl⟩
  rw [hpc] at ec HQ
  have HH : Hid (i < t.size ∧ t.size ≤ 65536) := ⟨hi, ht⟩
  clear hpc
  rw [hc] at ix
  have b4 : ¬ (c = 32 ∨ c = 9 ∨ c = 13 ∨ c = 10) := fun h => by
    unfold blankB at hb
    rcases h with rfl | rfl | rfl | rfl <;> simp at hb
  have q1 : (c == 32) = false := by simp; omega
  have q2 : (c == 9) = false := by simp; omega
  have q3 : (c == 13) = false := by simp; omega
  have q4 : (c == 10) = false := by simp; omega
  have q5 : (c == 47) = false := by simp; omega
  have HF1 : Hid (∀ W, Calls Tryd.prog 15 #[.int .u8 c] W fun e w' => e = .returned (.bool false) ∧ w' = W) := fun W => hl ▸ rletter_any c W
  have HF2 : Hid (∀ W, Calls Tryd.prog 16 #[.int .u8 c] W fun e w' => e = .returned (.bool false) ∧ w' = W) := fun W => hd ▸ rdigit_any c W
  have sx := slice_rest t i (by omega)
  have HF3 : Hid (∀ W, Calls Tryd.prog 19 #[.string (t.extract i t.size)] W (retP (.string ⟨#[]⟩) W)) := fun W => by
    have := mark_any (t.extract i t.size) W (by rw [rest_size t i (by omega)]; omega) (by rw [rest_size t i (by omega)]; omega)
    rw [HM.out] at this
    exact this
  obtain ⟨r, hr⟩ : ∃ r, t.extract i t.size = r := ⟨_, rfl⟩
  rw [hr] at sx HF3
  have HF0 : Hid (w1.cell? ⟨H, 0, none⟩ = some (.int .i64 0) ∧ w1.cell? ⟨H, 1, none⟩ = some (.int .i64 0) ∧ w1.frozen? ⟨H, 0, none⟩ = false ∧ w1.frozen? ⟨H, 1, none⟩ = false) := ⟨r0, r1, f0', f1'⟩
  clear hr hc hb h47 hl hd b4 HM hi ht

  go_wp2_with fail
  refine (HF1.out _).mono ?_
  rintro e w2 ⟨rfl, rfl⟩
  dsimp only
  go_wp2_with fail
  refine (HF2.out _).mono ?_
  rintro e w3 ⟨rfl, rfl⟩
  dsimp only
  go_wp2_with fail
  refine (HF3.out _).mono ?_
  rintro e w5 ⟨rfl, hb5⟩
  have hbl : Below w1.heap.size w1 w5 := bel_trans ((Below.refl _ w1).alloc (Nat.le_refl _) _) hb5
  have HBL : Hid (Below w1.heap.size w1 w5) := hbl
  have a0 : w5.cell? ⟨w1.heap.size, 0, none⟩ = some (.int .i64 (line : Int)) := keep_cell hb5 (by go_simp)
  have a1 : w5.cell? ⟨w1.heap.size, 1, none⟩ = some (.int .i64 (pc : Int)) := keep_cell hb5 (by go_simp)
  have r2 : w5.cell? ⟨H, 0, none⟩ = some (.int .i64 0) := keep_cell hbl HF0.out.1
  have r3 : w5.cell? ⟨H, 1, none⟩ = some (.int .i64 0) := keep_cell hbl HF0.out.2.1
  have f2 : w5.frozen? ⟨H, 0, none⟩ = false := keep_frozen hbl HF0.out.1 HF0.out.2.2.1
  have f3 : w5.frozen? ⟨H, 1, none⟩ = false := keep_frozen hbl HF0.out.2.1 HF0.out.2.2.2
  clear hb5 hbl
  dsimp only
  go_wp2_with go_region
  exact HQ.out _ _ _ _ _ _ _ _ _ _ _ _ _ _ _ _ _ _ _ _ _ _ _ _ _ _ _ _ _ _ _ _ _ _ _ _ _ _ _ _ _ _ _ _ _ _ _ _ _ _ _ _ _ _ _ _ _ _ _ _ _ _ _ _ _ _ _ _ _ _ _ _ _ _ _ _ _ _ _ _ _ _ _ _ _ _ _ _ _ _ _ _ _ _ _ _ _ _ _ _ _ _ _ _ _ _ _ _ _ _ _ _ _ _ _ _ _ _ _ _ _ _ _ _ _ _ _ _ _ _ _ _ _ _ _ _ _ _ _ _ _ _ _ _ _ _ _ _ _ _ _ _ _ _ _ _ _ _ _ _ _ _ _ _ _ _ _ _ _ _ _ _ _ _ _ _ _ _ _ _ _ _ _ _ _ _ _ _ _ _ _ _ _ _ _ _ _ _ _ _ _ _ _ _ _ _ _ _ _ _ _ _ _ _ _ _ _ _ _ _ _ _ _ _ HBL.out
end Go.Proofs.YtkbihcicnffjdaaDoor
