/- The document's own lexer: Words: a round of its loop that meets a name that is too long, a number that is none. -/
import Derived.Test.YtkbihcicnffjdaaDoorLRefW7
namespace Go.Proofs.YtkbihcicnffjdaaDoor
open Go.ChangeShapes Go.WideShapes Go.ChangeAt Go.RowKit
set_option linter.unusedSimpArgs false
set_option linter.unusedVariables false

set_option maxHeartbeats 8000000 in
set_option maxRecDepth 100000 in
theorem rw_name_long (t : ByteArray) (i line frm H : Nat) (w1 : World) (z1z z2z z4z z5z z9z z10z z11z z12z z13z z14z z15z z16z z17z z18z z19z z20z z21z z22z z23z z24z z25z z26z z27z z28z z29z z30z z31z z32z z33z z34z z35z z36z z37z z38z z39z z40z z41z z42z z43z z44z z45z z46z z47z z48z z49z z50z z51z z52z z53z z54z z55z z56z z57z z58z z59z z60z z61z z62z z63z z64z z65z z66z z67z z68z z69z z70z z71z z72z z73z z74z z75z z76z z77z z78z z79z z80z z81z z82z z83z z84z z85z z86z z87z z88z z89z z90z z91z z92z z93z z94z z95z z96z z97z z98z z99z z100z z101z z102z z103z z104z z105z z106z z107z z108z z109z z110z z111z z112z z113z z114z z115z z116z z117z z118z z119z z120z z121z z122z z123z z124z z125z z126z z127z z128z z129z z130z z131z z132z z133z z134z z135z z136z z137z z138z z139z z140z z141z z142z z143z z144z z145z z146z z147z z148z z149z z150z z151z z152z z153z z154z z155z z156z z157z z158z z159z z160z z161z z162z z163z z164z z165z z166z z167z z168z z169z z170z z171z z172z z173z z174z z175z z176z z177z z178z z179z z180z z181z z182z z183z z184z z185z z186z z187z z188z z189z z190z z191z z192z z193z z194z z195z z196z z197z z198z z199z z200z z201z z202z z203z z204z z205z z206z z207z z208z z209z z210z z211z z212z z213z z214z z215z z216z z217z z218z z219z z220z z221z z222z z223z z224z z225z z226z z227z z228z z229z z230z z231z z232z z233z z234z z235z z236z z237z z238z z239z z240z z241z z242z z243z : Value) (K : Act → World → Prop) (QQ : Exit → Act → World → Prop) (ht : t.size ≤ 65536) (hi : i < t.size) (HP : Hid (PlaceIs t i line frm))
    (r0 : w1.cell? ⟨H, 0, none⟩ = some (.int .i64 0)) (r1 : w1.cell? ⟨H, 1, none⟩ = some (.int .i64 0)) (f0' : w1.frozen? ⟨H, 0, none⟩ = false) (f1' : w1.frozen? ⟨H, 1, none⟩ = false) (m : Nat) (s : ByteArray) (c : Int) (hc : byteAt t i = c) (hl : letterB c = true) (hm1 : 1 ≤ nameRun (t.data.toList.drop i)) (hm : nameRun (t.data.toList.drop i) = m) (hmt : i + m ≤ t.size) (hs : t.extract i (i + m) = s) (h40 : 40 < m)
    (HQ : Hid (∀ (w5 : World) (y9 y10 y11 y12 y13 y14 y15 y16 y27 y28 y29 y30 y31 y32 y33 y34 y35 y36 y37 y38 y39 y40 y41 y42 y43 y44 y45 y46 y47 y48 y49 y50 y51 y52 y53 y54 y55 y56 y57 y58 y59 y60 y61 y62 y63 y64 y65 y66 y67 y68 y69 y70 y71 y72 y73 y74 y75 y76 y77 y78 y79 y80 y81 y82 y83 y84 y85 y86 y87 y88 y89 y90 y91 y92 y93 y94 y95 y96 y97 y98 y99 y100 y101 y102 y103 y104 y105 y106 y107 y108 y109 y110 y111 y112 y113 y114 y115 y116 y117 y118 y119 y120 y121 y122 y123 y124 y125 y126 y127 y128 y129 y130 y131 y132 y133 y134 y135 y136 y137 y138 y139 y140 y141 y142 y143 y144 y145 y146 y147 y148 y149 y150 y151 y152 y153 y154 y155 y156 y157 y158 y159 y160 y161 y162 y163 y164 y165 y166 y167 y168 y169 y170 y171 y172 y173 y174 y175 y176 y177 y178 y179 y180 y181 y182 y183 y184 y185 y186 y187 y188 y189 y190 y191 y192 y193 y194 y195 y196 y197 y198 y199 y200 y201 y202 y203 y204 y205 y206 y207 y208 y209 y210 y211 y212 y213 y214 y215 y216 y217 y218 y219 y220 y221 y222 y223 y224 y225 y226 y227 y228 y229 y230 y231 y232 y233 y234 y235 y236 y237 y238 y239 y240 y241 : Value), Below w1.heap.size w1 w5 → QQ .ret ⟨#[.string t, z1z, z5z, .pointer (some ⟨H, 0, none⟩), .int .i64 3, z5z, .int .i64 (line : Int), .int .i64 (frm : Int), .int .i64 (i : Int), y9, y10, y11, y12, y13, y14, y15, y16, z17z, z18z, z19z, z20z, z21z, z22z, z23z, z24z, z25z, z26z, y27, y28, y29, y30, y31, y32, y33, y34, y35, y36, y37, y38, y39, y40, y41, y42, y43, y44, y45, y46, y47, y48, y49, y50, y51, y52, y53, y54, y55, y56, y57, y58, y59, y60, y61, y62, y63, y64, y65, y66, y67, y68, y69, y70, y71, y72, y73, y74, y75, y76, y77, y78, y79, y80, y81, y82, y83, y84, y85, y86, y87, y88, y89, y90, y91, y92, y93, y94, y95, y96, y97, y98, y99, y100, y101, y102, y103, y104, y105, y106, y107, y108, y109, y110, y111, y112, y113, y114, y115, y116, y117, y118, y119, y120, y121, y122, y123, y124, y125, y126, y127, y128, y129, y130, y131, y132, y133, y134, y135, y136, y137, y138, y139, y140, y141, y142, y143, y144, y145, y146, y147, y148, y149, y150, y151, y152, y153, y154, y155, y156, y157, y158, y159, y160, y161, y162, y163, y164, y165, y166, y167, y168, y169, y170, y171, y172, y173, y174, y175, y176, y177, y178, y179, y180, y181, y182, y183, y184, y185, y186, y187, y188, y189, y190, y191, y192, y193, y194, y195, y196, y197, y198, y199, y200, y201, y202, y203, y204, y205, y206, y207, y208, y209, y210, y211, y212, y213, y214, y215, y216, y217, y218, y219, y220, y221, y222, y223, y224, y225, y226, y227, y228, y229, y230, y231, y232, y233, y234, y235, y236, y237, y238, y239, y240, y241, z242z, z243z], []⟩ ((w5.setCell ⟨H, 0, none⟩ (.int .i64 (line : Int))).setCell ⟨H, 1, none⟩ (.int .i64 ((posOf t i).2 : Int))).drew)) :
    Code.wp Tryd.prog rwRound (Exit.then K QQ) ⟨#[.string t, z1z, z2z, .pointer (some ⟨H, 0, none⟩), z4z, z5z, .int .i64 (line : Int), .int .i64 (frm : Int), .int .i64 (i : Int), z9z, z10z, z11z, z12z, z13z, z14z, z15z, z16z, z17z, z18z, z19z, z20z, z21z, z22z, z23z, z24z, z25z, z26z, z27z, z28z, z29z, z30z, z31z, z32z, z33z, z34z, z35z, z36z, z37z, z38z, z39z, z40z, z41z, z42z, z43z, z44z, z45z, z46z, z47z, z48z, z49z, z50z, z51z, z52z, z53z, z54z, z55z, z56z, z57z, z58z, z59z, z60z, z61z, z62z, z63z, z64z, z65z, z66z, z67z, z68z, z69z, z70z, z71z, z72z, z73z, z74z, z75z, z76z, z77z, z78z, z79z, z80z, z81z, z82z, z83z, z84z, z85z, z86z, z87z, z88z, z89z, z90z, z91z, z92z, z93z, z94z, z95z, z96z, z97z, z98z, z99z, z100z, z101z, z102z, z103z, z104z, z105z, z106z, z107z, z108z, z109z, z110z, z111z, z112z, z113z, z114z, z115z, z116z, z117z, z118z, z119z, z120z, z121z, z122z, z123z, z124z, z125z, z126z, z127z, z128z, z129z, z130z, z131z, z132z, z133z, z134z, z135z, z136z, z137z, z138z, z139z, z140z, z141z, z142z, z143z, z144z, z145z, z146z, z147z, z148z, z149z, z150z, z151z, z152z, z153z, z154z, z155z, z156z, z157z, z158z, z159z, z160z, z161z, z162z, z163z, z164z, z165z, z166z, z167z, z168z, z169z, z170z, z171z, z172z, z173z, z174z, z175z, z176z, z177z, z178z, z179z, z180z, z181z, z182z, z183z, z184z, z185z, z186z, z187z, z188z, z189z, z190z, z191z, z192z, z193z, z194z, z195z, z196z, z197z, z198z, z199z, z200z, z201z, z202z, z203z, z204z, z205z, z206z, z207z, z208z, z209z, z210z, z211z, z212z, z213z, z214z, z215z, z216z, z217z, z218z, z219z, z220z, z221z, z222z, z223z, z224z, z225z, z226z, z227z, z228z, z229z, z230z, z231z, z232z, z233z, z234z, z235z, z236z, z237z, z238z, z239z, z240z, z241z, z242z, z243z], []⟩ w1 := by
  conv => arg 2; whnf
  have i0 : (0 : Int) ≤ (i : Int) := by omega
  have i9 : (i : Int) < (t.size : Int) := by omega
  have t9 : (t.size : Int) ≤ 65536 := by omega
  have hH : H < w1.heap.size := block_lt_of_cell r0
  have ix := index_byte t i hi
  have f1 : (frm : Int) ≤ (i : Int) := by have := HP.out.2; have : 1 ≤ (posOf t i).2 := pos_one t i; omega
  have ec : (i : Int) - (frm : Int) + 1 = ((posOf t i).2 : Int) := by have := HP.out.2; omega
  have f0 : (0 : Int) ≤ (frm : Int) := by omega
  obtain ⟨pc, hpc⟩ : ∃ pc, (posOf t i).2 = pc := ⟨_, rfl⟩
  rw [hpc] at ec HQ
  have HH : Hid (i < t.size ∧ t.size ≤ 65536) := ⟨hi, ht⟩
  have HF0 : Hid (w1.cell? ⟨H, 0, none⟩ = some (.int .i64 0) ∧ w1.cell? ⟨H, 1, none⟩ = some (.int .i64 0) ∧ w1.frozen? ⟨H, 0, none⟩ = false ∧ w1.frozen? ⟨H, 1, none⟩ = false) := ⟨r0, r1, f0', f1'⟩
  have hcc : True := trivial
  have hbs : True := trivial
  clear hpc
  obtain ⟨hd, hb, h47⟩ := letter_not c hl
  rw [hc] at ix
  have b4 : ¬ (c = 32 ∨ c = 9 ∨ c = 13 ∨ c = 10) := fun h => by
    unfold blankB at hb
    rcases h with rfl | rfl | rfl | rfl <;> simp at hb
  have q1 : (c == 32) = false := by simp; omega
  have q2 : (c == 9) = false := by simp; omega
  have q3 : (c == 13) = false := by simp; omega
  have q4 : (c == 10) = false := by simp; omega
  have q5 : (c == 47) = false := by simp; omega
  have HF1 : Hid (∀ W, Calls Tryd.prog 15 #[.int .u8 c] W fun e w' => e = .returned (.bool true) ∧ w' = W) := fun W => hl ▸ rletter_any c W
  have HF2 : Hid (∀ W, Calls Tryd.prog 16 #[.int .u8 c] W fun e w' => e = .returned (.bool false) ∧ w' = W) := fun W => hd ▸ rdigit_any c W
  have HNR : Hid (1 ≤ nameRun (t.data.toList.drop i) ∧ nameRun (t.data.toList.drop i) = m) := ⟨hm1, hm⟩
  have HLE : Hid (i + m ≤ t.size) := hmt
  have m0 : (0 : Int) < (m : Int) := by omega
  have m9 : (i : Int) + (m : Int) ≤ 65536 := by omega
  have m8 : (m : Int) ≤ 65536 := by omega
  have wx : IntKind.i64.wrap ((i : Int) + (m : Int)) = (i : Int) + (m : Int) := by rw [IntKind.wrap_i64]; omega
  have sx : ∀ W, (Instr.slice 9 (.string t) (some (.int .i64 (i : Int))) (some (.int .i64 ((i : Int) + (m : Int)))) none).run Tryd.prog W = .ok (.string s) W := fun W => by
    rw [run_slice_string_if W 9 t .i64 .i64 _ _ Tryd.underlying9, if_pos ⟨by omega, by omega⟩, if_pos ⟨by omega, by omega⟩]
    have e1 : ((i : Int)).toNat = i := by omega
    have e2 : ((i : Int) + (m : Int)).toNat = i + m := by omega
    rw [e1, e2, hs]
  have HSZ : Hid (s.size = m) := by
    show _ = _
    rw [← hs, ← size_list, ext_list, List.length_take, List.length_drop, size_list]
    omega
  have m40 : (40 : Int) < (m : Int) := by omega
  clear h40

  clear hc hl hd hb b4 h47 hm hm1 hmt hs hi ht hcc hbs
  go_wp2_with fail
  refine (HF1.out _).mono ?_
  rintro e w2 ⟨rfl, rfl⟩
  dsimp only
  go_wp2_with fail
  refine rw_loop4 t i 1 _ _ _ _ _ _ _ _ _ _ _ _ _ _ _ _ _ _ _ _ _ _ _ _ _ _ _ _ _ _ _ _ _ _ _ _ _ _ _ _ _ _ _ _ _ _ _ _ _ _ _ _ _ _ _ _ _ _ _ _ _ _ _ _ _ _ _ _ _ _ _ _ _ _ _ _ _ _ _ _ _ _ _ _ _ _ _ _ _ _ _ _ _ _ _ _ _ _ _ _ _ _ _ _ _ _ _ _ _ _ _ _ _ _ _ _ _ _ _ _ _ _ _ _ _ _ _ _ _ _ _ _ _ _ _ _ _ _ _ _ _ _ _ _ _ _ _ _ _ _ _ _ _ _ _ _ _ _ _ _ _ _ _ _ _ _ _ _ _ _ _ _ _ _ _ _ _ _ _ _ _ _ _ _ _ _ _ _ _ _ _ _ _ _ _ _ _ _ _ _ _ _ _ _ _ _ _ _ _ _ _ _ _ _ _ _ _ _ _ _ _ _ _ _ _ _ _ _ _ _ _ _ _ _ _ _ _ _ _ _ _ _ _ HH.out.2 (by have := HH.out; omega) HNR.out.1 ?_
  intro n' x164 x165 x166 x167 x168 x169 x170 x171 x172 x173 x174 x175 x176 x177 x178 x179 x180 x181 x182 x183 x184 x185 x186 x187 hn'
  obtain rfl : n' = m := hn'.trans HNR.out.2
  clear hn'
  go_wp2_with go_region
  refine (HF2.out _).mono ?_
  rintro e w3 ⟨rfl, hw3⟩
  have hbl : Below w1.heap.size w1 w3 := by
    rw [hw3]
    (repeat (first | with_reducible exact Below.refl _ _ | with_reducible refine bel_alloc ?_ _ | with_reducible refine bel_set ?_ (by first | exact Nat.le_refl _ | (simp; done) | (simp; omega)) _ | with_reducible refine Below.drew ?_))
  have a0 : w3.cell? ⟨w1.heap.size, 0, none⟩ = some (.int .i64 (line : Int)) := by rw [hw3]; go_simp
  have a1 : w3.cell? ⟨w1.heap.size, 1, none⟩ = some (.int .i64 (pc : Int)) := by rw [hw3]; go_simp
  have b0 : w3.cell? ⟨w1.heap.size + 1, 0, none⟩ = some (.int .i64 1) := by rw [hw3]; go_simp
  have b1 : w3.cell? ⟨w1.heap.size + 1, 1, none⟩ = some (.string s) := by rw [hw3]; go_simp
  have b2 : w3.cell? ⟨w1.heap.size + 1, 2, none⟩ = some (.int .i64 0) := by rw [hw3]; go_simp
  have b3 : w3.cell? ⟨w1.heap.size + 1, 3, none⟩ = some (.int .i64 (line : Int)) := by rw [hw3]; go_simp
  have b4 : w3.cell? ⟨w1.heap.size + 1, 4, none⟩ = some (.int .i64 (pc : Int)) := by rw [hw3]; go_simp
  have fz0 : w3.frozen? ⟨w1.heap.size + 1, 0, none⟩ = false := by rw [hw3]; go_simp
  have fz2 : w3.frozen? ⟨w1.heap.size + 1, 2, none⟩ = false := by rw [hw3]; go_simp
  have HB3 : Hid (Below w1.heap.size w1 w3) := hbl
  clear hw3 hbl
  dsimp only
  have r2 : w3.cell? ⟨H, 0, none⟩ = some (.int .i64 0) := keep_cell HB3.out HF0.out.1
  have r3 : w3.cell? ⟨H, 1, none⟩ = some (.int .i64 0) := keep_cell HB3.out HF0.out.2.1
  have f2 : w3.frozen? ⟨H, 0, none⟩ = false := keep_frozen HB3.out HF0.out.1 HF0.out.2.2.1
  have f3 : w3.frozen? ⟨H, 1, none⟩ = false := keep_frozen HB3.out HF0.out.2.1 HF0.out.2.2.2
  have hsz : w1.heap.size ≤ w3.heap.size := HB3.out.size
  clear r0 r1 f0' f1'
  go_wp2_with go_region
  exact HQ.out _ _ _ _ _ _ _ _ _ _ _ _ _ _ _ _ _ _ _ _ _ _ _ _ _ _ _ _ _ _ _ _ _ _ _ _ _ _ _ _ _ _ _ _ _ _ _ _ _ _ _ _ _ _ _ _ _ _ _ _ _ _ _ _ _ _ _ _ _ _ _ _ _ _ _ _ _ _ _ _ _ _ _ _ _ _ _ _ _ _ _ _ _ _ _ _ _ _ _ _ _ _ _ _ _ _ _ _ _ _ _ _ _ _ _ _ _ _ _ _ _ _ _ _ _ _ _ _ _ _ _ _ _ _ _ _ _ _ _ _ _ _ _ _ _ _ _ _ _ _ _ _ _ _ _ _ _ _ _ _ _ _ _ _ _ _ _ _ _ _ _ _ _ _ _ _ _ _ _ _ _ _ _ _ _ _ _ _ _ _ _ _ _ _ _ _ _ _ _ _ _ _ _ _ _ _ _ _ _ _ _ _ _ _ _ _ _ _ _ _ _ _ _ _ HB3.out
set_option maxHeartbeats 8000000 in
set_option maxRecDepth 100000 in
theorem rw_num_bad (t : ByteArray) (i line frm H : Nat) (w1 : World) (z1z z2z z4z z5z z9z z10z z11z z12z z13z z14z z15z z16z z17z z18z z19z z20z z21z z22z z23z z24z z25z z26z z27z z28z z29z z30z z31z z32z z33z z34z z35z z36z z37z z38z z39z z40z z41z z42z z43z z44z z45z z46z z47z z48z z49z z50z z51z z52z z53z z54z z55z z56z z57z z58z z59z z60z z61z z62z z63z z64z z65z z66z z67z z68z z69z z70z z71z z72z z73z z74z z75z z76z z77z z78z z79z z80z z81z z82z z83z z84z z85z z86z z87z z88z z89z z90z z91z z92z z93z z94z z95z z96z z97z z98z z99z z100z z101z z102z z103z z104z z105z z106z z107z z108z z109z z110z z111z z112z z113z z114z z115z z116z z117z z118z z119z z120z z121z z122z z123z z124z z125z z126z z127z z128z z129z z130z z131z z132z z133z z134z z135z z136z z137z z138z z139z z140z z141z z142z z143z z144z z145z z146z z147z z148z z149z z150z z151z z152z z153z z154z z155z z156z z157z z158z z159z z160z z161z z162z z163z z164z z165z z166z z167z z168z z169z z170z z171z z172z z173z z174z z175z z176z z177z z178z z179z z180z z181z z182z z183z z184z z185z z186z z187z z188z z189z z190z z191z z192z z193z z194z z195z z196z z197z z198z z199z z200z z201z z202z z203z z204z z205z z206z z207z z208z z209z z210z z211z z212z z213z z214z z215z z216z z217z z218z z219z z220z z221z z222z z223z z224z z225z z226z z227z z228z z229z z230z z231z z232z z233z z234z z235z z236z z237z z238z z239z z240z z241z z242z z243z : Value) (K : Act → World → Prop) (QQ : Exit → Act → World → Prop) (ht : t.size ≤ 65536) (hi : i < t.size) (HP : Hid (PlaceIs t i line frm))
    (r0 : w1.cell? ⟨H, 0, none⟩ = some (.int .i64 0)) (r1 : w1.cell? ⟨H, 1, none⟩ = some (.int .i64 0)) (f0' : w1.frozen? ⟨H, 0, none⟩ = false) (f1' : w1.frozen? ⟨H, 1, none⟩ = false) (m : Nat) (s : ByteArray) (c : Int) (hc : byteAt t i = c) (hd : digitB c = true) (hm1 : 1 ≤ nameRun (t.data.toList.drop i)) (hm : nameRun (t.data.toList.drop i) = m) (hmt : i + m ≤ t.size) (hs : t.extract i (i + m) = s) (hsd : digitB (byteAt s 0) = true) (hnw : (numW s).2 = false)
    (HQ : Hid (∀ (w5 : World) (y9 y10 y11 y12 y13 y14 y15 y16 y27 y28 y29 y30 y31 y32 y33 y34 y35 y36 y37 y38 y39 y40 y41 y42 y43 y44 y45 y46 y47 y48 y49 y50 y51 y52 y53 y54 y55 y56 y57 y58 y59 y60 y61 y62 y63 y64 y65 y66 y67 y68 y69 y70 y71 y72 y73 y74 y75 y76 y77 y78 y79 y80 y81 y82 y83 y84 y85 y86 y87 y88 y89 y90 y91 y92 y93 y94 y95 y96 y97 y98 y99 y100 y101 y102 y103 y104 y105 y106 y107 y108 y109 y110 y111 y112 y113 y114 y115 y116 y117 y118 y119 y120 y121 y122 y123 y124 y125 y126 y127 y128 y129 y130 y131 y132 y133 y134 y135 y136 y137 y138 y139 y140 y141 y142 y143 y144 y145 y146 y147 y148 y149 y150 y151 y152 y153 y154 y155 y156 y157 y158 y159 y160 y161 y162 y163 y164 y165 y166 y167 y168 y169 y170 y171 y172 y173 y174 y175 y176 y177 y178 y179 y180 y181 y182 y183 y184 y185 y186 y187 y188 y189 y190 y191 y192 y193 y194 y195 y196 y197 y198 y199 y200 y201 y202 y203 y204 y205 y206 y207 y208 y209 y210 y211 y212 y213 y214 y215 y216 y217 y218 y219 y220 y221 y222 y223 y224 y225 y226 y227 y228 y229 y230 y231 y232 y233 y234 y235 y236 y237 y238 y239 y240 y241 : Value), Below w1.heap.size w1 w5 → QQ .ret ⟨#[.string t, z1z, z5z, .pointer (some ⟨H, 0, none⟩), .int .i64 3, z5z, .int .i64 (line : Int), .int .i64 (frm : Int), .int .i64 (i : Int), y9, y10, y11, y12, y13, y14, y15, y16, z17z, z18z, z19z, z20z, z21z, z22z, z23z, z24z, z25z, z26z, y27, y28, y29, y30, y31, y32, y33, y34, y35, y36, y37, y38, y39, y40, y41, y42, y43, y44, y45, y46, y47, y48, y49, y50, y51, y52, y53, y54, y55, y56, y57, y58, y59, y60, y61, y62, y63, y64, y65, y66, y67, y68, y69, y70, y71, y72, y73, y74, y75, y76, y77, y78, y79, y80, y81, y82, y83, y84, y85, y86, y87, y88, y89, y90, y91, y92, y93, y94, y95, y96, y97, y98, y99, y100, y101, y102, y103, y104, y105, y106, y107, y108, y109, y110, y111, y112, y113, y114, y115, y116, y117, y118, y119, y120, y121, y122, y123, y124, y125, y126, y127, y128, y129, y130, y131, y132, y133, y134, y135, y136, y137, y138, y139, y140, y141, y142, y143, y144, y145, y146, y147, y148, y149, y150, y151, y152, y153, y154, y155, y156, y157, y158, y159, y160, y161, y162, y163, y164, y165, y166, y167, y168, y169, y170, y171, y172, y173, y174, y175, y176, y177, y178, y179, y180, y181, y182, y183, y184, y185, y186, y187, y188, y189, y190, y191, y192, y193, y194, y195, y196, y197, y198, y199, y200, y201, y202, y203, y204, y205, y206, y207, y208, y209, y210, y211, y212, y213, y214, y215, y216, y217, y218, y219, y220, y221, y222, y223, y224, y225, y226, y227, y228, y229, y230, y231, y232, y233, y234, y235, y236, y237, y238, y239, y240, y241, z242z, z243z], []⟩ ((w5.setCell ⟨H, 0, none⟩ (.int .i64 (line : Int))).setCell ⟨H, 1, none⟩ (.int .i64 ((posOf t i).2 : Int))).drew)) :
    Code.wp Tryd.prog rwRound (Exit.then K QQ) ⟨#[.string t, z1z, z2z, .pointer (some ⟨H, 0, none⟩), z4z, z5z, .int .i64 (line : Int), .int .i64 (frm : Int), .int .i64 (i : Int), z9z, z10z, z11z, z12z, z13z, z14z, z15z, z16z, z17z, z18z, z19z, z20z, z21z, z22z, z23z, z24z, z25z, z26z, z27z, z28z, z29z, z30z, z31z, z32z, z33z, z34z, z35z, z36z, z37z, z38z, z39z, z40z, z41z, z42z, z43z, z44z, z45z, z46z, z47z, z48z, z49z, z50z, z51z, z52z, z53z, z54z, z55z, z56z, z57z, z58z, z59z, z60z, z61z, z62z, z63z, z64z, z65z, z66z, z67z, z68z, z69z, z70z, z71z, z72z, z73z, z74z, z75z, z76z, z77z, z78z, z79z, z80z, z81z, z82z, z83z, z84z, z85z, z86z, z87z, z88z, z89z, z90z, z91z, z92z, z93z, z94z, z95z, z96z, z97z, z98z, z99z, z100z, z101z, z102z, z103z, z104z, z105z, z106z, z107z, z108z, z109z, z110z, z111z, z112z, z113z, z114z, z115z, z116z, z117z, z118z, z119z, z120z, z121z, z122z, z123z, z124z, z125z, z126z, z127z, z128z, z129z, z130z, z131z, z132z, z133z, z134z, z135z, z136z, z137z, z138z, z139z, z140z, z141z, z142z, z143z, z144z, z145z, z146z, z147z, z148z, z149z, z150z, z151z, z152z, z153z, z154z, z155z, z156z, z157z, z158z, z159z, z160z, z161z, z162z, z163z, z164z, z165z, z166z, z167z, z168z, z169z, z170z, z171z, z172z, z173z, z174z, z175z, z176z, z177z, z178z, z179z, z180z, z181z, z182z, z183z, z184z, z185z, z186z, z187z, z188z, z189z, z190z, z191z, z192z, z193z, z194z, z195z, z196z, z197z, z198z, z199z, z200z, z201z, z202z, z203z, z204z, z205z, z206z, z207z, z208z, z209z, z210z, z211z, z212z, z213z, z214z, z215z, z216z, z217z, z218z, z219z, z220z, z221z, z222z, z223z, z224z, z225z, z226z, z227z, z228z, z229z, z230z, z231z, z232z, z233z, z234z, z235z, z236z, z237z, z238z, z239z, z240z, z241z, z242z, z243z], []⟩ w1 := by
  conv => arg 2; whnf
  have i0 : (0 : Int) ≤ (i : Int) := by omega
  have i9 : (i : Int) < (t.size : Int) := by omega
  have t9 : (t.size : Int) ≤ 65536 := by omega
  have hH : H < w1.heap.size := block_lt_of_cell r0
  have ix := index_byte t i hi
  have f1 : (frm : Int) ≤ (i : Int) := by have := HP.out.2; have : 1 ≤ (posOf t i).2 := pos_one t i; omega
  have ec : (i : Int) - (frm : Int) + 1 = ((posOf t i).2 : Int) := by have := HP.out.2; omega
  have f0 : (0 : Int) ≤ (frm : Int) := by omega
  obtain ⟨pc, hpc⟩ : ∃ pc, (posOf t i).2 = pc := ⟨_, rfl⟩
  rw [hpc] at ec HQ
  have HH : Hid (i < t.size ∧ t.size ≤ 65536) := ⟨hi, ht⟩
  have HF0 : Hid (w1.cell? ⟨H, 0, none⟩ = some (.int .i64 0) ∧ w1.cell? ⟨H, 1, none⟩ = some (.int .i64 0) ∧ w1.frozen? ⟨H, 0, none⟩ = false ∧ w1.frozen? ⟨H, 1, none⟩ = false) := ⟨r0, r1, f0', f1'⟩
  have hcc : True := trivial
  have hbs : True := trivial
  clear hpc
  obtain ⟨hl, hb, h47⟩ := digit_not c hd
  rw [hc] at ix
  have b4 : ¬ (c = 32 ∨ c = 9 ∨ c = 13 ∨ c = 10) := fun h => by
    unfold blankB at hb
    rcases h with rfl | rfl | rfl | rfl <;> simp at hb
  have q1 : (c == 32) = false := by simp; omega
  have q2 : (c == 9) = false := by simp; omega
  have q3 : (c == 13) = false := by simp; omega
  have q4 : (c == 10) = false := by simp; omega
  have q5 : (c == 47) = false := by simp; omega
  have HF1 : Hid (∀ W, Calls Tryd.prog 15 #[.int .u8 c] W fun e w' => e = .returned (.bool false) ∧ w' = W) := fun W => hl ▸ rletter_any c W
  have HF2 : Hid (∀ W, Calls Tryd.prog 16 #[.int .u8 c] W fun e w' => e = .returned (.bool true) ∧ w' = W) := fun W => hd ▸ rdigit_any c W
  have HNR : Hid (1 ≤ nameRun (t.data.toList.drop i) ∧ nameRun (t.data.toList.drop i) = m) := ⟨hm1, hm⟩
  have HLE : Hid (i + m ≤ t.size) := hmt
  have m0 : (0 : Int) < (m : Int) := by omega
  have m9 : (i : Int) + (m : Int) ≤ 65536 := by omega
  have m8 : (m : Int) ≤ 65536 := by omega
  have wx : IntKind.i64.wrap ((i : Int) + (m : Int)) = (i : Int) + (m : Int) := by rw [IntKind.wrap_i64]; omega
  have sx : ∀ W, (Instr.slice 9 (.string t) (some (.int .i64 (i : Int))) (some (.int .i64 ((i : Int) + (m : Int)))) none).run Tryd.prog W = .ok (.string s) W := fun W => by
    rw [run_slice_string_if W 9 t .i64 .i64 _ _ Tryd.underlying9, if_pos ⟨by omega, by omega⟩, if_pos ⟨by omega, by omega⟩]
    have e1 : ((i : Int)).toNat = i := by omega
    have e2 : ((i : Int) + (m : Int)).toNat = i + m := by omega
    rw [e1, e2, hs]
  have HSZ : Hid (s.size = m) := by
    show _ = _
    rw [← hs, ← size_list, ext_list, List.length_take, List.length_drop, size_list]
    omega
  have HF4 : Hid (∀ W, Calls Tryd.prog 17 #[.string s] W fun e w' => (∃ vn, e = .returned (.tuple #[.int .i64 vn, .bool false]) ) ∧ w' = W) := fun W => by
    refine (number_any s W (by have := HSZ.out; omega) ⟨by have := HSZ.out; omega, hsd⟩).mono ?_
    rintro e w' ⟨⟨vn, rfl, -⟩, rfl⟩
    rw [hnw]
    exact ⟨⟨vn, rfl⟩, rfl⟩
  clear hnw hsd

  clear hc hl hd hb b4 h47 hm hm1 hmt hs hi ht hcc hbs
  go_wp2_with fail
  refine (HF1.out _).mono ?_
  rintro e w2 ⟨rfl, rfl⟩
  dsimp only
  go_wp2_with fail
  refine (HF2.out _).mono ?_
  rintro e w2' ⟨rfl, rfl⟩
  dsimp only
  go_wp2_with fail
  refine rw_loop4 t i 1 _ _ _ _ _ _ _ _ _ _ _ _ _ _ _ _ _ _ _ _ _ _ _ _ _ _ _ _ _ _ _ _ _ _ _ _ _ _ _ _ _ _ _ _ _ _ _ _ _ _ _ _ _ _ _ _ _ _ _ _ _ _ _ _ _ _ _ _ _ _ _ _ _ _ _ _ _ _ _ _ _ _ _ _ _ _ _ _ _ _ _ _ _ _ _ _ _ _ _ _ _ _ _ _ _ _ _ _ _ _ _ _ _ _ _ _ _ _ _ _ _ _ _ _ _ _ _ _ _ _ _ _ _ _ _ _ _ _ _ _ _ _ _ _ _ _ _ _ _ _ _ _ _ _ _ _ _ _ _ _ _ _ _ _ _ _ _ _ _ _ _ _ _ _ _ _ _ _ _ _ _ _ _ _ _ _ _ _ _ _ _ _ _ _ _ _ _ _ _ _ _ _ _ _ _ _ _ _ _ _ _ _ _ _ _ _ _ _ _ _ _ _ _ _ _ _ _ _ _ _ _ _ _ _ _ _ _ _ _ _ _ _ _ HH.out.2 (by have := HH.out; omega) HNR.out.1 ?_
  intro n' x164 x165 x166 x167 x168 x169 x170 x171 x172 x173 x174 x175 x176 x177 x178 x179 x180 x181 x182 x183 x184 x185 x186 x187 hn'
  obtain rfl : n' = m := hn'.trans HNR.out.2
  clear hn'
  go_wp2_with go_region
  refine (HF2.out _).mono ?_
  rintro e w3 ⟨rfl, hw3⟩
  have hbl : Below w1.heap.size w1 w3 := by
    rw [hw3]
    (repeat (first | with_reducible exact Below.refl _ _ | with_reducible refine bel_alloc ?_ _ | with_reducible refine bel_set ?_ (by first | exact Nat.le_refl _ | (simp; done) | (simp; omega)) _ | with_reducible refine Below.drew ?_))
  have a0 : w3.cell? ⟨w1.heap.size, 0, none⟩ = some (.int .i64 (line : Int)) := by rw [hw3]; go_simp
  have a1 : w3.cell? ⟨w1.heap.size, 1, none⟩ = some (.int .i64 (pc : Int)) := by rw [hw3]; go_simp
  have b0 : w3.cell? ⟨w1.heap.size + 1, 0, none⟩ = some (.int .i64 1) := by rw [hw3]; go_simp
  have b1 : w3.cell? ⟨w1.heap.size + 1, 1, none⟩ = some (.string s) := by rw [hw3]; go_simp
  have b2 : w3.cell? ⟨w1.heap.size + 1, 2, none⟩ = some (.int .i64 0) := by rw [hw3]; go_simp
  have b3 : w3.cell? ⟨w1.heap.size + 1, 3, none⟩ = some (.int .i64 (line : Int)) := by rw [hw3]; go_simp
  have b4 : w3.cell? ⟨w1.heap.size + 1, 4, none⟩ = some (.int .i64 (pc : Int)) := by rw [hw3]; go_simp
  have fz0 : w3.frozen? ⟨w1.heap.size + 1, 0, none⟩ = false := by rw [hw3]; go_simp
  have fz2 : w3.frozen? ⟨w1.heap.size + 1, 2, none⟩ = false := by rw [hw3]; go_simp
  have HB3 : Hid (Below w1.heap.size w1 w3) := hbl
  clear hw3 hbl
  dsimp only
  have r2 : w3.cell? ⟨H, 0, none⟩ = some (.int .i64 0) := keep_cell HB3.out HF0.out.1
  have r3 : w3.cell? ⟨H, 1, none⟩ = some (.int .i64 0) := keep_cell HB3.out HF0.out.2.1
  have f2 : w3.frozen? ⟨H, 0, none⟩ = false := keep_frozen HB3.out HF0.out.1 HF0.out.2.2.1
  have f3 : w3.frozen? ⟨H, 1, none⟩ = false := keep_frozen HB3.out HF0.out.2.1 HF0.out.2.2.2
  have hsz : w1.heap.size ≤ w3.heap.size := HB3.out.size
  clear r0 r1 f0' f1'
  go_wp2_with fail
  refine (HF4.out _).mono ?_
  rintro e w4 ⟨⟨vn, rfl⟩, hw4⟩
  obtain rfl : w4 = w3 := hw4
  dsimp only
  go_wp2_with go_region
  exact HQ.out _ _ _ _ _ _ _ _ _ _ _ _ _ _ _ _ _ _ _ _ _ _ _ _ _ _ _ _ _ _ _ _ _ _ _ _ _ _ _ _ _ _ _ _ _ _ _ _ _ _ _ _ _ _ _ _ _ _ _ _ _ _ _ _ _ _ _ _ _ _ _ _ _ _ _ _ _ _ _ _ _ _ _ _ _ _ _ _ _ _ _ _ _ _ _ _ _ _ _ _ _ _ _ _ _ _ _ _ _ _ _ _ _ _ _ _ _ _ _ _ _ _ _ _ _ _ _ _ _ _ _ _ _ _ _ _ _ _ _ _ _ _ _ _ _ _ _ _ _ _ _ _ _ _ _ _ _ _ _ _ _ _ _ _ _ _ _ _ _ _ _ _ _ _ _ _ _ _ _ _ _ _ _ _ _ _ _ _ _ _ _ _ _ _ _ _ _ _ _ _ _ _ _ _ _ _ _ _ _ _ _ _ _ _ _ _ _ _ _ _ _ _ _ _ HB3.out
end Go.Proofs.YtkbihcicnffjdaaDoor
