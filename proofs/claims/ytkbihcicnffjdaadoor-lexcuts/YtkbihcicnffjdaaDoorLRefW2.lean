/- The document's own lexer: Words: its inner loops. -/
import Derived.Test.YtkbihcicnffjdaaDoorLRefW1
namespace Go.Proofs.YtkbihcicnffjdaaDoor
open Go.ChangeShapes Go.WideShapes Go.ChangeAt Go.RowKit
set_option linter.unusedSimpArgs false
set_option linter.unusedVariables false

noncomputable def rwLoop2 : Code := ((Tryd.f10.body.bind (findLoop 18)).getD .skip)
set_option maxHeartbeats 8000000 in
set_option maxRecDepth 100000 in
theorem rw_loop2 (t : ByteArray) (i n : Nat) (w1 : World) (z1z z2z z3z z4z z5z z6z z7z z9z z10z z12z z13z z14z z15z z16z z17z z18z z19z z20z z21z z22z z23z z24z z25z z26z z27z z28z z29z z30z z31z z32z z33z z34z z35z z36z z37z z38z z39z z40z z41z z42z z43z z44z z45z z46z z47z z48z z49z z50z z51z z52z z53z z54z z55z z56z z57z z58z z59z z60z z61z z62z z63z z64z z65z z66z z67z z68z z69z z70z z71z z72z z73z z74z z75z z76z z77z z78z z79z z80z z81z z82z z83z z84z z85z z86z z87z z88z z89z z90z z91z z92z z93z z94z z95z z96z z97z z98z z99z z100z z101z z102z z103z z104z z105z z106z z107z z108z z109z z110z z111z z112z z113z z114z z115z z116z z117z z118z z119z z120z z121z z122z z123z z124z z125z z126z z127z z128z z129z z130z z131z z132z z133z z134z z135z z136z z137z z138z z139z z140z z141z z142z z143z z144z z145z z146z z147z z148z z149z z150z z151z z152z z153z z154z z155z z156z z157z z158z z159z z160z z161z z162z z163z z164z z165z z166z z167z z168z z169z z170z z171z z172z z173z z174z z175z z176z z177z z178z z179z z180z z181z z182z z183z z184z z185z z186z z187z z188z z189z z190z z191z z192z z193z z194z z195z z196z z197z z198z z199z z200z z201z z202z z203z z204z z205z z206z z207z z208z z209z z210z z211z z212z z213z z214z z215z z216z z217z z218z z219z z220z z221z z222z z223z z224z z225z z226z z227z z228z z229z z230z z231z z232z z233z z234z z235z z236z z237z z238z z239z z240z z241z z242z z243z : Value) (Q : Exit → Act → World → Prop) (ht : t.size ≤ 65536) (hn : i + n ≤ t.size)
    (HK : Hid (∀ (n' : Nat) (y84 y85 y86 y87 y88 y89 y90 y91 y92 y93 y94 y95 y96 y97 y98 y99 : Value), i + n' = lineTo t (t.size - (i + n)) (i + n) → Q (.exit 3) ⟨#[.string t, z1z, z2z, z3z, z4z, z5z, z6z, z7z, .int .i64 (i : Int), z9z, z10z, .int .i64 (n' : Int), z12z, z13z, z14z, z15z, z16z, z17z, z18z, z19z, z20z, z21z, z22z, z23z, z24z, z25z, z26z, z27z, z28z, z29z, z30z, z31z, z32z, z33z, z34z, z35z, z36z, z37z, z38z, z39z, z40z, z41z, z42z, z43z, z44z, z45z, z46z, z47z, z48z, z49z, z50z, z51z, z52z, z53z, z54z, z55z, z56z, z57z, z58z, z59z, z60z, z61z, z62z, z63z, z64z, z65z, z66z, z67z, z68z, z69z, z70z, z71z, z72z, z73z, z74z, z75z, z76z, z77z, z78z, z79z, z80z, z81z, z82z, z83z, y84, y85, y86, y87, y88, y89, y90, y91, y92, y93, y94, y95, y96, y97, y98, y99, z100z, z101z, z102z, z103z, z104z, z105z, z106z, z107z, z108z, z109z, z110z, z111z, z112z, z113z, z114z, z115z, z116z, z117z, z118z, z119z, z120z, z121z, z122z, z123z, z124z, z125z, z126z, z127z, z128z, z129z, z130z, z131z, z132z, z133z, z134z, z135z, z136z, z137z, z138z, z139z, z140z, z141z, z142z, z143z, z144z, z145z, z146z, z147z, z148z, z149z, z150z, z151z, z152z, z153z, z154z, z155z, z156z, z157z, z158z, z159z, z160z, z161z, z162z, z163z, z164z, z165z, z166z, z167z, z168z, z169z, z170z, z171z, z172z, z173z, z174z, z175z, z176z, z177z, z178z, z179z, z180z, z181z, z182z, z183z, z184z, z185z, z186z, z187z, z188z, z189z, z190z, z191z, z192z, z193z, z194z, z195z, z196z, z197z, z198z, z199z, z200z, z201z, z202z, z203z, z204z, z205z, z206z, z207z, z208z, z209z, z210z, z211z, z212z, z213z, z214z, z215z, z216z, z217z, z218z, z219z, z220z, z221z, z222z, z223z, z224z, z225z, z226z, z227z, z228z, z229z, z230z, z231z, z232z, z233z, z234z, z235z, z236z, z237z, z238z, z239z, z240z, z241z, z242z, z243z], []⟩ w1)) :
    Code.wp Tryd.prog rwLoop2 Q ⟨#[.string t, z1z, z2z, z3z, z4z, z5z, z6z, z7z, .int .i64 (i : Int), z9z, z10z, .int .i64 (n : Int), z12z, z13z, z14z, z15z, z16z, z17z, z18z, z19z, z20z, z21z, z22z, z23z, z24z, z25z, z26z, z27z, z28z, z29z, z30z, z31z, z32z, z33z, z34z, z35z, z36z, z37z, z38z, z39z, z40z, z41z, z42z, z43z, z44z, z45z, z46z, z47z, z48z, z49z, z50z, z51z, z52z, z53z, z54z, z55z, z56z, z57z, z58z, z59z, z60z, z61z, z62z, z63z, z64z, z65z, z66z, z67z, z68z, z69z, z70z, z71z, z72z, z73z, z74z, z75z, z76z, z77z, z78z, z79z, z80z, z81z, z82z, z83z, z84z, z85z, z86z, z87z, z88z, z89z, z90z, z91z, z92z, z93z, z94z, z95z, z96z, z97z, z98z, z99z, z100z, z101z, z102z, z103z, z104z, z105z, z106z, z107z, z108z, z109z, z110z, z111z, z112z, z113z, z114z, z115z, z116z, z117z, z118z, z119z, z120z, z121z, z122z, z123z, z124z, z125z, z126z, z127z, z128z, z129z, z130z, z131z, z132z, z133z, z134z, z135z, z136z, z137z, z138z, z139z, z140z, z141z, z142z, z143z, z144z, z145z, z146z, z147z, z148z, z149z, z150z, z151z, z152z, z153z, z154z, z155z, z156z, z157z, z158z, z159z, z160z, z161z, z162z, z163z, z164z, z165z, z166z, z167z, z168z, z169z, z170z, z171z, z172z, z173z, z174z, z175z, z176z, z177z, z178z, z179z, z180z, z181z, z182z, z183z, z184z, z185z, z186z, z187z, z188z, z189z, z190z, z191z, z192z, z193z, z194z, z195z, z196z, z197z, z198z, z199z, z200z, z201z, z202z, z203z, z204z, z205z, z206z, z207z, z208z, z209z, z210z, z211z, z212z, z213z, z214z, z215z, z216z, z217z, z218z, z219z, z220z, z221z, z222z, z223z, z224z, z225z, z226z, z227z, z228z, z229z, z230z, z231z, z232z, z233z, z234z, z235z, z236z, z237z, z238z, z239z, z240z, z241z, z242z, z243z], []⟩ w1 := by
  conv => arg 2; whnf
  have HT : Hid (t.size ≤ 65536) := ht
  have t9 : (t.size : Int) ≤ 65536 := by omega
  have i0 : (0 : Int) ≤ (i : Int) := by omega
  simp only [List.append_eq, List.cons_append, List.nil_append]
  go_loopw [11] (fun vn wr => ∃ m : Nat, vn = .int .i64 (m : Int) ∧ Hid (i + m ≤ t.size ∧ lineTo t (t.size - (i + m)) (i + m) = lineTo t (t.size - (i + n)) (i + n)) ∧ wr = w1) (fun vn _ => t.size + 1 - (i + (intOf vn).toNat))
  case atStart => exact ⟨n, rfl, ⟨hn, rfl⟩, rfl⟩
  case round =>
    obtain ⟨m, rfl, HI, rfl⟩ := hrel
    have m0 : (0 : Int) ≤ (m : Int) := by omega
    have hle : i + m ≤ t.size := HI.out.1
    have s9 : (i : Int) + (m : Int) ≤ 65536 := by have := HT.out; omega
    have wx : IntKind.i64.wrap ((i : Int) + (m : Int)) = (i : Int) + (m : Int) := by rw [IntKind.wrap_i64]; omega
    by_cases hk : i + m < t.size
    · have k1 : (i : Int) + (m : Int) < (t.size : Int) := by omega
      have ix : ∀ W, (Instr.index 9 (.string t) (.int .i64 ((i : Int) + (m : Int)))).run Tryd.prog W = .ok (.int .u8 (byteAt t (i + m))) W := fun W => by
        have := index_byte t (i + m) hk W
        rw [show ((i + m : Nat) : Int) = (i : Int) + (m : Int) by omega] at this
        exact this
      obtain ⟨d, hd⟩ : ∃ d, t.size - (i + m) = d + 1 := ⟨t.size - (i + m) - 1, by omega⟩
      by_cases hb : byteAt t (i + m) = 10
      · have q : (byteAt t (i + m) == 10) = true := by simpa using hb
        have HE : Hid (i + m = lineTo t (t.size - (i + n)) (i + n)) := by
          have h := HI.out.2
          rw [hd, lineTo_succ, if_pos hb] at h
          exact h
        clear hb hd
        go_wp2
        exact HK.out m _ _ _ _ _ _ _ _ _ _ _ _ _ _ _ _ HE.out
      · have q : (byteAt t (i + m) == 10) = false := by simpa using hb
        have HE : Hid (i + (m + 1) ≤ t.size ∧ lineTo t (t.size - (i + (m + 1))) (i + (m + 1)) = lineTo t (t.size - (i + n)) (i + n)) := by
          have h := HI.out.2
          rw [hd, lineTo_succ, if_neg hb] at h
          rw [show t.size - (i + (m + 1)) = d by omega]
          exact ⟨by omega, h⟩
        clear hb hd
        go_wp2
        go_roundw
        case rel => exact ⟨m + 1, by simp, HE, by first | rfl | trivial⟩
        case measure => simp [intOf]; omega
    · have k1 : ¬ (i : Int) + (m : Int) < (t.size : Int) := by omega
      have HE : Hid (i + m = lineTo t (t.size - (i + n)) (i + n)) := by
        have h := HI.out.2
        rw [show t.size - (i + m) = 0 by omega] at h
        exact h
      go_wp2
      exact HK.out m _ _ _ _ _ _ _ _ _ _ _ _ _ _ _ _ HE.out
noncomputable def rwLoop4 : Code := ((Tryd.f10.body.bind (findLoop 28)).getD .skip)
set_option maxHeartbeats 8000000 in
set_option maxRecDepth 100000 in
theorem rw_loop4 (t : ByteArray) (i n : Nat) (w1 : World) (z1z z2z z3z z4z z5z z6z z7z z9z z10z z12z z13z z14z z15z z16z z17z z18z z19z z20z z21z z22z z23z z24z z25z z26z z27z z28z z29z z30z z31z z32z z33z z34z z35z z36z z37z z38z z39z z40z z41z z42z z43z z44z z45z z46z z47z z48z z49z z50z z51z z52z z53z z54z z55z z56z z57z z58z z59z z60z z61z z62z z63z z64z z65z z66z z67z z68z z69z z70z z71z z72z z73z z74z z75z z76z z77z z78z z79z z80z z81z z82z z83z z84z z85z z86z z87z z88z z89z z90z z91z z92z z93z z94z z95z z96z z97z z98z z99z z100z z101z z102z z103z z104z z105z z106z z107z z108z z109z z110z z111z z112z z113z z114z z115z z116z z117z z118z z119z z120z z121z z122z z123z z124z z125z z126z z127z z128z z129z z130z z131z z132z z133z z134z z135z z136z z137z z138z z139z z140z z141z z142z z143z z144z z145z z146z z147z z148z z149z z150z z151z z152z z153z z154z z155z z156z z157z z158z z159z z160z z161z z162z z163z z164z z165z z166z z167z z168z z169z z170z z171z z172z z173z z174z z175z z176z z177z z178z z179z z180z z181z z182z z183z z184z z185z z186z z187z z188z z189z z190z z191z z192z z193z z194z z195z z196z z197z z198z z199z z200z z201z z202z z203z z204z z205z z206z z207z z208z z209z z210z z211z z212z z213z z214z z215z z216z z217z z218z z219z z220z z221z z222z z223z z224z z225z z226z z227z z228z z229z z230z z231z z232z z233z z234z z235z z236z z237z z238z z239z z240z z241z z242z z243z : Value) (Q : Exit → Act → World → Prop) (ht : t.size ≤ 65536) (hn : i + n ≤ t.size) (hr : n ≤ nameRun (t.data.toList.drop i))
    (HK : Hid (∀ (n' : Nat) (y164 y165 y166 y167 y168 y169 y170 y171 y172 y173 y174 y175 y176 y177 y178 y179 y180 y181 y182 y183 y184 y185 y186 y187 : Value), n' = nameRun (t.data.toList.drop i) → Q (.exit 7) ⟨#[.string t, z1z, z2z, z3z, z4z, z5z, z6z, z7z, .int .i64 (i : Int), z9z, z10z, .int .i64 (n' : Int), z12z, z13z, z14z, z15z, z16z, z17z, z18z, z19z, z20z, z21z, z22z, z23z, z24z, z25z, z26z, z27z, z28z, z29z, z30z, z31z, z32z, z33z, z34z, z35z, z36z, z37z, z38z, z39z, z40z, z41z, z42z, z43z, z44z, z45z, z46z, z47z, z48z, z49z, z50z, z51z, z52z, z53z, z54z, z55z, z56z, z57z, z58z, z59z, z60z, z61z, z62z, z63z, z64z, z65z, z66z, z67z, z68z, z69z, z70z, z71z, z72z, z73z, z74z, z75z, z76z, z77z, z78z, z79z, z80z, z81z, z82z, z83z, z84z, z85z, z86z, z87z, z88z, z89z, z90z, z91z, z92z, z93z, z94z, z95z, z96z, z97z, z98z, z99z, z100z, z101z, z102z, z103z, z104z, z105z, z106z, z107z, z108z, z109z, z110z, z111z, z112z, z113z, z114z, z115z, z116z, z117z, z118z, z119z, z120z, z121z, z122z, z123z, z124z, z125z, z126z, z127z, z128z, z129z, z130z, z131z, z132z, z133z, z134z, z135z, z136z, z137z, z138z, z139z, z140z, z141z, z142z, z143z, z144z, z145z, z146z, z147z, z148z, z149z, z150z, z151z, z152z, z153z, z154z, z155z, z156z, z157z, z158z, z159z, z160z, z161z, z162z, z163z, y164, y165, y166, y167, y168, y169, y170, y171, y172, y173, y174, y175, y176, y177, y178, y179, y180, y181, y182, y183, y184, y185, y186, y187, z188z, z189z, z190z, z191z, z192z, z193z, z194z, z195z, z196z, z197z, z198z, z199z, z200z, z201z, z202z, z203z, z204z, z205z, z206z, z207z, z208z, z209z, z210z, z211z, z212z, z213z, z214z, z215z, z216z, z217z, z218z, z219z, z220z, z221z, z222z, z223z, z224z, z225z, z226z, z227z, z228z, z229z, z230z, z231z, z232z, z233z, z234z, z235z, z236z, z237z, z238z, z239z, z240z, z241z, z242z, z243z], []⟩ w1)) :
    Code.wp Tryd.prog rwLoop4 Q ⟨#[.string t, z1z, z2z, z3z, z4z, z5z, z6z, z7z, .int .i64 (i : Int), z9z, z10z, .int .i64 (n : Int), z12z, z13z, z14z, z15z, z16z, z17z, z18z, z19z, z20z, z21z, z22z, z23z, z24z, z25z, z26z, z27z, z28z, z29z, z30z, z31z, z32z, z33z, z34z, z35z, z36z, z37z, z38z, z39z, z40z, z41z, z42z, z43z, z44z, z45z, z46z, z47z, z48z, z49z, z50z, z51z, z52z, z53z, z54z, z55z, z56z, z57z, z58z, z59z, z60z, z61z, z62z, z63z, z64z, z65z, z66z, z67z, z68z, z69z, z70z, z71z, z72z, z73z, z74z, z75z, z76z, z77z, z78z, z79z, z80z, z81z, z82z, z83z, z84z, z85z, z86z, z87z, z88z, z89z, z90z, z91z, z92z, z93z, z94z, z95z, z96z, z97z, z98z, z99z, z100z, z101z, z102z, z103z, z104z, z105z, z106z, z107z, z108z, z109z, z110z, z111z, z112z, z113z, z114z, z115z, z116z, z117z, z118z, z119z, z120z, z121z, z122z, z123z, z124z, z125z, z126z, z127z, z128z, z129z, z130z, z131z, z132z, z133z, z134z, z135z, z136z, z137z, z138z, z139z, z140z, z141z, z142z, z143z, z144z, z145z, z146z, z147z, z148z, z149z, z150z, z151z, z152z, z153z, z154z, z155z, z156z, z157z, z158z, z159z, z160z, z161z, z162z, z163z, z164z, z165z, z166z, z167z, z168z, z169z, z170z, z171z, z172z, z173z, z174z, z175z, z176z, z177z, z178z, z179z, z180z, z181z, z182z, z183z, z184z, z185z, z186z, z187z, z188z, z189z, z190z, z191z, z192z, z193z, z194z, z195z, z196z, z197z, z198z, z199z, z200z, z201z, z202z, z203z, z204z, z205z, z206z, z207z, z208z, z209z, z210z, z211z, z212z, z213z, z214z, z215z, z216z, z217z, z218z, z219z, z220z, z221z, z222z, z223z, z224z, z225z, z226z, z227z, z228z, z229z, z230z, z231z, z232z, z233z, z234z, z235z, z236z, z237z, z238z, z239z, z240z, z241z, z242z, z243z], []⟩ w1 := by
  conv => arg 2; whnf
  have HT : Hid (t.size ≤ 65536) := ht
  have t9 : (t.size : Int) ≤ 65536 := by omega
  have i0 : (0 : Int) ≤ (i : Int) := by omega
  simp only [List.append_eq, List.cons_append, List.nil_append]
  go_loopw [11] (fun vn wr => ∃ m : Nat, vn = .int .i64 (m : Int) ∧ Hid (i + m ≤ t.size ∧ m ≤ nameRun (t.data.toList.drop i)) ∧ wr = w1) (fun vn _ => t.size + 1 - (i + (intOf vn).toNat))
  case atStart => exact ⟨n, rfl, ⟨hn, hr⟩, rfl⟩
  case round =>
    obtain ⟨m, rfl, HI, rfl⟩ := hrel
    have m0 : (0 : Int) ≤ (m : Int) := by omega
    have hle : i + m ≤ t.size := HI.out.1
    have s9 : (i : Int) + (m : Int) ≤ 65536 := by have := HT.out; omega
    have wx : IntKind.i64.wrap ((i : Int) + (m : Int)) = (i : Int) + (m : Int) := by rw [IntKind.wrap_i64]; omega
    by_cases hk : i + m < t.size
    · have k1 : (i : Int) + (m : Int) < (t.size : Int) := by omega
      have ix : ∀ W, (Instr.index 9 (.string t) (.int .i64 ((i : Int) + (m : Int)))).run Tryd.prog W = .ok (.int .u8 (byteAt t (i + m))) W := fun W => by
        have := index_byte t (i + m) hk W
        rw [show ((i + m : Nat) : Int) = (i : Int) + (m : Int) by omega] at this
        exact this
      have hra := nameRun_at t (t.data.toList.drop i) m HI.out.2 (by rw [List.length_drop, size_list]; omega)
      have hby : (((t.data.toList.drop i)[m]?.getD 0).toNat : Int) = byteAt t (i + m) := by
        have h : i + m < t.data.toList.length := hk
        unfold byteAt
        rw [List.getElem?_drop, List.getElem?_eq_getElem h]
        rfl
      rw [hby] at hra
      obtain ⟨c, hc⟩ : ∃ c, byteAt t (i + m) = c := ⟨_, rfl⟩
      rw [hc] at hra ix
      have HF1 : Hid (∀ W, Calls Tryd.prog 15 #[.int .u8 c] W fun e w' => e = .returned (.bool (letterB c)) ∧ w' = W) := fun W => rletter_any c W
      have HF2 : Hid (∀ W, Calls Tryd.prog 16 #[.int .u8 c] W fun e w' => e = .returned (.bool (digitB c)) ∧ w' = W) := fun W => rdigit_any c W
      have HR : Hid (nameB c = true ↔ m < nameRun (t.data.toList.drop i)) := hra
      clear hra hby hc
      cases h1 : letterB c with
      | true =>
        rw [h1] at HF1
        have HE : Hid (i + (m + 1) ≤ t.size ∧ m + 1 ≤ nameRun (t.data.toList.drop i)) := ⟨by omega, HR.out.1 (by unfold nameB; rw [h1]; rfl)⟩
        clear h1
        go_wp2_with (first | (go_at_call 15; refine (HF1.out _).mono ?_; rintro e w' ⟨rfl, hw'⟩; replace hw' := hw'.symm; subst hw') | (go_at_call 16; refine (HF2.out _).mono ?_; rintro e w' ⟨rfl, hw'⟩; replace hw' := hw'.symm; subst hw'))
        go_roundw
        case rel => exact ⟨m + 1, by simp, HE, by first | rfl | trivial⟩
        case measure => simp [intOf]; omega
      | false =>
        rw [h1] at HF1
        cases h2 : digitB c with
        | true =>
          rw [h2] at HF2
          have HE : Hid (i + (m + 1) ≤ t.size ∧ m + 1 ≤ nameRun (t.data.toList.drop i)) := ⟨by omega, HR.out.1 (by unfold nameB; rw [h1, h2]; rfl)⟩
          clear h1 h2
          go_wp2_with (first | (go_at_call 15; refine (HF1.out _).mono ?_; rintro e w' ⟨rfl, hw'⟩; replace hw' := hw'.symm; subst hw') | (go_at_call 16; refine (HF2.out _).mono ?_; rintro e w' ⟨rfl, hw'⟩; replace hw' := hw'.symm; subst hw'))
          go_roundw
          case rel => exact ⟨m + 1, by simp, HE, by first | rfl | trivial⟩
          case measure => simp [intOf]; omega
        | false =>
          rw [h2] at HF2
          have HE : Hid (m = nameRun (t.data.toList.drop i)) := by
            have h3 : ¬ m < nameRun (t.data.toList.drop i) := fun h => by
              have := HR.out.2 h
              unfold nameB at this
              rw [h1, h2] at this
              cases this
            have := HI.out.2
            show _ = _
            omega
          clear h1 h2
          go_wp2_with (first | (go_at_call 15; refine (HF1.out _).mono ?_; rintro e w' ⟨rfl, hw'⟩; replace hw' := hw'.symm; subst hw') | (go_at_call 16; refine (HF2.out _).mono ?_; rintro e w' ⟨rfl, hw'⟩; replace hw' := hw'.symm; subst hw'))
          exact HK.out m _ _ _ _ _ _ _ _ _ _ _ _ _ _ _ _ _ _ _ _ _ _ _ _ HE.out
    · have k1 : ¬ (i : Int) + (m : Int) < (t.size : Int) := by omega
      have HE : Hid (m = nameRun (t.data.toList.drop i)) := by
        have h := HI.out.2
        have h2 := nameRun_le (t.data.toList.drop i)
        rw [List.length_drop, size_list] at h2
        show _ = _
        omega
      go_wp2
      exact HK.out m _ _ _ _ _ _ _ _ _ _ _ _ _ _ _ _ _ _ _ _ _ _ _ _ HE.out
noncomputable def rwLoop3 : Code := ((Tryd.f10.body.bind (findLoop 22)).getD .skip)
set_option maxHeartbeats 8000000 in
set_option maxRecDepth 100000 in
theorem rw_loop3 (t : ByteArray) (i n : Nat) (w1 : World) (z1z z2z z3z z4z z5z z6z z7z z9z z10z z12z z13z z14z z15z z16z z17z z18z z19z z20z z21z z22z z23z z24z z25z z26z z27z z28z z29z z30z z31z z32z z33z z34z z35z z36z z37z z38z z39z z40z z41z z42z z43z z44z z45z z46z z47z z48z z49z z50z z51z z52z z53z z54z z55z z56z z57z z58z z59z z60z z61z z62z z63z z64z z65z z66z z67z z68z z69z z70z z71z z72z z73z z74z z75z z76z z77z z78z z79z z80z z81z z82z z83z z84z z85z z86z z87z z88z z89z z90z z91z z92z z93z z94z z95z z96z z97z z98z z99z z100z z101z z102z z103z z104z z105z z106z z107z z108z z109z z110z z111z z112z z113z z114z z115z z116z z117z z118z z119z z120z z121z z122z z123z z124z z125z z126z z127z z128z z129z z130z z131z z132z z133z z134z z135z z136z z137z z138z z139z z140z z141z z142z z143z z144z z145z z146z z147z z148z z149z z150z z151z z152z z153z z154z z155z z156z z157z z158z z159z z160z z161z z162z z163z z164z z165z z166z z167z z168z z169z z170z z171z z172z z173z z174z z175z z176z z177z z178z z179z z180z z181z z182z z183z z184z z185z z186z z187z z188z z189z z190z z191z z192z z193z z194z z195z z196z z197z z198z z199z z200z z201z z202z z203z z204z z205z z206z z207z z208z z209z z210z z211z z212z z213z z214z z215z z216z z217z z218z z219z z220z z221z z222z z223z z224z z225z z226z z227z z228z z229z z230z z231z z232z z233z z234z z235z z236z z237z z238z z239z z240z z241z z242z z243z : Value) (Q : Exit → Act → World → Prop) (ht : t.size ≤ 65536) (hn : i + n ≤ t.size) (h2 : n = 2)
    (HK : Hid (∀ (n' : Nat) (y117 y118 y119 y120 y121 y122 y123 y124 y125 y126 y127 y128 y129 y130 y131 y132 y133 y134 y135 y136 y137 y138 y139 y140 y141 y142 y143 y144 y145 y146 : Value), ((i + n' = t.size ∧ remTo t (t.size - (i + 2)) (i + 2) = none) ∨ (i + n' < t.size ∧ remTo t (t.size - (i + 2)) (i + 2) = some (i + n' + 1))) → Q (.exit 5) ⟨#[.string t, z1z, z2z, z3z, z4z, z5z, z6z, z7z, .int .i64 (i : Int), z9z, z10z, .int .i64 (n' : Int), z12z, z13z, z14z, z15z, z16z, z17z, z18z, z19z, z20z, z21z, z22z, z23z, z24z, z25z, z26z, z27z, z28z, z29z, z30z, z31z, z32z, z33z, z34z, z35z, z36z, z37z, z38z, z39z, z40z, z41z, z42z, z43z, z44z, z45z, z46z, z47z, z48z, z49z, z50z, z51z, z52z, z53z, z54z, z55z, z56z, z57z, z58z, z59z, z60z, z61z, z62z, z63z, z64z, z65z, z66z, z67z, z68z, z69z, z70z, z71z, z72z, z73z, z74z, z75z, z76z, z77z, z78z, z79z, z80z, z81z, z82z, z83z, z84z, z85z, z86z, z87z, z88z, z89z, z90z, z91z, z92z, z93z, z94z, z95z, z96z, z97z, z98z, z99z, z100z, z101z, z102z, z103z, z104z, z105z, z106z, z107z, z108z, z109z, z110z, z111z, z112z, z113z, z114z, z115z, z116z, y117, y118, y119, y120, y121, y122, y123, y124, y125, y126, y127, y128, y129, y130, y131, y132, y133, y134, y135, y136, y137, y138, y139, y140, y141, y142, y143, y144, y145, y146, z147z, z148z, z149z, z150z, z151z, z152z, z153z, z154z, z155z, z156z, z157z, z158z, z159z, z160z, z161z, z162z, z163z, z164z, z165z, z166z, z167z, z168z, z169z, z170z, z171z, z172z, z173z, z174z, z175z, z176z, z177z, z178z, z179z, z180z, z181z, z182z, z183z, z184z, z185z, z186z, z187z, z188z, z189z, z190z, z191z, z192z, z193z, z194z, z195z, z196z, z197z, z198z, z199z, z200z, z201z, z202z, z203z, z204z, z205z, z206z, z207z, z208z, z209z, z210z, z211z, z212z, z213z, z214z, z215z, z216z, z217z, z218z, z219z, z220z, z221z, z222z, z223z, z224z, z225z, z226z, z227z, z228z, z229z, z230z, z231z, z232z, z233z, z234z, z235z, z236z, z237z, z238z, z239z, z240z, z241z, z242z, z243z], []⟩ w1)) :
    Code.wp Tryd.prog rwLoop3 Q ⟨#[.string t, z1z, z2z, z3z, z4z, z5z, z6z, z7z, .int .i64 (i : Int), z9z, z10z, .int .i64 (n : Int), z12z, z13z, z14z, z15z, z16z, z17z, z18z, z19z, z20z, z21z, z22z, z23z, z24z, z25z, z26z, z27z, z28z, z29z, z30z, z31z, z32z, z33z, z34z, z35z, z36z, z37z, z38z, z39z, z40z, z41z, z42z, z43z, z44z, z45z, z46z, z47z, z48z, z49z, z50z, z51z, z52z, z53z, z54z, z55z, z56z, z57z, z58z, z59z, z60z, z61z, z62z, z63z, z64z, z65z, z66z, z67z, z68z, z69z, z70z, z71z, z72z, z73z, z74z, z75z, z76z, z77z, z78z, z79z, z80z, z81z, z82z, z83z, z84z, z85z, z86z, z87z, z88z, z89z, z90z, z91z, z92z, z93z, z94z, z95z, z96z, z97z, z98z, z99z, z100z, z101z, z102z, z103z, z104z, z105z, z106z, z107z, z108z, z109z, z110z, z111z, z112z, z113z, z114z, z115z, z116z, z117z, z118z, z119z, z120z, z121z, z122z, z123z, z124z, z125z, z126z, z127z, z128z, z129z, z130z, z131z, z132z, z133z, z134z, z135z, z136z, z137z, z138z, z139z, z140z, z141z, z142z, z143z, z144z, z145z, z146z, z147z, z148z, z149z, z150z, z151z, z152z, z153z, z154z, z155z, z156z, z157z, z158z, z159z, z160z, z161z, z162z, z163z, z164z, z165z, z166z, z167z, z168z, z169z, z170z, z171z, z172z, z173z, z174z, z175z, z176z, z177z, z178z, z179z, z180z, z181z, z182z, z183z, z184z, z185z, z186z, z187z, z188z, z189z, z190z, z191z, z192z, z193z, z194z, z195z, z196z, z197z, z198z, z199z, z200z, z201z, z202z, z203z, z204z, z205z, z206z, z207z, z208z, z209z, z210z, z211z, z212z, z213z, z214z, z215z, z216z, z217z, z218z, z219z, z220z, z221z, z222z, z223z, z224z, z225z, z226z, z227z, z228z, z229z, z230z, z231z, z232z, z233z, z234z, z235z, z236z, z237z, z238z, z239z, z240z, z241z, z242z, z243z], []⟩ w1 := by
  conv => arg 2; whnf
  have HT : Hid (t.size ≤ 65536) := ht
  have t9 : (t.size : Int) ≤ 65536 := by omega
  have i0 : (0 : Int) ≤ (i : Int) := by omega
  simp only [List.append_eq, List.cons_append, List.nil_append]
  go_loopw [11] (fun vn wr => ∃ m : Nat, vn = .int .i64 (m : Int) ∧ Hid (i + m ≤ t.size ∧ 2 ≤ m ∧ remTo t (t.size - (i + 2 + (m - 3))) (i + 2 + (m - 3)) = remTo t (t.size - (i + 2)) (i + 2)) ∧ wr = w1) (fun vn _ => t.size + 1 - (i + (intOf vn).toNat))
  case atStart => exact ⟨n, rfl, ⟨hn, by omega, by rw [h2]⟩, rfl⟩
  case round =>
    obtain ⟨m, rfl, HI, rfl⟩ := hrel
    have m0 : (0 : Int) ≤ (m : Int) := by omega
    have hle : i + m ≤ t.size := HI.out.1
    have hm2 : 2 ≤ m := HI.out.2.1
    have s9 : (i : Int) + (m : Int) ≤ 65536 := by have := HT.out; omega
    have wx : IntKind.i64.wrap ((i : Int) + (m : Int)) = (i : Int) + (m : Int) := by rw [IntKind.wrap_i64]; omega
    have wy : IntKind.i64.wrap ((i : Int) + (m : Int) - 1) = (i : Int) + (m : Int) - 1 := by rw [IntKind.wrap_i64]; omega
    by_cases hk : i + m < t.size
    · have k1 : (i : Int) + (m : Int) < (t.size : Int) := by omega
      have ix : ∀ W, (Instr.index 9 (.string t) (.int .i64 ((i : Int) + (m : Int)))).run Tryd.prog W = .ok (.int .u8 (byteAt t (i + m))) W := fun W => by
        have := index_byte t (i + m) hk W
        rw [show ((i + m : Nat) : Int) = (i : Int) + (m : Int) by omega] at this
        exact this
      have ix2 : ∀ W, (Instr.index 9 (.string t) (.int .i64 ((i : Int) + (m : Int) - 1))).run Tryd.prog W = .ok (.int .u8 (byteAt t (i + m - 1))) W := fun W => by
        have := index_byte t (i + m - 1) (by omega) W
        rw [show ((i + m - 1 : Nat) : Int) = (i : Int) + (m : Int) - 1 by omega] at this
        exact this
      by_cases h3 : 3 ≤ m
      · have g3 : decide ((3 : Int) ≤ (m : Int)) = true := by simp; omega
        have hpre := preAt_two t (i + m - 1) 42 47
        rw [show i + m - 1 + 1 = i + m by omega] at hpre
        obtain ⟨d, hd⟩ : ∃ d, t.size - (i + 2 + (m - 3)) = d + 1 := ⟨t.size - (i + 2 + (m - 3)) - 1, by omega⟩
        have hI := HI.out.2.2
        rw [hd, remTo_succ, show i + 2 + (m - 3) = i + m - 1 by omega] at hI
        obtain ⟨c, hc⟩ : ∃ c, byteAt t (i + m) = c := ⟨_, rfl⟩
        obtain ⟨e, he⟩ : ∃ e, byteAt t (i + m - 1) = e := ⟨_, rfl⟩
        rw [hc, he] at hpre
        rw [hc] at ix
        rw [he] at ix2
        have HN : Hid (¬ (c = 47 ∧ e = 42) → i + (m + 1) ≤ t.size ∧ 2 ≤ m + 1 ∧ remTo t (t.size - (i + 2 + (m + 1 - 3))) (i + 2 + (m + 1 - 3)) = remTo t (t.size - (i + 2)) (i + 2)) := fun hne => by
          have hf : ¬ preAt t (i + m - 1) [42, 47] = true := fun h => hne ⟨(hpre.1 h).2.2, (hpre.1 h).2.1⟩
          rw [if_neg hf] at hI
          refine ⟨by omega, by omega, ?_⟩
          rw [show t.size - (i + 2 + (m + 1 - 3)) = d by omega, show i + 2 + (m + 1 - 3) = i + m - 1 + 1 by omega]
          exact hI
        have HY : Hid (c = 47 ∧ e = 42 → remTo t (t.size - (i + 2)) (i + 2) = some (i + m + 1)) := fun hy => by
          have ht : preAt t (i + m - 1) [42, 47] = true := hpre.2 ⟨by omega, hy.2, hy.1⟩
          rw [if_pos ht, show i + m - 1 + 2 = i + m + 1 by omega] at hI
          exact hI.symm
        clear hpre hd hI hc he
        by_cases c1 : c = 47
        · by_cases c2 : e = 42
          · have HE : Hid (i + m < t.size ∧ remTo t (t.size - (i + 2)) (i + 2) = some (i + m + 1)) := ⟨hk, HY.out ⟨c1, c2⟩⟩
            subst c1 c2
            clear HN HY
            go_wp2
            exact HK.out m _ _ _ _ _ _ _ _ _ _ _ _ _ _ _ _ _ _ _ _ _ _ _ _ _ _ _ _ _ _ (Or.inr HE.out)
          · have HE := HN.out (fun h => c2 h.2)
            have HE' : Hid _ := HE
            have q2 : (e == 42) = false := by simpa using c2
            subst c1
            clear HN HY c2 HE
            go_wp2
            go_roundw
            case rel => exact ⟨m + 1, by simp, HE', by first | rfl | trivial⟩
            case measure => simp [intOf]; omega
        · have HE := HN.out (fun h => c1 h.1)
          have HE' : Hid _ := HE
          have q1 : (c == 47) = false := by simpa using c1
          clear HN HY c1 HE
          go_wp2
          go_roundw
          case rel => exact ⟨m + 1, by simp, HE', by first | rfl | trivial⟩
          case measure => simp [intOf]; omega
      · have g3 : decide ((3 : Int) ≤ (m : Int)) = false := by simp; omega
        have hm : m = 2 := by omega
        have HE : Hid (i + (m + 1) ≤ t.size ∧ 2 ≤ m + 1 ∧ remTo t (t.size - (i + 2 + (m + 1 - 3))) (i + 2 + (m + 1 - 3)) = remTo t (t.size - (i + 2)) (i + 2)) := by
          refine ⟨by omega, by omega, ?_⟩
          rw [show m + 1 - 3 = 0 by omega, Nat.add_zero]
        clear hm
        go_wp2
        go_roundw
        case rel => exact ⟨m + 1, by simp, HE, by first | rfl | trivial⟩
        case measure => simp [intOf]; omega
    · have k1 : ¬ (i : Int) + (m : Int) < (t.size : Int) := by omega
      have HE : Hid (i + m = t.size ∧ remTo t (t.size - (i + 2)) (i + 2) = none) := by
        refine ⟨by omega, ?_⟩
        have hI := HI.out.2.2
        by_cases h3 : 3 ≤ m
        · rw [show t.size - (i + 2 + (m - 3)) = 0 + 1 by omega, remTo_succ, if_neg (fun h => by have := ((preAt_two t (i + 2 + (m - 3)) 42 47).1 h).1; omega)] at hI
          exact hI.symm
        · rw [show t.size - (i + 2 + (m - 3)) = 0 by omega] at hI
          exact hI.symm
      go_wp2
      exact HK.out m _ _ _ _ _ _ _ _ _ _ _ _ _ _ _ _ _ _ _ _ _ _ _ _ _ _ _ _ _ _ (Or.inl HE.out)
end Go.Proofs.YtkbihcicnffjdaaDoor
