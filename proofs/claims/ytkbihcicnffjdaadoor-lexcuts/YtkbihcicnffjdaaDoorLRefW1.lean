/- The document's own lexer: Words: behind what is passed: lines are counted. -/
import Derived.Test.YtkbihcicnffjdaaDoorLCutsM
namespace Go.Proofs.YtkbihcicnffjdaaDoor
open Go.ChangeShapes Go.WideShapes Go.ChangeAt Go.RowKit
set_option linter.unusedSimpArgs false
set_option linter.unusedVariables false

def leftmost : Code → Option Nat
  | .region k _ _ => some k
  | .seq a _ => leftmost a
  | _ => none
/-- The greatest row of codes that begins with the region n. -/
def findAt (n : Nat) : Code → Option Code
  | .region k o b => if k = n then some (.region k o b) else none
  | .seq a b => if leftmost a = some n then some (.seq a b) else match findAt n a with
    | some c => some c
    | none => findAt n b
  | .block _ c => findAt n c
  | .scope c => findAt n c
  | .loop c => findAt n c
  | .cond _ a b => match findAt n a with
    | some c => some c
    | none => findAt n b
  | _ => none
/-- The loop that begins with the region n. -/
def findLoop (n : Nat) : Code → Option Code
  | .seq a b => match findLoop n a with
    | some c => some c
    | none => findLoop n b
  | .block _ c => findLoop n c
  | .scope c => findLoop n c
  | .loop c => if leftmost c = some n then some (.loop c) else findLoop n c
  | .cond _ a b => match findLoop n a with
    | some c => some c
    | none => findLoop n b
  | _ => none
noncomputable def rwLoop5 : Code := ((Tryd.f10.body.bind (findLoop 43)).getD .skip)
set_option maxHeartbeats 8000000 in
set_option maxRecDepth 100000 in
theorem rw_loop5 (t : ByteArray) (i n line frm : Nat) (w1 : World) (z1z z2z z3z z4z z5z z9z z10z z12z z13z z14z z15z z17z z18z z19z z20z z21z z22z z23z z24z z25z z26z z27z z28z z29z z30z z31z z32z z33z z34z z35z z36z z37z z38z z39z z40z z41z z42z z43z z44z z45z z46z z47z z48z z49z z50z z51z z52z z53z z54z z55z z56z z57z z58z z59z z60z z61z z62z z63z z64z z65z z66z z67z z68z z69z z70z z71z z72z z73z z74z z75z z76z z77z z78z z79z z80z z81z z82z z83z z84z z85z z86z z87z z88z z89z z90z z91z z92z z93z z94z z95z z96z z97z z98z z99z z100z z101z z102z z103z z104z z105z z106z z107z z108z z109z z110z z111z z112z z113z z114z z115z z116z z117z z118z z119z z120z z121z z122z z123z z124z z125z z126z z127z z128z z129z z130z z131z z132z z133z z134z z135z z136z z137z z138z z139z z140z z141z z142z z143z z144z z145z z146z z147z z148z z149z z150z z151z z152z z153z z154z z155z z156z z157z z158z z159z z160z z161z z162z z163z z164z z165z z166z z167z z168z z169z z170z z171z z172z z173z z174z z175z z176z z177z z178z z179z z180z z181z z182z z183z z184z z185z z186z z187z z188z z189z z190z z191z z192z z193z z194z z195z z196z z197z z198z z199z z200z z201z z202z z203z z204z z205z z206z z207z z208z z209z z210z z211z z212z z213z z214z z215z z216z z217z z218z z219z z220z z221z z222z z223z z224z z225z z226z z227z z228z z229z z230z z231z z232z z233z z234z z235z z236z z237z z238z z239z z240z z241z z242z z243z : Value) (Q : Exit → Act → World → Prop) (hn : i + n ≤ t.size) (ht : t.size ≤ 65536) (HP : Hid (PlaceIs t i line frm))
    (HK : Hid (∀ (line' frm' : Nat) (y16 y224 y225 y226 y227 y228 y229 y230 y231 y232 y233 y234 y235 y236 y237 y238 : Value), PlaceIs t (i + n) line' frm' → Q (.exit 9) ⟨#[.string t, z1z, z2z, z3z, z4z, z5z, .int .i64 (line' : Int), .int .i64 (frm' : Int), .int .i64 (i : Int), z9z, z10z, .int .i64 (n : Int), z12z, z13z, z14z, z15z, y16, z17z, z18z, z19z, z20z, z21z, z22z, z23z, z24z, z25z, z26z, z27z, z28z, z29z, z30z, z31z, z32z, z33z, z34z, z35z, z36z, z37z, z38z, z39z, z40z, z41z, z42z, z43z, z44z, z45z, z46z, z47z, z48z, z49z, z50z, z51z, z52z, z53z, z54z, z55z, z56z, z57z, z58z, z59z, z60z, z61z, z62z, z63z, z64z, z65z, z66z, z67z, z68z, z69z, z70z, z71z, z72z, z73z, z74z, z75z, z76z, z77z, z78z, z79z, z80z, z81z, z82z, z83z, z84z, z85z, z86z, z87z, z88z, z89z, z90z, z91z, z92z, z93z, z94z, z95z, z96z, z97z, z98z, z99z, z100z, z101z, z102z, z103z, z104z, z105z, z106z, z107z, z108z, z109z, z110z, z111z, z112z, z113z, z114z, z115z, z116z, z117z, z118z, z119z, z120z, z121z, z122z, z123z, z124z, z125z, z126z, z127z, z128z, z129z, z130z, z131z, z132z, z133z, z134z, z135z, z136z, z137z, z138z, z139z, z140z, z141z, z142z, z143z, z144z, z145z, z146z, z147z, z148z, z149z, z150z, z151z, z152z, z153z, z154z, z155z, z156z, z157z, z158z, z159z, z160z, z161z, z162z, z163z, z164z, z165z, z166z, z167z, z168z, z169z, z170z, z171z, z172z, z173z, z174z, z175z, z176z, z177z, z178z, z179z, z180z, z181z, z182z, z183z, z184z, z185z, z186z, z187z, z188z, z189z, z190z, z191z, z192z, z193z, z194z, z195z, z196z, z197z, z198z, z199z, z200z, z201z, z202z, z203z, z204z, z205z, z206z, z207z, z208z, z209z, z210z, z211z, z212z, z213z, z214z, z215z, z216z, z217z, z218z, z219z, z220z, z221z, z222z, z223z, y224, y225, y226, y227, y228, y229, y230, y231, y232, y233, y234, y235, y236, y237, y238, z239z, z240z, z241z, z242z, z243z], []⟩ w1)) :
    Code.wp Tryd.prog rwLoop5 Q ⟨#[.string t, z1z, z2z, z3z, z4z, z5z, .int .i64 (line : Int), .int .i64 (frm : Int), .int .i64 (i : Int), z9z, z10z, .int .i64 (n : Int), z12z, z13z, z14z, z15z, .int .i64 (i : Int), z17z, z18z, z19z, z20z, z21z, z22z, z23z, z24z, z25z, z26z, z27z, z28z, z29z, z30z, z31z, z32z, z33z, z34z, z35z, z36z, z37z, z38z, z39z, z40z, z41z, z42z, z43z, z44z, z45z, z46z, z47z, z48z, z49z, z50z, z51z, z52z, z53z, z54z, z55z, z56z, z57z, z58z, z59z, z60z, z61z, z62z, z63z, z64z, z65z, z66z, z67z, z68z, z69z, z70z, z71z, z72z, z73z, z74z, z75z, z76z, z77z, z78z, z79z, z80z, z81z, z82z, z83z, z84z, z85z, z86z, z87z, z88z, z89z, z90z, z91z, z92z, z93z, z94z, z95z, z96z, z97z, z98z, z99z, z100z, z101z, z102z, z103z, z104z, z105z, z106z, z107z, z108z, z109z, z110z, z111z, z112z, z113z, z114z, z115z, z116z, z117z, z118z, z119z, z120z, z121z, z122z, z123z, z124z, z125z, z126z, z127z, z128z, z129z, z130z, z131z, z132z, z133z, z134z, z135z, z136z, z137z, z138z, z139z, z140z, z141z, z142z, z143z, z144z, z145z, z146z, z147z, z148z, z149z, z150z, z151z, z152z, z153z, z154z, z155z, z156z, z157z, z158z, z159z, z160z, z161z, z162z, z163z, z164z, z165z, z166z, z167z, z168z, z169z, z170z, z171z, z172z, z173z, z174z, z175z, z176z, z177z, z178z, z179z, z180z, z181z, z182z, z183z, z184z, z185z, z186z, z187z, z188z, z189z, z190z, z191z, z192z, z193z, z194z, z195z, z196z, z197z, z198z, z199z, z200z, z201z, z202z, z203z, z204z, z205z, z206z, z207z, z208z, z209z, z210z, z211z, z212z, z213z, z214z, z215z, z216z, z217z, z218z, z219z, z220z, z221z, z222z, z223z, z224z, z225z, z226z, z227z, z228z, z229z, z230z, z231z, z232z, z233z, z234z, z235z, z236z, z237z, z238z, z239z, z240z, z241z, z242z, z243z], []⟩ w1 := by
  conv => arg 2; whnf
  have i0 : (0 : Int) ≤ (i : Int) := by omega
  have n0 : (0 : Int) ≤ (n : Int) := by omega
  have s9 : (i : Int) + (n : Int) ≤ 65536 := by omega
  have HT : Hid (i + n ≤ t.size ∧ t.size ≤ 65536) := ⟨hn, ht⟩
  have e0 : ((i + n : Nat) : Int) = (i : Int) + (n : Int) := by omega
  clear hn ht
  simp only [List.append_eq, List.cons_append, List.nil_append]
  go_loopw [6, 7, 16] (fun vl vf vk wr => ∃ k line frm : Nat, i ≤ k ∧ k ≤ i + n ∧ vl = .int .i64 (line : Int) ∧ vf = .int .i64 (frm : Int) ∧ vk = .int .i64 (k : Int) ∧ Hid (PlaceIs t k line frm) ∧ wr = w1) (fun _ _ vk _ => i + n - (intOf vk).toNat)
  case atStart => exact ⟨i, line, frm, by omega, by omega, rfl, rfl, rfl, HP, rfl⟩
  case round =>
    obtain ⟨k, ln, fr, h1, h2, rfl, rfl, rfl, HI, rfl⟩ := hrel
    clear HP
    have k0 : (0 : Int) ≤ (k : Int) := by omega
    have l1 : (ln : Int) ≤ 65537 := by have := HI.out.1; have := posOf_le t k; have := HT.out; omega
    have l0 : (0 : Int) ≤ (ln : Int) := by omega
    by_cases hk : k < i + n
    · have k1 : (k : Int) < (i : Int) + (n : Int) := by omega
      have ix := index_byte t k (by have := HT.out; omega)
      by_cases hb : byteAt t k = 10
      · have q : (byteAt t k == 10) = true := by simpa using hb
        have HN : Hid (PlaceIs t (k + 1) (ln + 1) (k + 1)) := HI.out.newline hb
        clear hb
        go_wp2
        go_roundw
        case rel => exact ⟨k + 1, ln + 1, k + 1, by omega, by omega, by simp, by simp, by simp, HN, by first | rfl | trivial⟩
        case measure => simp [intOf]; omega
      · have q : (byteAt t k == 10) = false := by simpa using hb
        have HN : Hid (PlaceIs t (k + 1) ln fr) := HI.out.other hb
        clear hb
        go_wp2
        go_roundw
        case rel => exact ⟨k + 1, ln, fr, by omega, by omega, rfl, rfl, by simp, HN, by first | rfl | trivial⟩
        case measure => simp [intOf]; omega
    · have hke : k = i + n := by omega
      have k1 : ¬ (k : Int) < (i : Int) + (n : Int) := by omega
      have HE : Hid (PlaceIs t (i + n) ln fr) := hke ▸ HI.out
      go_wp2
      exact HK.out ln fr _ _ _ _ _ _ _ _ _ _ _ _ _ _ _ _ HE.out
end Go.Proofs.YtkbihcicnffjdaaDoor
