/- For all calls (at most 80) and any place of a cut: a memory does, call by call, what the document says; a copy stays as it was: the statement MemPlays returns true. No condition. -/
import Derived.Test.YtnklpccggbkknaaNPl0
import Derived.Test.YtnklpccggbkknaaNPl1
import Derived.Test.YtnklpccggbkknaaNPl2
import Derived.Test.YtnklpccggbkknaaNPl3
import Derived.Test.YtnklpccggbkknaaNPl4
import Derived.Test.YtnklpccggbkknaaNPld
import Derived.Deep.DeepCutAuto
import Derived.Deep.CutRange
namespace Go.Proofs.Ytnklpccggbkknaa
open Go.ChangeShapes Go.WideShapes Go.ChangeAt Go.RowKit Go.Joins Pl
set_option linter.unusedSimpArgs false
set_option linter.unusedVariables false


set_option maxRecDepth 100000 in
set_option maxHeartbeats 2000000 in
theorem memPlays_short (a1 : Option Addr) (n1 c1 : Nat) (cut : Int) (w : World) (hl : (80 : Int) < n1) : Calls Try.prog 3 #[.slice a1 n1 c1, .int .i64 cut] w (retP (.bool true) w) := by
  go_enter Try.func3, Try.ntmps3
  go_wp2_with (go_at_call 6; refine (awake_any _).mono ?_; rintro e w1 ⟨rfl, hb1⟩; obtain ⟨hc1, hf1⟩ := bcell hb1; have hz1 := bsize hb1; try simp only [World.size_alloc, World.size_drew, World.cell?_drew, World.frozen?_drew] at hz1 hc1 hf1)
  go_ret
  exact ⟨rfl, (by repeat (first | with_reducible exact Below.refl _ _ | with_reducible refine bel_alloc ?_ _ | with_reducible refine bel_set ?_ (by first | exact Nat.le_refl _ | (simp; done) | (simp; omega)) _ | with_reducible refine Below.drew ?_ | refine bel_trans ?_ (by assumption)))⟩


set_option maxRecDepth 1000000 in
set_option maxHeartbeats 20000000 in
theorem pl_out (a1 : Option Addr) (n1 c1 pm pr : Nat) (cut : Int) (w : World) (z2z z3z z22z z23z z24z z25z z26z z27z z28z z29z z30z z31z z32z z33z z202z z203z z204z z205z z206z z207z z208z z209z z210z z211z z212z z213z z214z z215z : Value) (z4z z10z z11z z12z z13z z14z z15z z16z z17z z18z z19z z20z z21z z34z z35z z36z z37z z38z z39z z40z z41z z42z z43z z44z z45z z46z z47z z48z z49z z50z z51z z52z z53z z54z z55z z56z z57z z58z z59z z60z z61z z62z z63z z64z z65z z66z z67z z68z z69z z70z z71z z72z z73z z74z z75z z76z z77z z78z z79z z80z z81z z82z z83z z84z z85z z86z z87z z88z z89z z90z z91z z92z z93z z94z z95z z96z z97z z98z z99z z100z z101z z102z z103z z104z z105z z106z z107z z108z z109z z110z z111z z112z z113z z114z z115z z116z z117z z118z z119z z120z z121z z122z z123z z124z z125z z126z z127z z128z z129z z130z z131z z132z z133z z134z z135z z136z z137z z138z z139z z140z z141z z142z z143z z144z z145z z146z z147z z148z z149z z150z z151z z152z z153z z154z z155z z156z z157z z158z z159z z160z z161z z162z z163z z164z z165z z166z z167z z168z z169z z170z z171z z172z z173z z174z z175z z176z z177z z178z z179z z180z z181z z182z z183z z184z z185z z186z z187z z188z z189z z190z z191z z192z z193z z194z z195z z196z z197z z198z z199z z200z z201z : Value) (pc ph : Nat) (M : List AB) (N : RM) (C : List AB) (wr : World) (Q0 : Exit → Act → World → Prop) (HPK : Hid (PK w wr pm pr pc ph M N C C)) (HREL : Hid (MRel M N)) (HPT0 : Hid (N.ptrs.length ≤ n1))
    (hexit : ∀ a' w'', PlI a1 n1 c1 pm pr cut w z2z z3z z22z z23z z24z z25z z26z z27z z28z z29z z30z z31z z32z z33z z202z z203z z204z z205z z206z z207z z208z z209z z210z z211z z212z z213z z214z z215z a' w'' → Q0 (.exit 0) a' w'') :
    Code.wp Try.prog plBody (Exit.then (fun a' w'' => PlI a1 n1 c1 pm pr cut w z2z z3z z22z z23z z24z z25z z26z z27z z28z z29z z30z z31z z32z z33z z202z z203z z204z z205z z206z z207z z208z z209z z210z z211z z212z z213z z214z z215z a' w'' ∧ PlMu n1 a' w'' < PlMu n1 ⟨#[.slice a1 n1 c1, .int .i64 cut, z2z, z3z, z4z, .pointer (some ⟨pm, 0, none⟩), .pointer (some ⟨pr, 0, none⟩), .pointer (some ⟨pc, 0, none⟩), .pointer (some ⟨ph, 0, none⟩), .int .i64 n1, z10z, z11z, z12z, z13z, z14z, z15z, z16z, z17z, z18z, z19z, z20z, z21z, z22z, z23z, z24z, z25z, z26z, z27z, z28z, z29z, z30z, z31z, z32z, z33z, z34z, z35z, z36z, z37z, z38z, z39z, z40z, z41z, z42z, z43z, z44z, z45z, z46z, z47z, z48z, z49z, z50z, z51z, z52z, z53z, z54z, z55z, z56z, z57z, z58z, z59z, z60z, z61z, z62z, z63z, z64z, z65z, z66z, z67z, z68z, z69z, z70z, z71z, z72z, z73z, z74z, z75z, z76z, z77z, z78z, z79z, z80z, z81z, z82z, z83z, z84z, z85z, z86z, z87z, z88z, z89z, z90z, z91z, z92z, z93z, z94z, z95z, z96z, z97z, z98z, z99z, z100z, z101z, z102z, z103z, z104z, z105z, z106z, z107z, z108z, z109z, z110z, z111z, z112z, z113z, z114z, z115z, z116z, z117z, z118z, z119z, z120z, z121z, z122z, z123z, z124z, z125z, z126z, z127z, z128z, z129z, z130z, z131z, z132z, z133z, z134z, z135z, z136z, z137z, z138z, z139z, z140z, z141z, z142z, z143z, z144z, z145z, z146z, z147z, z148z, z149z, z150z, z151z, z152z, z153z, z154z, z155z, z156z, z157z, z158z, z159z, z160z, z161z, z162z, z163z, z164z, z165z, z166z, z167z, z168z, z169z, z170z, z171z, z172z, z173z, z174z, z175z, z176z, z177z, z178z, z179z, z180z, z181z, z182z, z183z, z184z, z185z, z186z, z187z, z188z, z189z, z190z, z191z, z192z, z193z, z194z, z195z, z196z, z197z, z198z, z199z, z200z, z201z, z202z, z203z, z204z, z205z, z206z, z207z, z208z, z209z, z210z, z211z, z212z, z213z, z214z, z215z], []⟩ wr) Q0) ⟨#[.slice a1 n1 c1, .int .i64 cut, z2z, z3z, z4z, .pointer (some ⟨pm, 0, none⟩), .pointer (some ⟨pr, 0, none⟩), .pointer (some ⟨pc, 0, none⟩), .pointer (some ⟨ph, 0, none⟩), .int .i64 n1, z10z, z11z, z12z, z13z, z14z, z15z, z16z, z17z, z18z, z19z, z20z, z21z, z22z, z23z, z24z, z25z, z26z, z27z, z28z, z29z, z30z, z31z, z32z, z33z, z34z, z35z, z36z, z37z, z38z, z39z, z40z, z41z, z42z, z43z, z44z, z45z, z46z, z47z, z48z, z49z, z50z, z51z, z52z, z53z, z54z, z55z, z56z, z57z, z58z, z59z, z60z, z61z, z62z, z63z, z64z, z65z, z66z, z67z, z68z, z69z, z70z, z71z, z72z, z73z, z74z, z75z, z76z, z77z, z78z, z79z, z80z, z81z, z82z, z83z, z84z, z85z, z86z, z87z, z88z, z89z, z90z, z91z, z92z, z93z, z94z, z95z, z96z, z97z, z98z, z99z, z100z, z101z, z102z, z103z, z104z, z105z, z106z, z107z, z108z, z109z, z110z, z111z, z112z, z113z, z114z, z115z, z116z, z117z, z118z, z119z, z120z, z121z, z122z, z123z, z124z, z125z, z126z, z127z, z128z, z129z, z130z, z131z, z132z, z133z, z134z, z135z, z136z, z137z, z138z, z139z, z140z, z141z, z142z, z143z, z144z, z145z, z146z, z147z, z148z, z149z, z150z, z151z, z152z, z153z, z154z, z155z, z156z, z157z, z158z, z159z, z160z, z161z, z162z, z163z, z164z, z165z, z166z, z167z, z168z, z169z, z170z, z171z, z172z, z173z, z174z, z175z, z176z, z177z, z178z, z179z, z180z, z181z, z182z, z183z, z184z, z185z, z186z, z187z, z188z, z189z, z190z, z191z, z192z, z193z, z194z, z195z, z196z, z197z, z198z, z199z, z200z, z201z, z202z, z203z, z204z, z205z, z206z, z207z, z208z, z209z, z210z, z211z, z212z, z213z, z214z, z215z], []⟩ wr := by
  conv => arg 2; whnf
  go_wp2
  unfold PlI
  refine ⟨_, _, _, _, _, _, _, _, _, _, _, _, _, _, _, _, _, _, _, _, _, _, _, _, _, _, _, _, _, _, _, _, _, _, _, _, _, _, _, _, _, _, _, _, _, _, _, _, _, _, _, _, _, _, _, _, _, _, _, _, _, _, _, _, _, _, _, _, _, _, _, _, _, _, _, _, _, _, _, _, _, _, _, _, _, _, _, _, _, _, _, _, _, _, _, _, _, _, _, _, _, _, _, _, _, _, _, _, _, _, _, _, _, _, _, _, _, _, _, _, _, _, _, _, _, _, _, _, _, _, _, _, _, _, _, _, _, _, _, _, _, _, _, _, _, _, _, _, _, _, _, _, _, _, _, _, _, _, _, _, _, _, _, _, _, _, _, _, _, _, _, _, _, _, _, _, _, _, _, _, _, _, _, _, ?_, rfl⟩
  exact ⟨n1, pc, ph, M, N, C, by omega, rfl, rfl, rfl, HPK, HREL, HPT0⟩


set_option maxRecDepth 1000000 in
set_option maxHeartbeats 20000000 in
theorem pl_round (a1 : Option Addr) (n1 c1 pm pr : Nat) (cut : Int) (w : World) (z2z z3z z22z z23z z24z z25z z26z z27z z28z z29z z30z z31z z32z z33z z202z z203z z204z z205z z206z z207z z208z z209z z210z z211z z212z z213z z214z z215z : Value) (b1 off1 : Nat) (Z : Nat → Nat → Int) (Q0 : Exit → Act → World → Prop) (hQ0 : ∀ c (a : Act) d v x, Q0 (.panic c) (a.put d v) x → Q0 (.panic c) a x) (h1 : (n1 : Int) ≤ 80)
    (HA : Hid (0 < n1 → a1 = some ⟨b1, off1, none⟩ ∧ ∀ i, i < n1 → ∀ j, j < 9 → w.cell? ⟨b1, off1 + i * 9 + j, none⟩ = some (.int .i64 (Z i j))))
    (hexit : ∀ a' w'', PlI a1 n1 c1 pm pr cut w z2z z3z z22z z23z z24z z25z z26z z27z z28z z29z z30z z31z z32z z33z z202z z203z z204z z205z z206z z207z z208z z209z z210z z211z z212z z213z z214z z215z a' w'' → Q0 (.exit 0) a' w'') (a : Act) (wr : World) (hI : PlI a1 n1 c1 pm pr cut w z2z z3z z22z z23z z24z z25z z26z z27z z28z z29z z30z z31z z32z z33z z202z z203z z204z z205z z206z z207z z208z z209z z210z z211z z212z z213z z214z z215z a wr) :
    Code.wp Try.prog plBody (Exit.then (fun a' w'' => PlI a1 n1 c1 pm pr cut w z2z z3z z22z z23z z24z z25z z26z z27z z28z z29z z30z z31z z32z z33z z202z z203z z204z z205z z206z z207z z208z z209z z210z z211z z212z z213z z214z z215z a' w'' ∧ PlMu n1 a' w'' < PlMu n1 a wr) Q0) a wr := by
  unfold PlI at hI
  obtain ⟨z4z, hI⟩ := hI
  obtain ⟨z7z, hI⟩ := hI
  obtain ⟨z8z, hI⟩ := hI
  obtain ⟨z9z, hI⟩ := hI
  obtain ⟨z10z, hI⟩ := hI
  obtain ⟨z11z, hI⟩ := hI
  obtain ⟨z12z, hI⟩ := hI
  obtain ⟨z13z, hI⟩ := hI
  obtain ⟨z14z, hI⟩ := hI
  obtain ⟨z15z, hI⟩ := hI
  obtain ⟨z16z, hI⟩ := hI
  obtain ⟨z17z, hI⟩ := hI
  obtain ⟨z18z, hI⟩ := hI
  obtain ⟨z19z, hI⟩ := hI
  obtain ⟨z20z, hI⟩ := hI
  obtain ⟨z21z, hI⟩ := hI
  obtain ⟨z34z, hI⟩ := hI
  obtain ⟨z35z, hI⟩ := hI
  obtain ⟨z36z, hI⟩ := hI
  obtain ⟨z37z, hI⟩ := hI
  obtain ⟨z38z, hI⟩ := hI
  obtain ⟨z39z, hI⟩ := hI
  obtain ⟨z40z, hI⟩ := hI
  obtain ⟨z41z, hI⟩ := hI
  obtain ⟨z42z, hI⟩ := hI
  obtain ⟨z43z, hI⟩ := hI
  obtain ⟨z44z, hI⟩ := hI
  obtain ⟨z45z, hI⟩ := hI
  obtain ⟨z46z, hI⟩ := hI
  obtain ⟨z47z, hI⟩ := hI
  obtain ⟨z48z, hI⟩ := hI
  obtain ⟨z49z, hI⟩ := hI
  obtain ⟨z50z, hI⟩ := hI
  obtain ⟨z51z, hI⟩ := hI
  obtain ⟨z52z, hI⟩ := hI
  obtain ⟨z53z, hI⟩ := hI
  obtain ⟨z54z, hI⟩ := hI
  obtain ⟨z55z, hI⟩ := hI
  obtain ⟨z56z, hI⟩ := hI
  obtain ⟨z57z, hI⟩ := hI
  obtain ⟨z58z, hI⟩ := hI
  obtain ⟨z59z, hI⟩ := hI
  obtain ⟨z60z, hI⟩ := hI
  obtain ⟨z61z, hI⟩ := hI
  obtain ⟨z62z, hI⟩ := hI
  obtain ⟨z63z, hI⟩ := hI
  obtain ⟨z64z, hI⟩ := hI
  obtain ⟨z65z, hI⟩ := hI
  obtain ⟨z66z, hI⟩ := hI
  obtain ⟨z67z, hI⟩ := hI
  obtain ⟨z68z, hI⟩ := hI
  obtain ⟨z69z, hI⟩ := hI
  obtain ⟨z70z, hI⟩ := hI
  obtain ⟨z71z, hI⟩ := hI
  obtain ⟨z72z, hI⟩ := hI
  obtain ⟨z73z, hI⟩ := hI
  obtain ⟨z74z, hI⟩ := hI
  obtain ⟨z75z, hI⟩ := hI
  obtain ⟨z76z, hI⟩ := hI
  obtain ⟨z77z, hI⟩ := hI
  obtain ⟨z78z, hI⟩ := hI
  obtain ⟨z79z, hI⟩ := hI
  obtain ⟨z80z, hI⟩ := hI
  obtain ⟨z81z, hI⟩ := hI
  obtain ⟨z82z, hI⟩ := hI
  obtain ⟨z83z, hI⟩ := hI
  obtain ⟨z84z, hI⟩ := hI
  obtain ⟨z85z, hI⟩ := hI
  obtain ⟨z86z, hI⟩ := hI
  obtain ⟨z87z, hI⟩ := hI
  obtain ⟨z88z, hI⟩ := hI
  obtain ⟨z89z, hI⟩ := hI
  obtain ⟨z90z, hI⟩ := hI
  obtain ⟨z91z, hI⟩ := hI
  obtain ⟨z92z, hI⟩ := hI
  obtain ⟨z93z, hI⟩ := hI
  obtain ⟨z94z, hI⟩ := hI
  obtain ⟨z95z, hI⟩ := hI
  obtain ⟨z96z, hI⟩ := hI
  obtain ⟨z97z, hI⟩ := hI
  obtain ⟨z98z, hI⟩ := hI
  obtain ⟨z99z, hI⟩ := hI
  obtain ⟨z100z, hI⟩ := hI
  obtain ⟨z101z, hI⟩ := hI
  obtain ⟨z102z, hI⟩ := hI
  obtain ⟨z103z, hI⟩ := hI
  obtain ⟨z104z, hI⟩ := hI
  obtain ⟨z105z, hI⟩ := hI
  obtain ⟨z106z, hI⟩ := hI
  obtain ⟨z107z, hI⟩ := hI
  obtain ⟨z108z, hI⟩ := hI
  obtain ⟨z109z, hI⟩ := hI
  obtain ⟨z110z, hI⟩ := hI
  obtain ⟨z111z, hI⟩ := hI
  obtain ⟨z112z, hI⟩ := hI
  obtain ⟨z113z, hI⟩ := hI
  obtain ⟨z114z, hI⟩ := hI
  obtain ⟨z115z, hI⟩ := hI
  obtain ⟨z116z, hI⟩ := hI
  obtain ⟨z117z, hI⟩ := hI
  obtain ⟨z118z, hI⟩ := hI
  obtain ⟨z119z, hI⟩ := hI
  obtain ⟨z120z, hI⟩ := hI
  obtain ⟨z121z, hI⟩ := hI
  obtain ⟨z122z, hI⟩ := hI
  obtain ⟨z123z, hI⟩ := hI
  obtain ⟨z124z, hI⟩ := hI
  obtain ⟨z125z, hI⟩ := hI
  obtain ⟨z126z, hI⟩ := hI
  obtain ⟨z127z, hI⟩ := hI
  obtain ⟨z128z, hI⟩ := hI
  obtain ⟨z129z, hI⟩ := hI
  obtain ⟨z130z, hI⟩ := hI
  obtain ⟨z131z, hI⟩ := hI
  obtain ⟨z132z, hI⟩ := hI
  obtain ⟨z133z, hI⟩ := hI
  obtain ⟨z134z, hI⟩ := hI
  obtain ⟨z135z, hI⟩ := hI
  obtain ⟨z136z, hI⟩ := hI
  obtain ⟨z137z, hI⟩ := hI
  obtain ⟨z138z, hI⟩ := hI
  obtain ⟨z139z, hI⟩ := hI
  obtain ⟨z140z, hI⟩ := hI
  obtain ⟨z141z, hI⟩ := hI
  obtain ⟨z142z, hI⟩ := hI
  obtain ⟨z143z, hI⟩ := hI
  obtain ⟨z144z, hI⟩ := hI
  obtain ⟨z145z, hI⟩ := hI
  obtain ⟨z146z, hI⟩ := hI
  obtain ⟨z147z, hI⟩ := hI
  obtain ⟨z148z, hI⟩ := hI
  obtain ⟨z149z, hI⟩ := hI
  obtain ⟨z150z, hI⟩ := hI
  obtain ⟨z151z, hI⟩ := hI
  obtain ⟨z152z, hI⟩ := hI
  obtain ⟨z153z, hI⟩ := hI
  obtain ⟨z154z, hI⟩ := hI
  obtain ⟨z155z, hI⟩ := hI
  obtain ⟨z156z, hI⟩ := hI
  obtain ⟨z157z, hI⟩ := hI
  obtain ⟨z158z, hI⟩ := hI
  obtain ⟨z159z, hI⟩ := hI
  obtain ⟨z160z, hI⟩ := hI
  obtain ⟨z161z, hI⟩ := hI
  obtain ⟨z162z, hI⟩ := hI
  obtain ⟨z163z, hI⟩ := hI
  obtain ⟨z164z, hI⟩ := hI
  obtain ⟨z165z, hI⟩ := hI
  obtain ⟨z166z, hI⟩ := hI
  obtain ⟨z167z, hI⟩ := hI
  obtain ⟨z168z, hI⟩ := hI
  obtain ⟨z169z, hI⟩ := hI
  obtain ⟨z170z, hI⟩ := hI
  obtain ⟨z171z, hI⟩ := hI
  obtain ⟨z172z, hI⟩ := hI
  obtain ⟨z173z, hI⟩ := hI
  obtain ⟨z174z, hI⟩ := hI
  obtain ⟨z175z, hI⟩ := hI
  obtain ⟨z176z, hI⟩ := hI
  obtain ⟨z177z, hI⟩ := hI
  obtain ⟨z178z, hI⟩ := hI
  obtain ⟨z179z, hI⟩ := hI
  obtain ⟨z180z, hI⟩ := hI
  obtain ⟨z181z, hI⟩ := hI
  obtain ⟨z182z, hI⟩ := hI
  obtain ⟨z183z, hI⟩ := hI
  obtain ⟨z184z, hI⟩ := hI
  obtain ⟨z185z, hI⟩ := hI
  obtain ⟨z186z, hI⟩ := hI
  obtain ⟨z187z, hI⟩ := hI
  obtain ⟨z188z, hI⟩ := hI
  obtain ⟨z189z, hI⟩ := hI
  obtain ⟨z190z, hI⟩ := hI
  obtain ⟨z191z, hI⟩ := hI
  obtain ⟨z192z, hI⟩ := hI
  obtain ⟨z193z, hI⟩ := hI
  obtain ⟨z194z, hI⟩ := hI
  obtain ⟨z195z, hI⟩ := hI
  obtain ⟨z196z, hI⟩ := hI
  obtain ⟨z197z, hI⟩ := hI
  obtain ⟨z198z, hI⟩ := hI
  obtain ⟨z199z, hI⟩ := hI
  obtain ⟨z200z, hI⟩ := hI
  obtain ⟨z201z, hI⟩ := hI
  obtain ⟨hI, ha⟩ := hI
  obtain ⟨i, pc, ph, M, N, C, hi, h7, h8, h9, HPK, HREL, HPT0⟩ := hI
  subst h7 h8 h9 ha
  by_cases hin : i < n1
  · obtain ⟨ha1, hA2⟩ := HA.out (by omega)
    subst ha1
    by_cases z0 : Z i 0 = 0
    · exact pl_op0 n1 c1 pm pr cut w z2z z3z z22z z23z z24z z25z z26z z27z z28z z29z z30z z31z z32z z33z z202z z203z z204z z205z z206z z207z z208z z209z z210z z211z z212z z213z z214z z215z z4z z10z z11z z12z z13z z14z z15z z16z z17z z18z z19z z20z z21z z34z z35z z36z z37z z38z z39z z40z z41z z42z z43z z44z z45z z46z z47z z48z z49z z50z z51z z52z z53z z54z z55z z56z z57z z58z z59z z60z z61z z62z z63z z64z z65z z66z z67z z68z z69z z70z z71z z72z z73z z74z z75z z76z z77z z78z z79z z80z z81z z82z z83z z84z z85z z86z z87z z88z z89z z90z z91z z92z z93z z94z z95z z96z z97z z98z z99z z100z z101z z102z z103z z104z z105z z106z z107z z108z z109z z110z z111z z112z z113z z114z z115z z116z z117z z118z z119z z120z z121z z122z z123z z124z z125z z126z z127z z128z z129z z130z z131z z132z z133z z134z z135z z136z z137z z138z z139z z140z z141z z142z z143z z144z z145z z146z z147z z148z z149z z150z z151z z152z z153z z154z z155z z156z z157z z158z z159z z160z z161z z162z z163z z164z z165z z166z z167z z168z z169z z170z z171z z172z z173z z174z z175z z176z z177z z178z z179z z180z z181z z182z z183z z184z z185z z186z z187z z188z z189z z190z z191z z192z z193z z194z z195z z196z z197z z198z z199z z200z z201z b1 off1 Z i pc ph M N C wr Q0 hQ0 h1 hin hA2 HPK HREL HPT0 z0
    by_cases z1 : Z i 0 = 1
    · exact pl_op1 n1 c1 pm pr cut w z2z z3z z22z z23z z24z z25z z26z z27z z28z z29z z30z z31z z32z z33z z202z z203z z204z z205z z206z z207z z208z z209z z210z z211z z212z z213z z214z z215z z4z z10z z11z z12z z13z z14z z15z z16z z17z z18z z19z z20z z21z z34z z35z z36z z37z z38z z39z z40z z41z z42z z43z z44z z45z z46z z47z z48z z49z z50z z51z z52z z53z z54z z55z z56z z57z z58z z59z z60z z61z z62z z63z z64z z65z z66z z67z z68z z69z z70z z71z z72z z73z z74z z75z z76z z77z z78z z79z z80z z81z z82z z83z z84z z85z z86z z87z z88z z89z z90z z91z z92z z93z z94z z95z z96z z97z z98z z99z z100z z101z z102z z103z z104z z105z z106z z107z z108z z109z z110z z111z z112z z113z z114z z115z z116z z117z z118z z119z z120z z121z z122z z123z z124z z125z z126z z127z z128z z129z z130z z131z z132z z133z z134z z135z z136z z137z z138z z139z z140z z141z z142z z143z z144z z145z z146z z147z z148z z149z z150z z151z z152z z153z z154z z155z z156z z157z z158z z159z z160z z161z z162z z163z z164z z165z z166z z167z z168z z169z z170z z171z z172z z173z z174z z175z z176z z177z z178z z179z z180z z181z z182z z183z z184z z185z z186z z187z z188z z189z z190z z191z z192z z193z z194z z195z z196z z197z z198z z199z z200z z201z b1 off1 Z i pc ph M N C wr Q0 hQ0 h1 hin hA2 HPK HREL HPT0 z1
    by_cases z2 : Z i 0 = 2
    · exact pl_op2 n1 c1 pm pr cut w z2z z3z z22z z23z z24z z25z z26z z27z z28z z29z z30z z31z z32z z33z z202z z203z z204z z205z z206z z207z z208z z209z z210z z211z z212z z213z z214z z215z z4z z10z z11z z12z z13z z14z z15z z16z z17z z18z z19z z20z z21z z34z z35z z36z z37z z38z z39z z40z z41z z42z z43z z44z z45z z46z z47z z48z z49z z50z z51z z52z z53z z54z z55z z56z z57z z58z z59z z60z z61z z62z z63z z64z z65z z66z z67z z68z z69z z70z z71z z72z z73z z74z z75z z76z z77z z78z z79z z80z z81z z82z z83z z84z z85z z86z z87z z88z z89z z90z z91z z92z z93z z94z z95z z96z z97z z98z z99z z100z z101z z102z z103z z104z z105z z106z z107z z108z z109z z110z z111z z112z z113z z114z z115z z116z z117z z118z z119z z120z z121z z122z z123z z124z z125z z126z z127z z128z z129z z130z z131z z132z z133z z134z z135z z136z z137z z138z z139z z140z z141z z142z z143z z144z z145z z146z z147z z148z z149z z150z z151z z152z z153z z154z z155z z156z z157z z158z z159z z160z z161z z162z z163z z164z z165z z166z z167z z168z z169z z170z z171z z172z z173z z174z z175z z176z z177z z178z z179z z180z z181z z182z z183z z184z z185z z186z z187z z188z z189z z190z z191z z192z z193z z194z z195z z196z z197z z198z z199z z200z z201z b1 off1 Z i pc ph M N C wr Q0 hQ0 h1 hin hA2 HPK HREL HPT0 z2
    by_cases z3 : Z i 0 = 3
    · exact pl_op3 n1 c1 pm pr cut w z2z z3z z22z z23z z24z z25z z26z z27z z28z z29z z30z z31z z32z z33z z202z z203z z204z z205z z206z z207z z208z z209z z210z z211z z212z z213z z214z z215z z4z z10z z11z z12z z13z z14z z15z z16z z17z z18z z19z z20z z21z z34z z35z z36z z37z z38z z39z z40z z41z z42z z43z z44z z45z z46z z47z z48z z49z z50z z51z z52z z53z z54z z55z z56z z57z z58z z59z z60z z61z z62z z63z z64z z65z z66z z67z z68z z69z z70z z71z z72z z73z z74z z75z z76z z77z z78z z79z z80z z81z z82z z83z z84z z85z z86z z87z z88z z89z z90z z91z z92z z93z z94z z95z z96z z97z z98z z99z z100z z101z z102z z103z z104z z105z z106z z107z z108z z109z z110z z111z z112z z113z z114z z115z z116z z117z z118z z119z z120z z121z z122z z123z z124z z125z z126z z127z z128z z129z z130z z131z z132z z133z z134z z135z z136z z137z z138z z139z z140z z141z z142z z143z z144z z145z z146z z147z z148z z149z z150z z151z z152z z153z z154z z155z z156z z157z z158z z159z z160z z161z z162z z163z z164z z165z z166z z167z z168z z169z z170z z171z z172z z173z z174z z175z z176z z177z z178z z179z z180z z181z z182z z183z z184z z185z z186z z187z z188z z189z z190z z191z z192z z193z z194z z195z z196z z197z z198z z199z z200z z201z b1 off1 Z i pc ph M N C wr Q0 hQ0 h1 hin hA2 HPK HREL HPT0 z3
    by_cases z4 : Z i 0 = 4
    · exact pl_op4 n1 c1 pm pr cut w z2z z3z z22z z23z z24z z25z z26z z27z z28z z29z z30z z31z z32z z33z z202z z203z z204z z205z z206z z207z z208z z209z z210z z211z z212z z213z z214z z215z z4z z10z z11z z12z z13z z14z z15z z16z z17z z18z z19z z20z z21z z34z z35z z36z z37z z38z z39z z40z z41z z42z z43z z44z z45z z46z z47z z48z z49z z50z z51z z52z z53z z54z z55z z56z z57z z58z z59z z60z z61z z62z z63z z64z z65z z66z z67z z68z z69z z70z z71z z72z z73z z74z z75z z76z z77z z78z z79z z80z z81z z82z z83z z84z z85z z86z z87z z88z z89z z90z z91z z92z z93z z94z z95z z96z z97z z98z z99z z100z z101z z102z z103z z104z z105z z106z z107z z108z z109z z110z z111z z112z z113z z114z z115z z116z z117z z118z z119z z120z z121z z122z z123z z124z z125z z126z z127z z128z z129z z130z z131z z132z z133z z134z z135z z136z z137z z138z z139z z140z z141z z142z z143z z144z z145z z146z z147z z148z z149z z150z z151z z152z z153z z154z z155z z156z z157z z158z z159z z160z z161z z162z z163z z164z z165z z166z z167z z168z z169z z170z z171z z172z z173z z174z z175z z176z z177z z178z z179z z180z z181z z182z z183z z184z z185z z186z z187z z188z z189z z190z z191z z192z z193z z194z z195z z196z z197z z198z z199z z200z z201z b1 off1 Z i pc ph M N C wr Q0 hQ0 h1 hin hA2 HPK HREL HPT0 z4
    · exact pl_opd n1 c1 pm pr cut w z2z z3z z22z z23z z24z z25z z26z z27z z28z z29z z30z z31z z32z z33z z202z z203z z204z z205z z206z z207z z208z z209z z210z z211z z212z z213z z214z z215z z4z z10z z11z z12z z13z z14z z15z z16z z17z z18z z19z z20z z21z z34z z35z z36z z37z z38z z39z z40z z41z z42z z43z z44z z45z z46z z47z z48z z49z z50z z51z z52z z53z z54z z55z z56z z57z z58z z59z z60z z61z z62z z63z z64z z65z z66z z67z z68z z69z z70z z71z z72z z73z z74z z75z z76z z77z z78z z79z z80z z81z z82z z83z z84z z85z z86z z87z z88z z89z z90z z91z z92z z93z z94z z95z z96z z97z z98z z99z z100z z101z z102z z103z z104z z105z z106z z107z z108z z109z z110z z111z z112z z113z z114z z115z z116z z117z z118z z119z z120z z121z z122z z123z z124z z125z z126z z127z z128z z129z z130z z131z z132z z133z z134z z135z z136z z137z z138z z139z z140z z141z z142z z143z z144z z145z z146z z147z z148z z149z z150z z151z z152z z153z z154z z155z z156z z157z z158z z159z z160z z161z z162z z163z z164z z165z z166z z167z z168z z169z z170z z171z z172z z173z z174z z175z z176z z177z z178z z179z z180z z181z z182z z183z z184z z185z z186z z187z z188z z189z z190z z191z z192z z193z z194z z195z z196z z197z z198z z199z z200z z201z b1 off1 Z i pc ph M N C wr Q0 hQ0 h1 hin hA2 HPK HREL HPT0 ⟨z0, z1, z2, z3, z4⟩
  · have e : i = n1 := by omega
    subst e
    exact pl_out a1 i c1 pm pr cut w z2z z3z z22z z23z z24z z25z z26z z27z z28z z29z z30z z31z z32z z33z z202z z203z z204z z205z z206z z207z z208z z209z z210z z211z z212z z213z z214z z215z z4z z10z z11z z12z z13z z14z z15z z16z z17z z18z z19z z20z z21z z34z z35z z36z z37z z38z z39z z40z z41z z42z z43z z44z z45z z46z z47z z48z z49z z50z z51z z52z z53z z54z z55z z56z z57z z58z z59z z60z z61z z62z z63z z64z z65z z66z z67z z68z z69z z70z z71z z72z z73z z74z z75z z76z z77z z78z z79z z80z z81z z82z z83z z84z z85z z86z z87z z88z z89z z90z z91z z92z z93z z94z z95z z96z z97z z98z z99z z100z z101z z102z z103z z104z z105z z106z z107z z108z z109z z110z z111z z112z z113z z114z z115z z116z z117z z118z z119z z120z z121z z122z z123z z124z z125z z126z z127z z128z z129z z130z z131z z132z z133z z134z z135z z136z z137z z138z z139z z140z z141z z142z z143z z144z z145z z146z z147z z148z z149z z150z z151z z152z z153z z154z z155z z156z z157z z158z z159z z160z z161z z162z z163z z164z z165z z166z z167z z168z z169z z170z z171z z172z z173z z174z z175z z176z z177z z178z z179z z180z z181z z182z z183z z184z z185z z186z z187z z188z z189z z190z z191z z192z z193z z194z z195z z196z z197z z198z z199z z200z z201z pc ph M N C wr Q0 HPK HREL HPT0 hexit
set_option maxRecDepth 1000000 in
set_option maxHeartbeats 20000000 in
theorem pl_loop (a1 : Option Addr) (n1 c1 pm pr : Nat) (cut : Int) (w : World) (z2z z3z z22z z23z z24z z25z z26z z27z z28z z29z z30z z31z z32z z33z z202z z203z z204z z205z z206z z207z z208z z209z z210z z211z z212z z213z z214z z215z : Value) (z4z z7z z8z z9z z10z z11z z12z z13z z14z z15z z16z z17z z18z z19z z20z z21z z34z z35z z36z z37z z38z z39z z40z z41z z42z z43z z44z z45z z46z z47z z48z z49z z50z z51z z52z z53z z54z z55z z56z z57z z58z z59z z60z z61z z62z z63z z64z z65z z66z z67z z68z z69z z70z z71z z72z z73z z74z z75z z76z z77z z78z z79z z80z z81z z82z z83z z84z z85z z86z z87z z88z z89z z90z z91z z92z z93z z94z z95z z96z z97z z98z z99z z100z z101z z102z z103z z104z z105z z106z z107z z108z z109z z110z z111z z112z z113z z114z z115z z116z z117z z118z z119z z120z z121z z122z z123z z124z z125z z126z z127z z128z z129z z130z z131z z132z z133z z134z z135z z136z z137z z138z z139z z140z z141z z142z z143z z144z z145z z146z z147z z148z z149z z150z z151z z152z z153z z154z z155z z156z z157z z158z z159z z160z z161z z162z z163z z164z z165z z166z z167z z168z z169z z170z z171z z172z z173z z174z z175z z176z z177z z178z z179z z180z z181z z182z z183z z184z z185z z186z z187z z188z z189z z190z z191z z192z z193z z194z z195z z196z z197z z198z z199z z200z z201z : Value) (b1 off1 : Nat) (Z : Nat → Nat → Int) (Q0 : Exit → Act → World → Prop) (wr : World) (hQ0 : ∀ c (a : Act) d v x, Q0 (.panic c) (a.put d v) x → Q0 (.panic c) a x) (h1 : (n1 : Int) ≤ 80)
    (HA : Hid (0 < n1 → a1 = some ⟨b1, off1, none⟩ ∧ ∀ i, i < n1 → ∀ j, j < 9 → w.cell? ⟨b1, off1 + i * 9 + j, none⟩ = some (.int .i64 (Z i j))))
    (hexit : ∀ a' w'', PlI a1 n1 c1 pm pr cut w z2z z3z z22z z23z z24z z25z z26z z27z z28z z29z z30z z31z z32z z33z z202z z203z z204z z205z z206z z207z z208z z209z z210z z211z z212z z213z z214z z215z a' w'' → Q0 (.exit 0) a' w'') (hrel : PlRel n1 pm pr w z7z z8z z9z wr) :
    Code.wp Try.prog (Code.loop plBody) Q0 ⟨#[.slice a1 n1 c1, .int .i64 cut, z2z, z3z, z4z, .pointer (some ⟨pm, 0, none⟩), .pointer (some ⟨pr, 0, none⟩), z7z, z8z, z9z, z10z, z11z, z12z, z13z, z14z, z15z, z16z, z17z, z18z, z19z, z20z, z21z, z22z, z23z, z24z, z25z, z26z, z27z, z28z, z29z, z30z, z31z, z32z, z33z, z34z, z35z, z36z, z37z, z38z, z39z, z40z, z41z, z42z, z43z, z44z, z45z, z46z, z47z, z48z, z49z, z50z, z51z, z52z, z53z, z54z, z55z, z56z, z57z, z58z, z59z, z60z, z61z, z62z, z63z, z64z, z65z, z66z, z67z, z68z, z69z, z70z, z71z, z72z, z73z, z74z, z75z, z76z, z77z, z78z, z79z, z80z, z81z, z82z, z83z, z84z, z85z, z86z, z87z, z88z, z89z, z90z, z91z, z92z, z93z, z94z, z95z, z96z, z97z, z98z, z99z, z100z, z101z, z102z, z103z, z104z, z105z, z106z, z107z, z108z, z109z, z110z, z111z, z112z, z113z, z114z, z115z, z116z, z117z, z118z, z119z, z120z, z121z, z122z, z123z, z124z, z125z, z126z, z127z, z128z, z129z, z130z, z131z, z132z, z133z, z134z, z135z, z136z, z137z, z138z, z139z, z140z, z141z, z142z, z143z, z144z, z145z, z146z, z147z, z148z, z149z, z150z, z151z, z152z, z153z, z154z, z155z, z156z, z157z, z158z, z159z, z160z, z161z, z162z, z163z, z164z, z165z, z166z, z167z, z168z, z169z, z170z, z171z, z172z, z173z, z174z, z175z, z176z, z177z, z178z, z179z, z180z, z181z, z182z, z183z, z184z, z185z, z186z, z187z, z188z, z189z, z190z, z191z, z192z, z193z, z194z, z195z, z196z, z197z, z198z, z199z, z200z, z201z, z202z, z203z, z204z, z205z, z206z, z207z, z208z, z209z, z210z, z211z, z212z, z213z, z214z, z215z], []⟩ wr := by
  refine wp_loop (PlI a1 n1 c1 pm pr cut w z2z z3z z22z z23z z24z z25z z26z z27z z28z z29z z30z z31z z32z z33z z202z z203z z204z z205z z206z z207z z208z z209z z210z z211z z212z z213z z214z z215z) (PlMu n1) ?_ (fun a w'' hI => pl_round a1 n1 c1 pm pr cut w z2z z3z z22z z23z z24z z25z z26z z27z z28z z29z z30z z31z z32z z33z z202z z203z z204z z205z z206z z207z z208z z209z z210z z211z z212z z213z z214z z215z b1 off1 Z Q0 hQ0 h1 HA hexit a w'' hI)
  unfold PlI
  exact ⟨z4z, z7z, z8z, z9z, z10z, z11z, z12z, z13z, z14z, z15z, z16z, z17z, z18z, z19z, z20z, z21z, z34z, z35z, z36z, z37z, z38z, z39z, z40z, z41z, z42z, z43z, z44z, z45z, z46z, z47z, z48z, z49z, z50z, z51z, z52z, z53z, z54z, z55z, z56z, z57z, z58z, z59z, z60z, z61z, z62z, z63z, z64z, z65z, z66z, z67z, z68z, z69z, z70z, z71z, z72z, z73z, z74z, z75z, z76z, z77z, z78z, z79z, z80z, z81z, z82z, z83z, z84z, z85z, z86z, z87z, z88z, z89z, z90z, z91z, z92z, z93z, z94z, z95z, z96z, z97z, z98z, z99z, z100z, z101z, z102z, z103z, z104z, z105z, z106z, z107z, z108z, z109z, z110z, z111z, z112z, z113z, z114z, z115z, z116z, z117z, z118z, z119z, z120z, z121z, z122z, z123z, z124z, z125z, z126z, z127z, z128z, z129z, z130z, z131z, z132z, z133z, z134z, z135z, z136z, z137z, z138z, z139z, z140z, z141z, z142z, z143z, z144z, z145z, z146z, z147z, z148z, z149z, z150z, z151z, z152z, z153z, z154z, z155z, z156z, z157z, z158z, z159z, z160z, z161z, z162z, z163z, z164z, z165z, z166z, z167z, z168z, z169z, z170z, z171z, z172z, z173z, z174z, z175z, z176z, z177z, z178z, z179z, z180z, z181z, z182z, z183z, z184z, z185z, z186z, z187z, z188z, z189z, z190z, z191z, z192z, z193z, z194z, z195z, z196z, z197z, z198z, z199z, z200z, z201z, hrel, rfl⟩

end Go.Proofs.Ytnklpccggbkknaa
