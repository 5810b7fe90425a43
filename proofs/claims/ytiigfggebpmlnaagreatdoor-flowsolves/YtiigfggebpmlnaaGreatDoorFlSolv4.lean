/- FlowSolves: the walk where Solve does not take what came in. -/
import Derived.Test.YtiigfggebpmlnaaGreatDoorFlSolv3
namespace Go.Proofs.YtiigfggebpmlnaaGreatDoor
open Go.ChangeShapes Go.WideShapes Go.ChangeAt Go.RowKit
set_option linter.unusedSimpArgs false
set_option linter.unusedVariables false

theorem ed_eq (n : Int) (e : Int × Int) : (inM (n - 1) e.1 && inM (n - 1) e.2) = edB n e := by
  unfold inM edB
  rw [Bool.eq_iff_iff]
  simp only [Bool.and_eq_true, decide_eq_true_eq]
  omega
theorem okS_ed (n : Int) (es : List (Int × Int)) (st : List Int) (most : Int) (hn : n ≤ 100) : okS n es st most = (decide (0 ≤ n) && (decide ((st.length : Int) = n) && (inM 1000000 most && (st.all (inM most) && es.all (edB n))))) := by
  unfold okS
  have e1 : (es.all fun e => inM (n - 1) e.1 && inM (n - 1) e.2) = es.all (edB n) := by
    congr 1
    funext e
    exact ed_eq n e
  have e2 : inM 2000 n = decide (0 ≤ n) := by
    unfold inM
    rw [Bool.eq_iff_iff]
    simp only [Bool.and_eq_true, decide_eq_true_eq]
    omega
  rw [e1, e2]

set_option maxRecDepth 100000 in
set_option maxHeartbeats 4000000 in
theorem fss_1 (n : Int) (ea : Option Addr) (ne ec : Nat) (sa : Option Addr) (ns sc : Nat) (most : Int) (es : List (Int × Int)) (st : List Int) (w : World) (HN : Hid (ne = es.length)) (HS : Hid (ns = st.length)) (hns : ns * 8 ≤ 140737488355328) (hne : ne * 16 ≤ 140737488355328) (HE : Hid (EL w (.slice ea ne ec) es)) (HL : Hid (IL w (.slice sa ns sc) st)) (HA : Hid (∀ W, Below w.heap.size w W → Calls Tryz.prog 5 #[] W (retP (.bool true) W))) (h : 100 < n) : Calls Tryz.prog 3 #[.int .i64 n, .slice ea ne ec, .slice sa ns sc, .int .i64 most] w (retP (.bool true) w) := by
  have hnm : (ns : Int) ≤ 9223372036854775807 := by omega
  have hnm2 : (ne : Int) ≤ 9223372036854775807 := by omega
  go_enter Tryz.func3, Tryz.ntmps3
  go_wp2_with (go_at_call 5; refine (HA.out _ (Below.refl _ _)).mono ?_; rintro e w1 ⟨rfl, hb1⟩; have HB1 := hid hb1; clear hb1)
  go_ret
  exact ⟨rfl, HB1.out⟩

set_option maxRecDepth 100000 in
set_option maxHeartbeats 4000000 in
theorem fss_2 (n : Int) (ea : Option Addr) (ne ec : Nat) (sa : Option Addr) (ns sc : Nat) (most : Int) (es : List (Int × Int)) (st : List Int) (w : World) (HN : Hid (ne = es.length)) (HS : Hid (ns = st.length)) (hns : ns * 8 ≤ 140737488355328) (hne : ne * 16 ≤ 140737488355328) (HE : Hid (EL w (.slice ea ne ec) es)) (HL : Hid (IL w (.slice sa ns sc) st)) (HA : Hid (∀ W, Below w.heap.size w W → Calls Tryz.prog 5 #[] W (retP (.bool true) W))) (h0 : ¬ 100 < n) (h : 300 < (ne : Int)) : Calls Tryz.prog 3 #[.int .i64 n, .slice ea ne ec, .slice sa ns sc, .int .i64 most] w (retP (.bool true) w) := by
  have hnm : (ns : Int) ≤ 9223372036854775807 := by omega
  have hnm2 : (ne : Int) ≤ 9223372036854775807 := by omega
  go_enter Tryz.func3, Tryz.ntmps3
  go_wp2_with (go_at_call 5; refine (HA.out _ (Below.refl _ _)).mono ?_; rintro e w1 ⟨rfl, hb1⟩; have HB1 := hid hb1; clear hb1)
  go_ret
  exact ⟨rfl, HB1.out⟩

set_option maxRecDepth 100000 in
set_option maxHeartbeats 4000000 in
theorem fss_3 (n : Int) (ea : Option Addr) (ne ec : Nat) (sa : Option Addr) (ns sc : Nat) (most : Int) (es : List (Int × Int)) (st : List Int) (w : World) (HN : Hid (ne = es.length)) (HS : Hid (ns = st.length)) (hns : ns * 8 ≤ 140737488355328) (hne : ne * 16 ≤ 140737488355328) (HE : Hid (EL w (.slice ea ne ec) es)) (HL : Hid (IL w (.slice sa ns sc) st)) (HA : Hid (∀ W, Below w.heap.size w W → Calls Tryz.prog 5 #[] W (retP (.bool true) W))) (h0 : ¬ 100 < n) (h1 : ¬ 300 < (ne : Int)) (h : 100 < (ns : Int)) : Calls Tryz.prog 3 #[.int .i64 n, .slice ea ne ec, .slice sa ns sc, .int .i64 most] w (retP (.bool true) w) := by
  have hnm : (ns : Int) ≤ 9223372036854775807 := by omega
  have hnm2 : (ne : Int) ≤ 9223372036854775807 := by omega
  go_enter Tryz.func3, Tryz.ntmps3
  go_wp2_with (go_at_call 5; refine (HA.out _ (Below.refl _ _)).mono ?_; rintro e w1 ⟨rfl, hb1⟩; have HB1 := hid hb1; clear hb1)
  go_ret
  exact ⟨rfl, HB1.out⟩

set_option maxRecDepth 100000 in
set_option maxHeartbeats 4000000 in
theorem fs_skip1 (z0z z1z z2z z3z z4z z5z z6z z7z z8z z9z z10z z13z z14z z15z z16z z17z z18z z19z z20z z21z z22z z23z z24z z25z z26z z27z z28z z29z z30z z31z z32z z33z z34z z35z z36z z37z z38z z39z z40z z41z z42z z43z z44z z45z z46z z47z z48z z49z z50z z51z z52z z53z z54z z55z z56z z57z z58z z59z z60z z61z z62z z63z z64z z65z z66z z67z z68z z69z z70z z71z z72z z73z z74z z75z z76z z77z z78z z79z z80z z81z z82z z83z z84z z85z z86z z87z z88z z89z z90z z91z z92z z93z z94z z95z z96z z97z z98z z99z z100z z101z z102z z103z z104z z105z z106z z107z z108z z109z z110z z111z z112z z113z z114z z115z z116z z117z z118z z119z z120z z121z z122z z123z z124z z125z z126z z127z z128z z129z z130z z131z z132z z133z z134z z135z z136z z137z z138z z139z z140z z141z z142z z143z z144z z145z z146z z147z z148z z149z z150z z151z z152z z153z z154z z155z z156z z157z z158z z159z z160z z161z z162z z163z z164z z165z z166z z167z z168z z169z z170z z171z z172z z173z z174z z175z z176z z177z z178z z179z z180z z181z z182z z183z z184z z185z z186z z187z z188z z189z z190z z191z : Value) (Q0 : Exit → Act → World → Prop) (w : World) (HX : Hid (∀ v56 v57 v58 v59 v60 v61 v62 v63 v64 v65 v66 v67 v68 v69 v70 v71 v72 v73 v74 v75 v76 v77, Q0 (.exit 0) ⟨#[z0z, z1z, z2z, z3z, z4z, z5z, z6z, z7z, z8z, z9z, z10z, .bool false, .int .i64 0, z13z, z14z, z15z, z16z, z17z, z18z, z19z, z20z, z21z, z22z, z23z, z24z, z25z, z26z, z27z, z28z, z29z, z30z, z31z, z32z, z33z, z34z, z35z, z36z, z37z, z38z, z39z, z40z, z41z, z42z, z43z, z44z, z45z, z46z, z47z, z48z, z49z, z50z, z51z, z52z, z53z, z54z, z55z, v56, v57, v58, v59, v60, v61, v62, v63, v64, v65, v66, v67, v68, v69, v70, v71, v72, v73, v74, v75, v76, v77, z78z, z79z, z80z, z81z, z82z, z83z, z84z, z85z, z86z, z87z, z88z, z89z, z90z, z91z, z92z, z93z, z94z, z95z, z96z, z97z, z98z, z99z, z100z, z101z, z102z, z103z, z104z, z105z, z106z, z107z, z108z, z109z, z110z, z111z, z112z, z113z, z114z, z115z, z116z, z117z, z118z, z119z, z120z, z121z, z122z, z123z, z124z, z125z, z126z, z127z, z128z, z129z, z130z, z131z, z132z, z133z, z134z, z135z, z136z, z137z, z138z, z139z, z140z, z141z, z142z, z143z, z144z, z145z, z146z, z147z, z148z, z149z, z150z, z151z, z152z, z153z, z154z, z155z, z156z, z157z, z158z, z159z, z160z, z161z, z162z, z163z, z164z, z165z, z166z, z167z, z168z, z169z, z170z, z171z, z172z, z173z, z174z, z175z, z176z, z177z, z178z, z179z, z180z, z181z, z182z, z183z, z184z, z185z, z186z, z187z, z188z, z189z, z190z, z191z], []⟩ w)) :
    Code.wp Tryz.prog (Code.loop (fsL 0)) Q0 ⟨#[z0z, z1z, z2z, z3z, z4z, z5z, z6z, z7z, z8z, z9z, z10z, .bool false, .int .i64 0, z13z, z14z, z15z, z16z, z17z, z18z, z19z, z20z, z21z, z22z, z23z, z24z, z25z, z26z, z27z, z28z, z29z, z30z, z31z, z32z, z33z, z34z, z35z, z36z, z37z, z38z, z39z, z40z, z41z, z42z, z43z, z44z, z45z, z46z, z47z, z48z, z49z, z50z, z51z, z52z, z53z, z54z, z55z, z56z, z57z, z58z, z59z, z60z, z61z, z62z, z63z, z64z, z65z, z66z, z67z, z68z, z69z, z70z, z71z, z72z, z73z, z74z, z75z, z76z, z77z, z78z, z79z, z80z, z81z, z82z, z83z, z84z, z85z, z86z, z87z, z88z, z89z, z90z, z91z, z92z, z93z, z94z, z95z, z96z, z97z, z98z, z99z, z100z, z101z, z102z, z103z, z104z, z105z, z106z, z107z, z108z, z109z, z110z, z111z, z112z, z113z, z114z, z115z, z116z, z117z, z118z, z119z, z120z, z121z, z122z, z123z, z124z, z125z, z126z, z127z, z128z, z129z, z130z, z131z, z132z, z133z, z134z, z135z, z136z, z137z, z138z, z139z, z140z, z141z, z142z, z143z, z144z, z145z, z146z, z147z, z148z, z149z, z150z, z151z, z152z, z153z, z154z, z155z, z156z, z157z, z158z, z159z, z160z, z161z, z162z, z163z, z164z, z165z, z166z, z167z, z168z, z169z, z170z, z171z, z172z, z173z, z174z, z175z, z176z, z177z, z178z, z179z, z180z, z181z, z182z, z183z, z184z, z185z, z186z, z187z, z188z, z189z, z190z, z191z], []⟩ w := by
  conv => arg 2; arg 1; whnf
  dsimp only
  try simp only [List.append_eq, List.cons_append, List.nil_append]
  go_loopw [11, 12] (fun v11 vc wr => v11 = .bool false ∧ vc = .int .i64 0 ∧ wr = w) (fun _ _ _ => 0)
  case atStart => exact ⟨rfl, rfl, rfl⟩
  case round =>
    obtain ⟨rfl, rfl, hwr⟩ := hrel
    replace hwr := hwr.symm
    subst hwr
    go_wp2
    exact HX.out _ _ _ _ _ _ _ _ _ _ _ _ _ _ _ _ _ _ _ _ _ _ 

set_option maxRecDepth 100000 in
set_option maxHeartbeats 4000000 in
theorem fs_skip2 (z0z z1z z2z z3z z4z z5z z6z z7z z8z z9z z10z z12z z14z z15z z16z z17z z18z z19z z20z z21z z22z z23z z24z z25z z26z z27z z28z z29z z30z z31z z32z z33z z34z z35z z36z z37z z38z z39z z40z z41z z42z z43z z44z z45z z46z z47z z48z z49z z50z z51z z52z z53z z54z z55z z56z z57z z58z z59z z60z z61z z62z z63z z64z z65z z66z z67z z68z z69z z70z z71z z72z z73z z74z z75z z76z z77z z78z z79z z80z z81z z82z z83z z84z z85z z86z z87z z88z z89z z90z z91z z92z z93z z94z z95z z96z z97z z98z z99z z100z z101z z102z z103z z104z z105z z106z z107z z108z z109z z110z z111z z112z z113z z114z z115z z116z z117z z118z z119z z120z z121z z122z z123z z124z z125z z126z z127z z128z z129z z130z z131z z132z z133z z134z z135z z136z z137z z138z z139z z140z z141z z142z z143z z144z z145z z146z z147z z148z z149z z150z z151z z152z z153z z154z z155z z156z z157z z158z z159z z160z z161z z162z z163z z164z z165z z166z z167z z168z z169z z170z z171z z172z z173z z174z z175z z176z z177z z178z z179z z180z z181z z182z z183z z184z z185z z186z z187z z188z z189z z190z z191z : Value) (Q0 : Exit → Act → World → Prop) (w : World) (HX : Hid (∀ v78 v79 v80 v81 v82 v83 v84 v85 v86 v87 v88 v89 v90 v91 v92 v93 v94 v95 v96 v97 v98 v99 v100 v101 v102 v103 v104 v105 v106 v107 v108 v109 v110 v111 v112 v113 v114 v115 v116 v117 v118, Q0 (.exit 2) ⟨#[z0z, z1z, z2z, z3z, z4z, z5z, z6z, z7z, z8z, z9z, z10z, .bool false, z12z, .int .i64 0, z14z, z15z, z16z, z17z, z18z, z19z, z20z, z21z, z22z, z23z, z24z, z25z, z26z, z27z, z28z, z29z, z30z, z31z, z32z, z33z, z34z, z35z, z36z, z37z, z38z, z39z, z40z, z41z, z42z, z43z, z44z, z45z, z46z, z47z, z48z, z49z, z50z, z51z, z52z, z53z, z54z, z55z, z56z, z57z, z58z, z59z, z60z, z61z, z62z, z63z, z64z, z65z, z66z, z67z, z68z, z69z, z70z, z71z, z72z, z73z, z74z, z75z, z76z, z77z, v78, v79, v80, v81, v82, v83, v84, v85, v86, v87, v88, v89, v90, v91, v92, v93, v94, v95, v96, v97, v98, v99, v100, v101, v102, v103, v104, v105, v106, v107, v108, v109, v110, v111, v112, v113, v114, v115, v116, v117, v118, z119z, z120z, z121z, z122z, z123z, z124z, z125z, z126z, z127z, z128z, z129z, z130z, z131z, z132z, z133z, z134z, z135z, z136z, z137z, z138z, z139z, z140z, z141z, z142z, z143z, z144z, z145z, z146z, z147z, z148z, z149z, z150z, z151z, z152z, z153z, z154z, z155z, z156z, z157z, z158z, z159z, z160z, z161z, z162z, z163z, z164z, z165z, z166z, z167z, z168z, z169z, z170z, z171z, z172z, z173z, z174z, z175z, z176z, z177z, z178z, z179z, z180z, z181z, z182z, z183z, z184z, z185z, z186z, z187z, z188z, z189z, z190z, z191z], []⟩ w)) :
    Code.wp Tryz.prog (Code.loop (fsL 1)) Q0 ⟨#[z0z, z1z, z2z, z3z, z4z, z5z, z6z, z7z, z8z, z9z, z10z, .bool false, z12z, .int .i64 0, z14z, z15z, z16z, z17z, z18z, z19z, z20z, z21z, z22z, z23z, z24z, z25z, z26z, z27z, z28z, z29z, z30z, z31z, z32z, z33z, z34z, z35z, z36z, z37z, z38z, z39z, z40z, z41z, z42z, z43z, z44z, z45z, z46z, z47z, z48z, z49z, z50z, z51z, z52z, z53z, z54z, z55z, z56z, z57z, z58z, z59z, z60z, z61z, z62z, z63z, z64z, z65z, z66z, z67z, z68z, z69z, z70z, z71z, z72z, z73z, z74z, z75z, z76z, z77z, z78z, z79z, z80z, z81z, z82z, z83z, z84z, z85z, z86z, z87z, z88z, z89z, z90z, z91z, z92z, z93z, z94z, z95z, z96z, z97z, z98z, z99z, z100z, z101z, z102z, z103z, z104z, z105z, z106z, z107z, z108z, z109z, z110z, z111z, z112z, z113z, z114z, z115z, z116z, z117z, z118z, z119z, z120z, z121z, z122z, z123z, z124z, z125z, z126z, z127z, z128z, z129z, z130z, z131z, z132z, z133z, z134z, z135z, z136z, z137z, z138z, z139z, z140z, z141z, z142z, z143z, z144z, z145z, z146z, z147z, z148z, z149z, z150z, z151z, z152z, z153z, z154z, z155z, z156z, z157z, z158z, z159z, z160z, z161z, z162z, z163z, z164z, z165z, z166z, z167z, z168z, z169z, z170z, z171z, z172z, z173z, z174z, z175z, z176z, z177z, z178z, z179z, z180z, z181z, z182z, z183z, z184z, z185z, z186z, z187z, z188z, z189z, z190z, z191z], []⟩ w := by
  conv => arg 2; arg 1; whnf
  dsimp only
  try simp only [List.append_eq, List.cons_append, List.nil_append]
  go_loopw [11, 13] (fun v11 vc wr => v11 = .bool false ∧ vc = .int .i64 0 ∧ wr = w) (fun _ _ _ => 0)
  case atStart => exact ⟨rfl, rfl, rfl⟩
  case round =>
    obtain ⟨rfl, rfl, hwr⟩ := hrel
    replace hwr := hwr.symm
    subst hwr
    go_wp2
    exact HX.out _ _ _ _ _ _ _ _ _ _ _ _ _ _ _ _ _ _ _ _ _ _ _ _ _ _ _ _ _ _ _ _ _ _ _ _ _ _ _ _ _ 

set_option maxRecDepth 100000 in
set_option maxHeartbeats 8000000 in
theorem fsb_1 (n : Int) (ea : Option Addr) (ne ec : Nat) (sa : Option Addr) (ns sc : Nat) (most : Int) (es : List (Int × Int)) (st : List Int) (w : World) (HN : Hid (ne = es.length)) (HS : Hid (ns = st.length)) (hns : ns * 8 ≤ 140737488355328) (hne : ne * 16 ≤ 140737488355328) (HE : Hid (EL w (.slice ea ne ec) es)) (HL : Hid (IL w (.slice sa ns sc) st)) (HA : Hid (∀ W, Below w.heap.size w W → Calls Tryz.prog 5 #[] W (retP (.bool true) W))) (h0 : ¬ 100 < n) (h1 : ¬ 300 < (ne : Int)) (h2 : ¬ 100 < (ns : Int)) (HK : Hid (okS n es st most = false)) (c1 : ¬ 0 ≤ n) (d1 : decide (0 ≤ n) = false) : Calls Tryz.prog 3 #[.int .i64 n, .slice ea ne ec, .slice sa ns sc, .int .i64 most] w (retP (.bool true) w) := by
  have hnm : (ns : Int) ≤ 9223372036854775807 := by omega
  have hnm2 : (ne : Int) ≤ 9223372036854775807 := by omega
  have HSO : Hid (∀ W, Below w.heap.size w W → Calls Tryz.prog 6 #[.int .i64 n, .slice ea ne ec, .slice sa ns sc, .int .i64 most] W fun e w' => e = .returned (.tuple #[.slice none 0 0, .int .i64 1]) ∧ Below W.heap.size W w') := fun W hW =>
    (solve_any n most (HE.out.keep hW) (HL.out.keep hW) (by rw [← HN.out]; omega)).mono fun e w' h => ⟨h.2.1 HK.out, h.1⟩
  go_enter Tryz.func3, Tryz.ntmps3
  go_wp2_with (first | (go_at_call 5; refine (HA.out _ (Below.refl _ _)).mono ?_; rintro e w1 ⟨rfl, hb1⟩; have HB1 := hid hb1; clear hb1) | (go_at_call 6; refine (HSO.out _ HB1.out).mono ?_; rintro e w2 ⟨rfl, hb2⟩; have HB2 := hid (bel_trans HB1.out hb2); clear hb2))
  refine fs_skip1 _ _ _ _ _ _ _ _ _ _ _ _ _ _ _ _ _ _ _ _ _ _ _ _ _ _ _ _ _ _ _ _ _ _ _ _ _ _ _ _ _ _ _ _ _ _ _ _ _ _ _ _ _ _ _ _ _ _ _ _ _ _ _ _ _ _ _ _ _ _ _ _ _ _ _ _ _ _ _ _ _ _ _ _ _ _ _ _ _ _ _ _ _ _ _ _ _ _ _ _ _ _ _ _ _ _ _ _ _ _ _ _ _ _ _ _ _ _ _ _ _ _ _ _ _ _ _ _ _ _ _ _ _ _ _ _ _ _ _ _ _ _ _ _ _ _ _ _ _ _ _ _ _ _ _ _ _ _ _ _ _ _ _ _ _ _ _ _ _ _ _ _ _ _ _ _ _ _ _ _ _ _ _ _ _ _ _ _ _ _ _ w2 ?_
  intro v56 v57 v58 v59 v60 v61 v62 v63 v64 v65 v66 v67 v68 v69 v70 v71 v72 v73 v74 v75 v76 v77
  go_wp2
  refine fs_skip2 _ _ _ _ _ _ _ _ _ _ _ _ _ _ _ _ _ _ _ _ _ _ _ _ _ _ _ _ _ _ _ _ _ _ _ _ _ _ _ _ _ _ _ _ _ _ _ _ _ _ _ _ _ _ _ _ _ _ _ _ _ _ _ _ _ _ _ _ _ _ _ _ _ _ _ _ _ _ _ _ _ _ _ _ _ _ _ _ _ _ _ _ _ _ _ _ _ _ _ _ _ _ _ _ _ _ _ _ _ _ _ _ _ _ _ _ _ _ _ _ _ _ _ _ _ _ _ _ _ _ _ _ _ _ _ _ _ _ _ _ _ _ _ _ _ _ _ _ _ _ _ _ _ _ _ _ _ _ _ _ _ _ _ _ _ _ _ _ _ _ _ _ _ _ _ _ _ _ _ _ _ _ _ _ _ _ _ _ _ _ _ w2 ?_
  intro q78 q79 q80 q81 q82 q83 q84 q85 q86 q87 q88 q89 q90 q91 q92 q93 q94 q95 q96 q97 q98 q99 q100 q101 q102 q103 q104 q105 q106 q107 q108 q109 q110 q111 q112 q113 q114 q115 q116 q117 q118
  go_wp2
  go_ret
  exact ⟨rfl, HB2.out⟩

set_option maxRecDepth 100000 in
set_option maxHeartbeats 8000000 in
theorem fsb_2 (n : Int) (ea : Option Addr) (ne ec : Nat) (sa : Option Addr) (ns sc : Nat) (most : Int) (es : List (Int × Int)) (st : List Int) (w : World) (HN : Hid (ne = es.length)) (HS : Hid (ns = st.length)) (hns : ns * 8 ≤ 140737488355328) (hne : ne * 16 ≤ 140737488355328) (HE : Hid (EL w (.slice ea ne ec) es)) (HL : Hid (IL w (.slice sa ns sc) st)) (HA : Hid (∀ W, Below w.heap.size w W → Calls Tryz.prog 5 #[] W (retP (.bool true) W))) (h0 : ¬ 100 < n) (h1 : ¬ 300 < (ne : Int)) (h2 : ¬ 100 < (ns : Int)) (HK : Hid (okS n es st most = false)) (c1 : 0 ≤ n) (c2 : ¬ (ns : Int) = n) (d2 : ((ns : Int) == n) = false) : Calls Tryz.prog 3 #[.int .i64 n, .slice ea ne ec, .slice sa ns sc, .int .i64 most] w (retP (.bool true) w) := by
  have hnm : (ns : Int) ≤ 9223372036854775807 := by omega
  have hnm2 : (ne : Int) ≤ 9223372036854775807 := by omega
  have HSO : Hid (∀ W, Below w.heap.size w W → Calls Tryz.prog 6 #[.int .i64 n, .slice ea ne ec, .slice sa ns sc, .int .i64 most] W fun e w' => e = .returned (.tuple #[.slice none 0 0, .int .i64 1]) ∧ Below W.heap.size W w') := fun W hW =>
    (solve_any n most (HE.out.keep hW) (HL.out.keep hW) (by rw [← HN.out]; omega)).mono fun e w' h => ⟨h.2.1 HK.out, h.1⟩
  go_enter Tryz.func3, Tryz.ntmps3
  go_wp2_with (first | (go_at_call 5; refine (HA.out _ (Below.refl _ _)).mono ?_; rintro e w1 ⟨rfl, hb1⟩; have HB1 := hid hb1; clear hb1) | (go_at_call 6; refine (HSO.out _ HB1.out).mono ?_; rintro e w2 ⟨rfl, hb2⟩; have HB2 := hid (bel_trans HB1.out hb2); clear hb2))
  refine fs_skip1 _ _ _ _ _ _ _ _ _ _ _ _ _ _ _ _ _ _ _ _ _ _ _ _ _ _ _ _ _ _ _ _ _ _ _ _ _ _ _ _ _ _ _ _ _ _ _ _ _ _ _ _ _ _ _ _ _ _ _ _ _ _ _ _ _ _ _ _ _ _ _ _ _ _ _ _ _ _ _ _ _ _ _ _ _ _ _ _ _ _ _ _ _ _ _ _ _ _ _ _ _ _ _ _ _ _ _ _ _ _ _ _ _ _ _ _ _ _ _ _ _ _ _ _ _ _ _ _ _ _ _ _ _ _ _ _ _ _ _ _ _ _ _ _ _ _ _ _ _ _ _ _ _ _ _ _ _ _ _ _ _ _ _ _ _ _ _ _ _ _ _ _ _ _ _ _ _ _ _ _ _ _ _ _ _ _ _ _ _ _ _ w2 ?_
  intro v56 v57 v58 v59 v60 v61 v62 v63 v64 v65 v66 v67 v68 v69 v70 v71 v72 v73 v74 v75 v76 v77
  go_wp2
  refine fs_skip2 _ _ _ _ _ _ _ _ _ _ _ _ _ _ _ _ _ _ _ _ _ _ _ _ _ _ _ _ _ _ _ _ _ _ _ _ _ _ _ _ _ _ _ _ _ _ _ _ _ _ _ _ _ _ _ _ _ _ _ _ _ _ _ _ _ _ _ _ _ _ _ _ _ _ _ _ _ _ _ _ _ _ _ _ _ _ _ _ _ _ _ _ _ _ _ _ _ _ _ _ _ _ _ _ _ _ _ _ _ _ _ _ _ _ _ _ _ _ _ _ _ _ _ _ _ _ _ _ _ _ _ _ _ _ _ _ _ _ _ _ _ _ _ _ _ _ _ _ _ _ _ _ _ _ _ _ _ _ _ _ _ _ _ _ _ _ _ _ _ _ _ _ _ _ _ _ _ _ _ _ _ _ _ _ _ _ _ _ _ _ _ w2 ?_
  intro q78 q79 q80 q81 q82 q83 q84 q85 q86 q87 q88 q89 q90 q91 q92 q93 q94 q95 q96 q97 q98 q99 q100 q101 q102 q103 q104 q105 q106 q107 q108 q109 q110 q111 q112 q113 q114 q115 q116 q117 q118
  go_wp2
  go_ret
  exact ⟨rfl, HB2.out⟩

set_option maxRecDepth 100000 in
set_option maxHeartbeats 8000000 in
theorem fsb_3 (n : Int) (ea : Option Addr) (ne ec : Nat) (sa : Option Addr) (ns sc : Nat) (most : Int) (es : List (Int × Int)) (st : List Int) (w : World) (HN : Hid (ne = es.length)) (HS : Hid (ns = st.length)) (hns : ns * 8 ≤ 140737488355328) (hne : ne * 16 ≤ 140737488355328) (HE : Hid (EL w (.slice ea ne ec) es)) (HL : Hid (IL w (.slice sa ns sc) st)) (HA : Hid (∀ W, Below w.heap.size w W → Calls Tryz.prog 5 #[] W (retP (.bool true) W))) (h0 : ¬ 100 < n) (h1 : ¬ 300 < (ne : Int)) (h2 : ¬ 100 < (ns : Int)) (HK : Hid (okS n es st most = false)) (c1 : 0 ≤ n) (c2 : (ns : Int) = n) (d2 : ((ns : Int) == n) = true) (c3 : ¬ 0 ≤ most) (d3 : decide (0 ≤ most) = false) : Calls Tryz.prog 3 #[.int .i64 n, .slice ea ne ec, .slice sa ns sc, .int .i64 most] w (retP (.bool true) w) := by
  have hnm : (ns : Int) ≤ 9223372036854775807 := by omega
  have hnm2 : (ne : Int) ≤ 9223372036854775807 := by omega
  have HSO : Hid (∀ W, Below w.heap.size w W → Calls Tryz.prog 6 #[.int .i64 n, .slice ea ne ec, .slice sa ns sc, .int .i64 most] W fun e w' => e = .returned (.tuple #[.slice none 0 0, .int .i64 1]) ∧ Below W.heap.size W w') := fun W hW =>
    (solve_any n most (HE.out.keep hW) (HL.out.keep hW) (by rw [← HN.out]; omega)).mono fun e w' h => ⟨h.2.1 HK.out, h.1⟩
  go_enter Tryz.func3, Tryz.ntmps3
  go_wp2_with (first | (go_at_call 5; refine (HA.out _ (Below.refl _ _)).mono ?_; rintro e w1 ⟨rfl, hb1⟩; have HB1 := hid hb1; clear hb1) | (go_at_call 6; refine (HSO.out _ HB1.out).mono ?_; rintro e w2 ⟨rfl, hb2⟩; have HB2 := hid (bel_trans HB1.out hb2); clear hb2))
  refine fs_skip1 _ _ _ _ _ _ _ _ _ _ _ _ _ _ _ _ _ _ _ _ _ _ _ _ _ _ _ _ _ _ _ _ _ _ _ _ _ _ _ _ _ _ _ _ _ _ _ _ _ _ _ _ _ _ _ _ _ _ _ _ _ _ _ _ _ _ _ _ _ _ _ _ _ _ _ _ _ _ _ _ _ _ _ _ _ _ _ _ _ _ _ _ _ _ _ _ _ _ _ _ _ _ _ _ _ _ _ _ _ _ _ _ _ _ _ _ _ _ _ _ _ _ _ _ _ _ _ _ _ _ _ _ _ _ _ _ _ _ _ _ _ _ _ _ _ _ _ _ _ _ _ _ _ _ _ _ _ _ _ _ _ _ _ _ _ _ _ _ _ _ _ _ _ _ _ _ _ _ _ _ _ _ _ _ _ _ _ _ _ _ _ w2 ?_
  intro v56 v57 v58 v59 v60 v61 v62 v63 v64 v65 v66 v67 v68 v69 v70 v71 v72 v73 v74 v75 v76 v77
  go_wp2
  refine fs_skip2 _ _ _ _ _ _ _ _ _ _ _ _ _ _ _ _ _ _ _ _ _ _ _ _ _ _ _ _ _ _ _ _ _ _ _ _ _ _ _ _ _ _ _ _ _ _ _ _ _ _ _ _ _ _ _ _ _ _ _ _ _ _ _ _ _ _ _ _ _ _ _ _ _ _ _ _ _ _ _ _ _ _ _ _ _ _ _ _ _ _ _ _ _ _ _ _ _ _ _ _ _ _ _ _ _ _ _ _ _ _ _ _ _ _ _ _ _ _ _ _ _ _ _ _ _ _ _ _ _ _ _ _ _ _ _ _ _ _ _ _ _ _ _ _ _ _ _ _ _ _ _ _ _ _ _ _ _ _ _ _ _ _ _ _ _ _ _ _ _ _ _ _ _ _ _ _ _ _ _ _ _ _ _ _ _ _ _ _ _ _ _ w2 ?_
  intro q78 q79 q80 q81 q82 q83 q84 q85 q86 q87 q88 q89 q90 q91 q92 q93 q94 q95 q96 q97 q98 q99 q100 q101 q102 q103 q104 q105 q106 q107 q108 q109 q110 q111 q112 q113 q114 q115 q116 q117 q118
  go_wp2
  go_ret
  exact ⟨rfl, HB2.out⟩

set_option maxRecDepth 100000 in
set_option maxHeartbeats 8000000 in
theorem fsb_4 (n : Int) (ea : Option Addr) (ne ec : Nat) (sa : Option Addr) (ns sc : Nat) (most : Int) (es : List (Int × Int)) (st : List Int) (w : World) (HN : Hid (ne = es.length)) (HS : Hid (ns = st.length)) (hns : ns * 8 ≤ 140737488355328) (hne : ne * 16 ≤ 140737488355328) (HE : Hid (EL w (.slice ea ne ec) es)) (HL : Hid (IL w (.slice sa ns sc) st)) (HA : Hid (∀ W, Below w.heap.size w W → Calls Tryz.prog 5 #[] W (retP (.bool true) W))) (h0 : ¬ 100 < n) (h1 : ¬ 300 < (ne : Int)) (h2 : ¬ 100 < (ns : Int)) (HK : Hid (okS n es st most = false)) (c1 : 0 ≤ n) (c2 : (ns : Int) = n) (d2 : ((ns : Int) == n) = true) (c3 : 0 ≤ most) (c4 : ¬ most ≤ 1000000) (d4 : decide (most ≤ 1000000) = false) : Calls Tryz.prog 3 #[.int .i64 n, .slice ea ne ec, .slice sa ns sc, .int .i64 most] w (retP (.bool true) w) := by
  have hnm : (ns : Int) ≤ 9223372036854775807 := by omega
  have hnm2 : (ne : Int) ≤ 9223372036854775807 := by omega
  have HSO : Hid (∀ W, Below w.heap.size w W → Calls Tryz.prog 6 #[.int .i64 n, .slice ea ne ec, .slice sa ns sc, .int .i64 most] W fun e w' => e = .returned (.tuple #[.slice none 0 0, .int .i64 1]) ∧ Below W.heap.size W w') := fun W hW =>
    (solve_any n most (HE.out.keep hW) (HL.out.keep hW) (by rw [← HN.out]; omega)).mono fun e w' h => ⟨h.2.1 HK.out, h.1⟩
  go_enter Tryz.func3, Tryz.ntmps3
  go_wp2_with (first | (go_at_call 5; refine (HA.out _ (Below.refl _ _)).mono ?_; rintro e w1 ⟨rfl, hb1⟩; have HB1 := hid hb1; clear hb1) | (go_at_call 6; refine (HSO.out _ HB1.out).mono ?_; rintro e w2 ⟨rfl, hb2⟩; have HB2 := hid (bel_trans HB1.out hb2); clear hb2))
  refine fs_skip1 _ _ _ _ _ _ _ _ _ _ _ _ _ _ _ _ _ _ _ _ _ _ _ _ _ _ _ _ _ _ _ _ _ _ _ _ _ _ _ _ _ _ _ _ _ _ _ _ _ _ _ _ _ _ _ _ _ _ _ _ _ _ _ _ _ _ _ _ _ _ _ _ _ _ _ _ _ _ _ _ _ _ _ _ _ _ _ _ _ _ _ _ _ _ _ _ _ _ _ _ _ _ _ _ _ _ _ _ _ _ _ _ _ _ _ _ _ _ _ _ _ _ _ _ _ _ _ _ _ _ _ _ _ _ _ _ _ _ _ _ _ _ _ _ _ _ _ _ _ _ _ _ _ _ _ _ _ _ _ _ _ _ _ _ _ _ _ _ _ _ _ _ _ _ _ _ _ _ _ _ _ _ _ _ _ _ _ _ _ _ _ w2 ?_
  intro v56 v57 v58 v59 v60 v61 v62 v63 v64 v65 v66 v67 v68 v69 v70 v71 v72 v73 v74 v75 v76 v77
  go_wp2
  refine fs_skip2 _ _ _ _ _ _ _ _ _ _ _ _ _ _ _ _ _ _ _ _ _ _ _ _ _ _ _ _ _ _ _ _ _ _ _ _ _ _ _ _ _ _ _ _ _ _ _ _ _ _ _ _ _ _ _ _ _ _ _ _ _ _ _ _ _ _ _ _ _ _ _ _ _ _ _ _ _ _ _ _ _ _ _ _ _ _ _ _ _ _ _ _ _ _ _ _ _ _ _ _ _ _ _ _ _ _ _ _ _ _ _ _ _ _ _ _ _ _ _ _ _ _ _ _ _ _ _ _ _ _ _ _ _ _ _ _ _ _ _ _ _ _ _ _ _ _ _ _ _ _ _ _ _ _ _ _ _ _ _ _ _ _ _ _ _ _ _ _ _ _ _ _ _ _ _ _ _ _ _ _ _ _ _ _ _ _ _ _ _ _ _ w2 ?_
  intro q78 q79 q80 q81 q82 q83 q84 q85 q86 q87 q88 q89 q90 q91 q92 q93 q94 q95 q96 q97 q98 q99 q100 q101 q102 q103 q104 q105 q106 q107 q108 q109 q110 q111 q112 q113 q114 q115 q116 q117 q118
  go_wp2
  go_ret
  exact ⟨rfl, HB2.out⟩

set_option maxRecDepth 100000 in
set_option maxHeartbeats 8000000 in
theorem fsb_5 (n : Int) (ea : Option Addr) (ne ec : Nat) (sa : Option Addr) (ns sc : Nat) (most : Int) (es : List (Int × Int)) (st : List Int) (w : World) (HN : Hid (ne = es.length)) (HS : Hid (ns = st.length)) (hns : ns * 8 ≤ 140737488355328) (hne : ne * 16 ≤ 140737488355328) (HE : Hid (EL w (.slice ea ne ec) es)) (HL : Hid (IL w (.slice sa ns sc) st)) (HA : Hid (∀ W, Below w.heap.size w W → Calls Tryz.prog 5 #[] W (retP (.bool true) W))) (h0 : ¬ 100 < n) (h1 : ¬ 300 < (ne : Int)) (h2 : ¬ 100 < (ns : Int)) (HK : Hid (okS n es st most = false)) (c1 : 0 ≤ n) (c2 : (ns : Int) = n) (d2 : ((ns : Int) == n) = true) (c3 : 0 ≤ most) (c4 : most ≤ 1000000) (HR : Hid (st.all (inM most) = false)) : Calls Tryz.prog 3 #[.int .i64 n, .slice ea ne ec, .slice sa ns sc, .int .i64 most] w (retP (.bool true) w) := by
  have hnm : (ns : Int) ≤ 9223372036854775807 := by omega
  have hnm2 : (ne : Int) ≤ 9223372036854775807 := by omega
  have HSO : Hid (∀ W, Below w.heap.size w W → Calls Tryz.prog 6 #[.int .i64 n, .slice ea ne ec, .slice sa ns sc, .int .i64 most] W fun e w' => e = .returned (.tuple #[.slice none 0 0, .int .i64 1]) ∧ Below W.heap.size W w') := fun W hW =>
    (solve_any n most (HE.out.keep hW) (HL.out.keep hW) (by rw [← HN.out]; omega)).mono fun e w' h => ⟨h.2.1 HK.out, h.1⟩
  go_enter Tryz.func3, Tryz.ntmps3
  go_wp2_with (first | (go_at_call 5; refine (HA.out _ (Below.refl _ _)).mono ?_; rintro e w1 ⟨rfl, hb1⟩; have HB1 := hid hb1; clear hb1) | (go_at_call 6; refine (HSO.out _ HB1.out).mono ?_; rintro e w2 ⟨rfl, hb2⟩; have HB2 := hid (bel_trans HB1.out hb2); clear hb2))
  refine fs_loop1 sa ns sc most st _ _ _ _ _ _ _ _ _ _ _ _ _ _ _ _ _ _ _ _ _ _ _ _ _ _ _ _ _ _ _ _ _ _ _ _ _ _ _ _ _ _ _ _ _ _ _ _ _ _ _ _ _ _ _ _ _ _ _ _ _ _ _ _ _ _ _ _ _ _ _ _ _ _ _ _ _ _ _ _ _ _ _ _ _ _ _ _ _ _ _ _ _ _ _ _ _ _ _ _ _ _ _ _ _ _ _ _ _ _ _ _ _ _ _ _ _ _ _ _ _ _ _ _ _ _ _ _ _ _ _ _ _ _ _ _ _ _ _ _ _ _ _ _ _ _ _ _ _ _ _ _ _ _ _ _ _ _ _ _ _ _ _ _ _ _ _ _ _ _ _ _ _ _ _ _ _ _ _ _ _ _ _ _ _ _ _ _ _ w2 HS hns (HL.out.keep HB2.out) false HR ?_
  intro v12 v56 v57 v58 v59 v60 v61 v62 v63 v64 v65 v66 v67 v68 v69 v70 v71 v72 v73 v74 v75 v76 v77
  go_wp2
  refine fs_skip2 _ _ _ _ _ _ _ _ _ _ _ _ _ _ _ _ _ _ _ _ _ _ _ _ _ _ _ _ _ _ _ _ _ _ _ _ _ _ _ _ _ _ _ _ _ _ _ _ _ _ _ _ _ _ _ _ _ _ _ _ _ _ _ _ _ _ _ _ _ _ _ _ _ _ _ _ _ _ _ _ _ _ _ _ _ _ _ _ _ _ _ _ _ _ _ _ _ _ _ _ _ _ _ _ _ _ _ _ _ _ _ _ _ _ _ _ _ _ _ _ _ _ _ _ _ _ _ _ _ _ _ _ _ _ _ _ _ _ _ _ _ _ _ _ _ _ _ _ _ _ _ _ _ _ _ _ _ _ _ _ _ _ _ _ _ _ _ _ _ _ _ _ _ _ _ _ _ _ _ _ _ _ _ _ _ _ _ _ _ _ _ w2 ?_
  intro q78 q79 q80 q81 q82 q83 q84 q85 q86 q87 q88 q89 q90 q91 q92 q93 q94 q95 q96 q97 q98 q99 q100 q101 q102 q103 q104 q105 q106 q107 q108 q109 q110 q111 q112 q113 q114 q115 q116 q117 q118
  go_wp2
  go_ret
  exact ⟨rfl, HB2.out⟩

set_option maxRecDepth 100000 in
set_option maxHeartbeats 8000000 in
theorem fsb_6 (n : Int) (ea : Option Addr) (ne ec : Nat) (sa : Option Addr) (ns sc : Nat) (most : Int) (es : List (Int × Int)) (st : List Int) (w : World) (HN : Hid (ne = es.length)) (HS : Hid (ns = st.length)) (hns : ns * 8 ≤ 140737488355328) (hne : ne * 16 ≤ 140737488355328) (HE : Hid (EL w (.slice ea ne ec) es)) (HL : Hid (IL w (.slice sa ns sc) st)) (HA : Hid (∀ W, Below w.heap.size w W → Calls Tryz.prog 5 #[] W (retP (.bool true) W))) (h0 : ¬ 100 < n) (h1 : ¬ 300 < (ne : Int)) (h2 : ¬ 100 < (ns : Int)) (HK : Hid (okS n es st most = false)) (c1 : 0 ≤ n) (c2 : (ns : Int) = n) (d2 : ((ns : Int) == n) = true) (c3 : 0 ≤ most) (c4 : most ≤ 1000000) (HR : Hid (st.all (inM most) = true)) (HR2 : Hid (es.all (edB n) = false)) : Calls Tryz.prog 3 #[.int .i64 n, .slice ea ne ec, .slice sa ns sc, .int .i64 most] w (retP (.bool true) w) := by
  have hnm : (ns : Int) ≤ 9223372036854775807 := by omega
  have hnm2 : (ne : Int) ≤ 9223372036854775807 := by omega
  have HSO : Hid (∀ W, Below w.heap.size w W → Calls Tryz.prog 6 #[.int .i64 n, .slice ea ne ec, .slice sa ns sc, .int .i64 most] W fun e w' => e = .returned (.tuple #[.slice none 0 0, .int .i64 1]) ∧ Below W.heap.size W w') := fun W hW =>
    (solve_any n most (HE.out.keep hW) (HL.out.keep hW) (by rw [← HN.out]; omega)).mono fun e w' h => ⟨h.2.1 HK.out, h.1⟩
  go_enter Tryz.func3, Tryz.ntmps3
  go_wp2_with (first | (go_at_call 5; refine (HA.out _ (Below.refl _ _)).mono ?_; rintro e w1 ⟨rfl, hb1⟩; have HB1 := hid hb1; clear hb1) | (go_at_call 6; refine (HSO.out _ HB1.out).mono ?_; rintro e w2 ⟨rfl, hb2⟩; have HB2 := hid (bel_trans HB1.out hb2); clear hb2))
  refine fs_loop1 sa ns sc most st _ _ _ _ _ _ _ _ _ _ _ _ _ _ _ _ _ _ _ _ _ _ _ _ _ _ _ _ _ _ _ _ _ _ _ _ _ _ _ _ _ _ _ _ _ _ _ _ _ _ _ _ _ _ _ _ _ _ _ _ _ _ _ _ _ _ _ _ _ _ _ _ _ _ _ _ _ _ _ _ _ _ _ _ _ _ _ _ _ _ _ _ _ _ _ _ _ _ _ _ _ _ _ _ _ _ _ _ _ _ _ _ _ _ _ _ _ _ _ _ _ _ _ _ _ _ _ _ _ _ _ _ _ _ _ _ _ _ _ _ _ _ _ _ _ _ _ _ _ _ _ _ _ _ _ _ _ _ _ _ _ _ _ _ _ _ _ _ _ _ _ _ _ _ _ _ _ _ _ _ _ _ _ _ _ _ _ _ _ w2 HS hns (HL.out.keep HB2.out) true HR ?_
  intro v12 v56 v57 v58 v59 v60 v61 v62 v63 v64 v65 v66 v67 v68 v69 v70 v71 v72 v73 v74 v75 v76 v77
  go_wp2
  refine fs_loop2 ea ne ec n es _ _ _ _ _ _ _ _ _ _ _ _ _ _ _ _ _ _ _ _ _ _ _ _ _ _ _ _ _ _ _ _ _ _ _ _ _ _ _ _ _ _ _ _ _ _ _ _ _ _ _ _ _ _ _ _ _ _ _ _ _ _ _ _ _ _ _ _ _ _ _ _ _ _ _ _ _ _ _ _ _ _ _ _ _ _ _ _ _ _ _ _ _ _ _ _ _ _ _ _ _ _ _ _ _ _ _ _ _ _ _ _ _ _ _ _ _ _ _ _ _ _ _ _ _ _ _ _ _ _ _ _ _ _ _ _ _ _ _ _ _ _ _ _ _ _ _ _ _ _ _ _ _ _ _ _ _ _ _ _ _ _ _ _ _ _ _ _ _ _ _ _ _ _ _ _ _ _ _ _ _ _ _ _ _ _ _ _ _ w2 HN hne (HE.out.keep HB2.out) false HR2 ?_
  intro q13 q78 q79 q80 q81 q82 q83 q84 q85 q86 q87 q88 q89 q90 q91 q92 q93 q94 q95 q96 q97 q98 q99 q100 q101 q102 q103 q104 q105 q106 q107 q108 q109 q110 q111 q112 q113 q114 q115 q116 q117 q118
  go_wp2
  go_ret
  exact ⟨rfl, HB2.out⟩

theorem fs_bad (n : Int) (ea : Option Addr) (ne ec : Nat) (sa : Option Addr) (ns sc : Nat) (most : Int) (es : List (Int × Int)) (st : List Int) (w : World) (HN : Hid (ne = es.length)) (HS : Hid (ns = st.length)) (hns : ns * 8 ≤ 140737488355328) (hne : ne * 16 ≤ 140737488355328) (HE : Hid (EL w (.slice ea ne ec) es)) (HL : Hid (IL w (.slice sa ns sc) st)) (HA : Hid (∀ W, Below w.heap.size w W → Calls Tryz.prog 5 #[] W (retP (.bool true) W))) (h0 : ¬ 100 < n) (h1 : ¬ 300 < (ne : Int)) (h2 : ¬ 100 < (ns : Int)) (HK : Hid (okS n es st most = false)) : Calls Tryz.prog 3 #[.int .i64 n, .slice ea ne ec, .slice sa ns sc, .int .i64 most] w (retP (.bool true) w) := by
  have hk := HK.out
  rw [okS_ed n es st most (by omega), ← HS.out] at hk
  by_cases c1 : 0 ≤ n
  · by_cases c2 : (ns : Int) = n
    · have d2 : ((ns : Int) == n) = true := by simpa using c2
      by_cases c3 : 0 ≤ most
      · by_cases c4 : most ≤ 1000000
        · rw [decide_eq_true c1, decide_eq_true c2, show inM 1000000 most = true by simp [inM, c3, c4]] at hk
          cases hr : st.all (inM most) with
          | false => exact fsb_5 n ea ne ec sa ns sc most es st w HN HS hns hne HE HL HA h0 h1 h2 HK c1 c2 d2 c3 c4 hr
          | true =>
            rw [hr] at hk
            exact fsb_6 n ea ne ec sa ns sc most es st w HN HS hns hne HE HL HA h0 h1 h2 HK c1 c2 d2 c3 c4 hr (hid (by simp only [Bool.true_and] at hk; exact hk))
        · exact fsb_4 n ea ne ec sa ns sc most es st w HN HS hns hne HE HL HA h0 h1 h2 HK c1 c2 d2 c3 c4 (by simpa using c4)
      · exact fsb_3 n ea ne ec sa ns sc most es st w HN HS hns hne HE HL HA h0 h1 h2 HK c1 c2 d2 c3 (by simpa using c3)
    · exact fsb_2 n ea ne ec sa ns sc most es st w HN HS hns hne HE HL HA h0 h1 h2 HK c1 c2 (by simpa using c2)
  · exact fsb_1 n ea ne ec sa ns sc most es st w HN HS hns hne HE HL HA h0 h1 h2 HK c1 (by simpa using c1)
end Go.Proofs.YtiigfggebpmlnaaGreatDoor

