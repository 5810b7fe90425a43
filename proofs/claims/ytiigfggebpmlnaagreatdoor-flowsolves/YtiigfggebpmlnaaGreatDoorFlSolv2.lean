/- FlowSolves: what came in is looked at. -/
import Derived.Test.YtiigfggebpmlnaaGreatDoorFlSolv1
namespace Go.Proofs.YtiigfggebpmlnaaGreatDoor
open Go.ChangeShapes Go.WideShapes Go.ChangeAt Go.RowKit
set_option linter.unusedSimpArgs false
set_option linter.unusedVariables false

noncomputable def fsL (k : Nat) : Code := (((Tryz.f3.body.map loopsOf).getD [])[k]?).getD .skip
theorem all_take {α : Type} {f : α → Bool} {l : List α} {i : Nat} {x : α} (h : l[i]? = some x) : (l.take (i + 1)).all f = ((l.take i).all f && f x) := by
  rw [List.take_add_one, h, List.all_append]; simp
theorem all_false {α : Type} {f : α → Bool} {l : List α} {i : Nat} (h : (l.take i).all f = false) : l.all f = false := by
  rw [Bool.eq_false_iff] at h ⊢
  intro ht
  apply h
  rw [List.all_eq_true] at ht ⊢
  exact fun x hx => ht x (List.mem_of_mem_take hx)

set_option maxRecDepth 100000 in
set_option maxHeartbeats 8000000 in
theorem fs_loop1 (sa : Option Addr) (ns sc : Nat) (most : Int) (st : List Int) (z0z z1z z4z z5z z6z z7z z8z z9z z10z z13z z14z z15z z16z z17z z18z z19z z20z z21z z22z z23z z24z z25z z26z z27z z28z z29z z30z z31z z32z z33z z34z z35z z36z z37z z38z z39z z40z z41z z42z z43z z44z z45z z46z z47z z48z z49z z50z z51z z52z z53z z54z z55z z56z z57z z58z z59z z60z z61z z62z z63z z64z z65z z66z z67z z68z z69z z70z z71z z72z z73z z74z z75z z76z z77z z78z z79z z80z z81z z82z z83z z84z z85z z86z z87z z88z z89z z90z z91z z92z z93z z94z z95z z96z z97z z98z z99z z100z z101z z102z z103z z104z z105z z106z z107z z108z z109z z110z z111z z112z z113z z114z z115z z116z z117z z118z z119z z120z z121z z122z z123z z124z z125z z126z z127z z128z z129z z130z z131z z132z z133z z134z z135z z136z z137z z138z z139z z140z z141z z142z z143z z144z z145z z146z z147z z148z z149z z150z z151z z152z z153z z154z z155z z156z z157z z158z z159z z160z z161z z162z z163z z164z z165z z166z z167z z168z z169z z170z z171z z172z z173z z174z z175z z176z z177z z178z z179z z180z z181z z182z z183z z184z z185z z186z z187z z188z z189z z190z z191z : Value) (Q0 : Exit → Act → World → Prop) (w : World) (HL : Hid (ns = st.length)) (hn8 : ns * 8 ≤ 140737488355328) (HI : Hid (IL w (.slice sa ns sc) st)) (r : Bool) (HR : Hid ((st.all (inM most)) = r))
    (HX : Hid (∀ v12 v56 v57 v58 v59 v60 v61 v62 v63 v64 v65 v66 v67 v68 v69 v70 v71 v72 v73 v74 v75 v76 v77, Q0 (.exit 0) ⟨#[z0z, z1z, .slice sa ns sc, .int .i64 most, z4z, z5z, z6z, z7z, z8z, z9z, z10z, .bool r, v12, z13z, z14z, z15z, z16z, z17z, z18z, z19z, z20z, z21z, z22z, z23z, z24z, z25z, z26z, z27z, z28z, z29z, z30z, z31z, z32z, z33z, z34z, z35z, z36z, z37z, z38z, z39z, z40z, z41z, z42z, z43z, z44z, z45z, z46z, z47z, z48z, z49z, z50z, z51z, z52z, z53z, z54z, z55z, v56, v57, v58, v59, v60, v61, v62, v63, v64, v65, v66, v67, v68, v69, v70, v71, v72, v73, v74, v75, v76, v77, z78z, z79z, z80z, z81z, z82z, z83z, z84z, z85z, z86z, z87z, z88z, z89z, z90z, z91z, z92z, z93z, z94z, z95z, z96z, z97z, z98z, z99z, z100z, z101z, z102z, z103z, z104z, z105z, z106z, z107z, z108z, z109z, z110z, z111z, z112z, z113z, z114z, z115z, z116z, z117z, z118z, z119z, z120z, z121z, z122z, z123z, z124z, z125z, z126z, z127z, z128z, z129z, z130z, z131z, z132z, z133z, z134z, z135z, z136z, z137z, z138z, z139z, z140z, z141z, z142z, z143z, z144z, z145z, z146z, z147z, z148z, z149z, z150z, z151z, z152z, z153z, z154z, z155z, z156z, z157z, z158z, z159z, z160z, z161z, z162z, z163z, z164z, z165z, z166z, z167z, z168z, z169z, z170z, z171z, z172z, z173z, z174z, z175z, z176z, z177z, z178z, z179z, z180z, z181z, z182z, z183z, z184z, z185z, z186z, z187z, z188z, z189z, z190z, z191z], []⟩ w)) :
    Code.wp Tryz.prog (Code.loop (fsL 0)) Q0 ⟨#[z0z, z1z, .slice sa ns sc, .int .i64 most, z4z, z5z, z6z, z7z, z8z, z9z, z10z, .bool true, .int .i64 0, z13z, z14z, z15z, z16z, z17z, z18z, z19z, z20z, z21z, z22z, z23z, z24z, z25z, z26z, z27z, z28z, z29z, z30z, z31z, z32z, z33z, z34z, z35z, z36z, z37z, z38z, z39z, z40z, z41z, z42z, z43z, z44z, z45z, z46z, z47z, z48z, z49z, z50z, z51z, z52z, z53z, z54z, z55z, z56z, z57z, z58z, z59z, z60z, z61z, z62z, z63z, z64z, z65z, z66z, z67z, z68z, z69z, z70z, z71z, z72z, z73z, z74z, z75z, z76z, z77z, z78z, z79z, z80z, z81z, z82z, z83z, z84z, z85z, z86z, z87z, z88z, z89z, z90z, z91z, z92z, z93z, z94z, z95z, z96z, z97z, z98z, z99z, z100z, z101z, z102z, z103z, z104z, z105z, z106z, z107z, z108z, z109z, z110z, z111z, z112z, z113z, z114z, z115z, z116z, z117z, z118z, z119z, z120z, z121z, z122z, z123z, z124z, z125z, z126z, z127z, z128z, z129z, z130z, z131z, z132z, z133z, z134z, z135z, z136z, z137z, z138z, z139z, z140z, z141z, z142z, z143z, z144z, z145z, z146z, z147z, z148z, z149z, z150z, z151z, z152z, z153z, z154z, z155z, z156z, z157z, z158z, z159z, z160z, z161z, z162z, z163z, z164z, z165z, z166z, z167z, z168z, z169z, z170z, z171z, z172z, z173z, z174z, z175z, z176z, z177z, z178z, z179z, z180z, z181z, z182z, z183z, z184z, z185z, z186z, z187z, z188z, z189z, z190z, z191z], []⟩ w := by
  have hnm : (ns : Int) ≤ 9223372036854775807 := by omega
  conv => arg 2; arg 1; whnf
  dsimp only
  try simp only [List.append_eq, List.cons_append, List.nil_append]
  go_loopw [11, 12] (fun v11 vc wr => ∃ (i : Nat) (g : Bool), i ≤ ns ∧ v11 = .bool g ∧ vc = .int .i64 i ∧ Hid ((st.take i).all (inM most) = g) ∧ wr = w) (fun _ vc _ => ns - (intOf vc).toNat)
  case atStart => exact ⟨0, true, by omega, rfl, rfl, rfl, rfl⟩
  case round =>
    obtain ⟨i, g, hi, rfl, rfl, HG, hwr⟩ := hrel
    replace hwr := hwr.symm
    subst hwr
    cases g with
    | false =>
      have er : r = false := by rw [← HR.out]; exact all_false HG.out
      subst er
      clear HG
      go_wp2
      exact HX.out _ _ _ _ _ _ _ _ _ _ _ _ _ _ _ _ _ _ _ _ _ _ _ 
    | true =>
      by_cases hin : i < ns
      · have j0 : (0 : Int) ≤ i := by omega
        have j1 : (i : Int) < ns := by omega
        have hget := List.getElem?_eq_getElem (l := st) (show i < st.length by rw [← HL.out]; exact hin)
        generalize st[i]'(by rw [← HL.out]; exact hin) = x at hget
        obtain ⟨va2, vc2, hv2, _, _, h5⟩ := HI.out
        obtain ⟨vb, vo, rfl, hc⟩ := h5 (fun e => by rw [e] at hget; simp at hget)
        injection hv2 with q1 q2 q3
        subst q1
        have cx := hc i x hget
        have HGET := hid hget
        clear hget hc h5 q2 q3
        have HA : Hid ((st.take (i + 1)).all (inM most) = ((inM most) x)) := hid (by rw [all_take HGET.out, HG.out, Bool.true_and])
        by_cases c1 : 0 ≤ x
        · by_cases c2 : x ≤ most
          · have HV : Hid ((st.take (i + 1)).all (inM most) = true) := hid (by rw [HA.out]; simp [inM, c1, c2])
            clear HA HG
            go_wp2
            go_roundw
            case rel => exact ⟨i + 1, true, by omega, rfl, by simp, HV.out, by first | trivial | rfl⟩
            case measure => simp [intOf]; omega
          · have HV : Hid ((st.take (i + 1)).all (inM most) = false) := hid (by rw [HA.out]; simp [inM, c2])
            have d2 : decide (x ≤ most) = false := by simpa using c2
            clear HA HG
            go_wp2
            go_roundw
            case rel => exact ⟨i + 1, false, by omega, rfl, by simp, HV.out, by first | trivial | rfl⟩
            case measure => simp [intOf]; omega
        · have HV : Hid ((st.take (i + 1)).all (inM most) = false) := hid (by rw [HA.out]; simp [inM, c1])
          have d1 : decide (0 ≤ x) = false := by simpa using c1
          clear HA HG
          go_wp2
          go_roundw
          case rel => exact ⟨i + 1, false, by omega, rfl, by simp, HV.out, by first | trivial | rfl⟩
          case measure => simp [intOf]; omega
      · obtain rfl : ns = i := by omega
        have er : r = true := by rw [← HR.out]; have := HG.out; rw [HL.out, List.take_length] at this; exact this
        subst er
        clear HG
        go_wp2
        exact HX.out _ _ _ _ _ _ _ _ _ _ _ _ _ _ _ _ _ _ _ _ _ _ _ 

/-- Does an edge name numbers below n? -/
def edB (n : Int) (e : Int × Int) : Bool := decide (0 ≤ e.1) && (decide (e.1 < n) && (decide (0 ≤ e.2) && decide (e.2 < n)))

set_option maxRecDepth 100000 in
set_option maxHeartbeats 8000000 in
theorem fs_loop2 (ea : Option Addr) (ne ec : Nat) (n : Int) (es : List (Int × Int)) (z2z z3z z4z z5z z6z z7z z8z z9z z10z z12z z14z z15z z16z z17z z18z z19z z20z z21z z22z z23z z24z z25z z26z z27z z28z z29z z30z z31z z32z z33z z34z z35z z36z z37z z38z z39z z40z z41z z42z z43z z44z z45z z46z z47z z48z z49z z50z z51z z52z z53z z54z z55z z56z z57z z58z z59z z60z z61z z62z z63z z64z z65z z66z z67z z68z z69z z70z z71z z72z z73z z74z z75z z76z z77z z78z z79z z80z z81z z82z z83z z84z z85z z86z z87z z88z z89z z90z z91z z92z z93z z94z z95z z96z z97z z98z z99z z100z z101z z102z z103z z104z z105z z106z z107z z108z z109z z110z z111z z112z z113z z114z z115z z116z z117z z118z z119z z120z z121z z122z z123z z124z z125z z126z z127z z128z z129z z130z z131z z132z z133z z134z z135z z136z z137z z138z z139z z140z z141z z142z z143z z144z z145z z146z z147z z148z z149z z150z z151z z152z z153z z154z z155z z156z z157z z158z z159z z160z z161z z162z z163z z164z z165z z166z z167z z168z z169z z170z z171z z172z z173z z174z z175z z176z z177z z178z z179z z180z z181z z182z z183z z184z z185z z186z z187z z188z z189z z190z z191z : Value) (Q0 : Exit → Act → World → Prop) (w : World) (HL : Hid (ne = es.length)) (hn8 : ne * 16 ≤ 140737488355328) (HI : Hid (EL w (.slice ea ne ec) es)) (r : Bool) (HR : Hid ((es.all (edB n)) = r))
    (HX : Hid (∀ v13 v78 v79 v80 v81 v82 v83 v84 v85 v86 v87 v88 v89 v90 v91 v92 v93 v94 v95 v96 v97 v98 v99 v100 v101 v102 v103 v104 v105 v106 v107 v108 v109 v110 v111 v112 v113 v114 v115 v116 v117 v118, Q0 (.exit 2) ⟨#[.int .i64 n, .slice ea ne ec, z2z, z3z, z4z, z5z, z6z, z7z, z8z, z9z, z10z, .bool r, z12z, v13, z14z, z15z, z16z, z17z, z18z, z19z, z20z, z21z, z22z, z23z, z24z, z25z, z26z, z27z, z28z, z29z, z30z, z31z, z32z, z33z, z34z, z35z, z36z, z37z, z38z, z39z, z40z, z41z, z42z, z43z, z44z, z45z, z46z, z47z, z48z, z49z, z50z, z51z, z52z, z53z, z54z, z55z, z56z, z57z, z58z, z59z, z60z, z61z, z62z, z63z, z64z, z65z, z66z, z67z, z68z, z69z, z70z, z71z, z72z, z73z, z74z, z75z, z76z, z77z, v78, v79, v80, v81, v82, v83, v84, v85, v86, v87, v88, v89, v90, v91, v92, v93, v94, v95, v96, v97, v98, v99, v100, v101, v102, v103, v104, v105, v106, v107, v108, v109, v110, v111, v112, v113, v114, v115, v116, v117, v118, z119z, z120z, z121z, z122z, z123z, z124z, z125z, z126z, z127z, z128z, z129z, z130z, z131z, z132z, z133z, z134z, z135z, z136z, z137z, z138z, z139z, z140z, z141z, z142z, z143z, z144z, z145z, z146z, z147z, z148z, z149z, z150z, z151z, z152z, z153z, z154z, z155z, z156z, z157z, z158z, z159z, z160z, z161z, z162z, z163z, z164z, z165z, z166z, z167z, z168z, z169z, z170z, z171z, z172z, z173z, z174z, z175z, z176z, z177z, z178z, z179z, z180z, z181z, z182z, z183z, z184z, z185z, z186z, z187z, z188z, z189z, z190z, z191z], []⟩ w)) :
    Code.wp Tryz.prog (Code.loop (fsL 1)) Q0 ⟨#[.int .i64 n, .slice ea ne ec, z2z, z3z, z4z, z5z, z6z, z7z, z8z, z9z, z10z, .bool true, z12z, .int .i64 0, z14z, z15z, z16z, z17z, z18z, z19z, z20z, z21z, z22z, z23z, z24z, z25z, z26z, z27z, z28z, z29z, z30z, z31z, z32z, z33z, z34z, z35z, z36z, z37z, z38z, z39z, z40z, z41z, z42z, z43z, z44z, z45z, z46z, z47z, z48z, z49z, z50z, z51z, z52z, z53z, z54z, z55z, z56z, z57z, z58z, z59z, z60z, z61z, z62z, z63z, z64z, z65z, z66z, z67z, z68z, z69z, z70z, z71z, z72z, z73z, z74z, z75z, z76z, z77z, z78z, z79z, z80z, z81z, z82z, z83z, z84z, z85z, z86z, z87z, z88z, z89z, z90z, z91z, z92z, z93z, z94z, z95z, z96z, z97z, z98z, z99z, z100z, z101z, z102z, z103z, z104z, z105z, z106z, z107z, z108z, z109z, z110z, z111z, z112z, z113z, z114z, z115z, z116z, z117z, z118z, z119z, z120z, z121z, z122z, z123z, z124z, z125z, z126z, z127z, z128z, z129z, z130z, z131z, z132z, z133z, z134z, z135z, z136z, z137z, z138z, z139z, z140z, z141z, z142z, z143z, z144z, z145z, z146z, z147z, z148z, z149z, z150z, z151z, z152z, z153z, z154z, z155z, z156z, z157z, z158z, z159z, z160z, z161z, z162z, z163z, z164z, z165z, z166z, z167z, z168z, z169z, z170z, z171z, z172z, z173z, z174z, z175z, z176z, z177z, z178z, z179z, z180z, z181z, z182z, z183z, z184z, z185z, z186z, z187z, z188z, z189z, z190z, z191z], []⟩ w := by
  have hnm : (ne : Int) ≤ 9223372036854775807 := by omega
  conv => arg 2; arg 1; whnf
  dsimp only
  try simp only [List.append_eq, List.cons_append, List.nil_append]
  go_loopw [11, 13] (fun v11 vc wr => ∃ (i : Nat) (g : Bool), i ≤ ne ∧ v11 = .bool g ∧ vc = .int .i64 i ∧ Hid ((es.take i).all (edB n) = g) ∧ wr = w) (fun _ vc _ => ne - (intOf vc).toNat)
  case atStart => exact ⟨0, true, by omega, rfl, rfl, rfl, rfl⟩
  case round =>
    obtain ⟨i, g, hi, rfl, rfl, HG, hwr⟩ := hrel
    replace hwr := hwr.symm
    subst hwr
    cases g with
    | false =>
      have er : r = false := by rw [← HR.out]; exact all_false HG.out
      subst er
      clear HG
      go_wp2
      exact HX.out _ _ _ _ _ _ _ _ _ _ _ _ _ _ _ _ _ _ _ _ _ _ _ _ _ _ _ _ _ _ _ _ _ _ _ _ _ _ _ _ _ _ 
    | true =>
      by_cases hin : i < ne
      · have j0 : (0 : Int) ≤ i := by omega
        have j1 : (i : Int) < ne := by omega
        have hget := List.getElem?_eq_getElem (l := es) (show i < es.length by rw [← HL.out]; exact hin)
        generalize es[i]'(by rw [← HL.out]; exact hin) = x at hget
        obtain ⟨p, q⟩ := x
        obtain ⟨va2, vc2, hv2, _, _, h5⟩ := HI.out
        obtain ⟨vb, vo, rfl, hc⟩ := h5 (fun e => by rw [e] at hget; simp at hget)
        injection hv2 with q1 q2 q3
        subst q1
        have cx := (hc i _ hget).1
        have cy := (hc i _ hget).2
        dsimp only at cx cy
        have HGET := hid hget
        clear hget hc h5 q2 q3
        have HA : Hid ((es.take (i + 1)).all (edB n) = ((edB n) (p, q))) := hid (by rw [all_take HGET.out, HG.out, Bool.true_and])
        by_cases c1 : 0 ≤ p
        · by_cases c2 : p < n
          · by_cases c3 : 0 ≤ q
            · by_cases c4 : q < n
              · have HV : Hid ((es.take (i + 1)).all (edB n) = true) := hid (by rw [HA.out]; simp [edB, c1, c2, c3, c4])
                clear HA HG
                go_wp2
                go_roundw
                case rel => exact ⟨i + 1, true, by omega, rfl, by simp, HV.out, by first | trivial | rfl⟩
                case measure => simp [intOf]; omega
              · have HV : Hid ((es.take (i + 1)).all (edB n) = false) := hid (by rw [HA.out]; simp [edB, c4])
                have d4 : decide (q < n) = false := by simpa using c4
                clear HA HG
                go_wp2
                go_roundw
                case rel => exact ⟨i + 1, false, by omega, rfl, by simp, HV.out, by first | trivial | rfl⟩
                case measure => simp [intOf]; omega
            · have HV : Hid ((es.take (i + 1)).all (edB n) = false) := hid (by rw [HA.out]; simp [edB, c3])
              have d3 : decide (0 ≤ q) = false := by simpa using c3
              clear HA HG
              go_wp2
              go_roundw
              case rel => exact ⟨i + 1, false, by omega, rfl, by simp, HV.out, by first | trivial | rfl⟩
              case measure => simp [intOf]; omega
          · have HV : Hid ((es.take (i + 1)).all (edB n) = false) := hid (by rw [HA.out]; simp [edB, c2])
            have d2 : decide (p < n) = false := by simpa using c2
            clear HA HG
            go_wp2
            go_roundw
            case rel => exact ⟨i + 1, false, by omega, rfl, by simp, HV.out, by first | trivial | rfl⟩
            case measure => simp [intOf]; omega
        · have HV : Hid ((es.take (i + 1)).all (edB n) = false) := hid (by rw [HA.out]; simp [edB, c1])
          have d1 : decide (0 ≤ p) = false := by simpa using c1
          clear HA HG
          go_wp2
          go_roundw
          case rel => exact ⟨i + 1, false, by omega, rfl, by simp, HV.out, by first | trivial | rfl⟩
          case measure => simp [intOf]; omega
      · obtain rfl : ne = i := by omega
        have er : r = true := by rw [← HR.out]; have := HG.out; rw [HL.out, List.take_length] at this; exact this
        subst er
        clear HG
        go_wp2
        exact HX.out _ _ _ _ _ _ _ _ _ _ _ _ _ _ _ _ _ _ _ _ _ _ _ _ _ _ _ _ _ _ _ _ _ _ _ _ _ _ _ _ _ _ 

end Go.Proofs.YtiigfggebpmlnaaGreatDoor
