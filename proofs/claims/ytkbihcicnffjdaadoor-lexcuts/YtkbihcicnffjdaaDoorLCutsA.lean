/- LexCuts: its loops. -/
import Derived.Test.YtkbihcicnffjdaaDoorLAwake2
import Derived.Test.YtkbihcicnffjdaaDoorLQuiet
import Derived.Test.YtkbihcicnffjdaaDoorLLaws
import Derived.Test.YtkbihcicnffjdaaDoorLRefW1
import Derived.LoopN
namespace Go.Proofs.YtkbihcicnffjdaaDoor
open Go.ChangeShapes Go.WideShapes Go.ChangeAt Go.RowKit Go.Shelf
set_option linter.unusedSimpArgs false
set_option linter.unusedVariables false

attribute [local go_sem] Oper.semAt_some
noncomputable def cAssign : Code := ((Tryd.f4.body.bind rangeOf).map (·.2.1)).getD .skip
noncomputable def cBody : Code := ((Tryd.f4.body.bind rangeOf).map (·.2.2)).getD .skip
/-- What a round looks at. -/
structure CuAt (W : World) (lb wb ab g : Nat) (lv ag : Int) (ln cap q : Nat) (k : Int) (s : ByteArray) (n pl pc : Int) : Prop where
  cl : W.cell? ⟨lb, 0, none⟩ = some (.int .i64 lv)
  cw : W.cell? ⟨wb, 0, none⟩ = some (.slice (some ⟨g, 0, none⟩) ln cap)
  ca : W.cell? ⟨ab, 0, none⟩ = some (.int .i64 ag)
  c0 : W.cell? ⟨g, q * 5, none⟩ = some (.int .i64 k)
  c1 : W.cell? ⟨g, q * 5 + 1, none⟩ = some (.string s)
  c2 : W.cell? ⟨g, q * 5 + 2, none⟩ = some (.int .i64 n)
  c3 : W.cell? ⟨g, q * 5 + 3, none⟩ = some (.int .i64 pl)
  c4 : W.cell? ⟨g, q * 5 + 4, none⟩ = some (.int .i64 pc)
theorem CuAt.keep {W W' : World} {lb wb ab g : Nat} {lv ag : Int} {ln cap q : Nat} {k : Int} {s : ByteArray} {n pl pc : Int} {l : Nat} (h : CuAt W lb wb ab g lv ag ln cap q k s n pl pc) (hb : ∀ j, j < W.heap.size → j ≠ l → W'.heap[j]? = W.heap[j]?) (h1 : lb ≠ l) (h2 : wb ≠ l) (h3 : ab ≠ l) (h4 : g ≠ l) : CuAt W' lb wb ab g lv ag ln cap q k s n pl pc := by
  have e : ∀ j o v, W.cell? ⟨j, o, none⟩ = some v → j ≠ l → W'.cell? ⟨j, o, none⟩ = some v := fun j o v hc hj => (World.cell?_of_block (hb j (block_lt_of_cell hc) hj)).trans hc
  exact ⟨e _ _ _ h.cl h1, e _ _ _ h.cw h2, e _ _ _ h.ca h3, e _ _ _ h.c0 h4, e _ _ _ h.c1 h4, e _ _ _ h.c2 h4, e _ _ _ h.c3 h4, e _ _ _ h.c4 h4⟩
theorem neq_word (k n pl pc : Int) (s : ByteArray) (W : World) : (binOp .neq 30 (.agg #[.int .i64 k, .string s, .int .i64 n, .int .i64 pl, .int .i64 pc]) (.agg #[.int .i64 k, .string s, .int .i64 n, .int .i64 pl, .int .i64 pc])).run Tryd.prog W = .ok (.bool false) W := by
  simp [go_sem, run_underlying Tryd.underlying30]
set_option maxRecDepth 100000 in
set_option maxHeartbeats 4000000 in
theorem cu_round (l nb lb wb ab g d q ln cap : Nat) (fn : FuncId) (k n pl pc ag lv : Int) (s : ByteArray) (z0z z1z z2z z4z z5z z6z z7z z9z z10z z11z z12z z15z z16z z17z z18z z19z z20z z21z z22z z23z z24z z25z z26z z27z z28z z29z z30z z31z z32z z33z z34z z35z z36z z37z z38z z39z z40z z41z z42z z43z z44z z45z z46z z47z z48z z49z z50z z51z z52z z53z z54z z55z z56z z57z z58z z59z z60z z61z z62z z63z z64z z65z z66z z67z z68z z69z z70z z71z z72z z73z z74z z75z z76z z77z z78z z79z z80z z81z z82z z83z z84z z85z z86z z87z z88z z89z z90z z91z z92z z93z z94z z95z z96z z97z z98z z99z z100z z101z z102z z103z z104z z105z z106z z107z z108z z109z z110z z111z z112z z113z z114z z115z z116z z117z z118z z119z z120z z121z z122z z123z z124z z125z z126z z127z z128z z129z z130z z131z z132z z133z z134z z135z z136z z137z z138z z139z z140z z141z z142z z143z z144z z145z z146z z147z z148z z149z z150z z151z : Value) (W : World) (R : Ending → World → Prop)
    (hl : W.heap[l]? = some (.loop (loopRec fn #[z0z, z1z, z2z, .pointer (some ⟨lb, 0, none⟩), z4z, z5z, z6z, z7z, .pointer (some ⟨wb, 0, none⟩), z9z, z10z, z11z, z12z, .pointer (some ⟨ab, 0, none⟩), .pointer (some ⟨nb, 0, none⟩), z15z, z16z, z17z, z18z, z19z, z20z, z21z, z22z, z23z, z24z, z25z, z26z, z27z, z28z, z29z, z30z, z31z, z32z, z33z, z34z, z35z, z36z, z37z, z38z, z39z, z40z, z41z, z42z, z43z, z44z, z45z, z46z, z47z, z48z, z49z, z50z, z51z, z52z, z53z, z54z, z55z, z56z, z57z, z58z, z59z, z60z, z61z, z62z, z63z, z64z, z65z, z66z, z67z, z68z, z69z, z70z, z71z, z72z, z73z, z74z, z75z, z76z, z77z, z78z, z79z, z80z, z81z, z82z, z83z, z84z, z85z, z86z, z87z, z88z, z89z, z90z, z91z, z92z, z93z, z94z, z95z, z96z, z97z, z98z, z99z, z100z, z101z, z102z, z103z, z104z, z105z, z106z, z107z, z108z, z109z, z110z, z111z, z112z, z113z, z114z, z115z, z116z, z117z, z118z, z119z, z120z, z121z, z122z, z123z, z124z, z125z, z126z, z127z, z128z, z129z, z130z, z131z, z132z, z133z, z134z, z135z, z136z, z137z, z138z, z139z, z140z, z141z, z142z, z143z, z144z, z145z, z146z, z147z, z148z, z149z, z150z, z151z] #[98, 99] cAssign cBody d))) (hv : Boxed W nb 3 (.int .i64 q)) (hlv : l ≠ nb) (hq : q ≤ 65536) (hql : q < ln) (hlc : ln ≤ cap)
    (hc : CuAt W lb wb ab g lv ag ln cap q k s n pl pc) (n1' : lb ≠ l) (n2' : wb ≠ l) (n3' : ab ≠ l) (n4' : g ≠ l) (m1 : lb ≠ nb) (m2 : wb ≠ nb) (m3 : ab ≠ nb) (m4 : g ≠ nb) (hbk : ¬ (ag = 0 ∧ lv = (q : Int) + 1))
    (HK : Hid (∀ W', Boxed W' nb 3 (.int .i64 ((q : Int) + 1)) → (∀ j, j < W.heap.size → j ≠ nb → W'.heap[j]? = W.heap[j]?) → W.heap.size ≤ W'.heap.size → W'.os = W.os → W'.tape = W.tape → W'.output = W.output → R (.returned (.bool true)) W')) :
    YieldAt Fence.wide 0 Tryd.prog l #[.int .i64 q, .agg #[.int .i64 k, .string s, .int .i64 n, .int .i64 pl, .int .i64 pc]] W R := by
  refine yield_round hl rfl rfl trivial ?_
  simp only [loopRec]
  conv => arg 4; whnf
  gi_wp2
  refine ⟨(Below.heap_alloc W _ l (Array.getElem?_eq_some_iff.1 hl).1).trans hl, ?_⟩
  conv => arg 4; whnf
  obtain ⟨W1, hW1⟩ : ∃ W1, (W.alloc (.cells #[.int .i64 k, .string s, .int .i64 n, .int .i64 pl, .int .i64 pc] 30)).putObj l (.loop { state := .busy, pending := none, fn := fn, tmps := #[z0z, z1z, z2z, .pointer (some ⟨lb, 0, none⟩), z4z, z5z, z6z, z7z, .pointer (some ⟨wb, 0, none⟩), z9z, z10z, z11z, z12z, .pointer (some ⟨ab, 0, none⟩), .pointer (some ⟨nb, 0, none⟩), z15z, z16z, z17z, z18z, z19z, z20z, z21z, z22z, z23z, z24z, z25z, z26z, z27z, z28z, z29z, z30z, z31z, z32z, z33z, z34z, z35z, z36z, z37z, z38z, z39z, z40z, z41z, z42z, z43z, z44z, z45z, z46z, z47z, z48z, z49z, z50z, z51z, z52z, z53z, z54z, z55z, z56z, z57z, z58z, z59z, z60z, z61z, z62z, z63z, z64z, z65z, z66z, z67z, z68z, z69z, z70z, z71z, z72z, z73z, z74z, z75z, z76z, z77z, z78z, z79z, z80z, z81z, z82z, z83z, z84z, z85z, z86z, z87z, z88z, z89z, z90z, z91z, z92z, z93z, z94z, z95z, z96z, z97z, z98z, z99z, z100z, z101z, z102z, z103z, z104z, z105z, z106z, z107z, z108z, z109z, z110z, z111z, z112z, z113z, z114z, z115z, z116z, z117z, z118z, z119z, z120z, z121z, z122z, z123z, z124z, z125z, z126z, z127z, z128z, z129z, z130z, z131z, z132z, z133z, z134z, z135z, z136z, z137z, z138z, z139z, z140z, z141z, z142z, z143z, z144z, z145z, z146z, z147z, z148z, z149z, z150z, z151z], params := #[98, 99], assign := cAssign, body := cBody, defers := d }) = W1 := ⟨_, rfl⟩
  have ll : l < W.heap.size := (Array.getElem?_eq_some_iff.1 hl).1
  have HB1 : Hid (∀ k, k < W.heap.size → k ≠ l → W1.heap[k]? = W.heap[k]?) := fun k hk hn => by
    rw [← hW1, World.putObj_heap_other hn]
    exact Below.heap_alloc W _ k hk
  have s1 : W1.heap.size = W.heap.size + 1 := by rw [← hW1]; simp
  have n1 : W1.heap[W.heap.size]? = some (.cells #[.int .i64 k, .string s, .int .i64 n, .int .i64 pl, .int .i64 pc] 30 (0, 0)) := by
    rw [← hW1, World.putObj_heap_other (by omega)]
    exact World.alloc_heap_new W _
  have l1 : W1.heap[l]? = some (.loop { state := .busy, pending := none, fn := fn, tmps := #[z0z, z1z, z2z, .pointer (some ⟨lb, 0, none⟩), z4z, z5z, z6z, z7z, .pointer (some ⟨wb, 0, none⟩), z9z, z10z, z11z, z12z, .pointer (some ⟨ab, 0, none⟩), .pointer (some ⟨nb, 0, none⟩), z15z, z16z, z17z, z18z, z19z, z20z, z21z, z22z, z23z, z24z, z25z, z26z, z27z, z28z, z29z, z30z, z31z, z32z, z33z, z34z, z35z, z36z, z37z, z38z, z39z, z40z, z41z, z42z, z43z, z44z, z45z, z46z, z47z, z48z, z49z, z50z, z51z, z52z, z53z, z54z, z55z, z56z, z57z, z58z, z59z, z60z, z61z, z62z, z63z, z64z, z65z, z66z, z67z, z68z, z69z, z70z, z71z, z72z, z73z, z74z, z75z, z76z, z77z, z78z, z79z, z80z, z81z, z82z, z83z, z84z, z85z, z86z, z87z, z88z, z89z, z90z, z91z, z92z, z93z, z94z, z95z, z96z, z97z, z98z, z99z, z100z, z101z, z102z, z103z, z104z, z105z, z106z, z107z, z108z, z109z, z110z, z111z, z112z, z113z, z114z, z115z, z116z, z117z, z118z, z119z, z120z, z121z, z122z, z123z, z124z, z125z, z126z, z127z, z128z, z129z, z130z, z131z, z132z, z133z, z134z, z135z, z136z, z137z, z138z, z139z, z140z, z141z, z142z, z143z, z144z, z145z, z146z, z147z, z148z, z149z, z150z, z151z], params := #[98, 99], assign := cAssign, body := cBody, defers := d }) := by
    rw [← hW1]
    exact World.putObj_heap_same (by simp; omega)
  have v1 : Boxed W1 nb 3 (.int .i64 q) := (HB1.out nb hv.lt (Ne.symm hlv)).trans hv
  have HS1 : Hid (W1.os = W.os ∧ W1.tape = W.tape ∧ W1.output = W.output) := by rw [← hW1]; exact ⟨rfl, rfl, rfl⟩
  have hc1 := hc.keep HB1.out n1' n2' n3' n4'
  rw [hW1]
  clear hW1 hc
  obtain ⟨cl, cw, ca, c0, c1, c2, c3, c4⟩ := hc1
  have cv := v1.cell
  have fv := v1.frozen
  have a0 : W1.cell? ⟨W.heap.size, 0, none⟩ = some (.int .i64 k) := heap_cell n1 (by simp)
  have a1 : W1.cell? ⟨W.heap.size, 1, none⟩ = some (.string s) := heap_cell n1 (by simp)
  have a2 : W1.cell? ⟨W.heap.size, 2, none⟩ = some (.int .i64 n) := heap_cell n1 (by simp)
  have a3 : W1.cell? ⟨W.heap.size, 3, none⟩ = some (.int .i64 pl) := heap_cell n1 (by simp)
  have a4 : W1.cell? ⟨W.heap.size, 4, none⟩ = some (.int .i64 pc) := heap_cell n1 (by simp)
  have q0 : (0 : Int) ≤ (q : Int) := by omega
  have q1 : (q : Int) ≤ 65536 := by omega
  have q2 : (q : Int) < (ln : Int) := by omega
  have q3 : decide ((ln : Int) ≤ (q : Int)) = false := by simp; omega
  have q4 : decide (ln ≤ q) = false := by simp; omega
  have nw := neq_word k n pl pc s
  have ll2 : l < W1.heap.size := by omega
  have qa : (ag == 0) = false ∨ (ag = 0 ∧ ((q : Int) + 1 == lv) = false) := by
    by_cases h : ag = 0
    · right
      refine ⟨h, ?_⟩
      simp only [beq_eq_false_iff_ne]
      exact fun h2 => hbk ⟨h, h2.symm⟩
    · left
      simpa using h
  clear hbk
  rcases qa with qa | ⟨rfl, qa⟩
  · refine wpIn_block (wpIn_seq (wpIn_seq ?_))
    refine wpIn_quiet_round rfl (by kernel_rfl) (by kernel_rfl) (by kernel_rfl) ?_
    repeat (gi_big_quiet_step (fail))
    refine wpQuietIn_nil ?_
    intro _ hw'
    obtain ⟨nq, hw''⟩ := hw'
    subst hw''
    gi_wp2
    refine ⟨(heap_set_other hlv).trans l1, ?_⟩
    refine HK.out _ ?_ ?_ ?_ HS1.out.1 HS1.out.2.1 HS1.out.2.2
    · exact (World.putObj_heap_other (Ne.symm hlv)).trans (v1.set _)
    · intro k hk hn
      by_cases hkl : k = l
      · subst hkl
        rw [World.putObj_heap_same (by rw [size_set, World.heap_drewN]; omega)]
        exact hl.symm
      · rw [World.putObj_heap_other hkl, heap_set_other hn]
        exact HB1.out k hk hkl
    · rw [World.putObj_size, size_set, World.heap_drewN]; omega
  · refine wpIn_block (wpIn_seq (wpIn_seq ?_))
    refine wpIn_quiet_round rfl (by kernel_rfl) (by kernel_rfl) (by kernel_rfl) ?_
    repeat (gi_big_quiet_step (fail))
    refine wpQuietIn_nil ?_
    intro _ hw'
    obtain ⟨nq, hw''⟩ := hw'
    subst hw''
    gi_wp2
    refine ⟨(heap_set_other hlv).trans l1, ?_⟩
    refine HK.out _ ?_ ?_ ?_ HS1.out.1 HS1.out.2.1 HS1.out.2.2
    · exact (World.putObj_heap_other (Ne.symm hlv)).trans (v1.set _)
    · intro k hk hn
      by_cases hkl : k = l
      · subst hkl
        rw [World.putObj_heap_same (by rw [size_set, World.heap_drewN]; omega)]
        exact hl.symm
      · rw [World.putObj_heap_other hkl, heap_set_other hn]
        exact HB1.out k hk hkl
    · rw [World.putObj_size, size_set, World.heap_drewN]; omega
set_option maxRecDepth 100000 in
set_option maxHeartbeats 4000000 in
theorem cu_break (l nb lb wb ab g d q ln cap : Nat) (fn : FuncId) (k n pl pc ag lv : Int) (s : ByteArray) (z0z z1z z2z z4z z5z z6z z7z z9z z10z z11z z12z z15z z16z z17z z18z z19z z20z z21z z22z z23z z24z z25z z26z z27z z28z z29z z30z z31z z32z z33z z34z z35z z36z z37z z38z z39z z40z z41z z42z z43z z44z z45z z46z z47z z48z z49z z50z z51z z52z z53z z54z z55z z56z z57z z58z z59z z60z z61z z62z z63z z64z z65z z66z z67z z68z z69z z70z z71z z72z z73z z74z z75z z76z z77z z78z z79z z80z z81z z82z z83z z84z z85z z86z z87z z88z z89z z90z z91z z92z z93z z94z z95z z96z z97z z98z z99z z100z z101z z102z z103z z104z z105z z106z z107z z108z z109z z110z z111z z112z z113z z114z z115z z116z z117z z118z z119z z120z z121z z122z z123z z124z z125z z126z z127z z128z z129z z130z z131z z132z z133z z134z z135z z136z z137z z138z z139z z140z z141z z142z z143z z144z z145z z146z z147z z148z z149z z150z z151z : Value) (W : World) (R : Ending → World → Prop)
    (hl : W.heap[l]? = some (.loop (loopRec fn #[z0z, z1z, z2z, .pointer (some ⟨lb, 0, none⟩), z4z, z5z, z6z, z7z, .pointer (some ⟨wb, 0, none⟩), z9z, z10z, z11z, z12z, .pointer (some ⟨ab, 0, none⟩), .pointer (some ⟨nb, 0, none⟩), z15z, z16z, z17z, z18z, z19z, z20z, z21z, z22z, z23z, z24z, z25z, z26z, z27z, z28z, z29z, z30z, z31z, z32z, z33z, z34z, z35z, z36z, z37z, z38z, z39z, z40z, z41z, z42z, z43z, z44z, z45z, z46z, z47z, z48z, z49z, z50z, z51z, z52z, z53z, z54z, z55z, z56z, z57z, z58z, z59z, z60z, z61z, z62z, z63z, z64z, z65z, z66z, z67z, z68z, z69z, z70z, z71z, z72z, z73z, z74z, z75z, z76z, z77z, z78z, z79z, z80z, z81z, z82z, z83z, z84z, z85z, z86z, z87z, z88z, z89z, z90z, z91z, z92z, z93z, z94z, z95z, z96z, z97z, z98z, z99z, z100z, z101z, z102z, z103z, z104z, z105z, z106z, z107z, z108z, z109z, z110z, z111z, z112z, z113z, z114z, z115z, z116z, z117z, z118z, z119z, z120z, z121z, z122z, z123z, z124z, z125z, z126z, z127z, z128z, z129z, z130z, z131z, z132z, z133z, z134z, z135z, z136z, z137z, z138z, z139z, z140z, z141z, z142z, z143z, z144z, z145z, z146z, z147z, z148z, z149z, z150z, z151z] #[98, 99] cAssign cBody d))) (hv : Boxed W nb 3 (.int .i64 q)) (hlv : l ≠ nb) (hq : q ≤ 65536) (hql : q < ln) (hlc : ln ≤ cap)
    (hc : CuAt W lb wb ab g lv ag ln cap q k s n pl pc) (n1' : lb ≠ l) (n2' : wb ≠ l) (n3' : ab ≠ l) (n4' : g ≠ l) (m1 : lb ≠ nb) (m2 : wb ≠ nb) (m3 : ab ≠ nb) (m4 : g ≠ nb) (hbk : (ag = 0 ∧ lv = (q : Int) + 1))
    (HK : Hid (∀ W', Boxed W' nb 3 (.int .i64 ((q : Int) + 1)) → (∀ j, j < W.heap.size → j ≠ nb → j ≠ l → W'.heap[j]? = W.heap[j]?) → W.heap.size ≤ W'.heap.size → W'.os = W.os → W'.tape = W.tape → W'.output = W.output → R (.returned (.bool false)) (W'.putObj l (.loop { state := .done, pending := some (.exit 4), fn := fn, tmps := #[z0z, z1z, z2z, .pointer (some ⟨lb, 0, none⟩), z4z, z5z, z6z, z7z, .pointer (some ⟨wb, 0, none⟩), z9z, z10z, z11z, z12z, .pointer (some ⟨ab, 0, none⟩), .pointer (some ⟨nb, 0, none⟩), z15z, z16z, z17z, z18z, z19z, z20z, z21z, z22z, z23z, z24z, z25z, z26z, z27z, z28z, z29z, z30z, z31z, z32z, z33z, z34z, z35z, z36z, z37z, z38z, z39z, z40z, z41z, z42z, z43z, z44z, z45z, z46z, z47z, z48z, z49z, z50z, z51z, z52z, z53z, z54z, z55z, z56z, z57z, z58z, z59z, z60z, z61z, z62z, z63z, z64z, z65z, z66z, z67z, z68z, z69z, z70z, z71z, z72z, z73z, z74z, z75z, z76z, z77z, z78z, z79z, z80z, z81z, z82z, z83z, z84z, z85z, z86z, z87z, z88z, z89z, z90z, z91z, z92z, z93z, z94z, z95z, z96z, z97z, z98z, z99z, z100z, z101z, z102z, z103z, z104z, z105z, z106z, z107z, z108z, z109z, z110z, z111z, z112z, z113z, z114z, z115z, z116z, z117z, z118z, z119z, z120z, z121z, z122z, z123z, z124z, z125z, z126z, z127z, z128z, z129z, z130z, z131z, z132z, z133z, z134z, z135z, z136z, z137z, z138z, z139z, z140z, z141z, z142z, z143z, z144z, z145z, z146z, z147z, z148z, z149z, z150z, z151z], params := #[98, 99], assign := cAssign, body := cBody, defers := d })))) :
    YieldAt Fence.wide 0 Tryd.prog l #[.int .i64 q, .agg #[.int .i64 k, .string s, .int .i64 n, .int .i64 pl, .int .i64 pc]] W R := by
  refine yield_round hl rfl rfl trivial ?_
  simp only [loopRec]
  conv => arg 4; whnf
  gi_wp2
  refine ⟨(Below.heap_alloc W _ l (Array.getElem?_eq_some_iff.1 hl).1).trans hl, ?_⟩
  conv => arg 4; whnf
  obtain ⟨W1, hW1⟩ : ∃ W1, (W.alloc (.cells #[.int .i64 k, .string s, .int .i64 n, .int .i64 pl, .int .i64 pc] 30)).putObj l (.loop { state := .busy, pending := none, fn := fn, tmps := #[z0z, z1z, z2z, .pointer (some ⟨lb, 0, none⟩), z4z, z5z, z6z, z7z, .pointer (some ⟨wb, 0, none⟩), z9z, z10z, z11z, z12z, .pointer (some ⟨ab, 0, none⟩), .pointer (some ⟨nb, 0, none⟩), z15z, z16z, z17z, z18z, z19z, z20z, z21z, z22z, z23z, z24z, z25z, z26z, z27z, z28z, z29z, z30z, z31z, z32z, z33z, z34z, z35z, z36z, z37z, z38z, z39z, z40z, z41z, z42z, z43z, z44z, z45z, z46z, z47z, z48z, z49z, z50z, z51z, z52z, z53z, z54z, z55z, z56z, z57z, z58z, z59z, z60z, z61z, z62z, z63z, z64z, z65z, z66z, z67z, z68z, z69z, z70z, z71z, z72z, z73z, z74z, z75z, z76z, z77z, z78z, z79z, z80z, z81z, z82z, z83z, z84z, z85z, z86z, z87z, z88z, z89z, z90z, z91z, z92z, z93z, z94z, z95z, z96z, z97z, z98z, z99z, z100z, z101z, z102z, z103z, z104z, z105z, z106z, z107z, z108z, z109z, z110z, z111z, z112z, z113z, z114z, z115z, z116z, z117z, z118z, z119z, z120z, z121z, z122z, z123z, z124z, z125z, z126z, z127z, z128z, z129z, z130z, z131z, z132z, z133z, z134z, z135z, z136z, z137z, z138z, z139z, z140z, z141z, z142z, z143z, z144z, z145z, z146z, z147z, z148z, z149z, z150z, z151z], params := #[98, 99], assign := cAssign, body := cBody, defers := d }) = W1 := ⟨_, rfl⟩
  have ll : l < W.heap.size := (Array.getElem?_eq_some_iff.1 hl).1
  have HB1 : Hid (∀ k, k < W.heap.size → k ≠ l → W1.heap[k]? = W.heap[k]?) := fun k hk hn => by
    rw [← hW1, World.putObj_heap_other hn]
    exact Below.heap_alloc W _ k hk
  have s1 : W1.heap.size = W.heap.size + 1 := by rw [← hW1]; simp
  have n1 : W1.heap[W.heap.size]? = some (.cells #[.int .i64 k, .string s, .int .i64 n, .int .i64 pl, .int .i64 pc] 30 (0, 0)) := by
    rw [← hW1, World.putObj_heap_other (by omega)]
    exact World.alloc_heap_new W _
  have l1 : W1.heap[l]? = some (.loop { state := .busy, pending := none, fn := fn, tmps := #[z0z, z1z, z2z, .pointer (some ⟨lb, 0, none⟩), z4z, z5z, z6z, z7z, .pointer (some ⟨wb, 0, none⟩), z9z, z10z, z11z, z12z, .pointer (some ⟨ab, 0, none⟩), .pointer (some ⟨nb, 0, none⟩), z15z, z16z, z17z, z18z, z19z, z20z, z21z, z22z, z23z, z24z, z25z, z26z, z27z, z28z, z29z, z30z, z31z, z32z, z33z, z34z, z35z, z36z, z37z, z38z, z39z, z40z, z41z, z42z, z43z, z44z, z45z, z46z, z47z, z48z, z49z, z50z, z51z, z52z, z53z, z54z, z55z, z56z, z57z, z58z, z59z, z60z, z61z, z62z, z63z, z64z, z65z, z66z, z67z, z68z, z69z, z70z, z71z, z72z, z73z, z74z, z75z, z76z, z77z, z78z, z79z, z80z, z81z, z82z, z83z, z84z, z85z, z86z, z87z, z88z, z89z, z90z, z91z, z92z, z93z, z94z, z95z, z96z, z97z, z98z, z99z, z100z, z101z, z102z, z103z, z104z, z105z, z106z, z107z, z108z, z109z, z110z, z111z, z112z, z113z, z114z, z115z, z116z, z117z, z118z, z119z, z120z, z121z, z122z, z123z, z124z, z125z, z126z, z127z, z128z, z129z, z130z, z131z, z132z, z133z, z134z, z135z, z136z, z137z, z138z, z139z, z140z, z141z, z142z, z143z, z144z, z145z, z146z, z147z, z148z, z149z, z150z, z151z], params := #[98, 99], assign := cAssign, body := cBody, defers := d }) := by
    rw [← hW1]
    exact World.putObj_heap_same (by simp; omega)
  have v1 : Boxed W1 nb 3 (.int .i64 q) := (HB1.out nb hv.lt (Ne.symm hlv)).trans hv
  have HS1 : Hid (W1.os = W.os ∧ W1.tape = W.tape ∧ W1.output = W.output) := by rw [← hW1]; exact ⟨rfl, rfl, rfl⟩
  have hc1 := hc.keep HB1.out n1' n2' n3' n4'
  rw [hW1]
  clear hW1 hc
  obtain ⟨cl, cw, ca, c0, c1, c2, c3, c4⟩ := hc1
  have cv := v1.cell
  have fv := v1.frozen
  have a0 : W1.cell? ⟨W.heap.size, 0, none⟩ = some (.int .i64 k) := heap_cell n1 (by simp)
  have a1 : W1.cell? ⟨W.heap.size, 1, none⟩ = some (.string s) := heap_cell n1 (by simp)
  have a2 : W1.cell? ⟨W.heap.size, 2, none⟩ = some (.int .i64 n) := heap_cell n1 (by simp)
  have a3 : W1.cell? ⟨W.heap.size, 3, none⟩ = some (.int .i64 pl) := heap_cell n1 (by simp)
  have a4 : W1.cell? ⟨W.heap.size, 4, none⟩ = some (.int .i64 pc) := heap_cell n1 (by simp)
  have q0 : (0 : Int) ≤ (q : Int) := by omega
  have q1 : (q : Int) ≤ 65536 := by omega
  have q2 : (q : Int) < (ln : Int) := by omega
  have q3 : decide ((ln : Int) ≤ (q : Int)) = false := by simp; omega
  have q4 : decide (ln ≤ q) = false := by simp; omega
  have nw := neq_word k n pl pc s
  have ll2 : l < W1.heap.size := by omega
  obtain ⟨rfl, rfl⟩ := hbk
  have HU : True := trivial
  refine wpIn_block (wpIn_seq (wpIn_seq ?_))
  refine wpIn_quiet_round rfl (by kernel_rfl) (by kernel_rfl) (by kernel_rfl) ?_
  repeat (gi_big_quiet_step (fail))
  refine wpQuietIn_nil ?_
  intro _ hw'
  obtain ⟨nq, hw''⟩ := hw'
  subst hw''
  gi_wp2
  refine ⟨(heap_set_other hlv).trans l1, ?_⟩
  refine HK.out _ ?_ ?_ ?_ HS1.out.1 HS1.out.2.1 HS1.out.2.2
  · exact v1.set _
  · intro k hk hn hkl
    rw [heap_set_other hn]
    exact HB1.out k hk hkl
  · rw [size_set, World.heap_drewN]; omega
end Go.Proofs.YtkbihcicnffjdaaDoor

namespace Go.Proofs.YtkbihcicnffjdaaDoor
open Go.ChangeShapes Go.WideShapes Go.ChangeAt Go.RowKit Go.Shelf
set_option linter.unusedSimpArgs false
set_option linter.unusedVariables false

/-- The world behind the loop. -/
structure CuEnd (W0 : World) (nb : Nat) (q : Int) (W : World) : Prop where
  os : W.os = W0.os
  tape : W.tape = W0.tape
  output : W.output = W0.output
  size : W0.heap.size + 2 ≤ W.heap.size
  block : ∀ k, k < W0.heap.size → k ≠ nb → W.heap[k]? = W0.heap[k]?
  n : Boxed W nb 3 (.int .i64 q)
  dfr : W.heap[W0.heap.size]? = some (.deferred (some []))
/-- Left early. -/
structure CuX (W1 : World) (nb l : Nat) (r : Loop) (W : World) : Prop where
  os : W.os = W1.os
  tape : W.tape = W1.tape
  output : W.output = W1.output
  size : W1.heap.size ≤ W.heap.size
  block : ∀ k, k < W1.heap.size → k ≠ nb → k ≠ l → W.heap[k]? = W1.heap[k]?
  n : ∃ q : Int, Boxed W nb 3 (.int .i64 q)
  lp : W.heap[l]? = some (.loop r)
set_option maxRecDepth 100000 in
set_option maxHeartbeats 8000000 in
theorem cu_range (w : World) (t : ByteArray) (lb wb ab nb tb cap : Nat) (a : Option Addr) (lv ag : Int) (z0z z1z z2z z4z z5z z6z z7z z9z z10z z11z z12z z15z z16z z17z z18z z19z z20z z21z z22z z23z z24z z25z z26z z27z z28z z29z z30z z31z z32z z33z z34z z35z z36z z37z z38z z39z z40z z41z z42z z43z z44z z45z z46z z47z z48z z49z z50z z51z z52z z53z z54z z55z z56z z57z z58z z59z z60z z61z z62z z63z z64z z65z z66z z67z z68z z69z z70z z71z z72z z73z z74z z75z z76z z77z z78z z79z z80z z81z z82z z83z z84z z85z z86z z87z z88z z89z z90z z91z z92z z93z z94z z95z z96z z98z z99z z100z z101z z102z z103z z104z z105z z106z z107z z108z z109z z110z z111z z112z z113z z114z z115z z116z z117z z118z z119z z120z z121z z122z z123z z124z z125z z126z z127z z128z z129z z130z z131z z132z z133z z134z z135z z136z z137z z138z z139z z140z z141z z142z z143z z144z z145z z146z z147z z148z z149z z150z z151z : Value) (ds : List Deferred) (Q : Exit → Act → World → Prop) (W0 : World) (hl : LexTab w) (he : ErrTab w) (hbw : Below w.heap.size w W0) (hnw : w.heap.size ≤ nb)
    (cl : W0.cell? ⟨lb, 0, none⟩ = some (.int .i64 lv)) (cw : W0.cell? ⟨wb, 0, none⟩ = some (.slice a (eachList t).length cap)) (ca : W0.cell? ⟨ab, 0, none⟩ = some (.int .i64 ag)) (ct : W0.cell? ⟨tb, 0, none⟩ = some (.string t))
    (hn : Boxed W0 nb 3 (.int .i64 0)) (hw : WordsAt W0 t a cap (eachList t)) (m1 : lb ≠ nb) (m2 : wb ≠ nb) (m3 : ab ≠ nb) (m5 : tb ≠ nb) (m4 : eachList t ≠ [] → ∀ g, a = some ⟨g, 0, none⟩ → g ≠ nb)
    (HN : Hid (∀ W', CuEnd W0 nb ((eachList t).length : Int) W' → Q .normal ⟨#[z0z, z1z, z2z, .pointer (some ⟨lb, 0, none⟩), z4z, z5z, z6z, z7z, .pointer (some ⟨wb, 0, none⟩), z9z, z10z, z11z, z12z, .pointer (some ⟨ab, 0, none⟩), .pointer (some ⟨nb, 0, none⟩), z15z, z16z, z17z, z18z, z19z, z20z, z21z, z22z, z23z, z24z, z25z, z26z, z27z, z28z, z29z, z30z, z31z, z32z, z33z, z34z, z35z, z36z, z37z, z38z, z39z, z40z, z41z, z42z, z43z, z44z, z45z, z46z, z47z, z48z, z49z, z50z, z51z, z52z, z53z, z54z, z55z, z56z, z57z, z58z, z59z, z60z, z61z, z62z, z63z, z64z, z65z, z66z, z67z, z68z, z69z, z70z, z71z, z72z, z73z, z74z, z75z, z76z, z77z, z78z, z79z, z80z, z81z, z82z, z83z, z84z, z85z, z86z, z87z, z88z, z89z, z90z, z91z, z92z, z93z, z94z, z95z, z96z, .func (.func 20) #[] #[.pointer (some ⟨tb, 0, none⟩)], z98z, z99z, z100z, z101z, z102z, z103z, z104z, z105z, z106z, z107z, z108z, z109z, z110z, z111z, z112z, z113z, z114z, z115z, z116z, z117z, z118z, z119z, z120z, z121z, z122z, z123z, z124z, z125z, z126z, z127z, z128z, z129z, z130z, z131z, z132z, z133z, z134z, z135z, z136z, z137z, z138z, z139z, z140z, z141z, z142z, z143z, z144z, z145z, z146z, z147z, z148z, z149z, z150z, z151z], { target := .collected W0.heap.size, args := #[] } :: ds⟩ W'))
    (HX : Hid (ag = 0 → ∀ q W', CuEnd W0 nb q W' → Q (.exit 4) ⟨#[z0z, z1z, z2z, .pointer (some ⟨lb, 0, none⟩), z4z, z5z, z6z, z7z, .pointer (some ⟨wb, 0, none⟩), z9z, z10z, z11z, z12z, .pointer (some ⟨ab, 0, none⟩), .pointer (some ⟨nb, 0, none⟩), z15z, z16z, z17z, z18z, z19z, z20z, z21z, z22z, z23z, z24z, z25z, z26z, z27z, z28z, z29z, z30z, z31z, z32z, z33z, z34z, z35z, z36z, z37z, z38z, z39z, z40z, z41z, z42z, z43z, z44z, z45z, z46z, z47z, z48z, z49z, z50z, z51z, z52z, z53z, z54z, z55z, z56z, z57z, z58z, z59z, z60z, z61z, z62z, z63z, z64z, z65z, z66z, z67z, z68z, z69z, z70z, z71z, z72z, z73z, z74z, z75z, z76z, z77z, z78z, z79z, z80z, z81z, z82z, z83z, z84z, z85z, z86z, z87z, z88z, z89z, z90z, z91z, z92z, z93z, z94z, z95z, z96z, .func (.func 20) #[] #[.pointer (some ⟨tb, 0, none⟩)], z98z, z99z, z100z, z101z, z102z, z103z, z104z, z105z, z106z, z107z, z108z, z109z, z110z, z111z, z112z, z113z, z114z, z115z, z116z, z117z, z118z, z119z, z120z, z121z, z122z, z123z, z124z, z125z, z126z, z127z, z128z, z129z, z130z, z131z, z132z, z133z, z134z, z135z, z136z, z137z, z138z, z139z, z140z, z141z, z142z, z143z, z144z, z145z, z146z, z147z, z148z, z149z, z150z, z151z], { target := .collected W0.heap.size, args := #[] } :: ds⟩ W')) :
    Code.wp Tryd.prog (.rangeFunc (.tmp 97) #[98, 99] cAssign cBody) Q ⟨#[z0z, z1z, z2z, .pointer (some ⟨lb, 0, none⟩), z4z, z5z, z6z, z7z, .pointer (some ⟨wb, 0, none⟩), z9z, z10z, z11z, z12z, .pointer (some ⟨ab, 0, none⟩), .pointer (some ⟨nb, 0, none⟩), z15z, z16z, z17z, z18z, z19z, z20z, z21z, z22z, z23z, z24z, z25z, z26z, z27z, z28z, z29z, z30z, z31z, z32z, z33z, z34z, z35z, z36z, z37z, z38z, z39z, z40z, z41z, z42z, z43z, z44z, z45z, z46z, z47z, z48z, z49z, z50z, z51z, z52z, z53z, z54z, z55z, z56z, z57z, z58z, z59z, z60z, z61z, z62z, z63z, z64z, z65z, z66z, z67z, z68z, z69z, z70z, z71z, z72z, z73z, z74z, z75z, z76z, z77z, z78z, z79z, z80z, z81z, z82z, z83z, z84z, z85z, z86z, z87z, z88z, z89z, z90z, z91z, z92z, z93z, z94z, z95z, z96z, .func (.func 20) #[] #[.pointer (some ⟨tb, 0, none⟩)], z98z, z99z, z100z, z101z, z102z, z103z, z104z, z105z, z106z, z107z, z108z, z109z, z110z, z111z, z112z, z113z, z114z, z115z, z116z, z117z, z118z, z119z, z120z, z121z, z122z, z123z, z124z, z125z, z126z, z127z, z128z, z129z, z130z, z131z, z132z, z133z, z134z, z135z, z136z, z137z, z138z, z139z, z140z, z141z, z142z, z143z, z144z, z145z, z146z, z147z, z148z, z149z, z150z, z151z], ds⟩ W0 := by
  refine (wpIn_wide (n := 3)).1 ?_
  refine range_outer (F := Fence.wide) rfl (by omega) (gf := 20) (lb := #[.pointer (some ⟨tb, 0, none⟩)]) (by simp [Act.eval]) trivial (enters_of Tryd.func20 (by kernel_rfl) rfl) ?_
  intro fn _
  refine callsIn_wide.2 ?_
  obtain ⟨r, hr⟩ : ∃ r, loopRec fn #[z0z, z1z, z2z, .pointer (some ⟨lb, 0, none⟩), z4z, z5z, z6z, z7z, .pointer (some ⟨wb, 0, none⟩), z9z, z10z, z11z, z12z, .pointer (some ⟨ab, 0, none⟩), .pointer (some ⟨nb, 0, none⟩), z15z, z16z, z17z, z18z, z19z, z20z, z21z, z22z, z23z, z24z, z25z, z26z, z27z, z28z, z29z, z30z, z31z, z32z, z33z, z34z, z35z, z36z, z37z, z38z, z39z, z40z, z41z, z42z, z43z, z44z, z45z, z46z, z47z, z48z, z49z, z50z, z51z, z52z, z53z, z54z, z55z, z56z, z57z, z58z, z59z, z60z, z61z, z62z, z63z, z64z, z65z, z66z, z67z, z68z, z69z, z70z, z71z, z72z, z73z, z74z, z75z, z76z, z77z, z78z, z79z, z80z, z81z, z82z, z83z, z84z, z85z, z86z, z87z, z88z, z89z, z90z, z91z, z92z, z93z, z94z, z95z, z96z, .func (.func 20) #[] #[.pointer (some ⟨tb, 0, none⟩)], z98z, z99z, z100z, z101z, z102z, z103z, z104z, z105z, z106z, z107z, z108z, z109z, z110z, z111z, z112z, z113z, z114z, z115z, z116z, z117z, z118z, z119z, z120z, z121z, z122z, z123z, z124z, z125z, z126z, z127z, z128z, z129z, z130z, z131z, z132z, z133z, z134z, z135z, z136z, z137z, z138z, z139z, z140z, z141z, z142z, z143z, z144z, z145z, z146z, z147z, z148z, z149z, z150z, z151z] #[98, 99] cAssign cBody W0.heap.size = r := ⟨_, rfl⟩
  obtain ⟨W1, hW1⟩ : ∃ W1, loopW W0 r = W1 := ⟨_, rfl⟩
  have HE : Hid (W1.heap.size = W0.heap.size + 2 ∧ (∀ k, k < W0.heap.size → W1.heap[k]? = W0.heap[k]?) ∧ W1.heap[W0.heap.size]? = some (.deferred (some [])) ∧ W1.heap[W0.heap.size + 1]? = some (.loop r) ∧ W1.os = W0.os ∧ W1.tape = W0.tape ∧ W1.output = W0.output) := by
    obtain ⟨h1, h2, h3, h4⟩ := chain2 W0 r
    rw [hW1] at h1 h2 h3 h4
    exact ⟨h1, h2, h3, h4, by rw [← hW1]; rfl, by rw [← hW1]; rfl, by rw [← hW1]; rfl⟩
  show Calls _ _ _ (loopW W0 (loopRec fn #[z0z, z1z, z2z, .pointer (some ⟨lb, 0, none⟩), z4z, z5z, z6z, z7z, .pointer (some ⟨wb, 0, none⟩), z9z, z10z, z11z, z12z, .pointer (some ⟨ab, 0, none⟩), .pointer (some ⟨nb, 0, none⟩), z15z, z16z, z17z, z18z, z19z, z20z, z21z, z22z, z23z, z24z, z25z, z26z, z27z, z28z, z29z, z30z, z31z, z32z, z33z, z34z, z35z, z36z, z37z, z38z, z39z, z40z, z41z, z42z, z43z, z44z, z45z, z46z, z47z, z48z, z49z, z50z, z51z, z52z, z53z, z54z, z55z, z56z, z57z, z58z, z59z, z60z, z61z, z62z, z63z, z64z, z65z, z66z, z67z, z68z, z69z, z70z, z71z, z72z, z73z, z74z, z75z, z76z, z77z, z78z, z79z, z80z, z81z, z82z, z83z, z84z, z85z, z86z, z87z, z88z, z89z, z90z, z91z, z92z, z93z, z94z, z95z, z96z, .func (.func 20) #[] #[.pointer (some ⟨tb, 0, none⟩)], z98z, z99z, z100z, z101z, z102z, z103z, z104z, z105z, z106z, z107z, z108z, z109z, z110z, z111z, z112z, z113z, z114z, z115z, z116z, z117z, z118z, z119z, z120z, z121z, z122z, z123z, z124z, z125z, z126z, z127z, z128z, z129z, z130z, z131z, z132z, z133z, z134z, z135z, z136z, z137z, z138z, z139z, z140z, z141z, z142z, z143z, z144z, z145z, z146z, z147z, z148z, z149z, z150z, z151z] #[98, 99] cAssign cBody W0.heap.size)) _
  rw [hr, hW1]
  obtain ⟨hs1, hbl, hdf, hlp1, o1, o2, o3⟩ := HE.out
  have nl : nb < W0.heap.size := hn.lt
  have cell1 : ∀ j o v, W0.cell? ⟨j, o, none⟩ = some v → W1.cell? ⟨j, o, none⟩ = some v := fun j o v h => (World.cell?_of_block (hbl j (block_lt_of_cell h))).trans h
  have hb1 : ∀ W, (∀ k, k < W1.heap.size → k ≠ nb → k ≠ W0.heap.size + 1 → W.heap[k]? = W1.heap[k]?) → W1.heap.size ≤ W.heap.size → W.os = W1.os → W.tape = W1.tape → W.output = W1.output → Below w.heap.size w W := fun W h1 h2 h3 h4 h5 => by
    have hs := hbw.size
    exact ⟨h3.trans (o1.trans hbw.os), h4.trans (o2.trans hbw.tape), h5.trans (o3.trans hbw.output), by omega, fun k hk => (h1 k (by omega) (by omega) (by omega)).trans ((hbl k (by omega)).trans (hbw.block k hk))⟩
  refine (each1_any (W0.heap.size + 1) tb t W1 (AJ W1 nb) (fun W => ag = 0 ∧ CuX W1 nb (W0.heap.size + 1) { state := .done, pending := some (.exit 4), fn := fn, tmps := #[z0z, z1z, z2z, .pointer (some ⟨lb, 0, none⟩), z4z, z5z, z6z, z7z, .pointer (some ⟨wb, 0, none⟩), z9z, z10z, z11z, z12z, .pointer (some ⟨ab, 0, none⟩), .pointer (some ⟨nb, 0, none⟩), z15z, z16z, z17z, z18z, z19z, z20z, z21z, z22z, z23z, z24z, z25z, z26z, z27z, z28z, z29z, z30z, z31z, z32z, z33z, z34z, z35z, z36z, z37z, z38z, z39z, z40z, z41z, z42z, z43z, z44z, z45z, z46z, z47z, z48z, z49z, z50z, z51z, z52z, z53z, z54z, z55z, z56z, z57z, z58z, z59z, z60z, z61z, z62z, z63z, z64z, z65z, z66z, z67z, z68z, z69z, z70z, z71z, z72z, z73z, z74z, z75z, z76z, z77z, z78z, z79z, z80z, z81z, z82z, z83z, z84z, z85z, z86z, z87z, z88z, z89z, z90z, z91z, z92z, z93z, z94z, z95z, z96z, .func (.func 20) #[] #[.pointer (some ⟨tb, 0, none⟩)], z98z, z99z, z100z, z101z, z102z, z103z, z104z, z105z, z106z, z107z, z108z, z109z, z110z, z111z, z112z, z113z, z114z, z115z, z116z, z117z, z118z, z119z, z120z, z121z, z122z, z123z, z124z, z125z, z126z, z127z, z128z, z129z, z130z, z131z, z132z, z133z, z134z, z135z, z136z, z137z, z138z, z139z, z140z, z141z, z142z, z143z, z144z, z145z, z146z, z147z, z148z, z149z, z150z, z151z], params := #[98, 99], assign := cAssign, body := cBody, defers := W0.heap.size } W) (cell1 _ _ _ ct) ⟨(hbl _ nl).trans hn, ⟨rfl, rfl, rfl, Nat.le_refl _, fun _ _ _ => rfl⟩⟩ ?_ ?_ ?_ ?_).mono ?_
  · intro pre W hJ
    have hb := hb1 W (fun k h1 h2 _ => hJ.2.block k h1 h2) hJ.2.size hJ.2.os hJ.2.tape hJ.2.output
    exact ⟨hl.keep hb, he.keep hb⟩
  · intro pre W W' hJ hb
    exact ⟨(hb.block _ (by omega)).trans hJ.1, ⟨hb.os.trans hJ.2.os, hb.tape.trans hJ.2.tape, hb.output.trans hJ.2.output, Nat.le_trans hJ.2.size hb.size, fun k hk hn => (hb.block k hk).trans (hJ.2.block k hk hn)⟩⟩
  · rintro W W' ⟨h0, h⟩ hb
    obtain ⟨q, hq⟩ := h.n
    exact ⟨h0, ⟨hb.os.trans h.os, hb.tape.trans h.tape, hb.output.trans h.output, Nat.le_trans h.size hb.size, fun k h1 h2 h3 => (hb.block k h1).trans (h.block k h1 h2 h3), ⟨q, (hb.block _ (by omega)).trans hq⟩, (hb.block _ (by omega)).trans h.lp⟩⟩
  · intro pre x j rest W hpre hts hJ hsW
    have hel : eachList t = pre ++ (x, j) :: rest := by rw [eachList, if_neg (by omega)]; exact hpre
    have hlen : (eachList t).length = pre.length + (rest.length + 1) := by rw [hel]; simp
    have hll : (eachList t).length ≤ 65536 := by
      have := lexAll_len t
      rw [eachList, if_neg (by omega)]
      omega
    obtain ⟨g, rfl, hg, hcells⟩ := hw.row (by rw [hel]; simp)
    have hx := hcells pre.length x j (by rw [hel]; simp)
    have cellW : ∀ b o v, W0.cell? ⟨b, o, none⟩ = some v → b ≠ nb → W.cell? ⟨b, o, none⟩ = some v := fun b o v h hb => (World.cell?_of_block (hJ.2.block b (by have : b < W0.heap.size := block_lt_of_cell h; omega) hb)).trans (cell1 _ _ _ h)
    have m4' := m4 (by rw [hel]; simp) g rfl
    have hlp : W.heap[W0.heap.size + 1]? = some (.loop (loopRec fn #[z0z, z1z, z2z, .pointer (some ⟨lb, 0, none⟩), z4z, z5z, z6z, z7z, .pointer (some ⟨wb, 0, none⟩), z9z, z10z, z11z, z12z, .pointer (some ⟨ab, 0, none⟩), .pointer (some ⟨nb, 0, none⟩), z15z, z16z, z17z, z18z, z19z, z20z, z21z, z22z, z23z, z24z, z25z, z26z, z27z, z28z, z29z, z30z, z31z, z32z, z33z, z34z, z35z, z36z, z37z, z38z, z39z, z40z, z41z, z42z, z43z, z44z, z45z, z46z, z47z, z48z, z49z, z50z, z51z, z52z, z53z, z54z, z55z, z56z, z57z, z58z, z59z, z60z, z61z, z62z, z63z, z64z, z65z, z66z, z67z, z68z, z69z, z70z, z71z, z72z, z73z, z74z, z75z, z76z, z77z, z78z, z79z, z80z, z81z, z82z, z83z, z84z, z85z, z86z, z87z, z88z, z89z, z90z, z91z, z92z, z93z, z94z, z95z, z96z, .func (.func 20) #[] #[.pointer (some ⟨tb, 0, none⟩)], z98z, z99z, z100z, z101z, z102z, z103z, z104z, z105z, z106z, z107z, z108z, z109z, z110z, z111z, z112z, z113z, z114z, z115z, z116z, z117z, z118z, z119z, z120z, z121z, z122z, z123z, z124z, z125z, z126z, z127z, z128z, z129z, z130z, z131z, z132z, z133z, z134z, z135z, z136z, z137z, z138z, z139z, z140z, z141z, z142z, z143z, z144z, z145z, z146z, z147z, z148z, z149z, z150z, z151z] #[98, 99] cAssign cBody W0.heap.size)) := by
      rw [hr]
      exact (hJ.2.block _ (by omega) (by omega)).trans hlp1
    have hcu : CuAt W lb wb ab g lv ag (eachList t).length cap pre.length x.k x.s x.n (posOf t j).1 (posOf t j).2 :=
      ⟨cellW _ _ _ cl m1, cellW _ _ _ cw m2, cellW _ _ _ ca m3, cellW _ _ _ hx.c0 m4', cellW _ _ _ hx.c1 m4', cellW _ _ _ hx.c2 m4', cellW _ _ _ hx.c3 m4', cellW _ _ _ hx.c4 m4'⟩
    have l1 : lb < W0.heap.size := block_lt_of_cell cl
    have l2 : wb < W0.heap.size := block_lt_of_cell cw
    have l3 : ab < W0.heap.size := block_lt_of_cell ca
    by_cases hbk : ag = 0 ∧ lv = (pre.length : Int) + 1
    · refine cu_break (W0.heap.size + 1) nb lb wb ab g W0.heap.size pre.length (eachList t).length cap fn x.k x.n _ _ ag lv x.s _ _ _ _ _ _ _ _ _ _ _ _ _ _ _ _ _ _ _ _ _ _ _ _ _ _ _ _ _ _ _ _ _ _ _ _ _ _ _ _ _ _ _ _ _ _ _ _ _ _ _ _ _ _ _ _ _ _ _ _ _ _ _ _ _ _ _ _ _ _ _ _ _ _ _ _ _ _ _ _ _ _ _ _ _ _ _ _ _ _ _ _ _ _ _ _ _ _ _ _ _ _ _ _ _ _ _ _ _ _ _ _ _ _ _ _ _ _ _ _ _ _ _ _ _ _ _ _ _ _ _ _ _ _ _ _ _ _ _ _ _ _ _ _ _ _ _ _  W _ hlp hJ.1 (by omega) (by omega) (by omega) hw.cap hcu (by omega) (by omega) (by omega) (by omega) m1 m2 m3 m4' hbk ?_
      intro W' hv' hb' hs' p1 p2 p3
      have o : ∀ (ob : Obj) k, k ≠ W0.heap.size + 1 → (W'.putObj (W0.heap.size + 1) ob).heap[k]? = W'.heap[k]? := fun ob k hk => World.putObj_heap_other hk
      have hsJ := hJ.2.size
      refine ⟨⟨false, rfl, (fun h => by cases h), fun _ => ⟨hbk.1, ⟨p1.trans hJ.2.os, p2.trans hJ.2.tape, p3.trans hJ.2.output, by rw [World.putObj_size]; omega, fun k h1 h2 h3 => (o _ _ h3).trans ((hb' k (by omega) h2 h3).trans (hJ.2.block k h1 h2)), ⟨_, (o _ _ (by omega)).trans hv'⟩, World.putObj_heap_same (by omega)⟩⟩⟩, ⟨by rw [World.putObj_size]; exact hs', fun k h1 h2 => (o _ _ (by omega)).trans (hb' k h2 (by omega) (by omega))⟩⟩
    · refine cu_round (W0.heap.size + 1) nb lb wb ab g W0.heap.size pre.length (eachList t).length cap fn x.k x.n _ _ ag lv x.s _ _ _ _ _ _ _ _ _ _ _ _ _ _ _ _ _ _ _ _ _ _ _ _ _ _ _ _ _ _ _ _ _ _ _ _ _ _ _ _ _ _ _ _ _ _ _ _ _ _ _ _ _ _ _ _ _ _ _ _ _ _ _ _ _ _ _ _ _ _ _ _ _ _ _ _ _ _ _ _ _ _ _ _ _ _ _ _ _ _ _ _ _ _ _ _ _ _ _ _ _ _ _ _ _ _ _ _ _ _ _ _ _ _ _ _ _ _ _ _ _ _ _ _ _ _ _ _ _ _ _ _ _ _ _ _ _ _ _ _ _ _ _ _ _ _ _ _  W _ hlp hJ.1 (by omega) (by omega) (by omega) hw.cap hcu (by omega) (by omega) (by omega) (by omega) m1 m2 m3 m4' hbk ?_
      intro W' hv' hb' hs' p1 p2 p3
      refine ⟨⟨true, rfl, fun _ => ⟨?_, ⟨p1.trans hJ.2.os, p2.trans hJ.2.tape, p3.trans hJ.2.output, Nat.le_trans hJ.2.size hs', fun k hk hn => (hb' k (by have := hJ.2.size; omega) hn).trans (hJ.2.block k hk hn)⟩⟩, fun h => by cases h⟩, ⟨hs', fun k h1 h2 => hb' k h2 (by omega)⟩⟩
      have e : (((pre ++ [(x, j)]).length : Nat) : Int) = (pre.length : Int) + 1 := by simp
      rw [e]
      exact hv'
  · rintro e W2 ⟨rfl, hJ | ⟨h0, hx⟩⟩
    · have hlp : W2.heap[W0.heap.size + 1]? = some (.loop (loopRec fn #[z0z, z1z, z2z, .pointer (some ⟨lb, 0, none⟩), z4z, z5z, z6z, z7z, .pointer (some ⟨wb, 0, none⟩), z9z, z10z, z11z, z12z, .pointer (some ⟨ab, 0, none⟩), .pointer (some ⟨nb, 0, none⟩), z15z, z16z, z17z, z18z, z19z, z20z, z21z, z22z, z23z, z24z, z25z, z26z, z27z, z28z, z29z, z30z, z31z, z32z, z33z, z34z, z35z, z36z, z37z, z38z, z39z, z40z, z41z, z42z, z43z, z44z, z45z, z46z, z47z, z48z, z49z, z50z, z51z, z52z, z53z, z54z, z55z, z56z, z57z, z58z, z59z, z60z, z61z, z62z, z63z, z64z, z65z, z66z, z67z, z68z, z69z, z70z, z71z, z72z, z73z, z74z, z75z, z76z, z77z, z78z, z79z, z80z, z81z, z82z, z83z, z84z, z85z, z86z, z87z, z88z, z89z, z90z, z91z, z92z, z93z, z94z, z95z, z96z, .func (.func 20) #[] #[.pointer (some ⟨tb, 0, none⟩)], z98z, z99z, z100z, z101z, z102z, z103z, z104z, z105z, z106z, z107z, z108z, z109z, z110z, z111z, z112z, z113z, z114z, z115z, z116z, z117z, z118z, z119z, z120z, z121z, z122z, z123z, z124z, z125z, z126z, z127z, z128z, z129z, z130z, z131z, z132z, z133z, z134z, z135z, z136z, z137z, z138z, z139z, z140z, z141z, z142z, z143z, z144z, z145z, z146z, z147z, z148z, z149z, z150z, z151z] #[98, 99] cAssign cBody W0.heap.size)) := by
        rw [hr]
        exact (hJ.2.block _ (by omega) (by omega)).trans hlp1
      have o : ∀ (ob : Obj) k, k ≠ W0.heap.size + 1 → (W2.putObj (W0.heap.size + 1) ob).heap[k]? = W2.heap[k]? := fun ob k hk => World.putObj_heap_other hk
      refine ⟨⟨_, rfl⟩, _, hlp, by simp [loopRec], .inl ⟨rfl, HN.out _ ?_⟩⟩
      have hs := hJ.2.size
      exact ⟨hJ.2.os.trans o1, hJ.2.tape.trans o2, hJ.2.output.trans o3, by rw [World.putObj_size]; omega, fun k h1 h2 => (o _ _ (by omega)).trans ((hJ.2.block k (by omega) h2).trans (hbl k h1)), (o _ _ (by omega)).trans hJ.1, (o _ _ (by omega)).trans ((hJ.2.block _ (by omega) (by omega)).trans hdf)⟩
    · obtain ⟨q, hq⟩ := hx.n
      have o : ∀ (ob : Obj) k, k ≠ W0.heap.size + 1 → (W2.putObj (W0.heap.size + 1) ob).heap[k]? = W2.heap[k]? := fun ob k hk => World.putObj_heap_other hk
      have hs := hx.size
      refine ⟨⟨_, rfl⟩, _, hx.lp, by simp, .inr ⟨_, rfl, wpIn_exit (HX.out h0 q _ ?_)⟩⟩
      exact ⟨hx.os.trans o1, hx.tape.trans o2, hx.output.trans o3, by rw [World.putObj_size]; omega, fun k h1 h2 => (o _ _ (by omega)).trans ((hx.block k (by omega) h2 (by omega)).trans (hbl k h1)), (o _ _ (by omega)).trans hq, (o _ _ (by omega)).trans ((hx.block _ (by omega) (by omega) (by omega)).trans hdf)⟩
end Go.Proofs.YtkbihcicnffjdaaDoor

namespace Go.Proofs.YtkbihcicnffjdaaDoor
open Go.ChangeShapes Go.WideShapes Go.ChangeAt Go.RowKit Go.Shelf
set_option linter.unusedSimpArgs false
set_option linter.unusedVariables false

noncomputable def cLoop2 : Code := ((Tryd.f4.body.bind (findLoop 18)).getD .skip)
def loopIn : Code → Code
  | .loop c => c
  | c => c
noncomputable def cBody2 : Code := loopIn cLoop2
theorem cLoop2_is : cLoop2 = .loop cBody2 := by rfl
/-- What the outer loop keeps. -/
structure CuSt (w : World) (t : ByteArray) (lb wb tb cap : Nat) (a : Option Addr) (lv : Int) (W : World) : Prop where
  bel : Below w.heap.size w W
  cl : W.cell? ⟨lb, 0, none⟩ = some (.int .i64 lv)
  cw : W.cell? ⟨wb, 0, none⟩ = some (.slice a (eachList t).length cap)
  ct : W.cell? ⟨tb, 0, none⟩ = some (.string t)
  ws : WordsAt W t a cap (eachList t)
theorem CuSt.keep {w : World} {t : ByteArray} {lb wb tb cap : Nat} {a : Option Addr} {lv : Int} {W W' : World} (h : CuSt w t lb wb tb cap a lv W) (hb : Below W.heap.size W W') : CuSt w t lb wb tb cap a lv W' :=
  ⟨bel_trans h.bel hb, keep_cell hb h.cl, keep_cell hb h.cw, keep_cell hb h.ct, h.ws.keep hb⟩
theorem WordsAt.lt {W : World} {t : ByteArray} {a : Option Addr} {cap : Nat} {l : List (WW × Nat)} (h : WordsAt W t a cap l) (hne : l ≠ []) : ∀ g, a = some ⟨g, 0, none⟩ → g < W.heap.size := fun g hg => by
  obtain ⟨g', h1, h2, _⟩ := h.row hne
  rw [hg] at h1
  injection h1 with h1
  injection h1 with h1
  omega
set_option maxRecDepth 100000 in
set_option maxHeartbeats 8000000 in
theorem cu_one0 (w : World) (t : ByteArray) (lb wb tb ab cap : Nat) (a : Option Addr) (lv : Int) (z0z z1z z2z z4z z5z z6z z7z z9z z10z z11z z14z z15z z16z z17z z18z z19z z20z z21z z22z z23z z24z z25z z26z z27z z28z z29z z30z z31z z32z z33z z34z z35z z36z z37z z38z z39z z40z z41z z42z z43z z44z z45z z46z z47z z48z z49z z50z z51z z52z z53z z54z z55z z56z z57z z58z z59z z60z z61z z62z z63z z64z z65z z66z z67z z68z z69z z70z z71z z72z z73z z74z z75z z76z z77z z78z z79z z80z z81z z82z z83z z84z z85z z86z z87z z88z z89z z90z z91z z92z z93z z94z z95z z96z z97z z98z z99z z100z z101z z102z z103z z104z z105z z106z z107z z108z z109z z110z z111z z112z z113z z114z z115z z116z z117z z118z z119z z120z z121z z122z z123z z124z z125z z126z z127z z128z z129z z130z z131z z132z z133z z134z z135z z136z z137z z138z z139z z140z z141z z142z z143z z144z z145z z146z z147z z148z z149z z150z z151z : Value) (ds : List Deferred) (K : Act → World → Prop) (QQ : Exit → Act → World → Prop) (W : World) (HT : Hid (LexTab w ∧ ErrTab w)) (HS : Hid (CuSt w t lb wb tb cap a lv W))
    (ca : W.cell? ⟨ab, 0, none⟩ = some (.int .i64 0)) (hll : (eachList t).length ≤ 65536)
    (HK : Hid (∀ (ab' : Nat) (W' : World) (y14 y93 y94 y95 y96 y97 y143 y144 y145 y146 y147 y148 y149 y150 y151 : Value), Below W.heap.size W W' → W'.cell? ⟨ab', 0, none⟩ = some (.int .i64 1) → W'.heap[W.heap.size + 1]? = some (.deferred (some [])) → K ⟨#[z0z, z1z, z2z, .pointer (some ⟨lb, 0, none⟩), z4z, z5z, z6z, z7z, .pointer (some ⟨wb, 0, none⟩), z9z, z10z, z11z, .func (.func 20) #[] #[.pointer (some ⟨tb, 0, none⟩)], .pointer (some ⟨ab', 0, none⟩), y14, z15z, z16z, z17z, z18z, z19z, z20z, z21z, z22z, z23z, z24z, z25z, z26z, z27z, z28z, z29z, z30z, z31z, z32z, z33z, z34z, z35z, z36z, z37z, z38z, z39z, z40z, z41z, z42z, z43z, z44z, z45z, z46z, z47z, z48z, z49z, z50z, z51z, z52z, z53z, z54z, z55z, z56z, z57z, z58z, z59z, z60z, z61z, z62z, z63z, z64z, z65z, z66z, z67z, z68z, z69z, z70z, z71z, z72z, z73z, z74z, z75z, z76z, z77z, z78z, z79z, z80z, z81z, z82z, z83z, z84z, z85z, z86z, z87z, z88z, z89z, z90z, z91z, z92z, y93, y94, y95, y96, y97, z98z, z99z, z100z, z101z, z102z, z103z, z104z, z105z, z106z, z107z, z108z, z109z, z110z, z111z, z112z, z113z, z114z, z115z, z116z, z117z, z118z, z119z, z120z, z121z, z122z, z123z, z124z, z125z, z126z, z127z, z128z, z129z, z130z, z131z, z132z, z133z, z134z, z135z, z136z, z137z, z138z, z139z, z140z, z141z, z142z, y143, y144, y145, y146, y147, y148, y149, y150, y151], { target := .collected (W.heap.size + 1), args := #[] } :: ds⟩ W')) :
    Code.wp Tryd.prog cBody2 (Exit.then K QQ) ⟨#[z0z, z1z, z2z, .pointer (some ⟨lb, 0, none⟩), z4z, z5z, z6z, z7z, .pointer (some ⟨wb, 0, none⟩), z9z, z10z, z11z, .func (.func 20) #[] #[.pointer (some ⟨tb, 0, none⟩)], .pointer (some ⟨ab, 0, none⟩), z14z, z15z, z16z, z17z, z18z, z19z, z20z, z21z, z22z, z23z, z24z, z25z, z26z, z27z, z28z, z29z, z30z, z31z, z32z, z33z, z34z, z35z, z36z, z37z, z38z, z39z, z40z, z41z, z42z, z43z, z44z, z45z, z46z, z47z, z48z, z49z, z50z, z51z, z52z, z53z, z54z, z55z, z56z, z57z, z58z, z59z, z60z, z61z, z62z, z63z, z64z, z65z, z66z, z67z, z68z, z69z, z70z, z71z, z72z, z73z, z74z, z75z, z76z, z77z, z78z, z79z, z80z, z81z, z82z, z83z, z84z, z85z, z86z, z87z, z88z, z89z, z90z, z91z, z92z, z93z, z94z, z95z, z96z, z97z, z98z, z99z, z100z, z101z, z102z, z103z, z104z, z105z, z106z, z107z, z108z, z109z, z110z, z111z, z112z, z113z, z114z, z115z, z116z, z117z, z118z, z119z, z120z, z121z, z122z, z123z, z124z, z125z, z126z, z127z, z128z, z129z, z130z, z131z, z132z, z133z, z134z, z135z, z136z, z137z, z138z, z139z, z140z, z141z, z142z, z143z, z144z, z145z, z146z, z147z, z148z, z149z, z150z, z151z], ds⟩ W := by
  conv => arg 2; whnf
  have hwW : w.heap.size ≤ W.heap.size := HS.out.bel.size
  obtain ⟨ll, hll2⟩ : ∃ ll, (eachList t).length = ll := ⟨_, rfl⟩
  have HLL : Hid ((eachList t).length = ll) := hll2
  have l0 : (0 : Int) ≤ (ll : Int) := by omega
  have l9 : (ll : Int) ≤ 65536 := by omega
  go_wp2
  have l1 : lb < W.heap.size := block_lt_of_cell HS.out.cl
  have l2 : wb < W.heap.size := block_lt_of_cell HS.out.cw
  have l3 : ab < W.heap.size := block_lt_of_cell ca
  have l4 : tb < W.heap.size := block_lt_of_cell HS.out.ct
  have hal : Below W.heap.size W (W.alloc (.cells #[.int .i64 0] 3)) := (Below.refl _ _).alloc (Nat.le_refl _) _
  have hst := HS.out.keep hal
  refine cu_range w t lb wb ab W.heap.size tb cap a lv 0 _ _ _ _ _ _ _ _ _ _ _ _ _ _ _ _ _ _ _ _ _ _ _ _ _ _ _ _ _ _ _ _ _ _ _ _ _ _ _ _ _ _ _ _ _ _ _ _ _ _ _ _ _ _ _ _ _ _ _ _ _ _ _ _ _ _ _ _ _ _ _ _ _ _ _ _ _ _ _ _ _ _ _ _ _ _ _ _ _ _ _ _ _ _ _ _ _ _ _ _ _ _ _ _ _ _ _ _ _ _ _ _ _ _ _ _ _ _ _ _ _ _ _ _ _ _ _ _ _ _ _ _ _ _ _ _ _ _ _ _ _ _ _ _ _ _ _ ds _ _ HT.out.1 HT.out.2 hst.bel hwW hst.cl hst.cw (keep_cell hal ca) hst.ct (Boxed.new W _ _) hst.ws (by omega) (by omega) (by omega) (by omega) (fun hne g h => by have := HS.out.ws.lt hne g h; omega) ?hn ?hx
  case hn =>
      intro W' hE
      have hs := hE.size
      rw [World.size_alloc] at hs
      have n1 : W'.cell? ⟨W.heap.size, 0, none⟩ = some (.int .i64 ((eachList t).length : Int)) := hE.n.cell
      have cellW : ∀ b o v, W.cell? ⟨b, o, none⟩ = some v → W'.cell? ⟨b, o, none⟩ = some v := fun b o v h => by
        have hb : b < W.heap.size := block_lt_of_cell h
        exact (World.cell?_of_block ((hE.block b (by simp; omega) (by omega)).trans (Below.heap_alloc W _ b hb))).trans h
      have ca2 := cellW _ _ _ ca
      have cw2 := cellW _ _ _ HS.out.cw
      have HW : Hid (Below W.heap.size W W') := ⟨hE.os, hE.tape, hE.output, by omega, fun k hk => (hE.block k (by simp; omega) (by omega)).trans (Below.heap_alloc W _ k hk)⟩
      have hd := hE.dfr
      rw [World.size_alloc] at hd
      have HD : Hid (W'.heap[W.heap.size + 1]? = some (.deferred (some []))) := hd
      have sz2 : W.heap.size + 1 < W'.heap.size := by omega
      rw [HLL.out] at n1 cw2
      clear hE cellW hd
      simp only [World.size_alloc]
      go_wp2
      refine HK.out W'.heap.size _ _ _ _ _ _ _ _ _ _ _ _ _ _ _ _ ?_ ?_ ?_
      · exact bel_trans HW.out ((Below.refl _ _).alloc (Nat.le_refl _) _)
      · go_simp
      · rw [Below.heap_alloc _ _ _ (by omega)]
        exact HD.out
  case hx =>
      intro hag q W' hE
      have hs := hE.size
      rw [World.size_alloc] at hs
      have n1 : W'.cell? ⟨W.heap.size, 0, none⟩ = some (.int .i64 q) := hE.n.cell
      have cellW : ∀ b o v, W.cell? ⟨b, o, none⟩ = some v → W'.cell? ⟨b, o, none⟩ = some v := fun b o v h => by
        have hb : b < W.heap.size := block_lt_of_cell h
        exact (World.cell?_of_block ((hE.block b (by simp; omega) (by omega)).trans (Below.heap_alloc W _ b hb))).trans h
      have ca2 := cellW _ _ _ ca
      have cw2 := cellW _ _ _ HS.out.cw
      have HW : Hid (Below W.heap.size W W') := ⟨hE.os, hE.tape, hE.output, by omega, fun k hk => (hE.block k (by simp; omega) (by omega)).trans (Below.heap_alloc W _ k hk)⟩
      have hd := hE.dfr
      rw [World.size_alloc] at hd
      have HD : Hid (W'.heap[W.heap.size + 1]? = some (.deferred (some []))) := hd
      have sz2 : W.heap.size + 1 < W'.heap.size := by omega
      clear hE cellW hd
      simp only [World.size_alloc]
      go_wp2
      refine HK.out W'.heap.size _ _ _ _ _ _ _ _ _ _ _ _ _ _ _ _ ?_ ?_ ?_
      · exact bel_trans HW.out ((Below.refl _ _).alloc (Nat.le_refl _) _)
      · go_simp
      · rw [Below.heap_alloc _ _ _ (by omega)]
        exact HD.out

set_option maxRecDepth 100000 in
set_option maxHeartbeats 8000000 in
theorem cu_one1 (w : World) (t : ByteArray) (lb wb tb ab cap : Nat) (a : Option Addr) (lv : Int) (z0z z1z z2z z4z z5z z6z z7z z9z z10z z11z z14z z15z z16z z17z z18z z19z z20z z21z z22z z23z z24z z25z z26z z27z z28z z29z z30z z31z z32z z33z z34z z35z z36z z37z z38z z39z z40z z41z z42z z43z z44z z45z z46z z47z z48z z49z z50z z51z z52z z53z z54z z55z z56z z57z z58z z59z z60z z61z z62z z63z z64z z65z z66z z67z z68z z69z z70z z71z z72z z73z z74z z75z z76z z77z z78z z79z z80z z81z z82z z83z z84z z85z z86z z87z z88z z89z z90z z91z z92z z93z z94z z95z z96z z97z z98z z99z z100z z101z z102z z103z z104z z105z z106z z107z z108z z109z z110z z111z z112z z113z z114z z115z z116z z117z z118z z119z z120z z121z z122z z123z z124z z125z z126z z127z z128z z129z z130z z131z z132z z133z z134z z135z z136z z137z z138z z139z z140z z141z z142z z143z z144z z145z z146z z147z z148z z149z z150z z151z : Value) (ds : List Deferred) (K : Act → World → Prop) (QQ : Exit → Act → World → Prop) (W : World) (HT : Hid (LexTab w ∧ ErrTab w)) (HS : Hid (CuSt w t lb wb tb cap a lv W))
    (ca : W.cell? ⟨ab, 0, none⟩ = some (.int .i64 1)) (hll : (eachList t).length ≤ 65536)
    (HK : Hid (∀ (ab' : Nat) (W' : World) (y14 y93 y94 y95 y96 y97 y143 y144 y145 y146 y147 y148 y149 y150 y151 : Value), Below W.heap.size W W' → W'.cell? ⟨ab', 0, none⟩ = some (.int .i64 2) → W'.heap[W.heap.size + 1]? = some (.deferred (some [])) → K ⟨#[z0z, z1z, z2z, .pointer (some ⟨lb, 0, none⟩), z4z, z5z, z6z, z7z, .pointer (some ⟨wb, 0, none⟩), z9z, z10z, z11z, .func (.func 20) #[] #[.pointer (some ⟨tb, 0, none⟩)], .pointer (some ⟨ab', 0, none⟩), y14, z15z, z16z, z17z, z18z, z19z, z20z, z21z, z22z, z23z, z24z, z25z, z26z, z27z, z28z, z29z, z30z, z31z, z32z, z33z, z34z, z35z, z36z, z37z, z38z, z39z, z40z, z41z, z42z, z43z, z44z, z45z, z46z, z47z, z48z, z49z, z50z, z51z, z52z, z53z, z54z, z55z, z56z, z57z, z58z, z59z, z60z, z61z, z62z, z63z, z64z, z65z, z66z, z67z, z68z, z69z, z70z, z71z, z72z, z73z, z74z, z75z, z76z, z77z, z78z, z79z, z80z, z81z, z82z, z83z, z84z, z85z, z86z, z87z, z88z, z89z, z90z, z91z, z92z, y93, y94, y95, y96, y97, z98z, z99z, z100z, z101z, z102z, z103z, z104z, z105z, z106z, z107z, z108z, z109z, z110z, z111z, z112z, z113z, z114z, z115z, z116z, z117z, z118z, z119z, z120z, z121z, z122z, z123z, z124z, z125z, z126z, z127z, z128z, z129z, z130z, z131z, z132z, z133z, z134z, z135z, z136z, z137z, z138z, z139z, z140z, z141z, z142z, y143, y144, y145, y146, y147, y148, y149, y150, y151], { target := .collected (W.heap.size + 1), args := #[] } :: ds⟩ W')) :
    Code.wp Tryd.prog cBody2 (Exit.then K QQ) ⟨#[z0z, z1z, z2z, .pointer (some ⟨lb, 0, none⟩), z4z, z5z, z6z, z7z, .pointer (some ⟨wb, 0, none⟩), z9z, z10z, z11z, .func (.func 20) #[] #[.pointer (some ⟨tb, 0, none⟩)], .pointer (some ⟨ab, 0, none⟩), z14z, z15z, z16z, z17z, z18z, z19z, z20z, z21z, z22z, z23z, z24z, z25z, z26z, z27z, z28z, z29z, z30z, z31z, z32z, z33z, z34z, z35z, z36z, z37z, z38z, z39z, z40z, z41z, z42z, z43z, z44z, z45z, z46z, z47z, z48z, z49z, z50z, z51z, z52z, z53z, z54z, z55z, z56z, z57z, z58z, z59z, z60z, z61z, z62z, z63z, z64z, z65z, z66z, z67z, z68z, z69z, z70z, z71z, z72z, z73z, z74z, z75z, z76z, z77z, z78z, z79z, z80z, z81z, z82z, z83z, z84z, z85z, z86z, z87z, z88z, z89z, z90z, z91z, z92z, z93z, z94z, z95z, z96z, z97z, z98z, z99z, z100z, z101z, z102z, z103z, z104z, z105z, z106z, z107z, z108z, z109z, z110z, z111z, z112z, z113z, z114z, z115z, z116z, z117z, z118z, z119z, z120z, z121z, z122z, z123z, z124z, z125z, z126z, z127z, z128z, z129z, z130z, z131z, z132z, z133z, z134z, z135z, z136z, z137z, z138z, z139z, z140z, z141z, z142z, z143z, z144z, z145z, z146z, z147z, z148z, z149z, z150z, z151z], ds⟩ W := by
  conv => arg 2; whnf
  have hwW : w.heap.size ≤ W.heap.size := HS.out.bel.size
  obtain ⟨ll, hll2⟩ : ∃ ll, (eachList t).length = ll := ⟨_, rfl⟩
  have HLL : Hid ((eachList t).length = ll) := hll2
  have l0 : (0 : Int) ≤ (ll : Int) := by omega
  have l9 : (ll : Int) ≤ 65536 := by omega
  go_wp2
  have l1 : lb < W.heap.size := block_lt_of_cell HS.out.cl
  have l2 : wb < W.heap.size := block_lt_of_cell HS.out.cw
  have l3 : ab < W.heap.size := block_lt_of_cell ca
  have l4 : tb < W.heap.size := block_lt_of_cell HS.out.ct
  have hal : Below W.heap.size W (W.alloc (.cells #[.int .i64 0] 3)) := (Below.refl _ _).alloc (Nat.le_refl _) _
  have hst := HS.out.keep hal
  refine cu_range w t lb wb ab W.heap.size tb cap a lv 1 _ _ _ _ _ _ _ _ _ _ _ _ _ _ _ _ _ _ _ _ _ _ _ _ _ _ _ _ _ _ _ _ _ _ _ _ _ _ _ _ _ _ _ _ _ _ _ _ _ _ _ _ _ _ _ _ _ _ _ _ _ _ _ _ _ _ _ _ _ _ _ _ _ _ _ _ _ _ _ _ _ _ _ _ _ _ _ _ _ _ _ _ _ _ _ _ _ _ _ _ _ _ _ _ _ _ _ _ _ _ _ _ _ _ _ _ _ _ _ _ _ _ _ _ _ _ _ _ _ _ _ _ _ _ _ _ _ _ _ _ _ _ _ _ _ _ _ ds _ _ HT.out.1 HT.out.2 hst.bel hwW hst.cl hst.cw (keep_cell hal ca) hst.ct (Boxed.new W _ _) hst.ws (by omega) (by omega) (by omega) (by omega) (fun hne g h => by have := HS.out.ws.lt hne g h; omega) ?hn ?hx
  case hn =>
      intro W' hE
      have hs := hE.size
      rw [World.size_alloc] at hs
      have n1 : W'.cell? ⟨W.heap.size, 0, none⟩ = some (.int .i64 ((eachList t).length : Int)) := hE.n.cell
      have cellW : ∀ b o v, W.cell? ⟨b, o, none⟩ = some v → W'.cell? ⟨b, o, none⟩ = some v := fun b o v h => by
        have hb : b < W.heap.size := block_lt_of_cell h
        exact (World.cell?_of_block ((hE.block b (by simp; omega) (by omega)).trans (Below.heap_alloc W _ b hb))).trans h
      have ca2 := cellW _ _ _ ca
      have cw2 := cellW _ _ _ HS.out.cw
      have HW : Hid (Below W.heap.size W W') := ⟨hE.os, hE.tape, hE.output, by omega, fun k hk => (hE.block k (by simp; omega) (by omega)).trans (Below.heap_alloc W _ k hk)⟩
      have hd := hE.dfr
      rw [World.size_alloc] at hd
      have HD : Hid (W'.heap[W.heap.size + 1]? = some (.deferred (some []))) := hd
      have sz2 : W.heap.size + 1 < W'.heap.size := by omega
      rw [HLL.out] at n1 cw2
      clear hE cellW hd
      simp only [World.size_alloc]
      go_wp2
      refine HK.out W'.heap.size _ _ _ _ _ _ _ _ _ _ _ _ _ _ _ _ ?_ ?_ ?_
      · exact bel_trans HW.out ((Below.refl _ _).alloc (Nat.le_refl _) _)
      · go_simp
      · rw [Below.heap_alloc _ _ _ (by omega)]
        exact HD.out
  case hx =>
      intro hag q W' hE
      exact absurd hag (by decide)
end Go.Proofs.YtkbihcicnffjdaaDoor

namespace Go.Proofs.YtkbihcicnffjdaaDoor
open Go.ChangeShapes Go.WideShapes Go.ChangeAt Go.RowKit Go.Shelf
set_option linter.unusedSimpArgs false
set_option linter.unusedVariables false

set_option maxRecDepth 100000 in
set_option maxHeartbeats 8000000 in
theorem cu_exit (ab : Nat) (z0z z1z z2z z3z z4z z5z z6z z7z z8z z9z z10z z11z z12z z14z z15z z16z z17z z18z z19z z20z z21z z22z z23z z24z z25z z26z z27z z28z z29z z30z z31z z32z z33z z34z z35z z36z z37z z38z z39z z40z z41z z42z z43z z44z z45z z46z z47z z48z z49z z50z z51z z52z z53z z54z z55z z56z z57z z58z z59z z60z z61z z62z z63z z64z z65z z66z z67z z68z z69z z70z z71z z72z z73z z74z z75z z76z z77z z78z z79z z80z z81z z82z z83z z84z z85z z86z z87z z88z z89z z90z z91z z92z z93z z94z z95z z96z z97z z98z z99z z100z z101z z102z z103z z104z z105z z106z z107z z108z z109z z110z z111z z112z z113z z114z z115z z116z z117z z118z z119z z120z z121z z122z z123z z124z z125z z126z z127z z128z z129z z130z z131z z132z z133z z134z z135z z136z z137z z138z z139z z140z z141z z142z z143z z144z z145z z146z z147z z148z z149z z150z z151z : Value) (ds : List Deferred) (K : Act → World → Prop) (QQ : Exit → Act → World → Prop) (W : World) (ca : W.cell? ⟨ab, 0, none⟩ = some (.int .i64 2)) (HK : Hid (∀ y93 y94 : Value, QQ (.exit 2) ⟨#[z0z, z1z, z2z, z3z, z4z, z5z, z6z, z7z, z8z, z9z, z10z, z11z, z12z, .pointer (some ⟨ab, 0, none⟩), z14z, z15z, z16z, z17z, z18z, z19z, z20z, z21z, z22z, z23z, z24z, z25z, z26z, z27z, z28z, z29z, z30z, z31z, z32z, z33z, z34z, z35z, z36z, z37z, z38z, z39z, z40z, z41z, z42z, z43z, z44z, z45z, z46z, z47z, z48z, z49z, z50z, z51z, z52z, z53z, z54z, z55z, z56z, z57z, z58z, z59z, z60z, z61z, z62z, z63z, z64z, z65z, z66z, z67z, z68z, z69z, z70z, z71z, z72z, z73z, z74z, z75z, z76z, z77z, z78z, z79z, z80z, z81z, z82z, z83z, z84z, z85z, z86z, z87z, z88z, z89z, z90z, z91z, z92z, y93, y94, z95z, z96z, z97z, z98z, z99z, z100z, z101z, z102z, z103z, z104z, z105z, z106z, z107z, z108z, z109z, z110z, z111z, z112z, z113z, z114z, z115z, z116z, z117z, z118z, z119z, z120z, z121z, z122z, z123z, z124z, z125z, z126z, z127z, z128z, z129z, z130z, z131z, z132z, z133z, z134z, z135z, z136z, z137z, z138z, z139z, z140z, z141z, z142z, z143z, z144z, z145z, z146z, z147z, z148z, z149z, z150z, z151z], ds⟩ W)) :
    Code.wp Tryd.prog cBody2 (Exit.then K QQ) ⟨#[z0z, z1z, z2z, z3z, z4z, z5z, z6z, z7z, z8z, z9z, z10z, z11z, z12z, .pointer (some ⟨ab, 0, none⟩), z14z, z15z, z16z, z17z, z18z, z19z, z20z, z21z, z22z, z23z, z24z, z25z, z26z, z27z, z28z, z29z, z30z, z31z, z32z, z33z, z34z, z35z, z36z, z37z, z38z, z39z, z40z, z41z, z42z, z43z, z44z, z45z, z46z, z47z, z48z, z49z, z50z, z51z, z52z, z53z, z54z, z55z, z56z, z57z, z58z, z59z, z60z, z61z, z62z, z63z, z64z, z65z, z66z, z67z, z68z, z69z, z70z, z71z, z72z, z73z, z74z, z75z, z76z, z77z, z78z, z79z, z80z, z81z, z82z, z83z, z84z, z85z, z86z, z87z, z88z, z89z, z90z, z91z, z92z, z93z, z94z, z95z, z96z, z97z, z98z, z99z, z100z, z101z, z102z, z103z, z104z, z105z, z106z, z107z, z108z, z109z, z110z, z111z, z112z, z113z, z114z, z115z, z116z, z117z, z118z, z119z, z120z, z121z, z122z, z123z, z124z, z125z, z126z, z127z, z128z, z129z, z130z, z131z, z132z, z133z, z134z, z135z, z136z, z137z, z138z, z139z, z140z, z141z, z142z, z143z, z144z, z145z, z146z, z147z, z148z, z149z, z150z, z151z], ds⟩ W := by
  conv => arg 2; whnf
  go_wp2
  exact HK.out _ _
set_option maxRecDepth 100000 in
set_option maxHeartbeats 8000000 in
theorem cu_loop2 (w : World) (t : ByteArray) (lb wb tb ab cap : Nat) (a : Option Addr) (lv : Int) (z0z z1z z2z z4z z5z z6z z7z z9z z10z z11z z14z z15z z16z z17z z18z z19z z20z z21z z22z z23z z24z z25z z26z z27z z28z z29z z30z z31z z32z z33z z34z z35z z36z z37z z38z z39z z40z z41z z42z z43z z44z z45z z46z z47z z48z z49z z50z z51z z52z z53z z54z z55z z56z z57z z58z z59z z60z z61z z62z z63z z64z z65z z66z z67z z68z z69z z70z z71z z72z z73z z74z z75z z76z z77z z78z z79z z80z z81z z82z z83z z84z z85z z86z z87z z88z z89z z90z z91z z92z z93z z94z z95z z96z z97z z98z z99z z100z z101z z102z z103z z104z z105z z106z z107z z108z z109z z110z z111z z112z z113z z114z z115z z116z z117z z118z z119z z120z z121z z122z z123z z124z z125z z126z z127z z128z z129z z130z z131z z132z z133z z134z z135z z136z z137z z138z z139z z140z z141z z142z z143z z144z z145z z146z z147z z148z z149z z150z z151z : Value) (Q : Exit → Act → World → Prop) (W : World) (HT : Hid (LexTab w ∧ ErrTab w)) (HS : Hid (CuSt w t lb wb tb cap a lv W))
    (ca : W.cell? ⟨ab, 0, none⟩ = some (.int .i64 0)) (hll : (eachList t).length ≤ 65536)
    (HK : Hid (∀ (ab' d1 d2 : Nat) (W' : World) (y14 y93 y94 y95 y96 y97 y143 y144 y145 y146 y147 y148 y149 y150 y151 : Value), Below W.heap.size W W' → W'.heap[d1]? = some (.deferred (some [])) → W'.heap[d2]? = some (.deferred (some [])) → W.heap.size ≤ d1 → d1 < d2 → Q (.exit 2) ⟨#[z0z, z1z, z2z, .pointer (some ⟨lb, 0, none⟩), z4z, z5z, z6z, z7z, .pointer (some ⟨wb, 0, none⟩), z9z, z10z, z11z, .func (.func 20) #[] #[.pointer (some ⟨tb, 0, none⟩)], .pointer (some ⟨ab', 0, none⟩), y14, z15z, z16z, z17z, z18z, z19z, z20z, z21z, z22z, z23z, z24z, z25z, z26z, z27z, z28z, z29z, z30z, z31z, z32z, z33z, z34z, z35z, z36z, z37z, z38z, z39z, z40z, z41z, z42z, z43z, z44z, z45z, z46z, z47z, z48z, z49z, z50z, z51z, z52z, z53z, z54z, z55z, z56z, z57z, z58z, z59z, z60z, z61z, z62z, z63z, z64z, z65z, z66z, z67z, z68z, z69z, z70z, z71z, z72z, z73z, z74z, z75z, z76z, z77z, z78z, z79z, z80z, z81z, z82z, z83z, z84z, z85z, z86z, z87z, z88z, z89z, z90z, z91z, z92z, y93, y94, y95, y96, y97, z98z, z99z, z100z, z101z, z102z, z103z, z104z, z105z, z106z, z107z, z108z, z109z, z110z, z111z, z112z, z113z, z114z, z115z, z116z, z117z, z118z, z119z, z120z, z121z, z122z, z123z, z124z, z125z, z126z, z127z, z128z, z129z, z130z, z131z, z132z, z133z, z134z, z135z, z136z, z137z, z138z, z139z, z140z, z141z, z142z, y143, y144, y145, y146, y147, y148, y149, y150, y151], [{ target := .collected d2, args := #[] }, { target := .collected d1, args := #[] }]⟩ W')) :
    Code.wp Tryd.prog cLoop2 Q ⟨#[z0z, z1z, z2z, .pointer (some ⟨lb, 0, none⟩), z4z, z5z, z6z, z7z, .pointer (some ⟨wb, 0, none⟩), z9z, z10z, z11z, .func (.func 20) #[] #[.pointer (some ⟨tb, 0, none⟩)], .pointer (some ⟨ab, 0, none⟩), z14z, z15z, z16z, z17z, z18z, z19z, z20z, z21z, z22z, z23z, z24z, z25z, z26z, z27z, z28z, z29z, z30z, z31z, z32z, z33z, z34z, z35z, z36z, z37z, z38z, z39z, z40z, z41z, z42z, z43z, z44z, z45z, z46z, z47z, z48z, z49z, z50z, z51z, z52z, z53z, z54z, z55z, z56z, z57z, z58z, z59z, z60z, z61z, z62z, z63z, z64z, z65z, z66z, z67z, z68z, z69z, z70z, z71z, z72z, z73z, z74z, z75z, z76z, z77z, z78z, z79z, z80z, z81z, z82z, z83z, z84z, z85z, z86z, z87z, z88z, z89z, z90z, z91z, z92z, z93z, z94z, z95z, z96z, z97z, z98z, z99z, z100z, z101z, z102z, z103z, z104z, z105z, z106z, z107z, z108z, z109z, z110z, z111z, z112z, z113z, z114z, z115z, z116z, z117z, z118z, z119z, z120z, z121z, z122z, z123z, z124z, z125z, z126z, z127z, z128z, z129z, z130z, z131z, z132z, z133z, z134z, z135z, z136z, z137z, z138z, z139z, z140z, z141z, z142z, z143z, z144z, z145z, z146z, z147z, z148z, z149z, z150z, z151z], []⟩ W := by
  rw [cLoop2_is]
  refine wp_loop_rounds 3 ?_
  refine cu_one0 w t lb wb tb ab cap a lv _ _ _ _ _ _ _ _ _ _ _ _ _ _ _ _ _ _ _ _ _ _ _ _ _ _ _ _ _ _ _ _ _ _ _ _ _ _ _ _ _ _ _ _ _ _ _ _ _ _ _ _ _ _ _ _ _ _ _ _ _ _ _ _ _ _ _ _ _ _ _ _ _ _ _ _ _ _ _ _ _ _ _ _ _ _ _ _ _ _ _ _ _ _ _ _ _ _ _ _ _ _ _ _ _ _ _ _ _ _ _ _ _ _ _ _ _ _ _ _ _ _ _ _ _ _ _ _ _ _ _ _ _ _ _ _ _ _ _ _ _ _ _ _ _ _ _ _ [] _ _ W HT HS ca hll ?_
  intro ab1 W1 y14 y93 y94 y95 y96 y97 y143 y144 y145 y146 y147 y148 y149 y150 y151 hb1 hc1 hd1
  refine cu_one1 w t lb wb tb ab1 cap a lv _ _ _ _ _ _ _ _ _ _ _ _ _ _ _ _ _ _ _ _ _ _ _ _ _ _ _ _ _ _ _ _ _ _ _ _ _ _ _ _ _ _ _ _ _ _ _ _ _ _ _ _ _ _ _ _ _ _ _ _ _ _ _ _ _ _ _ _ _ _ _ _ _ _ _ _ _ _ _ _ _ _ _ _ _ _ _ _ _ _ _ _ _ _ _ _ _ _ _ _ _ _ _ _ _ _ _ _ _ _ _ _ _ _ _ _ _ _ _ _ _ _ _ _ _ _ _ _ _ _ _ _ _ _ _ _ _ _ _ _ _ _ _ _ _ _ _ _ _ _ _ W1 HT (HS.out.keep hb1) hc1 hll ?_
  intro ab2 W2 x14 x93 x94 x95 x96 x97 x143 x144 x145 x146 x147 x148 x149 x150 x151 hb2 hc2 hd2
  refine cu_exit ab2 _ _ _ _ _ _ _ _ _ _ _ _ _ _ _ _ _ _ _ _ _ _ _ _ _ _ _ _ _ _ _ _ _ _ _ _ _ _ _ _ _ _ _ _ _ _ _ _ _ _ _ _ _ _ _ _ _ _ _ _ _ _ _ _ _ _ _ _ _ _ _ _ _ _ _ _ _ _ _ _ _ _ _ _ _ _ _ _ _ _ _ _ _ _ _ _ _ _ _ _ _ _ _ _ _ _ _ _ _ _ _ _ _ _ _ _ _ _ _ _ _ _ _ _ _ _ _ _ _ _ _ _ _ _ _ _ _ _ _ _ _ _ _ _ _ _ _ _ _ _ _ _ _ _ W2 hc2 ?_
  intro y93 y94
  have s1 := hb1.size
  have s2 := hb2.size
  have hlt : W.heap.size + 1 < W1.heap.size := (Array.getElem?_eq_some_iff.1 hd1).1
  exact HK.out ab2 (W.heap.size + 1) (W1.heap.size + 1) W2 _ _ _ _ _ _ _ _ _ _ _ _ _ _ _ (bel_trans hb1 hb2) ((hb2.block _ hlt).trans hd1) hd2 (by omega) (by omega)
end Go.Proofs.YtkbihcicnffjdaaDoor

