/- A part of a machine of our own for closed calls, and of the proof that it says what the runs do. -/
import Derived.Test.YtijfkobhconbaaaGreatDoorEvSn1
set_option linter.unusedSimpArgs false
set_option linter.unusedVariables false
namespace Go.Ev
open Go
set_option maxRecDepth 100000
noncomputable def a1 : List Value := [vs [105, 110, 116, 32, 109, 97, 105, 110, 40, 105, 110, 116, 32, 97, 41, 123, 32, 108, 111, 110, 103, 32, 120, 32, 61, 32, 97, 59, 32, 119, 104, 105, 108, 101, 32, 40, 97, 41, 32, 123, 32, 111, 117, 116, 40, 120, 41, 59, 32, 97, 32, 61, 32, 97, 32, 45, 32, 49, 59, 32, 125, 32, 114, 101, 116, 117, 114, 110, 32, 120, 32, 47, 32, 51, 59, 32, 125]]
noncomputable def v1 : Value := .tuple ⟨[vl 243 0 35 1, .agg ⟨[vi 0, vi 0]⟩, vi 0]⟩
noncomputable def a2 : List Value := [vp 246 0]
noncomputable def v2 : Value := vp 712 0
noncomputable def a3 : List Value := [vs [105, 110, 116, 32, 109, 97, 105, 110, 40, 105, 110, 116, 32, 97, 41, 123, 32, 108, 111, 110, 103, 32, 120, 32, 61, 32, 97, 59, 32, 119, 104, 105, 108, 101, 32, 40, 97, 41, 32, 123, 32, 111, 117, 116, 40, 120, 41, 59, 32, 97, 32, 61, 32, 97, 32, 45, 32, 49, 59, 32, 125, 32, 114, 101, 116, 117, 114, 110, 32, 120, 32, 47, 32, 51, 59, 32, 125]]
noncomputable def v3 : Value := .tuple ⟨[vp 834 0, .agg ⟨[vi 0, vi 0]⟩, vi 0]⟩
noncomputable def a4 : List Value := [vs [105, 110, 116, 32, 109, 97, 105, 110, 40, 105, 110, 116, 32, 97, 41, 123, 32, 108, 111, 110, 103, 32, 120, 32, 61, 32, 97, 59, 32, 119, 104, 105, 108, 101, 32, 40, 97, 41, 32, 123, 32, 111, 117, 116, 40, 120, 41, 59, 32, 97, 32, 61, 32, 97, 32, 45, 32, 49, 59, 32, 125, 32, 114, 101, 116, 117, 114, 110, 32, 120, 32, 47, 32, 51, 59, 32, 125]]
noncomputable def v4 : Value := vp 1111 0
noncomputable def a5 : List Value := [vs [105, 110, 116, 32, 109, 97, 105, 110, 40, 105, 110, 116, 32, 97, 41, 123, 32, 105, 110, 116, 32, 120, 59, 32, 105, 110, 116, 32, 42, 112, 32, 61, 32, 38, 120, 59, 32, 105, 110, 116, 32, 121, 91, 50, 93, 59, 32, 114, 101, 116, 117, 114, 110, 32, 48, 59, 32, 125]]
noncomputable def v5 : Value := .tuple ⟨[vl 1649 0 27 1, .agg ⟨[vi 0, vi 0]⟩, vi 0]⟩
noncomputable def a6 : List Value := [vs [105, 110, 116, 32, 109, 97, 105, 110, 40, 105, 110, 116, 32, 97, 41, 123, 32, 105, 110, 116, 32, 120, 59, 32, 105, 110, 116, 32, 42, 112, 32, 61, 32, 38, 120, 59, 32, 105, 110, 116, 32, 121, 91, 50, 93, 59, 32, 114, 101, 116, 117, 114, 110, 32, 48, 59, 32, 125]]
noncomputable def v6 : Value := .tuple ⟨[vp 1912 0, .agg ⟨[vi 0, vi 0]⟩, vi 0]⟩
noncomputable def a7 : List Value := [vs [105, 110, 116, 32, 109, 97, 105, 110, 40, 105, 110, 116, 32, 97, 41, 123, 32, 105, 110, 116, 32, 120, 59, 32, 105, 110, 116, 32, 42, 112, 32, 61, 32, 38, 120, 59, 32, 105, 110, 116, 32, 121, 91, 50, 93, 59, 32, 114, 101, 116, 117, 114, 110, 32, 48, 59, 32, 125]]
noncomputable def v7 : Value := vp 2123 0
noncomputable def a8 : List Value := [vs [105, 110, 116, 32, 109, 97, 105, 110, 40, 105, 110, 116, 32, 97, 41, 123, 114, 101, 116, 117, 114, 110, 32, 97, 59, 125]]
noncomputable def v8 : Value := .tuple ⟨[vp 2581 0, .agg ⟨[vi 0, vi 0]⟩, vi 0]⟩
noncomputable def p1 : Prim := pr0
noncomputable def p2 : Prim := pr0
noncomputable def p3 : Prim := (addH (addH pr0 20 a1 s1 v1 s2) 220 a2 s3 v2 s4)
noncomputable def p4 : Prim := (addH pr0 10 a3 h0 v3 s5)
noncomputable def p5 : Prim := pr0
noncomputable def p6 : Prim := (addH pr0 20 a5 s8 v5 s9)
noncomputable def p7 : Prim := (addH pr0 10 a6 s7 v6 s10)
noncomputable def p8 : Prim := pr0
noncomputable def p0 : Prim := (addH (addH (addH pr0 5 a4 h0 v4 s6) 5 a7 s7 v7 s11) 10 a8 s12 v8 s13)
end Go.Ev
