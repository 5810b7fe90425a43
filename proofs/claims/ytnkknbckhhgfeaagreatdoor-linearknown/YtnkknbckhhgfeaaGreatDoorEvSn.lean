/- A part of a machine of our own for closed calls, and of the proof that it says what the runs do. -/
import Derived.Test.YtnkknbckhhgfeaaGreatDoorEvH
set_option linter.unusedSimpArgs false
set_option linter.unusedVariables false
namespace Go.Ev
open Go
set_option maxRecDepth 100000
noncomputable def t0 : Value := vs []
noncomputable def t1 : Value := vs [110, 111, 112]
noncomputable def t2 : Value := vs [99, 111, 110, 115, 116]
noncomputable def t3 : Value := vs [99, 111, 112, 121]
noncomputable def t4 : Value := vs [117, 110]
noncomputable def t5 : Value := vs [98, 105, 110]
noncomputable def t6 : Value := vs [108, 111, 97, 100]
noncomputable def t7 : Value := vs [115, 116, 111, 114, 101]
noncomputable def t8 : Value := vs [103, 108, 111, 98, 97, 108]
noncomputable def t9 : Value := vs [102, 114, 97, 109, 101]
noncomputable def t10 : Value := vs [99, 97, 108, 108]
noncomputable def t11 : Value := vs [99, 111, 110, 100]
noncomputable def t12 : Value := vs [114, 101, 116, 117, 114, 110]
noncomputable def t13 : Value := vs [105, 110]
noncomputable def t14 : Value := vs [111, 117, 116]
noncomputable def t15 : Value := vs [109, 97, 105, 110]
noncomputable def t16 : Value := vs [110, 101, 103]
noncomputable def t17 : Value := vs [110, 111, 116]
noncomputable def t18 : Value := vs [101, 120, 116, 56]
noncomputable def t19 : Value := vs [101, 120, 116, 51, 50]
noncomputable def t20 : Value := vs [97, 100, 100]
noncomputable def t21 : Value := vs [115, 117, 98]
noncomputable def t22 : Value := vs [109, 117, 108]
noncomputable def t23 : Value := vs [100, 105, 118]
noncomputable def t24 : Value := vs [109, 111, 100]
noncomputable def t25 : Value := vs [97, 110, 100]
noncomputable def t26 : Value := vs [111, 114]
noncomputable def t27 : Value := vs [120, 111, 114]
noncomputable def t28 : Value := vs [115, 104, 108]
noncomputable def t29 : Value := vs [115, 104, 114]
noncomputable def t30 : Value := vs [101, 113]
noncomputable def t31 : Value := vs [110, 101]
noncomputable def t32 : Value := vs [108, 116]
noncomputable def t33 : Value := vs [108, 101]
noncomputable def t34 : Value := vs [103, 116]
noncomputable def t35 : Value := vs [103, 101]
noncomputable def o0 : AObj := .ro [vi 7, vi 6, vi 2, vi 1, vi 8, vi 9]
noncomputable def o1 : AObj := .ro [t0, vi 0, vi 0, vi 0, vi 0, vf, vf, vf, vf, t1, vi 0, vi 0, vi 0, vi 0, vf, vf, vt, vf, t2, vi 0, vi 0, vi 0, vi 1, vt, vf, vt, vf, t3, vi 0, vi 1, vi 0, vi 1, vf, vf, vt, vf, t4, vi 1, vi 1, vi 0, vi 1, vf, vf, vt, vf, t5, vi 2, vi 1, vi 2, vi 1, vt, vf, vt, vf, t6, vi 4, vi 1, vi 0, vi 1, vt, vf, vt, vf, t7, vi 4, vi 1, vi 1, vi 0, vt, vf, vt, vf, t8, vi 5, vi 0, vi 0, vi 1, vt, vf, vt, vf, t9, vi 0, vi 0, vi 0, vi 1, vt, vf, vt, vf, t10, vi 6, vi 0, vi 0, vi 2, vf, vt, vt, vf, t11, vi 3, vi 1, vi 2, vi 0, vt, vf, vt, vt, t12, vi 0, vi 2, vi 0, vi 0, vf, vf, vf, vf, t13, vi 0, vi 0, vi 0, vi 1, vf, vf, vt, vf, t14, vi 0, vi 1, vi 0, vi 0, vf, vf, vt, vf]
noncomputable def a1 : List Value := [.agg ⟨[ve, vl 17 0 1 2, vi 0]⟩]
noncomputable def v1 : Value := .tuple ⟨[vp 65 0, vi 0]⟩
noncomputable def l1 : List (Nat × List AObj) := [(0, [o0, o1]), (15, [.cells [vi 7] 3, .cells [vi 5, vi 11, vi 7, vj 0, vi 0, vi 1, ve, vi 1, vi 0, vi 12, vi 0, vi 0, vi 0, vi 0, vi 0, ve, vi 0, vi 0] 44, .cells [t15, vl 15 0 1 2, vi 16, vi 0, vi 0, vl 16 0 2 4] 33])]
noncomputable def d1 : List (Nat × List AObj) := [(65, [.cells [ve, vl 173 0 1 1, vi 0, vl 177 0 1 1] 54]), (140, [.cells [vi 1, vi 5, vi 11, vi 7, vj 0, vi 0, vi 1, ve, vi 0, vi 0, vi 0, vf, vi 6, vi 0, vi 0, vi 0, vi 0, vi 0, vi 0, ve, vi 0, vi 0, vi 0, vf, vi 0, vi 0, vi 0, vi 0, vi 0, vi 0, vi 0, ve, vi 0, vi 0, vi 0, vf, vi 0, vi 0, vi 0, vi 0, vi 0, vi 0, vi 0, ve, vi 0, vi 0, vi 0, vf] 87]), (173, [.cells [t15, vi 1, vi 16, vi 0, vl 140 0 2 1] 57])]
noncomputable def a2 : List Value := []
noncomputable def v2 : Value := vt
noncomputable def l2 : List (Nat × List AObj) := [(0, [o0, o1]), (11, [.ro [t0, t16, t17, t18, t19, t0, t0, t0, t0, t0, t0, t20, t21, t22, t23, t24, t25, t26, t27, t28, t29, t30, t31, t32, t33, t34, t35]])]
noncomputable def d2 : List (Nat × List AObj) := []
noncomputable def p1 : Prim := pr0
noncomputable def p2 : Prim := (addF pr0 5 a1 18 l1 v1 178 d1)
noncomputable def p0 : Prim := (addF pr0 4 a2 14 l2 v2 360 d2)
end Go.Ev
