
import Derived.Test.YtncondlfngeilaaGreatDoorEvH
set_option linter.unusedSimpArgs false
set_option linter.unusedVariables false
namespace Go.Ev
open Go
set_option maxRecDepth 100000
noncomputable def t0 : Value := vs []
noncomputable def t1 : Value := vs [110, 111, 112]
noncomputable def t2 : Value := vs [99, 111, 110, 115, 116]
noncomputable def t3 : Value := vs [99, 111, 112, 121]
noncomputable def t4 : Value := vs [117, 110]
noncomputable def t5 : Value := vs [98, 105, 110]
noncomputable def t6 : Value := vs [108, 111, 97, 100]
noncomputable def t7 : Value := vs [115, 116, 111, 114, 101]
noncomputable def t8 : Value := vs [103, 108, 111, 98, 97, 108]
noncomputable def t9 : Value := vs [102, 114, 97, 109, 101]
noncomputable def t10 : Value := vs [99, 97, 108, 108]
noncomputable def t11 : Value := vs [99, 111, 110, 100]
noncomputable def t12 : Value := vs [114, 101, 116, 117, 114, 110]
noncomputable def t13 : Value := vs [105, 110]
noncomputable def t14 : Value := vs [111, 117, 116]
noncomputable def t15 : Value := vs [109, 97, 105, 110]
noncomputable def a1 : List Value := [.agg ⟨[ve, vl 17 0 1 2, vi 0]⟩]
noncomputable def v1 : Value := .tuple ⟨[vp 65 0, vi 0]⟩
noncomputable def l1 : List (Nat × List AObj) := [(0, [.ro [t0, vi 0, vi 0, vi 0, vi 0, vf, vf, vf, vf, t1, vi 0, vi 0, vi 0, vi 0, vf, vf, vt, vf, t2, vi 0, vi 0, vi 0, vi 1, vt, vf, vt, vf, t3, vi 0, vi 1, vi 0, vi 1, vf, vf, vt, vf, t4, vi 1, vi 1, vi 0, vi 1, vf, vf, vt, vf, t5, vi 2, vi 1, vi 2, vi 1, vt, vf, vt, vf, t6, vi 4, vi 1, vi 0, vi 1, vt, vf, vt, vf, t7, vi 4, vi 1, vi 1, vi 0, vt, vf, vt, vf, t8, vi 5, vi 0, vi 0, vi 1, vt, vf, vt, vf, t9, vi 0, vi 0, vi 0, vi 1, vt, vf, vt, vf, t10, vi 6, vi 0, vi 0, vi 2, vf, vt, vt, vf, t11, vi 3, vi 1, vi 2, vi 0, vt, vf, vt, vt, t12, vi 0, vi 2, vi 0, vi 0, vf, vf, vf, vf, t13, vi 0, vi 0, vi 0, vi 1, vf, vf, vt, vf, t14, vi 0, vi 1, vi 0, vi 0, vf, vf, vt, vf], .ro [vi 7, vi 6, vi 2, vi 1, vi 8, vi 9]]), (15, [.cells [vi 7] 3, .cells [vi 5, vi 11, vi 7, vj 0, vi 0, vi 1, ve, vi 1, vi 0, vi 12, vi 0, vi 0, vi 0, vi 0, vi 0, ve, vi 0, vi 0] 38, .cells [t15, vl 15 0 1 2, vi 16, vi 0, vi 0, vl 16 0 2 4] 25])]
noncomputable def d1 : List (Nat × List AObj) := [(65, [.cells [ve, vl 173 0 1 1, vi 0, vl 177 0 1 1] 63]), (140, [.cells [vi 1, vi 5, vi 11, vi 7, vj 0, vi 0, vi 1, ve, vi 0, vi 0, vi 0, vf, vi 6, vi 0, vi 0, vi 0, vi 0, vi 0, vi 0, ve, vi 0, vi 0, vi 0, vf, vi 0, vi 0, vi 0, vi 0, vi 0, vi 0, vi 0, ve, vi 0, vi 0, vi 0, vf, vi 0, vi 0, vi 0, vi 0, vi 0, vi 0, vi 0, ve, vi 0, vi 0, vi 0, vf] 94]), (173, [.cells [t15, vi 1, vi 16, vi 0, vl 140 0 2 1] 67])]
noncomputable def p1 : Prim := pr0
noncomputable def p0 : Prim := (addF pr0 10 a1 18 l1 v1 178 d1)
end Go.Ev
