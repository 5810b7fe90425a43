/- A part of a machine of our own for closed calls, and of the proof that it says what the runs do. -/
import Derived.Test.YtdpmaekomdbmgaaGreatDoorEvSn
set_option linter.unusedSimpArgs false
set_option linter.unusedVariables false
namespace Go.Ev
open Go Go.Proofs Go.Proofs.YtdpmaekomdbmgaaGreatDoor
theorem k1 : okPart Tryz.prog p1 100000 200 122 a1 32 l1 v1 34 d1 = true := by kernel_rfl
theorem k2 : okPart Tryz.prog p2 100000 200 121 a2 38 l2 v2 38 d2 = true := by kernel_rfl
theorem k3 : okPart Tryz.prog p3 100000 200 122 a3 38 l3 v3 40 d3 = true := by kernel_rfl
theorem k4 : okPart Tryz.prog p4 100000 200 122 a4 44 l4 v4 46 d4 = true := by kernel_rfl
theorem k5 : okPart Tryz.prog p5 100000 200 122 a5 50 l5 v5 52 d5 = true := by kernel_rfl
theorem k6 : okPart Tryz.prog p6 100000 200 121 a6 56 l6 v6 56 d6 = true := by kernel_rfl
theorem k7 : okPart Tryz.prog p7 100000 200 122 a7 56 l7 v7 58 d7 = true := by kernel_rfl
theorem k8 : okPart Tryz.prog p8 100000 200 122 a8 62 l8 v8 64 d8 = true := by kernel_rfl
theorem k9 : okPart Tryz.prog p9 100000 200 122 a9 68 l9 v9 70 d9 = true := by kernel_rfl
theorem k10 : okPart Tryz.prog p10 100000 200 121 a10 74 l10 v10 74 d10 = true := by kernel_rfl
theorem k11 : okPart Tryz.prog p11 100000 200 122 a11 74 l11 v11 76 d11 = true := by kernel_rfl
theorem k12 : okPart Tryz.prog p12 100000 200 121 a12 80 l12 v12 80 d12 = true := by kernel_rfl
theorem k13 : okPart Tryz.prog p13 100000 200 122 a13 80 l13 v13 82 d13 = true := by kernel_rfl
theorem k14 : okPart Tryz.prog p14 100000 200 121 a14 86 l14 v14 86 d14 = true := by kernel_rfl
theorem k15 : okPart Tryz.prog p15 100000 200 122 a15 86 l15 v15 88 d15 = true := by kernel_rfl
theorem k16 : okPart Tryz.prog p16 100000 200 122 a16 92 l16 v16 94 d16 = true := by kernel_rfl
theorem k17 : okPart Tryz.prog p17 100000 200 122 a17 98 l17 v17 100 d17 = true := by kernel_rfl
theorem k18 : okPart Tryz.prog p18 100000 200 122 a18 104 l18 v18 106 d18 = true := by kernel_rfl
theorem k19 : okPart Tryz.prog p19 100000 200 123 a19 107 l19 v19 107 d19 = true := by kernel_rfl
theorem k20 : okPart Tryz.prog p20 100000 200 122 a20 110 l20 v20 112 d20 = true := by kernel_rfl
theorem k21 : okPart Tryz.prog p21 100000 200 122 a21 116 l21 v21 118 d21 = true := by kernel_rfl
theorem k22 : okPart Tryz.prog p22 100000 200 122 a22 122 l22 v22 124 d22 = true := by kernel_rfl
theorem k23 : okPart Tryz.prog p23 100000 200 122 a23 128 l23 v23 130 d23 = true := by kernel_rfl
theorem k24 : okPart Tryz.prog p24 100000 200 122 a24 134 l24 v24 136 d24 = true := by kernel_rfl
theorem k25 : okPart Tryz.prog p25 100000 200 122 a25 140 l25 v25 142 d25 = true := by kernel_rfl
theorem k26 : okPart Tryz.prog p26 100000 200 122 a26 146 l26 v26 148 d26 = true := by kernel_rfl
theorem k27 : okPart Tryz.prog p27 100000 200 122 a27 152 l27 v27 154 d27 = true := by kernel_rfl
theorem k28 : okPart Tryz.prog p28 100000 200 122 a28 158 l28 v28 160 d28 = true := by kernel_rfl
theorem k29 : okPart Tryz.prog p29 100000 200 122 a29 164 l29 v29 166 d29 = true := by kernel_rfl
theorem k30 : okPart Tryz.prog p30 100000 200 122 a30 170 l30 v30 172 d30 = true := by kernel_rfl
theorem k31 : okPart Tryz.prog p31 100000 200 122 a31 176 l31 v31 178 d31 = true := by kernel_rfl
theorem k32 : okPart Tryz.prog p32 100000 200 122 a32 182 l32 v32 184 d32 = true := by kernel_rfl
theorem k33 : okPart Tryz.prog p33 100000 200 122 a33 188 l33 v33 191 d33 = true := by kernel_rfl
theorem k34 : okPart Tryz.prog p34 100000 200 122 a34 195 l34 v34 197 d34 = true := by kernel_rfl
theorem k35 : okPart Tryz.prog p35 100000 200 122 a35 201 l35 v35 203 d35 = true := by kernel_rfl
theorem k36 : okPart Tryz.prog p36 100000 200 122 a36 207 l36 v36 209 d36 = true := by kernel_rfl
theorem k37 : okPart Tryz.prog p37 100000 200 123 a37 210 l37 v37 210 d37 = true := by kernel_rfl
theorem k38 : okPart Tryz.prog p38 100000 200 122 a38 213 l38 v38 215 d38 = true := by kernel_rfl
theorem k39 : okPart Tryz.prog p39 100000 200 122 a39 219 l39 v39 221 d39 = true := by kernel_rfl
theorem k40 : okPart Tryz.prog p40 100000 200 122 a40 225 l40 v40 228 d40 = true := by kernel_rfl
theorem k41 : okPart Tryz.prog p41 100000 200 122 a41 232 l41 v41 234 d41 = true := by kernel_rfl
theorem k42 : okPart Tryz.prog p42 100000 200 122 a42 238 l42 v42 240 d42 = true := by kernel_rfl
end Go.Ev
