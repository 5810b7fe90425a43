/- A part of a machine of our own for closed calls, and of the proof that it says what the runs do. -/
import Derived.Test.YtpdhaghhhaobhaaGreatDoorEvSn
set_option linter.unusedSimpArgs false
set_option linter.unusedVariables false
namespace Go.Ev
open Go Go.Proofs Go.Proofs.YtpdhaghhhaobhaaGreatDoor
theorem k1 : okPart Tryz.prog p1 100000 200 110 a1 30 l1 v1 32 d1 = true := by kernel_rfl
theorem k2 : okPart Tryz.prog p2 100000 200 110 a2 36 l2 v2 38 d2 = true := by kernel_rfl
theorem k3 : okPart Tryz.prog p3 100000 200 110 a3 42 l3 v3 44 d3 = true := by kernel_rfl
theorem k4 : okPart Tryz.prog p4 100000 200 110 a4 48 l4 v4 50 d4 = true := by kernel_rfl
theorem k5 : okPart Tryz.prog p5 100000 200 110 a5 54 l5 v5 56 d5 = true := by kernel_rfl
theorem k6 : okPart Tryz.prog p6 100000 200 110 a6 60 l6 v6 62 d6 = true := by kernel_rfl
theorem k7 : okPart Tryz.prog p7 100000 200 110 a7 66 l7 v7 68 d7 = true := by kernel_rfl
theorem k8 : okPart Tryz.prog p8 100000 200 110 a8 72 l8 v8 74 d8 = true := by kernel_rfl
theorem k9 : okPart Tryz.prog p9 100000 200 110 a9 78 l9 v9 80 d9 = true := by kernel_rfl
theorem k10 : okPart Tryz.prog p10 100000 200 110 a10 84 l10 v10 86 d10 = true := by kernel_rfl
theorem k11 : okPart Tryz.prog p11 100000 200 110 a11 90 l11 v11 92 d11 = true := by kernel_rfl
theorem k12 : okPart Tryz.prog p12 100000 200 110 a12 96 l12 v12 98 d12 = true := by kernel_rfl
theorem k13 : okPart Tryz.prog p13 100000 200 110 a13 102 l13 v13 104 d13 = true := by kernel_rfl
theorem k14 : okPart Tryz.prog p14 100000 200 110 a14 108 l14 v14 110 d14 = true := by kernel_rfl
theorem k15 : okPart Tryz.prog p15 100000 200 110 a15 114 l15 v15 116 d15 = true := by kernel_rfl
theorem k16 : okPart Tryz.prog p16 100000 200 110 a16 120 l16 v16 122 d16 = true := by kernel_rfl
theorem k17 : okPart Tryz.prog p17 100000 200 110 a17 126 l17 v17 128 d17 = true := by kernel_rfl
theorem k18 : okPart Tryz.prog p18 100000 200 110 a18 132 l18 v18 134 d18 = true := by kernel_rfl
theorem k19 : okPart Tryz.prog p19 100000 200 110 a19 138 l19 v19 140 d19 = true := by kernel_rfl
theorem k20 : okPart Tryz.prog p20 100000 200 110 a20 144 l20 v20 146 d20 = true := by kernel_rfl
theorem k21 : okPart Tryz.prog p21 100000 200 110 a21 150 l21 v21 152 d21 = true := by kernel_rfl
theorem k22 : okPart Tryz.prog p22 100000 200 110 a22 156 l22 v22 158 d22 = true := by kernel_rfl
theorem k23 : okPart Tryz.prog p23 100000 200 110 a23 162 l23 v23 164 d23 = true := by kernel_rfl
theorem k24 : okPart Tryz.prog p24 100000 200 110 a24 168 l24 v24 170 d24 = true := by kernel_rfl
theorem k25 : okPart Tryz.prog p25 100000 200 110 a25 174 l25 v25 176 d25 = true := by kernel_rfl
theorem k26 : okPart Tryz.prog p26 100000 200 110 a26 180 l26 v26 182 d26 = true := by kernel_rfl
theorem k27 : okPart Tryz.prog p27 100000 200 110 a27 186 l27 v27 189 d27 = true := by kernel_rfl
theorem k28 : okPart Tryz.prog p28 100000 200 110 a28 193 l28 v28 195 d28 = true := by kernel_rfl
theorem k29 : okPart Tryz.prog p29 100000 200 110 a29 199 l29 v29 201 d29 = true := by kernel_rfl
theorem k30 : okPart Tryz.prog p30 100000 200 110 a30 205 l30 v30 207 d30 = true := by kernel_rfl
theorem k31 : okPart Tryz.prog p31 100000 200 110 a31 211 l31 v31 213 d31 = true := by kernel_rfl
theorem k32 : okPart Tryz.prog p32 100000 200 110 a32 217 l32 v32 219 d32 = true := by kernel_rfl
theorem k33 : okPart Tryz.prog p33 100000 200 110 a33 223 l33 v33 226 d33 = true := by kernel_rfl
theorem k34 : okPart Tryz.prog p34 100000 200 110 a34 230 l34 v34 232 d34 = true := by kernel_rfl
theorem k35 : okPart Tryz.prog p35 100000 200 110 a35 236 l35 v35 238 d35 = true := by kernel_rfl
theorem k36 : okPart Tryz.prog p36 100000 200 39 a36 24 l36 v36 242 d36 = true := by kernel_rfl
end Go.Ev
