import Derived.Test.YtlonbaefdffbeaaGreatDoorLLex
import Derived.Test.YtlonbaefdffbeaaGreatDoorLRange
import Derived.RangeFuncLeaves
import Derived.Shelf.Abstract
import Derived.OwnWalkIn
import Derived.TacticsInMore
import Derived.LoopNIn
import Derived.LoopIn
namespace Go.Proofs.YtlonbaefdffbeaaGreatDoor
open Go.ChangeShapes Go.WideShapes Go.ChangeAt Go.RowKit Go.Proofs.Tryz
set_option linter.unusedSimpArgs false
set_option linter.unusedVariables false
set_option maxRecDepth 100000
set_option maxHeartbeats 1000000

def regionN (n : Nat) : Code → Option Code
 | .region k o b => if k = n then some (.region k o b) else none
 | .seq a b => match regionN n a with
  | some c => some c
  | none => regionN n b
 | .block _ c => regionN n c
 | .scope c => regionN n c
 | .loop c => regionN n c
 | .cond _ a b => match regionN n a with
  | some c => some c
  | none => regionN n b
 | _ => none
noncomputable def itR7 : Code := ((Tryz.f52.body.bind (regionN 7)).getD .skip)
noncomputable def itR3 : Code := ((Tryz.f52.body.bind (regionN 3)).getD .skip)
theorem it_r7 (l wb : Nat) (i k n pl pc : Int) (s : ByteArray) (w1 : World) (z1z z2z z5z z6z z7z z8z z9z z10z z11z z12z z13z z14z z15z z16z z17z z18z z19z z20z z21z z22z z23z z24z z25z z26z z27z z28z z29z z30z z31z z32z z33z z34z z35z z36z z37z z38z z39z z40z z41z z42z z43z : Value) (K : Act → World → Prop) (QQ : Exit → Act → World → Prop) (R : Ending → World → Prop)
  (c0 : w1.cell? ⟨wb, 0, none⟩ = some (.int .i64 k)) (c1 : w1.cell? ⟨wb, 1, none⟩ = some (.string s)) (c2 : w1.cell? ⟨wb, 2, none⟩ = some (.int .i64 n)) (c3 : w1.cell? ⟨wb, 3, none⟩ = some (.int .i64 pl)) (c4 : w1.cell? ⟨wb, 4, none⟩ = some (.int .i64 pc))
  (hY : YieldAt Fence.wide 0 prog l #[.int .i64 i, .agg #[.int .i64 k, .string s, .int .i64 n, .int .i64 pl, .int .i64 pc]] w1 R)
  (HR : Hid (∀ e W, R e W → ∃ b, e = .returned (.bool b)))
  (HK : Hid (∀ b W y39 y40 y41 y42, R (.returned (.bool b)) W → K ⟨#[.func (.yield l) #[] #[], z1z, z2z, .int .i64 i, .pointer (some ⟨wb, 0, none⟩), z5z, z6z, z7z, z8z, z9z, z10z, z11z, z12z, z13z, z14z, z15z, z16z, z17z, z18z, z19z, z20z, z21z, z22z, z23z, z24z, z25z, z26z, z27z, z28z, z29z, z30z, z31z, z32z, z33z, z34z, z35z, z36z, z37z, z38z, y39, y40, y41, y42, .bool (!b)], []⟩ W)) :
  Code.wp prog itR7 (Exit.then K QQ) ⟨#[.func (.yield l) #[] #[], z1z, z2z, .int .i64 i, .pointer (some ⟨wb, 0, none⟩), z5z, z6z, z7z, z8z, z9z, z10z, z11z, z12z, z13z, z14z, z15z, z16z, z17z, z18z, z19z, z20z, z21z, z22z, z23z, z24z, z25z, z26z, z27z, z28z, z29z, z30z, z31z, z32z, z33z, z34z, z35z, z36z, z37z, z38z, z39z, z40z, z41z, z42z, z43z], []⟩ w1 := by
 refine (wpIn_wide (n := 1)).1 ?_
 conv => arg 4; whnf
 obtain ⟨fn, tmps, assign, body, hy, hR⟩ := hY
 gi_wp2
 refine hR.mono ?_;intro e W h;obtain ⟨b, rfl⟩ := HR.out e W h
 gi_wp2
 exact HK.out b W _ _ _ _ h
end Go.Proofs.YtlonbaefdffbeaaGreatDoor

