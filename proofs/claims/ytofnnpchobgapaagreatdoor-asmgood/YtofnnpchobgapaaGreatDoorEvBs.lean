/- A part of a machine of our own for closed calls, and of the proof that it says what the runs do. -/
import Derived.Test.YtofnnpchobgapaaGreatDoorEvTab
import Derived.Test.YtofnnpchobgapaaGreatDoorEvH
import Derived.Test.YtofnnpchobgapaaGreatDoorShelf
import Derived.Lib.Builder
import Derived.Lib.Strings
import Derived.Lib.Slices
import Derived.Lib.Walk
import Derived.WalkKit
import Derived.Lib.AppendStr
import Derived.Laws.Externs
import Derived.OwnWalk
import Derived.Lib.OthersKept
set_option linter.unusedSimpArgs false
set_option linter.unusedVariables false
namespace Go.Proofs.YtofnnpchobgapaaGreatDoor
open Go Go.RowKit
theorem sizeBx : ∃ j, Tryz.prog.info? 53 = some j ∧ j.size = 2 := Option.map_eq_some_iff.1 (show (Tryz.prog.info? 53).map (·.size) = some 2 by kernel_rfl)
set_option maxHeartbeats 1000000 in
set_option maxRecDepth 20000 in
theorem copyUsed (b : Nat) (w : World) (h0 : w.cell? ⟨b, 0, none⟩ = some (.pointer (some ⟨b, 0, none⟩))) :
    Calls Tryz.prog 65 #[.pointer (some ⟨b, 0, none⟩)] w fun e w' => e = .returned (.tuple #[]) ∧ w' = w := by
  obtain ⟨j, hj, _⟩ := sizeBx
  go_enter Tryz.func65, Tryz.ntmps65
  go_wp2
  rw [Lib.run_neq_ptr_same w _ Tryz.underlying50 hj]
  go_wp2
  go_end0
  exact ⟨rfl, rfl⟩
set_option maxHeartbeats 2000000 in
set_option maxRecDepth 20000 in
theorem strEmpty (b : Nat) (w : World) (h1 : w.cell? ⟨b, 1, none⟩ = some (.slice none 0 0)) :
    Calls Tryz.prog 22 #[.pointer (some ⟨b, 0, none⟩)] w fun e w' => e = .returned (.string ⟨⟨[]⟩⟩) ∧ Below w.heap.size w w' := by
  have hUS : ∀ (W : World) q, (Builtin.unsafeString_ #[94, 3] 9 #[.pointer q, .int .i64 0]).run Tryz.prog W = .ok (.string .empty) W := fun W q => Lib.run_unsafeString_none W _ _ _ q
  have mixed : Tryz.prog.follows .mixedOrders = true := by kernel_rfl
  have c1 : w.drew.cell? ⟨b, 1, none⟩ = some (.slice none 0 0) := h1
  have hSD : (Builtin.unsafeSliceData_ #[51] 94 #[.slice none 0 0]).run Tryz.prog w.drew = .ok (.pointer none) w.drew := rfl
  go_enter Tryz.func22, Tryz.ntmps22
  go_wp2
  go_region_o
  all_goals (go_wp2; go_ret; exact ⟨rfl, Below.drew (Below.refl _ w)⟩)
set_option maxHeartbeats 2000000 in
set_option maxRecDepth 20000 in
theorem strFull (b g off cap : Nat) (cur : Array Value) (l : List UInt8) (w : World) (h1 : w.cell? ⟨b, 1, none⟩ = some (.slice (some ⟨g, off, none⟩) l.length cap)) (h0 : l ≠ []) (hc : l.length ≤ cap) (h6 : l.length ≤ 1000000) (hg : w.heap[g]? = some (.cells cur 5 (0, 0))) (hin : off + l.length ≤ cur.size) (hcell : ∀ j x, l[j]? = some x → cur[off + j]? = some (.int .u8 x.toNat)) :
    Calls Tryz.prog 22 #[.pointer (some ⟨b, 0, none⟩)] w fun e w' => e = .returned (.string ⟨l.toArray⟩) ∧ w' = w.drew.freeze ⟨g, off, none⟩ l.length := by
  have hl0 : l.length ≠ 0 := by simpa using h0
  have mixed : Tryz.prog.follows .mixedOrders = true := by kernel_rfl
  have c1 : w.drew.cell? ⟨b, 1, none⟩ = some (.slice (some ⟨g, off, none⟩) l.length cap) := h1
  have hSD : (Builtin.unsafeSliceData_ #[51] 94 #[.slice (some ⟨g, off, none⟩) l.length cap]).run Tryz.prog w.drew = .ok (.pointer (some ⟨g, off, none⟩)) w.drew :=
    Lib.run_unsafeSliceData_row _ _ _ _ _ _ (by omega)
  have hUS : (Builtin.unsafeString_ #[94, 3] 9 #[.pointer (some ⟨g, off, none⟩), .int .i64 l.length]).run Tryz.prog w.drew = .ok (.string ⟨l.toArray⟩) (w.drew.freeze ⟨g, off, none⟩ l.length) := by
    refine Ev.run_unsafeString_at w.drew 94 3 9 5 Tryz.underlying94 (by kernel_rfl) g off cur.size (by have hg' : w.drew.heap[g]? = some (.cells cur 5 (0, 0)) := hg; simp [World.shape?, hg']) l h0 hin (by omega) ?_
    intro j x hx
    have hg' : w.drew.heap[g]? = some (.cells cur 5 (0, 0)) := hg
    have e : ((⟨g, off, none⟩ : Addr).add j) = ⟨g, off + j, none⟩ := by simp [Addr.add]
    rw [e, Ev.cell_at hg']
    exact hcell j x hx
  clear hcell hin h6 hc h0
  go_enter Tryz.func22, Tryz.ntmps22
  go_wp2
  go_region_o
  all_goals (go_wp2; go_ret; exact ⟨rfl, rfl⟩)

set_option maxHeartbeats 1000000 in
set_option maxRecDepth 20000 in
theorem copyFresh53 (b : Nat) (w : World) (h0 : w.cell? ⟨b, 0, none⟩ = some (.pointer none)) (hsh : w.shape? b = some (53, 2)) (hfz : w.frozen? ⟨b, 0, none⟩ = false) :
    Calls Tryz.prog 65 #[.pointer (some ⟨b, 0, none⟩)] w fun e w' => e = .returned (.tuple #[]) ∧ w' = w.setCell ⟨b, 0, none⟩ (.pointer (some ⟨b, 0, none⟩)) := by
  obtain ⟨j, hj, hjs⟩ := sizeBx
  go_enter Tryz.func65, Tryz.ntmps65
  go_wp2
  rw [Lib.run_to_unsafe w ⟨b, 0, none⟩ Tryz.underlying50 Tryz.underlying136 hj (by rw [hjs]; decide) hsh (Nat.zero_lt_succ 1)]
  simp only [Result.andThen]
  rw [Oper.upon_value]
  go_wp2
  rw [run_callFunc_extern Tryz.func84 (by kernel_rfl) (by kernel_rfl) (by kernel_rfl) (e := Extern.AbiNoEscape.same) (by kernel_rfl)]
  rw [Lib.run_noEscape]
  simp only [Result.andThen]
  rw [Oper.upon_value]
  go_wp2
  rw [Lib.run_from_unsafe w ⟨b, 0, none⟩ Tryz.underlying136 Tryz.underlying50 hj hsh (by kernel_rfl)]
  simp only [Result.andThen]
  rw [Oper.upon_value]
  go_wp2
  go_end0
  exact ⟨rfl, rfl⟩

set_option maxHeartbeats 1000000 in
set_option maxRecDepth 20000 in
theorem copyFresh55 (b : Nat) (w : World) (h0 : w.cell? ⟨b, 0, none⟩ = some (.pointer none)) (hsh : w.shape? b = some (55, 2)) (hfz : w.frozen? ⟨b, 0, none⟩ = false) :
    Calls Tryz.prog 65 #[.pointer (some ⟨b, 0, none⟩)] w fun e w' => e = .returned (.tuple #[]) ∧ w' = w.setCell ⟨b, 0, none⟩ (.pointer (some ⟨b, 0, none⟩)) := by
  obtain ⟨j, hj, hjs⟩ := sizeBx
  go_enter Tryz.func65, Tryz.ntmps65
  go_wp2
  rw [Lib.run_to_unsafe w ⟨b, 0, none⟩ Tryz.underlying50 Tryz.underlying136 hj (by rw [hjs]; decide) hsh (Nat.zero_lt_succ 1)]
  simp only [Result.andThen]
  rw [Oper.upon_value]
  go_wp2
  rw [run_callFunc_extern Tryz.func84 (by kernel_rfl) (by kernel_rfl) (by kernel_rfl) (e := Extern.AbiNoEscape.same) (by kernel_rfl)]
  rw [Lib.run_noEscape]
  simp only [Result.andThen]
  rw [Oper.upon_value]
  go_wp2
  rw [Lib.run_from_unsafe w ⟨b, 0, none⟩ Tryz.underlying136 Tryz.underlying50 hj hsh (by kernel_rfl)]
  simp only [Result.andThen]
  rw [Oper.upon_value]
  go_wp2
  go_end0
  exact ⟨rfl, rfl⟩

end Go.Proofs.YtofnnpchobgapaaGreatDoor
namespace Go.Ev
open Go Go.RowKit Go.Proofs Go.Proofs.YtofnnpchobgapaaGreatDoor
theorem frz {w : World} {q off n U : Nat} {D : Array Value} (hg : w.heap[q]? = some (.cells D U (0, 0))) : Frz w (w.drew.freeze ⟨q, off, none⟩ n) q D U := by
  unfold Frz World.freeze
  split
  · exact ⟨⟨_, hg⟩, fun _ _ => rfl, rfl, rfl, rfl, rfl⟩
  · refine ⟨?_, fun k hk => ?_, ?_, rfl, rfl, rfl⟩
    · have hg' : w.drew.heap[q]? = some (.cells D U (0, 0)) := hg
      rw [Array.getElem?_modify, if_pos rfl, hg']
      exact ⟨_, rfl⟩
    · rw [Array.getElem?_modify, if_neg (Ne.symm hk)]
      rfl
    · rw [Array.size_modify]
      rfl

theorem copyC53 : CopyC Tryz.prog 65 53 2 where
  enter := fun args w => enter_ok Tryz.func65 (by kernel_rfl) (by kernel_rfl) args w
  holder := by kernel_rfl
  fresh := fun r C w h1 h2 h3 => copyFresh53 r w (by rw [cell_at h1]; exact h3) (by simp [World.shape?, h1, h2]) (by simp [World.frozen?, h1])
  used := fun r w h => copyUsed r w h
theorem strC53 : StrC Tryz.prog 22 53 2 5 where
  enter := fun args w => enter_ok Tryz.func22 (by kernel_rfl) (by kernel_rfl) args w
  holder := by kernel_rfl
  empty := fun r C w h1 _ h3 => strEmpty r w (by rw [cell_at h1]; exact h3)
  full := fun r C w q off cap D l h1 _ h3 h4 h5 h6 h7 h8 h9 => (strFull r q off cap D l w (by rw [cell_at h1]; exact h3) h4 h5 h6 h7 h8 h9).mono (by rintro e W ⟨rfl, rfl⟩; exact ⟨rfl, frz h7⟩)

theorem copyC55 : CopyC Tryz.prog 65 55 2 where
  enter := fun args w => enter_ok Tryz.func65 (by kernel_rfl) (by kernel_rfl) args w
  holder := by kernel_rfl
  fresh := fun r C w h1 h2 h3 => copyFresh55 r w (by rw [cell_at h1]; exact h3) (by simp [World.shape?, h1, h2]) (by simp [World.frozen?, h1])
  used := fun r w h => copyUsed r w h
theorem strC55 : StrC Tryz.prog 22 55 2 5 where
  enter := fun args w => enter_ok Tryz.func22 (by kernel_rfl) (by kernel_rfl) args w
  holder := by kernel_rfl
  empty := fun r C w h1 _ h3 => strEmpty r w (by rw [cell_at h1]; exact h3)
  full := fun r C w q off cap D l h1 _ h3 h4 h5 h6 h7 h8 h9 => (strFull r q off cap D l w (by rw [cell_at h1]; exact h3) h4 h5 h6 h7 h8 h9).mono (by rintro e W ⟨rfl, rfl⟩; exact ⟨rfl, frz h7⟩)

theorem tels_ok (w : World) : TelOk Tryz.prog w tels := by
  intro f args h v h' ht σ u args' ha K hg hf c cs
  unfold tels at ht
  split at ht
  ·
    cases x0 : copyT 53 2 h args with
    | some z =>
      rw [x0] at ht
      simp only [orT, Option.some.injEq] at ht
      subst ht
      exact copyT_ok copyC53 x0 ha K c cs
    | none =>
    rw [x0] at ht
    simp only [orT] at ht
    cases x1 : copyT 55 2 h args with
    | some z =>
      rw [x1] at ht
      simp only [orT, Option.some.injEq] at ht
      subst ht
      exact copyT_ok copyC55 x1 ha K c cs
    | none =>
    rw [x1] at ht
    simp only [orT] at ht
    cases ht
  ·
    cases x0 : strT 53 2 5 h args with
    | some z =>
      rw [x0] at ht
      simp only [orT, Option.some.injEq] at ht
      subst ht
      exact strT_ok strC53 x0 ha K c cs
    | none =>
    rw [x0] at ht
    simp only [orT] at ht
    cases x1 : strT 55 2 5 h args with
    | some z =>
      rw [x1] at ht
      simp only [orT, Option.some.injEq] at ht
      subst ht
      exact strT_ok strC55 x1 ha K c cs
    | none =>
    rw [x1] at ht
    simp only [orT] at ht
    cases ht
  · exact makeT_ok (ps := #[3]) (t := 51) Tryz.func108 (by kernel_rfl) (by kernel_rfl) (by kernel_rfl) (by kernel_rfl) Tryz.underlying51 (by kernel_rfl) (by kernel_rfl) ht ha K hg hf c cs
  · cases ht
end Go.Ev
