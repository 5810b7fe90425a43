/- Package types: contract of numbersOf. -/
import Derived.Test.YtpedfnfangaelaaDoorYAdd2
namespace Go.Proofs.YtpedfnfangaelaaDoor
open Go.ChangeShapes Go.WideShapes Go.ChangeAt Go.RowKit
set_option linter.unusedSimpArgs false
set_option linter.unusedVariables false

/-- A struct as it is handed in. -/
structure St where
  name : ByteArray
  fields : List Fd
/-- The value is a slice that holds these structs. -/
def StAt (w : World) (v : Value) (l : List St) : Prop := ∃ (a : Option Addr) (cap : Nat), v = .slice a l.length cap ∧ (l.length : Int) * 40 ≤ 140737488355328 ∧ (l ≠ [] → ∃ b off : Nat, a = some ⟨b, off, none⟩ ∧ ∀ (i : Nat) (x : St), l[i]? = some x → w.cell? ⟨b, off + i * 2, none⟩ = some (.string x.name) ∧ ∃ fv, w.cell? ⟨b, off + i * 2 + 1, none⟩ = some fv ∧ FdAt w fv x.fields)
theorem StAt.keep {w w' : World} {v : Value} {l : List St} (h : StAt w v l) (hb : Below w.heap.size w w') : StAt w' v l := by
  obtain ⟨a, cap, hv, h1, h2⟩ := h
  refine ⟨a, cap, hv, h1, fun hl => ?_⟩
  obtain ⟨b, off, e, hc⟩ := h2 hl
  refine ⟨b, off, e, fun i x hx => ?_⟩
  obtain ⟨c1, fv, c2, c3⟩ := hc i x hx
  exact ⟨keep_cell hb c1, fv, keep_cell hb c2, c3.keep hb⟩
/-- Each text is no longer than texts are. -/
def StS (l : List St) : Prop := ∀ x ∈ l, x.name.size ≤ 281474976710656 ∧ FdS x.fields
theorem ixOf_snoc (l : List ByteArray) (s x : ByteArray) : ixOf (l ++ [s]) x = if (ixOf l x).isSome = true then ixOf l x else if s = x then some l.length else none := by
  unfold ixOf
  rw [List.findIdx?_append]
  cases h : l.findIdx? (fun y => decide (y = x)) with
  | none =>
    simp only [Option.none_or, Option.isSome_none, Bool.false_eq_true, if_false, List.findIdx?_cons, List.findIdx?_nil]
    by_cases e : s = x
    · simp [e]
    · simp [e]
  | some j => simp
theorem take_succ_st {l : List St} {i : Nat} {f : St} (h : l[i]? = some f) : l.take (i + 1) = l.take i ++ [f] := by rw [List.take_add_one, h]; rfl
theorem drop_st {l : List St} {i : Nat} {f : St} (h : l[i]? = some f) : l.drop i = f :: l.drop (i + 1) := by
  obtain ⟨hi, rfl⟩ := List.getElem?_eq_some_iff.1 h
  exact List.drop_eq_getElem_cons hi
def namesOf (l : List St) : List ByteArray := l.map (·.name)
/-- The names' numbers so far. -/
structure NumI (w : World) (k : Nat) (g : ByteArray → Option Nat) (wr : World) : Prop where
  bel : Below w.heap.size w wr
  map : NumMap wr w.heap.size k g
theorem NumI.keep {w wr w' : World} {k : Nat} {g : ByteArray → Option Nat} (h : NumI w k g wr) (hb : Below wr.heap.size wr w') : NumI w k g w' := ⟨bel_trans h.bel hb, h.map.keep hb⟩
theorem NumI.mapped {w wr w' : World} {k k' : Nat} {g g' : ByteArray → Option Nat} (h : NumI w k g wr) (hg : wr.grownBy w' (some w.heap.size)) (hn : NumMap w' w.heap.size k' g') : NumI w k' g' w' :=
  ⟨⟨hg.os.trans h.bel.os, hg.tape.trans h.bel.tape, hg.output.trans h.bel.output, Nat.le_trans h.bel.size hg.size, fun j hj => (hg.block j (Nat.lt_of_lt_of_le hj h.bel.size) (by simp; omega)).trans (h.bel.block j hj)⟩, hn⟩
theorem NumMap.mono {w : World} {b n n' : Nat} {g : ByteArray → Option Nat} (h : NumMap w b n g) (hn : n ≤ n') : NumMap w b n' g := by
  obtain ⟨D, h1, h2⟩ := h
  exact ⟨D, h1.mono hn, h2⟩
theorem NumMap.congr {w : World} {b n : Nat} {g g' : ByteArray → Option Nat} (h : NumMap w b n g) (e : ∀ x, g x = g' x) : NumMap w b n g' := by rw [← funext e]; exact h
set_option maxHeartbeats 4000000 in
theorem numbersOf_any (v : Value) (l : List St) (w : World) (hl : StAt w v l) (hs : StS l) :
    Calls Tryd.prog 23 #[v] w fun e w' => e = .returned (.map (some w.heap.size)) ∧ NumI w l.length (ixOf (namesOf l)) w' := by
  obtain ⟨sa, sc, rfl, hll, hlc⟩ := hl
  have HF : Hid ((l ≠ [] → ∃ b off : Nat, sa = some ⟨b, off, none⟩ ∧ ∀ (i : Nat) (x : St), l[i]? = some x → w.cell? ⟨b, off + i * 2, none⟩ = some (.string x.name) ∧ ∃ fv, w.cell? ⟨b, off + i * 2 + 1, none⟩ = some fv ∧ FdAt w fv x.fields) ∧ StS l) := ⟨hlc, hs⟩
  clear hlc hs
  obtain ⟨n, hn⟩ : ∃ n, l.length = n := ⟨_, rfl⟩
  have HNL : Hid (l.length = n) := hn
  rw [hn] at hll ⊢
  clear hn
  have mk := make_num
  have H0 : Hid (NumI w 0 (ixOf (namesOf (l.take 0))) (w.alloc (.map #[] 0))) := ⟨bel_new w _, NumMap.made w⟩
  go_enter Tryd.func23, Tryd.ntmps23
  go_wp2_with fail
  go_loopw [13] (fun v wr => ∃ i : Nat, i ≤ n ∧ v = .int .i64 (i : Int) ∧ Hid (NumI w i (ixOf (namesOf (l.take i))) wr)) (fun v _ => n - (intOf v).toNat)
  case atStart => exact ⟨0, by omega, rfl, H0⟩
  case round =>
    clear H0 mk
    obtain ⟨i, hi, rfl, HI⟩ := hrel
    by_cases hin : i < n
    · have i0 : (0 : Int) ≤ i := by omega
      have i1 : (i : Int) < n := by omega
      have hfg := List.getElem?_eq_getElem (l := l) (i := i) (by rw [HNL.out]; exact hin)
      obtain ⟨f, hfe⟩ : ∃ f, l[i]'(by rw [HNL.out]; exact hin) = f := ⟨_, rfl⟩
      rw [hfe] at hfg
      clear hfe
      obtain ⟨sb, off, rfl, hc⟩ := HF.out.1 (fun e => by rw [e] at hfg; simp at hfg)
      obtain ⟨d0, fv, d1, fa, fc, rfl, hfd⟩ := hc i f hfg
      have c0 := keep_cell HI.out.bel d0
      have c1 := keep_cell HI.out.bel d1
      have hfs := (HF.out.2 f (List.mem_of_getElem? hfg)).1
      have HFG : Hid (l[i]? = some f) := hfg
      clear hc hfg hfd d0 d1
      obtain ⟨nm, fields⟩ := f
      dsimp only at c0 c1 hfs
      have HFS : Hid (nm.size ≤ 281474976710656) := hfs
      generalize fields.length = fl at *
      have lk : ∀ o, (Instr.lookup 58 (.map (some w.heap.size)) (.string nm) true).run Tryd.prog (wr.alloc o) = .ok (.tuple #[.int .i64 (((ixOf (namesOf (l.take i)) nm).getD 0 : Nat) : Int), .bool (ixOf (namesOf (l.take i)) nm).isSome]) (wr.alloc o) := fun o => (HI.out.keep (bel_new wr o)).map.look (by unfold maxLen; omega)
      clear hfs
      have HSN : Hid (∀ x, ixOf (namesOf (l.take (i + 1))) x = if (ixOf (namesOf (l.take i)) x).isSome = true then ixOf (namesOf (l.take i)) x else if nm = x then some i else none) := fun x => by
        rw [take_succ_st HFG.out]
        unfold namesOf
        rw [List.map_append, List.map_singleton, ixOf_snoc, List.length_map, List.length_take, HNL.out, Nat.min_eq_left (by omega)]
      cases hh : (ixOf (namesOf (l.take i)) nm).isSome
      · rw [hh] at lk
        have HC : Hid (∀ w, Calls Tryd.prog 31 #[.string nm] w (retP (.string nm) w)) := fun w => clone_any nm w HFS.out
        go_wp2_with fail
        refine (HC.out _).mono ?_
        rintro e w1 ⟨rfl, hb1⟩
        dsimp only
        have hI2 := HI.out.keep (bel_trans (bel_new wr _) hb1)
        obtain ⟨w2, hr2, hns2, hg2⟩ := hI2.map.put (by unfold maxLen; omega) (s := nm) (by have := HFS.out; unfold maxLen; omega) (j := i) (by omega)
        have HI3 : Hid (NumI w (i + 1) (ixOf (namesOf (l.take (i + 1)))) w2) := by
          refine hI2.mapped hg2 (hns2.congr (fun x => ?_))
          rw [HSN.out x]
          by_cases e : x = nm
          · subst e; simp [hh]
          · rw [if_neg e]
            by_cases e2 : (ixOf (namesOf (l.take i)) x).isSome = true
            · rw [if_pos e2]
            · rw [if_neg e2, if_neg (Ne.symm e)]
              simpa using e2
        clear hI2 hns2 hg2 hb1 lk
        go_wp2
        go_roundw
        case rel => exact ⟨i + 1, by omega, by simp, HI3⟩
        case measure => simp [intOf]; omega
      · rw [hh] at lk
        have HI3 : Hid (∀ o, NumI w (i + 1) (ixOf (namesOf (l.take (i + 1)))) (wr.alloc o)) := fun o => by
          have h1 := HI.out.keep (bel_new wr o)
          refine ⟨h1.bel, (h1.map.mono (by omega)).congr (fun x => ?_)⟩
          rw [HSN.out x]
          by_cases e2 : (ixOf (namesOf (l.take i)) x).isSome = true
          · rw [if_pos e2]
          · rw [if_neg e2]
            have e : ¬ nm = x := fun e => e2 (by rw [← e]; exact hh)
            rw [if_neg e]
            simpa using e2
        go_wp2
        go_roundw
        case rel => exact ⟨i + 1, by omega, by simp, HI3.out _⟩
        case measure => simp [intOf]; omega
    · have hie : i = n := by omega
      subst hie
      have HI2 : Hid (NumI w i (ixOf (namesOf l)) wr) := by
        have h := HI.out
        rw [List.take_of_length_le (by rw [HNL.out]; omega)] at h
        exact h
      go_wp2
      go_ret
      exact ⟨rfl, HI2.out⟩

end Go.Proofs.YtpedfnfangaelaaDoor
