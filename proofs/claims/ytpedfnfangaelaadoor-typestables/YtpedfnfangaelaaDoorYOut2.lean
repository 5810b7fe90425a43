/- Package types: contract of layOut. -/
import Derived.Test.YtpedfnfangaelaaDoorYOut
namespace Go.Proofs.YtpedfnfangaelaaDoor
open Go.ChangeShapes Go.WideShapes Go.ChangeAt Go.RowKit
set_option linter.unusedSimpArgs false
set_option linter.unusedVariables false

/-- The answer of layOut. -/
def retLa (x : Shp) (err : Int) (w : World) : Ending → World → Prop := fun e w' =>
  ∃ pv, e = .returned (.tuple #[.agg #[pv, .int .i64 x.size, .int .i64 x.align], .int .i64 err]) ∧ PlsAt w' pv x.places ∧ Below w.heap.size w w' ∧ ∀ b, pv.ownBlock = some b → w.heap.size ≤ b ∧ b < w'.heap.size
theorem end_L {P : Program} {fn : Func} {a : Act} {w w' : World} {x : Shp} {err : Int} (pv : Value) (hr : (results fn a.tmps).run P w' = .ok (.tuple #[.agg #[pv, .int .i64 x.size, .int .i64 x.align], .int .i64 err]) w') (hd : a.defers = []) (hp : PlsAt w' pv x.places) (hb : Below w.heap.size w w') (hf : ∀ b, pv.ownBlock = some b → w.heap.size ≤ b ∧ b < w'.heap.size := by simp [Value.ownBlock]) :
    bodyPost P fn (retLa x err w) .ret a w' := bodyPost_ret hr hd ⟨pv, rfl, hp, hb, hf⟩
theorem take_succ_fd {l : List Fd} {i : Nat} {f : Fd} (h : l[i]? = some f) : l.take (i + 1) = l.take i ++ [f] := by rw [List.take_add_one, h]; rfl
theorem drop_fd {l : List Fd} {i : Nat} {f : Fd} (h : l[i]? = some f) : l.drop i = f :: l.drop (i + 1) := by
  obtain ⟨hi, rfl⟩ := List.getElem?_eq_some_iff.1 h
  exact List.drop_eq_getElem_cons hi
theorem hasN_snoc (l : List Fd) (f : Fd) : hasN (l ++ [f]) = fun x => decide (x = f.name) || hasN l x := by
  funext x
  unfold hasN
  rw [List.any_append, Bool.or_comm]
  simp [eq_comm]
set_option maxHeartbeats 8000000 in
theorem layOut_any (tb : Nat) (T : Tab) (fv : Value) (fields : List Fd) (w : World) (hT : TabAt w tb T) (hG : GoodT T) (hf : FdAt w fv fields) (hs : FdS fields) :
    Calls Tryd.prog 41 #[.pointer (some ⟨tb, 0, none⟩), fv] w (retLa (layR T fields).1 (layR T fields).2 w) := by
  obtain ⟨fa, fc, rfl, hfl, hfc⟩ := hf
  have HT : Hid (TabAt w tb T ∧ GoodT T ∧ FdS fields) := ⟨hT, hG, hs⟩
  have HF : Hid (fields ≠ [] → ∃ b off : Nat, fa = some ⟨b, off, none⟩ ∧ ∀ (i : Nat) (x : Fd), fields[i]? = some x → w.cell? ⟨b, off + i * 2, none⟩ = some (.string x.name) ∧ w.cell? ⟨b, off + i * 2 + 1, none⟩ = some (.string x.typ)) := hfc
  have HS : Hid (∀ (t : ByteArray) w', t.size ≤ 281474976710656 → TabAt w' tb T → Calls Tryd.prog 10 #[.pointer (some ⟨tb, 0, none⟩), .string t] w' (retP (.tuple #[.int .i64 (szF T t).1, .int .i64 (szF T t).2.1, .int .i64 (szF T t).2.2]) w')) := fun t w' h1 h2 => size_any tb T t (by omega) w' h2 hG
  clear hT hG hs hfc
  obtain ⟨R, hR⟩ : ∃ R, layL T [] ⟨[], 0, 1, false⟩ fields = R := ⟨_, rfl⟩
  obtain ⟨x, hx⟩ : ∃ x, layR T fields = x := ⟨_, rfl⟩
  have HR : Hid (layL T [] ⟨[], 0, 1, false⟩ fields = R) := hR
  have HX : Hid (layO R = x) := by
    show _ = _
    rw [← hx, ← hR]
    rfl
  rw [hx]
  clear hx hR
  obtain ⟨n, hn⟩ : ∃ n, fields.length = n := ⟨_, rfl⟩
  have HNL : Hid (fields.length = n) := hn
  rw [hn] at hfl ⊢
  clear hn
  obtain ⟨⟨px, xs, xa⟩, err⟩ := x
  have mk := make_set
  have H0 : Hid (LayI w none 0 ⟨[], 0, 1, false⟩ 0 (hasN []) (((w.alloc (.cells #[.slice none 0 0, .int .i64 0, .int .i64 0] 71)).alloc (.cells #[.slice none 0 0, .int .i64 0, .int .i64 1] 71)).alloc (.map #[] 0))) := by
    have hb : Below w.heap.size w (((w.alloc (.cells #[.slice none 0 0, .int .i64 0, .int .i64 0] 71)).alloc (.cells #[.slice none 0 0, .int .i64 0, .int .i64 1] 71)).alloc (.map #[] 0)) := bel_alloc (bel_alloc (bel_new w _) _) _
    refine ⟨hb, ?_, ⟨?_, ⟨rfl, .inl ⟨rfl, rfl⟩⟩, by simp [Value.ownBlock]⟩, fun b h => by simp [Value.ownBlock] at h, ?_⟩
    · rw [Below.heap_alloc _ _ _ (by simp; omega), Below.heap_alloc _ _ _ (by simp)]
      exact heap_new w _
    · rw [Below.heap_alloc _ _ _ (by simp)]
      have := heap_new (w.alloc (.cells #[.slice none 0 0, .int .i64 0, .int .i64 0] 71)) (.cells #[.slice none 0 0, .int .i64 0, .int .i64 1] 71)
      rw [World.size_alloc] at this
      exact this
    · have := NameSet.made ((w.alloc (.cells #[.slice none 0 0, .int .i64 0, .int .i64 0] 71)).alloc (.cells #[.slice none 0 0, .int .i64 0, .int .i64 1] 71))
      simp only [World.size_alloc] at this
      exact this
  go_enter Tryd.func41, Tryd.ntmps41
  go_wp2_with fail
  go_loopw [8, 22] (fun v8 v22 wr => ∃ (i : Nat) (s : LS) (a : Option Addr) (c : Nat), i ≤ n ∧ v8 = .bool s.tg ∧ v22 = .int .i64 (i : Int) ∧ Hid (LayI w a c s i (hasN (fields.take i)) wr ∧ LSok s ∧ layL T (fields.take i) s (fields.drop i) = R)) (fun _ v22 _ => n - (intOf v22).toNat)
  case atStart => exact ⟨0, ⟨[], 0, 1, false⟩, none, 0, by omega, rfl, rfl, H0.out, by simp [LSok], by simpa using HR.out⟩
  case round =>
    clear H0 HR mk
    obtain ⟨i, s, a, c, hi, rfl, rfl, HI⟩ := hrel
    have hsz : w.heap.size + 3 ≤ wr.heap.size := by have := HI.out.1.ns.lt; omega
    by_cases hin : i < n
    · have i0 : (0 : Int) ≤ i := by omega
      have i1 : (i : Int) < n := by omega
      have hfg := List.getElem?_eq_getElem (l := fields) (i := i) (by rw [HNL.out]; exact hin)
      obtain ⟨f, hfe⟩ : ∃ f, fields[i]'(by rw [HNL.out]; exact hin) = f := ⟨_, rfl⟩
      rw [hfe] at hfg
      clear hfe
      obtain ⟨fb, off, rfl, hc⟩ := HF.out (fun e => by rw [e] at hfg; simp at hfg)
      have c0 := keep_cell HI.out.1.bel (hc i f hfg).1
      have c1 := keep_cell HI.out.1.bel (hc i f hfg).2
      have hfs := HT.out.2.2 f (List.mem_of_getElem? hfg)
      have HL : Hid ((if badF T (fields.take i) f = true then none else layL T (fields.take (i + 1)) (layStep T s f) (fields.drop (i + 1))) = R) := by
        show _ = _
        rw [take_succ_fd hfg, ← HI.out.2.2, drop_fd hfg]
        rfl
      have HFG : Hid (fields[i]? = some f) := hfg
      clear hc hfg HF
      obtain ⟨nm, ty⟩ := f
      dsimp only at c0 c1 hfs
      have HFS : Hid (nm.size ≤ 281474976710656 ∧ ty.size ≤ 281474976710656) := hfs
      have lk : ∀ o, (Instr.lookup 96 (.map (some (w.heap.size + 2))) (.string nm) true).run Tryd.prog (wr.alloc o) = .ok (.tuple #[.agg #[], .bool (hasN (fields.take i) nm)]) (wr.alloc o) := fun o => (HI.out.1.keep (bel_new wr o)).ns.look (by unfold maxLen; omega)
      clear hfs
      have HN : Hid (∀ w, Calls Tryd.prog 40 #[.string nm] w fun e w' => e = .returned (.bool (nameS nm)) ∧ w' = w) := fun w => isName_any nm (by have := HFS.out.1; omega) w
      cases hh : hasN (fields.take i) nm
      · rw [hh] at lk
        cases hnn : nameS nm
        · rw [hnn] at HN
          have hbad : badF T (fields.take i) ⟨nm, ty⟩ = true := by simp [badF, hh, hnn]
          obtain rfl : R = none := by have := HL.out; rw [if_pos hbad] at this; exact this.symm
          obtain ⟨⟨rfl, rfl, rfl⟩, rfl⟩ : ([] = px ∧ (0 : Int) = xs ∧ (0 : Int) = xa) ∧ (5 : Int) = err := by simpa [layO] using HX.out
          clear HL HX hbad
          have HI2 := (HI.out.1.keep (bel_alloc (bel_new wr (.cells #[.string nm, .string ty] 51)) (.cells #[] 97)))
          have r0 := heap_cell (o := 0) (v := .slice none 0 0) HI2.res (by rfl)
          have q0 := heap_frozen (o := 0) HI2.res
          have r1 := heap_cell (o := 1) (v := .int .i64 0) HI2.res (by rfl)
          have q1 := heap_frozen (o := 1) HI2.res
          have r2 := heap_cell (o := 2) (v := .int .i64 0) HI2.res (by rfl)
          have q2 := heap_frozen (o := 2) HI2.res
          have HBL : Hid (Below w.heap.size w ((wr.alloc (.cells #[.string nm, .string ty] 51)).alloc (.cells #[] 97))) := HI2.bel
          clear HI2
          go_wp2_with fail
          refine (HN.out _).mono ?_
          rintro e w1 ⟨rfl, hw⟩
          replace hw := hw.symm
          subst hw
          dsimp only
          go_wp2
          exact end_L (.slice none 0 0) (by simp [results, Tryd.results41, go_sem, *]) rfl (PlsAt.nil _) (bel_set (bel_set (bel_set HBL.out (by simp) _) (by simp) _) (by simp) _)
        · rw [hnn] at HN
          have hI2 := HI.out.1.keep (bel_alloc (bel_new wr (.cells #[.string nm, .string ty] 51)) (.cells #[] 97))
          obtain ⟨w2, hr2, hns2, hg2⟩ := hI2.ns.put (by have := HNL.out; unfold maxLen; omega) (s := nm) (by have := HFS.out.1; unfold maxLen; omega)
          have hI3 : LayI w a c s (i + 1) (hasN (fields.take (i + 1))) w2 := by
            rw [take_succ_fd HFG.out, hasN_snoc]
            exact hI2.mapped hg2 hns2
          have hf2 : w2.heap[wr.heap.size]? = some (.cells #[.string nm, .string ty] 51 (0, 0)) := by
            rw [hg2.block wr.heap.size (by simp; omega) (by simp; omega), Below.heap_alloc _ _ _ (by simp)]
            exact heap_new wr _
          have HI3 : Hid (LayI w a c s (i + 1) (hasN (fields.take (i + 1))) w2 ∧ w2.heap[wr.heap.size]? = some (.cells #[.string nm, .string ty] 51 (0, 0)) ∧ wr.heap.size < w2.heap.size) := ⟨hI3, hf2, by have := hg2.size; simp at this; omega⟩
          have g0 := heap_cell (o := 0) (v := .string nm) hf2 (by rfl)
          have g1 := heap_cell (o := 1) (v := .string ty) hf2 (by rfl)
          clear hI2 hI3 hf2 hns2 hg2
          go_wp2_with fail
          refine (HN.out _).mono ?_
          rintro e w1 ⟨rfl, hw⟩
          replace hw := hw.symm
          subst hw
          dsimp only
          go_wp2_with fail
          refine (HS.out ty _ HFS.out.2 (HT.out.1.keep HI3.out.1.bel)).mono ?_
          rintro e w3 ⟨rfl, hb3⟩
          dsimp only
          have HI4 : Hid (LayI w a c s (i + 1) (hasN (fields.take (i + 1))) w3 ∧ w3.heap[wr.heap.size]? = some (.cells #[.string nm, .string ty] 51 (0, 0)) ∧ wr.heap.size < w3.heap.size) := ⟨HI3.out.1.keep hb3, keep_heap hb3 HI3.out.2.1, Nat.lt_of_lt_of_le HI3.out.2.2 hb3.size⟩
          have k0 := heap_cell (o := 0) (v := .string nm) HI4.out.2.1 (by rfl)
          have k1 := heap_cell (o := 1) (v := .string ty) HI4.out.2.1 (by rfl)
          have HI5 : Hid (LSok s) := HI.out.2.1
          clear hb3 g0 g1 hr2 HI3 HI lk c0 c1
          have HOK : Hid (LSok s ∧ LSok (layStep T s ⟨nm, ty⟩)) := ⟨HI5.out, HI5.out.step HT.out.2.1 _⟩
          clear HI5
          have HL2 : Hid (badF T (fields.take i) ⟨nm, ty⟩ = ((szF T ty).2.2 == 5)) := by show _ = _; simp [badF, hh, hnn]
          rcases szF_err T ty with he | he | he
          · have hst : layStep T s ⟨nm, ty⟩ = if 65536 < upI s.sz (szF T ty).2.1 + (szF T ty).1 then ⟨s.pls, s.sz, s.al, true⟩ else ⟨s.pls ++ [⟨nm, ty, upI s.sz (szF T ty).2.1⟩], upI s.sz (szF T ty).2.1 + (szF T ty).1, max s.al (szF T ty).2.1, s.tg⟩ := by
              unfold layStep
              rw [if_pos he]
            have hzo := szF_ok HT.out.2.1 he
            have HL3 : Hid (layL T (fields.take (i + 1)) (layStep T s ⟨nm, ty⟩) (fields.drop (i + 1)) = R) := by
              have h1 := HL.out
              rw [HL2.out, he] at h1
              show _ = _
              simpa using h1
            clear HL HL2
            generalize layStep T s ⟨nm, ty⟩ = s' at *
            generalize szF T ty = z at *
            obtain ⟨z0, z1, z2⟩ := z
            dsimp only at he hst hzo
            dsimp only
            subst he
            have HZO : Hid (1 ≤ z0 ∧ z0 ≤ 65536 ∧ 1 ≤ z1 ∧ z1 ≤ 8) := hzo
            clear hzo
            go_wp2_with fail
            by_cases hgt : 65536 < upI s.sz z1 + z0
            · rw [if_pos hgt] at hst
              refine (put_no (w.heap.size + 1) (Value.slice a s.pls.length c) s.sz s.al z0 z1 nm ty w3 HI4.out.1.sh.row HOK.out.1.1 HOK.out.1.2.1 (by have := HZO.out.1; omega) HZO.out.2.1 HZO.out.2.2.1 HZO.out.2.2.2 hgt).mono ?_
              rintro e w4 ⟨rfl, hb4⟩
              have HE : Hid (LayI w a c s (i + 1) (hasN (fields.take (i + 1))) w4 ∧ s' = ⟨s.pls, s.sz, s.al, true⟩) := ⟨HI4.out.1.keep hb4, hst⟩
              clear hb4 hst hgt k0 k1
              go_wp2
              go_roundw
              case rel =>
                refine ⟨i + 1, s', a, c, by omega, by rw [HE.out.2], by simp, ?_, HOK.out.2, HL3.out⟩
                rw [HE.out.2]
                exact ⟨HE.out.1.bel, HE.out.1.res, HE.out.1.sh, HE.out.1.far, HE.out.1.ns⟩
              case measure => simp [intOf]; omega
            · rw [if_neg hgt] at hst
              refine (put_yes w.heap.size (w.heap.size + 1) s.pls.length c a s.pls s.sz s.al z0 z1 nm ty w3 HI4.out.1.sh (by have := HI4.out.2.2; omega) HOK.out.1.1 HOK.out.1.2.1 (by have := HZO.out.1; omega) HZO.out.2.1 HZO.out.2.2.1 HZO.out.2.2.2 HOK.out.1.2.2.1 HOK.out.1.2.2.2.1 (by omega) (by have := HOK.out.1; unfold LSok at this; omega) HFS.out).mono ?_
              rintro e w4 ⟨rfl, g0, cap, hsh, htu, hat⟩
              have HE : Hid (LayI w (some ⟨g0, 0, none⟩) cap s' (i + 1) (hasN (fields.take (i + 1))) w4 ∧ s'.tg = s.tg) := by
                refine ⟨HI4.out.1.putted (by rw [hst]; simp) (by rw [hst]; exact hsh) htu hat, by rw [hst]⟩
              clear hsh htu hat hst hgt k0 k1
              go_wp2
              go_roundw
              case rel => exact ⟨i + 1, s', some ⟨g0, 0, none⟩, cap, by omega, by rw [HE.out.2], by simp, HE.out.1, HOK.out.2, HL3.out⟩
              case measure => simp [intOf]; omega
          · have hst : layStep T s ⟨nm, ty⟩ = ⟨s.pls, s.sz, s.al, true⟩ := by
              unfold layStep
              rw [if_neg (by rw [he]; decide)]
            have HL3 : Hid (layL T (fields.take (i + 1)) (layStep T s ⟨nm, ty⟩) (fields.drop (i + 1)) = R) := by
              have h1 := HL.out
              rw [HL2.out, he] at h1
              show _ = _
              simpa using h1
            clear HL HL2
            have HST : Hid (layStep T s ⟨nm, ty⟩ = ⟨s.pls, s.sz, s.al, true⟩) := hst
            clear hst
            generalize layStep T s ⟨nm, ty⟩ = s' at *
            generalize szF T ty = z at *
            obtain ⟨z0, z1, z2⟩ := z
            dsimp only at he
            dsimp only
            subst he
            go_wp2
            go_roundw
            case rel =>
              refine ⟨i + 1, s', a, c, by omega, by rw [HST.out], by simp, ?_, HOK.out.2, HL3.out⟩
              rw [HST.out]
              exact ⟨HI4.out.1.bel, HI4.out.1.res, HI4.out.1.sh, HI4.out.1.far, HI4.out.1.ns⟩
            case measure => simp [intOf]; omega
          · have hbad : badF T (fields.take i) ⟨nm, ty⟩ = true := by rw [HL2.out, he]; rfl
            clear HL2 HOK
            obtain rfl : R = none := by have := HL.out; rw [if_pos hbad] at this; exact this.symm
            obtain ⟨⟨rfl, rfl, rfl⟩, rfl⟩ : ([] = px ∧ (0 : Int) = xs ∧ (0 : Int) = xa) ∧ (5 : Int) = err := by simpa [layO] using HX.out
            clear HL HX hbad
            generalize szF T ty = z at *
            obtain ⟨z0, z1, z2⟩ := z
            dsimp only at he
            dsimp only
            subst he
            have r0 := heap_cell (o := 0) (v := .slice none 0 0) HI4.out.1.res (by rfl)
            have q0 := heap_frozen (o := 0) HI4.out.1.res
            have r1 := heap_cell (o := 1) (v := .int .i64 0) HI4.out.1.res (by rfl)
            have q1 := heap_frozen (o := 1) HI4.out.1.res
            have r2 := heap_cell (o := 2) (v := .int .i64 0) HI4.out.1.res (by rfl)
            have q2 := heap_frozen (o := 2) HI4.out.1.res
            go_wp2
            exact end_L (.slice none 0 0) (by simp [results, Tryd.results41, go_sem, *]) rfl (PlsAt.nil _) (bel_set (bel_set (bel_set HI4.out.1.bel (by simp) _) (by simp) _) (by simp) _)
      · have hbad : badF T (fields.take i) ⟨nm, ty⟩ = true := by simp [badF, hh]
        rw [hh] at lk
        obtain rfl : R = none := by have := HL.out; rw [if_pos hbad] at this; exact this.symm
        obtain ⟨⟨rfl, rfl, rfl⟩, rfl⟩ : ([] = px ∧ (0 : Int) = xs ∧ (0 : Int) = xa) ∧ (5 : Int) = err := by simpa [layO] using HX.out
        clear HL HX hbad
        have HI2 := (HI.out.1.keep (bel_alloc (bel_new wr (.cells #[.string nm, .string ty] 51)) (.cells #[] 97)))
        have r0 := heap_cell (o := 0) (v := .slice none 0 0) HI2.res (by rfl)
        have q0 := heap_frozen (o := 0) HI2.res
        have r1 := heap_cell (o := 1) (v := .int .i64 0) HI2.res (by rfl)
        have q1 := heap_frozen (o := 1) HI2.res
        have r2 := heap_cell (o := 2) (v := .int .i64 0) HI2.res (by rfl)
        have q2 := heap_frozen (o := 2) HI2.res
        have HBL : Hid (Below w.heap.size w ((wr.alloc (.cells #[.string nm, .string ty] 51)).alloc (.cells #[] 97))) := HI2.bel
        clear HI2
        go_wp2
        exact end_L (.slice none 0 0) (by simp [results, Tryd.results41, go_sem, *]) rfl (PlsAt.nil _) (bel_set (bel_set (bel_set HBL.out (by simp) _) (by simp) _) (by simp) _)
    · have hie : i = n := by omega
      obtain rfl : R = some s := by
        have h1 := HI.out.2.2
        rw [hie, List.drop_of_length_le (by rw [HNL.out]; omega)] at h1
        exact h1.symm
      subst hie
      have hrow := HI.out.1.sh.row
      have hok := HI.out.2.1
      have s1 := heap_cell (o := 1) (v := .int .i64 s.sz) hrow (by rfl)
      have s2 := heap_cell (o := 2) (v := .int .i64 s.al) hrow (by rfl)
      have s0 := heap_cell (o := 0) (v := (Value.slice a s.pls.length c)) hrow (by rfl)
      have f1 := heap_frozen (o := 1) hrow
      have r0 := heap_cell (o := 0) (v := .slice none 0 0) HI.out.1.res (by rfl)
      have q0 := heap_frozen (o := 0) HI.out.1.res
      have r1 := heap_cell (o := 1) (v := .int .i64 0) HI.out.1.res (by rfl)
      have q1 := heap_frozen (o := 1) HI.out.1.res
      have r2 := heap_cell (o := 2) (v := .int .i64 0) HI.out.1.res (by rfl)
      have q2 := heap_frozen (o := 2) HI.out.1.res
      have HU : Hid (∀ w, Calls Tryd.prog 51 #[.int .i64 s.sz, .int .i64 s.al] w fun e w' => e = .returned (.int .i64 (upI s.sz s.al)) ∧ w' = w) := fun w => roundUp_any s.sz s.al hok.1 (by have := hok.2.1; omega) hok.2.2.1 (by have := hok.2.2.2.1; omega) w
      have HX2 : Hid ((if (s.tg || decide (65536 < upI s.sz s.al)) = true then ((⟨[], 0, 0⟩ : Shp), (2 : Int)) else (⟨s.pls, upI s.sz s.al, s.al⟩, 0)) = (⟨px, xs, xa⟩, err)) := HX.out
      clear HX hrow hok
      have HOW : Hid (∀ u0 u1 u2 u3, PlsAt ((((wr.setCell ⟨w.heap.size + 1, 1, none⟩ u0).setCell ⟨w.heap.size, 0, none⟩ u1).setCell ⟨w.heap.size, 1, none⟩ u2).setCell ⟨w.heap.size, 2, none⟩ u3) (Value.slice a s.pls.length c) s.pls) := fun u0 u1 u2 u3 => by
        refine owns_pls (owns_of_heap HI.out.1.sh.own (fun b hb => ?_))
        have := HI.out.1.far b hb
        rw [heap_set_other (by omega), heap_set_other (by omega), heap_set_other (by omega), heap_set_other (by omega)]
      have n1 : ¬ w.heap.size = w.heap.size + 1 := by omega
      have n2 : ¬ w.heap.size + 1 = w.heap.size := by omega
      generalize upI s.sz s.al = up at *
      cases htg : s.tg
      · rw [htg] at HX2
        by_cases hgt : 65536 < up
        · have q9 : decide (65536 < up) = true := by simpa using hgt
          rw [q9] at HX2
          obtain ⟨⟨rfl, rfl, rfl⟩, rfl⟩ : ([] = px ∧ (0 : Int) = xs ∧ (0 : Int) = xa) ∧ (2 : Int) = err := by simpa using HX2.out
          clear HX2 HOW
          go_wp2_with fail
          refine (HU.out _).mono ?_
          rintro e w1 ⟨rfl, hw⟩
          replace hw := hw.symm
          subst hw
          go_wp2
          exact end_L (.slice none 0 0) (by simp [results, Tryd.results41, go_sem, *]) rfl (PlsAt.nil _) (bel_set (bel_set (bel_set (bel_set HI.out.1.bel (by simp) _) (by simp) _) (by simp) _) (by simp) _)
        · have q9 : decide (65536 < up) = false := by simpa using hgt
          rw [q9] at HX2
          obtain ⟨⟨rfl, rfl, rfl⟩, rfl⟩ : (s.pls = px ∧ up = xs ∧ s.al = xa) ∧ (0 : Int) = err := by simpa using HX2.out
          clear HX2
          go_wp2_with fail
          refine (HU.out _).mono ?_
          rintro e w1 ⟨rfl, hw⟩
          replace hw := hw.symm
          subst hw
          go_wp2
          exact end_L (Value.slice a s.pls.length c) (by simp [results, Tryd.results41, go_sem, *]) rfl (HOW.out _ _ _ _) (bel_set (bel_set (bel_set (bel_set HI.out.1.bel (by simp) _) (by simp) _) (by simp) _) (by simp) _) (fun b hb => by have h1 := HI.out.1.far b hb; have h2 := (row_lt HI.out.1.sh.own hb).1; refine ⟨by omega, ?_⟩; simp only [size_set]; exact h2)
      · rw [htg] at HX2
        obtain ⟨⟨rfl, rfl, rfl⟩, rfl⟩ : ([] = px ∧ (0 : Int) = xs ∧ (0 : Int) = xa) ∧ (2 : Int) = err := by simpa using HX2.out
        clear HX2 HOW
        go_wp2_with fail
        refine (HU.out _).mono ?_
        rintro e w1 ⟨rfl, hw⟩
        replace hw := hw.symm
        subst hw
        go_wp2
        exact end_L (.slice none 0 0) (by simp [results, Tryd.results41, go_sem, *]) rfl (PlsAt.nil _) (bel_set (bel_set (bel_set (bel_set HI.out.1.bel (by simp) _) (by simp) _) (by simp) _) (by simp) _)

end Go.Proofs.YtpedfnfangaelaaDoor
