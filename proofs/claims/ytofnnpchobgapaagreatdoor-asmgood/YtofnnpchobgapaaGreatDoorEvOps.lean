/- A part of a machine of our own for closed calls, and of the proof that it says what the runs do. -/
import Derived.Test.YtofnnpchobgapaaGreatDoorEvRel
import Derived.Laws.IdiomStrings
import Derived.Laws.Runes
set_option linter.unusedSimpArgs false
set_option linter.unusedVariables false
namespace Go.Ev
open Go Go.RowKit
section
variable {P : Program} {B : World} {σ : Sg} {h : H} {w : World}

theorem cell_at {w : World} {r : Nat} {C : Array Value} {e : TypeId} {fz : Nat × Nat} (hw : w.heap[r]? = some (.cells C e fz)) (i : Nat) : w.cell? ⟨r, i, none⟩ = C[i]? := by
  unfold World.cell?
  simp [hw]

/-- The cells of a range. -/
theorem HR.range (k : HR P B σ h w) {b o n r δ x : Nat} {l : List Value} (hb : σ b = some (r, δ, x)) (hl : h.range ⟨b, o, none⟩ n = some l) : ∃ l', w.rangeAt r (δ + o) l' ∧ VRs σ l l' ∧ l'.length = n := by
  have key : ∀ (cs : List Value) (C : Array Value) (e : TypeId) (fz : Nat × Nat), w.heap[r]? = some (.cells C e fz) → (∀ (i : Nat) v, cs[i]? = some v → ∃ v', C[δ + i]? = some v' ∧ VR σ v v') → rangex cs o n = some l → ∃ l', w.rangeAt r (δ + o) l' ∧ VRs σ l l' ∧ l'.length = n := by
    intro cs C e fz hw hc hr
    obtain ⟨e1, hn⟩ := rangex_some hr
    have hget : ∀ i, i < n → ∃ v v', l[i]? = some v ∧ C[δ + o + i]? = some v' ∧ VR σ v v' := by
      intro i hi
      have hli : l[i]? = some l[i] := List.getElem?_eq_getElem (by omega)
      have h1 : cs[o + i]? = some l[i] := by
        have : l[i]? = cs[o + i]? := by rw [e1, List.getElem?_take, if_pos hi, List.getElem?_drop]
        rw [← this]; exact hli
      obtain ⟨v', h2, h3⟩ := hc (o + i) _ h1
      exact ⟨l[i], v', hli, by rw [← Nat.add_assoc] at h2; exact h2, h3⟩
    have hlen : ((C.toList.drop (δ + o)).take n).length = n := by
      by_cases hz : n = 0
      · subst hz; simp
      · obtain ⟨v, v', _, h2, _⟩ := hget (n - 1) (by omega)
        have := (Array.getElem?_eq_some_iff.1 h2).1
        simp
        omega
    have hat : ∀ i, i < n → ((C.toList.drop (δ + o)).take n)[i]? = C[δ + o + i]? := by
      intro i hi
      rw [List.getElem?_take, if_pos hi, List.getElem?_drop, Array.getElem?_toList]
    refine ⟨(C.toList.drop (δ + o)).take n, fun j v hv => ?_, ⟨by rw [hlen, hn], fun i u u' x y => ?_⟩, hlen⟩
    · have hj : j < n := by
        have := (List.getElem?_eq_some_iff.1 hv).1
        omega
      rw [cell_at hw, ← hat j hj]
      exact hv
    · have hi : i < n := by
        have := (List.getElem?_eq_some_iff.1 x).1
        omega
      obtain ⟨v, v', h1, h2, h3⟩ := hget i hi
      rw [hat i hi, h2] at y
      rw [h1] at x
      cases x; cases y
      exact h3
  unfold H.range at hl
  simp only at hl
  split at hl
  · rename_i cs e _ ho
    obtain ⟨r', δ', x', e1, C, h1, _, h3⟩ := k.obj b _ ho rfl
    rw [hb] at e1
    cases e1
    exact key cs C e _ h1 h3 hl
  · rename_i cs _ ho
    obtain ⟨r', δ', x', e1, C, e, fz, h1, h3⟩ := k.obj b _ ho rfl
    rw [hb] at e1
    cases e1
    exact key cs C e fz h1 h3 hl
  · simp at hl

theorem loadx_run (k : HR P B σ h w) {t : TypeId} {b o r δ x : Nat} {v : Value} (hb : σ b = some (r, δ, x)) (hv : loadx P h t ⟨b, o, none⟩ = some v) : ∃ v', (loadVar t ⟨r, δ + o, none⟩).run P w = .ok v' w ∧ VR σ v v' := by
  unfold loadx at hv
  cases ha : aggx P t with
  | none => rw [ha] at hv; simp at hv
  | some q =>
    rw [ha] at hv
    cases q with
    | true =>
      cases hs : szx P t with
      | none => rw [hs] at hv; simp at hv
      | some n =>
        rw [hs] at hv
        obtain ⟨l, hl, rfl⟩ := Option.map_eq_some_iff.1 hv
        obtain ⟨l', h1, h2, h3⟩ := k.range hb hl
        refine ⟨.agg ⟨l'⟩, ?_, .agg h2.1 h2.2⟩
        have hd : ∃ d, undx P t = some d ∧ d.isRow = true := by
          unfold aggx at ha
          cases hd : undx P t with
          | none => rw [hd] at ha; simp at ha
          | some d => rw [hd] at ha; exact ⟨d, rfl, by cases d <;> simp_all⟩
        obtain ⟨d, hd1, hd2⟩ := hd
        exact run_loadVar_mid w r (δ + o) t l' d h1 (undx_some hd1) hd2 (by rw [h3]; exact szx_info hs)
    | false =>
      simp only at hv
      unfold cell1 at hv
      split at hv
      · rename_i u hl
        simp only [Option.some.injEq] at hv
        subst hv
        obtain ⟨l', h1, h2, h3⟩ := k.range hb hl
        obtain ⟨u', hu, hvr⟩ := h2.at (i := 0) (v := u) rfl
        have hc := h1 0 u' hu
        simp only [Nat.add_zero] at hc
        refine ⟨u', ?_, hvr⟩
        unfold loadVar
        simp only [Sem.run_bind, aggx_run ha, Result.andThen_ok]
        simp [hc]
      · simp at hv

theorem loadL_run (k : HR P B σ h w) {t : TypeId} {a a' v : Value} (ha : VR σ a a') (hv : loadL P h t a = some v) : ∃ v', (Instr.loadAt t a').run P w = .ok v' w ∧ VR σ v v' := by
  unfold loadL at hv
  cases ha <;> (try (simp at hv; done))
  rename_i e
  obtain ⟨v', h1, h2⟩ := loadx_run k e hv
  exact ⟨v', by simp [Instr.loadAt, Instr.sureAddr, h1], h2⟩

theorem sameK_now {d : TypeDesc} {k e : Value} {b : Bool} (h : sameK (some d) k e = some b) : Instr.sameNow d k e = some b := by
  unfold sameK at h
  cases d <;> (try (simp at h; done)) <;> cases k <;> (try (simp at h; done)) <;> cases e <;> (try (simp at h; done))
  · simp at h; subst h; rfl
  · exact h
  · simp only [Option.some.injEq] at h; subst h; simp [Instr.sameNow, bytesEq_eq, bytes_beq]

theorem findx_run {d : TypeDesc} {k : Value} : ∀ {es es' : List MapEntry} {r : Option Value} (n : Nat), MR σ es es' → findx (some d) k es = some r →
    ∃ q, Instr.findNow d k es' n = some q ∧ ((r = none ∧ q = none) ∨ ∃ v i v', r = some v ∧ q = some (i, v') ∧ VR σ v v')
  | [], es', r, n, hm, h => by
    have : es' = [] := List.length_eq_zero_iff.1 (by simpa using hm.1.symm)
    subst this
    simp [findx] at h
    subst h
    exact ⟨none, rfl, .inl ⟨rfl, rfl⟩⟩
  | e :: es, [], r, n, hm, h => by have := hm.1; simp at this
  | e :: es, e' :: es', r, n, hm, h => by
    obtain ⟨h1, h2, h3, h4⟩ := hm.2 0 e e' rfl rfl
    simp only [findx] at h
    cases hs : sameK (some d) k e.key with
    | none => rw [hs] at h; simp at h
    | some b =>
      rw [hs] at h
      have hs' := sameK_now hs
      simp only [Instr.findNow, h1, hs']
      cases b with
      | true => simp at h; subst h; exact ⟨_, rfl, .inr ⟨e.val, n, e'.val, rfl, rfl, h4⟩⟩
      | false => exact findx_run (n + 1) ⟨by simpa using hm.1, fun i a b x y => hm.2 (i + 1) a b (by simpa using x) (by simpa using y)⟩ h

theorem checkKey_run {empty : Bool} {key : TypeId} {k : Value} (n : Nat) (h : keyOk (undx P key) k = true) (w : World) : (Instr.checkKey empty (n + 1) key k).run P w = .ok () w ∧ ∃ d, undx P key = some d := by
  unfold keyOk at h
  cases hd : undx P key with
  | none => rw [hd] at h; simp at h
  | some d =>
    rw [hd] at h
    refine ⟨?_, d, rfl⟩
    unfold Instr.checkKey
    simp only [Sem.run_bind, run_und hd, Result.andThen_ok]
    cases d <;> (try (simp at h; done)) <;> cases k <;> (try (simp at h; done)) <;> rfl

theorem keyL_run {empty : Bool} {cs : Array Value} (hp : cs.toList.all plain1 = true) (w : World) : ∀ (l : List Field), keyFs P cs.toList l = true →
    (forIn l PUnit.unit fun (f : Field) (_ : PUnit) =>
            if f.name ≠ "_" then do
              let x ← part f.type cs f.offset
              Instr.checkKey empty 9999 f.type x
              pure (ForInStep.yield PUnit.unit)
            else (pure (ForInStep.yield PUnit.unit) : Sem (ForInStep PUnit))).run P w = .ok PUnit.unit w
  | [], _ => by simp
  | f :: l, h => by
    unfold keyFs at h
    split at h
    · rename_i v hv
      simp only [Bool.and_eq_true] at h
      have ih := keyL_run (empty := empty) hp w l h.2
      obtain ⟨v', hy, hvr⟩ := partx_run (σ := fun _ => none) (VRs.plains hp) hv
      have hpart : (part f.type cs f.offset).run P w = .ok v' w := hy w
      have hpl : plain1 v = true := by
        have hk := h.1
        unfold keyOk at hk
        split at hk <;> first | rfl | (cases hk)
      have e : v' = v := hvr.one (VR.plain1 hpl)
      subst e
      rw [List.forIn_cons]
      by_cases hn : f.name = "_"
      · simp only [hn, ne_eq, not_true_eq_false, if_false, Sem.run_bind, Sem.run_pure, Result.andThen_ok]
        exact ih
      · simp only [ne_eq, hn, not_false_eq_true, if_true, Sem.run_bind, hpart, Result.andThen_ok, (checkKey_run (empty := empty) 9998 h.1 w).1, Sem.run_pure]
        exact ih
    · cases h

theorem keyIn_run {empty : Bool} {key : TypeId} {k : Value} (h : keyIn P key k = true) (w : World) : (Instr.checkKey empty 10000 key k).run P w = .ok () w ∧ ∃ d, undx P key = some d := by
  unfold keyIn at h
  split at h
  · rename_i fs hd
    refine ⟨?_, _, hd⟩
    unfold keyAgg at h
    split at h
    · rename_i cs
      simp only [Bool.and_eq_true] at h
      rw [show (10000 : Nat) = 9999 + 1 from rfl]
      unfold Instr.checkKey
      simp only [Sem.run_bind, run_und hd, Result.andThen_ok]
      rw [← Array.forIn_toList, keyL_run h.1 w _ h.2]
      simp
    · cases h
  · exact checkKey_run 9999 h w

theorem VR.key {key : TypeId} {k k' : Value} (hk : VR σ k k') (h : keyIn P key k = true) : k' = k ∧ Ev.plain k = true := by
  have hp : Ev.plain k = true := by
    unfold keyIn at h
    split at h
    · unfold keyAgg at h
      split at h
      · simp only [Bool.and_eq_true] at h; exact h.1
      · cases h
    · unfold keyOk at h
      split at h <;> first | rfl | (cases h)
  exact ⟨hk.one (VR.plain hp), hp⟩

theorem eqA_run {key : TypeId} {fs : Array Field} {k e : Value} {b : Bool} (hd : undx P key = some (.struct fs)) (hk : Ev.plain k = true) (he : Ev.plain e = true) (h : eqA P key fs.toList k e = some b) (w : World) : (Op.equal key k e).run P w = .ok b w ∧ (∀ x, Instr.sameNow (.struct fs) k x = none) := by
  unfold eqA at h
  split at h
  · rename_i a c
    cases hc : (!P.stoodInHeld key && fs.toList.all (fun f => f.name != "_")) with
    | false => rw [hc] at h; simp at h
    | true =>
      rw [hc] at h
      simp only [cond_true] at h
      simp only [Bool.and_eq_true, Bool.not_eq_true'] at hc
      obtain ⟨a⟩ := a
      obtain ⟨c⟩ := c
      exact ⟨eqS_run (σ := fun _ => none) hd (VRs.plains hk) (VRs.plains he) hc.1 hc.2 h w, fun x => rfl⟩
  · cases h

theorem findS_run {key : TypeId} {fs : Array Field} {k : Value} (hd : undx P key = some (.struct fs)) (hk : Ev.plain k = true) (w : World) : ∀ {es es' : List MapEntry} {r : Option Value} (n : Nat), MR σ es es' → findS P key fs.toList k es = some r →
    ∃ q, (Instr.findAsking key k es' n).run P w = .ok q w ∧ ((r = none ∧ q = none) ∨ ∃ v i v', r = some v ∧ q = some (i, v') ∧ VR σ v v')
  | [], es', r, n, hm, h => by
    have : es' = [] := List.length_eq_zero_iff.1 (by simpa using hm.1.symm)
    subst this
    simp [findS] at h
    subst h
    exact ⟨none, rfl, .inl ⟨rfl, rfl⟩⟩
  | e :: es, [], r, n, hm, h => by have := hm.1; simp at this
  | e :: es, e' :: es', r, n, hm, h => by
    obtain ⟨h1, h2, h3, h4⟩ := hm.2 0 e e' rfl rfl
    simp only [findS] at h
    cases hs : eqA P key fs.toList k e.key with
    | none => rw [hs] at h; simp at h
    | some b =>
      rw [hs] at h
      have hs' := (eqA_run hd hk h2 hs w).1
      cases b with
      | true =>
        simp at h; subst h
        exact ⟨_, by simp only [Instr.findAsking, h1, Sem.run_bind, hs', Result.andThen_ok, if_true, Sem.run_pure], .inr ⟨e.val, n, e'.val, rfl, rfl, h4⟩⟩
      | false =>
        obtain ⟨q, q1, q2⟩ := findS_run hd hk w (n + 1) ⟨by simpa using hm.1, fun i a b x y => hm.2 (i + 1) a b (by simpa using x) (by simpa using y)⟩ h
        exact ⟨q, by simp only [Instr.findAsking, h1, Sem.run_bind, hs', Result.andThen_ok, Bool.false_eq_true, if_false]; exact q1, q2⟩

/-- A key is found, or not. -/
theorem findK_run {key : TypeId} {k : Value} (hp : Ev.plain k = true) (w : World) {es es' : List MapEntry} {r : Option Value} (hm : MR σ es es') (h : findK P key k es = some r) {d : TypeDesc} (hd : undx P key = some d) :
    ∃ q, (Instr.findKey key k es').run P w = .ok q w ∧ ((r = none ∧ q = none) ∨ ∃ v i v', r = some v ∧ q = some (i, v') ∧ VR σ v v') := by
  unfold findK at h
  split at h
  · rename_i fs hs
    obtain ⟨q, q1, q2⟩ := findS_run hs hp w 0 hm h
    refine ⟨q, ?_, q2⟩
    cases es' with
    | nil => simp only [Instr.findKey, Sem.run_bind, run_und hs, Result.andThen_ok, Instr.findNow, Sem.run_pure]; exact q1
    | cons e' es' =>
      cases es with
      | nil => have := hm.1; simp at this
      | cons e es =>
        simp only [findS] at h
        cases hq : eqA P key fs.toList k e.key with
        | none => rw [hq] at h; simp at h
        | some b =>
          have hn := (eqA_run hs hp (hm.2 0 e e' rfl rfl).2.1 hq w).2 e'.key
          simp only [Instr.findKey, Sem.run_bind, run_und hs, Result.andThen_ok, Instr.findNow, hn]
          exact q1
  · rw [hd] at h
    obtain ⟨q, hq, hc⟩ := findx_run (d := d) 0 hm h
    exact ⟨q, by simp only [Instr.findKey, Sem.run_bind, run_und hd, Result.andThen_ok, hq, Sem.run_pure], hc⟩

theorem lookupx_run (K : HR P B σ h w) {t : TypeId} {m m' k k' v : Value} {ok : Bool} (hm : VR σ m m') (hk : VR σ k k') (hv : lookupx P h t m k ok = some v) : ∃ v', (Instr.lookup t m' k' ok).run P w = .ok v' w ∧ VR σ v v' := by
  unfold lookupx at hv
  cases hd : undx P t with
  | none => rw [hd] at hv; simp at hv
  | some d =>
    rw [hd] at hv
    cases d <;> (try (simp at hv; done))
    rename_i key elem
    simp only at hv
    cases hko : keyIn P key k with
    | false => rw [hko] at hv; simp at hv
    | true =>
      rw [hko] at hv
      simp only [cond_true] at hv
      obtain ⟨es, he, hv⟩ := Option.bind_eq_some_iff.1 hv
      obtain ⟨r, hr, hv⟩ := Option.bind_eq_some_iff.1 hv
      obtain ⟨p, hp, rfl⟩ := Option.map_eq_some_iff.1 hv
      obtain ⟨rfl, hkp⟩ := hk.key hko
      have hes : ∃ es' : Array MapEntry, MR σ es es'.toList ∧ ((m' = .map none ∧ es' = #[]) ∨ ∃ r c, m' = .map (some r) ∧ (getObj r).run P w = .ok (.map es' c) w) := by
        unfold entriesx at he
        cases hm <;> (try (simp at he; done))
        · simp at he
          subst he
          exact ⟨#[], ⟨rfl, fun i a b x => by simp at x⟩, .inl ⟨rfl, rfl⟩⟩
        · rename_i b r δ x e
          simp only at he
          split at he
          · rename_i es2 c ho
            simp only [Option.some.injEq] at he
            subst he
            obtain ⟨r', δ', x', e1, es', h1, h2⟩ := K.obj b _ ho rfl
            rw [e] at e1
            cases e1
            exact ⟨es', h2, .inr ⟨r, c, rfl, by simp [getObj, Sem.run, h1]⟩⟩
          · simp at he
      obtain ⟨es', hmr, hcs⟩ := hes
      obtain ⟨hck, dk, hdk⟩ := keyIn_run (empty := es'.isEmpty) hko w
      obtain ⟨q, hq, hcase⟩ := findK_run hkp w hmr hr hdk
      have hfin : ∃ v', (do
            Instr.checkKey es'.isEmpty 10000 key k'
            let (v, ok2) ← match ← Instr.findKey key k' es'.toList with
              | some (_, v) => pure (v, true)
              | none => pure (← zeroValue elem, false)
            pure (if ok then .tuple #[v, .bool ok2] else v) : Sem Value).run P w = .ok v' w ∧ VR σ (cond ok (.tuple #[p.1, .bool p.2]) p.1) v' := by
        simp only [Sem.run_bind, Result.andThen_ok, hck, hq]
        rcases hcase with ⟨rfl, rfl⟩ | ⟨u, i, u', rfl, rfl, hu⟩
        · simp only [foundx] at hp
          obtain ⟨z, hz, rfl⟩ := Option.map_eq_some_iff.1 hp
          obtain ⟨_, _, _, hpl⟩ := zerox_some hz
          have hzz : VR σ z z := VR.plain hpl
          simp only [Sem.run_bind, zerox_run hz, Result.andThen_ok, Sem.run_pure]
          cases ok
          · exact ⟨z, rfl, hzz⟩
          · exact ⟨_, rfl, .tuple rfl (VRs.cons hzz (VRs.cons (.bool false) (VRs.nil σ))).2⟩
        · simp only [foundx, Option.some.injEq] at hp
          subst hp
          simp only [Sem.run_bind, Sem.run_pure, Result.andThen_ok]
          cases ok
          · exact ⟨u', rfl, hu⟩
          · exact ⟨_, rfl, .tuple rfl (VRs.cons hu (VRs.cons (.bool true) (VRs.nil σ))).2⟩
      obtain ⟨v', hf1, hf2⟩ := hfin
      refine ⟨v', ?_, hf2⟩
      rw [← hf1]
      unfold Instr.lookup
      rcases hcs with ⟨rfl, rfl⟩ | ⟨r2, c, rfl, hg⟩
      · simp only [Sem.run_bind, run_und hd, Result.andThen_ok, Sem.run_pure]
        rfl
      · simp only [Sem.run_bind, run_und hd, Result.andThen_ok, hg, Sem.run_pure]
        rfl

theorem lenM_run (K : HR P B σ h w) {ty ty2 : TypeId} {ts : Array TypeId} {x x' v : Value} (hx : VR σ x x') (hts : ts.toList = [ty]) (hv : lenM P h ty x = some v) : (Builtin.len_ ts ty2 #[x']).run P w = .ok v w ∧ VR σ v v := by
  have hts' : ts[0]? = some ty := by rw [← Array.getElem?_toList, hts]; rfl
  unfold lenM at hv
  cases hx <;> (try (simp at hv; done))
  rename_i b r δ x e
  simp only at hv
  split at hv
  · rename_i k2 e2 es c hd ho
    simp only [Option.some.injEq] at hv
    subst hv
    obtain ⟨r', δ', x', e1, es', h1, h2⟩ := K.obj b _ ho rfl
    rw [e] at e1
    cases e1
    have hg : (getObj r).run P w = .ok (.map es' c) w := by simp [getObj, Sem.run, h1]
    refine ⟨?_, .int _ _⟩
    have hl := h2.1
    simp only [Array.length_toList] at hl
    simp [Builtin.len_, hts', run_und hd, hg, goInt, hl]
  · simp at hv

theorem bytesT_some : ∀ {l : List Value} {s : List UInt8}, bytesT l = some s → s.length = l.length ∧ ∀ (j : Nat) x, s[j]? = some x → l[j]? = some (.int .u8 x.toNat)
  | [], s, h => by simp [bytesT] at h; subst h; simp
  | v :: l, s, h => by
    unfold bytesT at h
    split at h
    · rename_i h1; cases h1
    · rename_i n t h1
      cases h1
      cases hb : Nat.blt n 256 with
      | false => rw [hb] at h; simp at h
      | true =>
        rw [hb] at h
        simp only [cond_true] at h
        obtain ⟨r, hr, rfl⟩ := Option.map_eq_some_iff.1 h
        obtain ⟨i1, i2⟩ := bytesT_some hr
        have hn : n < 256 := Nat.le_of_ble_eq_true hb
        refine ⟨by simp [i1], fun j x hx => ?_⟩
        cases j with
        | zero =>
          simp only [List.getElem?_cons_zero, Option.some.injEq] at hx ⊢
          subst hx
          simp [Nat.mod_eq_of_lt hn]
        | succ j => exact i2 j x (by simpa using hx)
    · cases h


theorem strL_run (k : HR P B σ h w) {a b : TypeId} {x x' v : Value} (hx : VR σ x x') (hv : strL P h a b x = some v) : ∃ v', (convert a b x').run P w = .ok v' w ∧ VR σ v v' := by
  unfold strL at hv
  split at hv
  · rename_i ad n c
    split at hv
    · rename_i e ha hb
      unfold strE at hv
      split at hv
      · rename_i he
        cases hl : h.range ad n with
        | none => rw [hl] at hv; simp at hv
        | some l =>
          rw [hl] at hv
          cases hs : bytesT l with
          | none => rw [Option.bind_some, hs] at hv; simp at hv
          | some s =>
            rw [Option.bind_some, hs] at hv
            simp only [Option.map_some, Option.some.injEq] at hv
            subst hv
            obtain ⟨b1, b2⟩ := bytesT_some hs
            have fin : ∀ {r δ y o q c' : Nat}, ad = ⟨q, o, none⟩ → σ q = some (r, δ, y) → ∃ v', (convert a b (.slice (some ⟨r, δ + o, none⟩) n c')).run P w = .ok v' w ∧ VR σ (.string ⟨⟨s⟩⟩) v' := by
              intro r δ y o q c' ead hq
              subst ead
              obtain ⟨l', h1, h2, h3⟩ := k.range hq hl
              have hn : s.length = n := by rw [b1, h2.1, h3]
              subst hn
              refine ⟨_, Go.run_convert_bytes_back w a b e ⟨r, δ + o, none⟩ c' s (undx_some ha) (undx_some he) (undx_some hb) (fun j hj => ?_), .str _⟩
              have hsj := b2 j s[j] (List.getElem?_eq_getElem hj)
              obtain ⟨v', e1, e2⟩ := h2.at hsj
              cases e2
              have := h1 j _ e1
              rw [show (⟨r, δ + o, none⟩ : Addr).add j = ⟨r, δ + o + j, none⟩ from Addr.add_mid _ _ _]
              exact this
            cases hx with
            | slX hq _ => exact fin rfl hq
            | slO hq _ => exact fin rfl hq
      · simp at hv
    · simp at hv
  · simp at hv
theorem opL_run (K : HR P B σ h w) {o : Oper} {t : Tm} {ρ : Operand → Value} {v : Value} (hρ : ∀ x ∈ o.op.operands, VR σ (evx t x) (ρ x)) (hv : opL P t h o.op = some v) : ∃ v', (execOp ρ o).run P w = .ok (.value v') w ∧ VR σ v v' := by
  cases ho : o.op with
  | load ty a =>
    rw [ho] at hv hρ
    obtain ⟨v', h1, h2⟩ := loadL_run K (hρ a (by simp [Op.operands])) hv
    exact ⟨v', by unfold execOp; simp only [ho]; simp [h1], h2⟩
  | lookup ty m k ok =>
    rw [ho] at hv hρ
    obtain ⟨v', h1, h2⟩ := lookupx_run K (hρ m (by simp [Op.operands])) (hρ k (by simp [Op.operands])) hv
    exact ⟨v', by unfold execOp; simp only [ho]; simp [h1], h2⟩
  | call c =>
    rw [ho] at hv hρ
    simp only [opL] at hv
    unfold callL at hv
    cases hc : c.callee with
    | value f => rw [hc] at hv; simp at hv
    | invoke r m => rw [hc] at hv; simp at hv
    | builtin b =>
      rw [hc] at hv
      simp only at hv
      cases b <;> (try (simp at hv; done))
      simp only at hv
      have hargs : VRs σ (c.args.toList.map (evx t)) (c.args.toList.map ρ) := VRs.map_ev fun x hx => hρ x (by simp only [Op.operands, Call.operands]; exact Array.mem_append.2 (.inr (by simpa using hx)))
      generalize hl : c.args.toList.map (evx t) = xs at hv hargs
      have hmap : c.args.map ρ = ⟨c.args.toList.map ρ⟩ := by apply Array.ext'; simp
      generalize hl' : c.args.toList.map ρ = xs' at hargs hmap
      unfold lenCM at hv
      split at hv
      · rename_i ty x ht
        obtain ⟨x', rfl⟩ : ∃ x', xs' = [x'] := by
          have := hargs.1
          match xs', this with
          | [x'], _ => exact ⟨x', rfl⟩
        obtain ⟨h1, h2⟩ := lenM_run (ty2 := o.type) K hargs.head ht hv
        refine ⟨v, ?_, h2⟩
        unfold execOp
        simp only [ho, resolve, hc, hmap]
        simp only [Sem.run_bind, Sem.run_pure, Result.andThen_ok, invoke, builtin]
        simp [h1]
      · simp at hv
  | convert a b x =>
    rw [ho] at hv hρ
    obtain ⟨v', h1, h2⟩ := strL_run K (hρ x (by simp [Op.operands])) hv
    exact ⟨v', by unfold execOp; simp only [ho]; simp [h1], h2⟩
  | _ => rw [ho] at hv; simp [opL] at hv

end
end Go.Ev
namespace Go.Ev
open Go Go.RowKit
section
variable {P : Program} {σ : Sg}

def valR (r : Nat) : Ak → Value
  | .ptr => .pointer (some ⟨r, 0, none⟩)
  | .sl l c => .slice (some ⟨r, 0, none⟩) l c
  | .mp => .map (some r)

theorem rep_len (z : List Value) : ∀ n, (rep z n).length = n * z.length
  | 0 => by simp [rep]
  | n + 1 => by simp only [rep, List.length_append, rep_len z n]; rw [Nat.succ_mul]; omega
theorem rep_get (z : List Value) : ∀ (n i : Nat), i < n * z.length → (rep z n)[i]? = z[i % z.length]?
  | 0, i, h => by simp at h
  | n + 1, i, h => by
    simp only [rep]
    by_cases hi : i < z.length
    · rw [List.getElem?_append_left hi, Nat.mod_eq_of_lt hi]
    · rw [List.getElem?_append_right (by omega), rep_get z n (i - z.length) (by rw [Nat.succ_mul] at h; omega)]
      congr 1
      have : i = (i - z.length) + z.length := by omega
      conv => rhs; rw [this, Nat.add_mod_right]
theorem rep_eq (z : Array Value) (n s : Nat) (hz : z.size = s) : ((Array.range (n * s)).map fun i => z[i % z.size]!) = ⟨rep z.toList n⟩ := by
  apply Array.ext'
  apply List.ext_getElem?
  intro i
  have hl : (rep z.toList n).length = n * s := by rw [rep_len]; simp [hz]
  by_cases hi : i < n * s
  · rw [rep_get z.toList n i (by simpa [hz] using hi)]
    have hs : 0 < s := by
      rcases Nat.eq_zero_or_pos s with h | h
      · subst h; simp at hi
      · exact h
    have hlt : i % z.size < z.size := Nat.mod_lt _ (by omega)
    simp only [Array.toList_map, Array.toList_range, List.getElem?_map, List.getElem?_range hi, Option.map_some, Array.length_toList, Array.getElem?_toList]
    rw [Array.getElem?_eq_getElem hlt]
    simp [hlt]
  · have hl2 : ((⟨rep z.toList n⟩ : Array Value).toList).length = n * s := hl
    rw [List.getElem?_eq_none (by simp; omega), List.getElem?_eq_none (by omega)]
theorem VRs.rep {z z' : List Value} (h : VRs σ z z') : ∀ n, VRs σ (Ev.rep z n) (Ev.rep z' n)
  | 0 => .nil σ
  | n + 1 => VRs.append h (VRs.rep h n)

theorem OR_cells {cs cs' : List Value} (h : VRs σ cs cs') {τ : Sg} (hs : Sub σ τ) {w : World} {r : Nat} {e : TypeId} (hw : w.heap[r]? = some (.cells ⟨cs'⟩ e)) : OR P τ w (.cells cs e) r 0 0 :=
  ⟨⟨cs'⟩, hw, ⟨.inl rfl, fun _ => ⟨rfl, by have := h.1; simp only [List.size_toArray]; omega⟩⟩, fun i v hv => let ⟨v', h1, h2⟩ := h.at hv; ⟨v', by simpa using h1, h2.mono hs⟩⟩

theorem valA_rel {τ : Sg} {n r : Nat} {ak : Ak} (h : τ n = some (r, 0, 0)) (hl : ∀ l c, ak = .sl l c → l ≤ c) : VR τ (valA n ak) (valR r ak) := by
  cases ak with
  | ptr => have := VR.ptr (o := 0) h; simpa [valA, valR] using this
  | sl l c => have := VR.slX (o := 0) h (hl l c rfl); simpa [valA, valR] using this
  | mp => exact .map h

/-- What an operation that lays a new block does, in whatever world. -/
def Lays (P : Program) (σ : Sg) (s : Sem Next) (ob : AObj) (ak : Ak) : Prop :=
  ∃ O : Obj, (∀ w, s.run P w = .ok (.value (valR w.heap.size ak)) (w.alloc O)) ∧ (∀ τ, Sub σ τ → ∀ (w' : World) r, w'.heap[r]? = some O → OR P τ w' ob r 0 0) ∧ owned ob = true ∧ ∀ l c, ak = .sl l c → l ≤ c

theorem opA_run {o : Oper} {t : Tm} {ρ : Operand → Value} {ob : AObj} {ak : Ak} (hρ : ∀ x ∈ o.op.operands, VR σ (evx t x) (ρ x)) (h : opA P t o.op = some (ob, ak)) : Lays P σ (execOp ρ o) ob ak := by
  cases ho : o.op with
  | alloc e =>
    rw [ho] at h
    simp only [opA, allocA] at h
    obtain ⟨z, hz, h⟩ := Option.map_eq_some_iff.1 h
    cases h
    obtain ⟨_, _, _, hpl⟩ := zerox_some hz
    have hzc : VRs σ (vcells z) z.cells.toList := (VR.plain (σ := σ) hpl).cells
    refine ⟨.cells z.cells e, fun w => ?_, fun τ hs w' r hw => OR_cells hzc hs hw, rfl, fun l c x => by cases x⟩
    unfold execOp
    simp only [ho]
    simp [Instr.alloc, zerox_run hz, newVar, newRow, valR]
  | box e x =>
    rw [ho] at h hρ
    simp only [opA, boxA] at h
    cases hall : (vcells (evx t x)).all one1 with
    | false => rw [hall] at h; simp at h
    | true =>
      rw [hall] at h
      simp only [cond_true, Option.some.injEq, Prod.mk.injEq] at h
      obtain ⟨rfl, rfl⟩ := h
      have hc := (hρ x (by simp [Op.operands])).cells
      refine ⟨.cells (ρ x).cells e, fun w => ?_, fun τ hs w' r hw => OR_cells hc hs hw, rfl, fun l c x => by cases x⟩
      unfold execOp
      simp only [ho]
      simp [Instr.box, newVar, newRow, valR]
  | buildSlice ty n ps =>
    rw [ho] at h hρ
    simp only [opA, buildSliceA] at h
    cases hd : undx P ty with
    | none => rw [hd] at h; simp at h
    | some d =>
      rw [hd] at h
      cases d <;> (try (simp at h; done))
      rename_i e
      simp only [buildA] at h
      obtain ⟨s, hs, h⟩ := Option.bind_eq_some_iff.1 h
      obtain ⟨z, hz, h⟩ := Option.bind_eq_some_iff.1 h
      cases hc : (Nat.ble (n * s) 100000 && Nat.beq (vcells z).length s && ((partsx t ps.toList).all fun p => (vcells p.2).all one1) && (vcells z).all one1) with
      | false => rw [hc] at h; simp at h
      | true =>
        rw [hc] at h
        simp only [cond_true] at h
        obtain ⟨cs, hf, h⟩ := Option.map_eq_some_iff.1 h
        simp only [Prod.mk.injEq] at h
        obtain ⟨rfl, rfl⟩ := h
        simp only [Bool.and_eq_true] at hc
        obtain ⟨⟨⟨c1, c2⟩, c3⟩, c4⟩ := hc
        obtain ⟨_, _, _, hpl⟩ := zerox_some hz
        have hzc : VRs σ (vcells z) z.cells.toList := (VR.plain (σ := σ) hpl).cells
        have hzs : z.cells.size = s := by have := hzc.1; have := Nat.eq_of_beq_eq_true c2; simp only [Array.length_toList] at *; omega
        have hp : PRs σ (partsx t ps.toList) (ps.toList.map fun (i, x) => (i, ρ x)) := PRs.parts fun p hp => hρ p.2 (by simp only [Op.operands]; exact List.mem_toArray.2 (List.mem_map_of_mem hp))
        have ep : (ps.map fun (i, x) => (i, ρ x)) = ⟨ps.toList.map fun (i, x) => (i, ρ x)⟩ := by apply Array.ext'; simp
        obtain ⟨r', h1, h2⟩ := fillx_run (hzc.rep n) hp hf
        refine ⟨.cells ⟨r'⟩ e, fun w => ?_, fun τ hs w' r hw => OR_cells h2 hs hw, rfl, fun l c x => by cases x; exact Nat.le_refl _⟩
        have hle : ¬ (n * s > 2 ^ 24) := by have := Nat.le_of_ble_eq_true c1; omega
        unfold execOp
        simp only [ho, ep]
        simp only [Instr.buildSlice, Sem.run_bind, run_und hd, Result.andThen_ok, run_sz hs, if_neg hle, Sem.run_pure]
        by_cases hz0 : n * s = 0
        · have e0 : (Array.range (n * s)).map (fun _ => (default : Value)) = ⟨rep z.cells.toList n⟩ := by
            have : (rep z.cells.toList n) = [] := List.length_eq_zero_iff.1 (by rw [rep_len]; simp [hzs, hz0])
            rw [hz0, this]; simp
          simp [newRow, valR, hz0]
          rw [← hz0, e0, h1]
          simp
        · simp [newRow, valR, hz0, zerox_run hz]
          have e1 := rep_eq z.cells n s hzs
          rw [e1, h1]
          simp
  | makeSlice ty l c =>
    rw [ho] at h hρ
    simp only [opA, makeSliceA] at h
    have hl := hρ l (by simp [Op.operands])
    have hcp := hρ c (by simp [Op.operands])
    generalize evx t l = lv at h hl
    generalize evx t c = cv at h hcp
    split at h
    · rename_i l1 c1
      cases hd : undx P ty with
      | none => rw [hd] at h; simp at h
      | some d =>
        rw [hd] at h
        cases d <;> (try (simp at h; done))
        rename_i e
        simp only [makeA] at h
        obtain ⟨z, hz, h⟩ := Option.bind_eq_some_iff.1 h
        obtain ⟨i, hi, h⟩ := Option.bind_eq_some_iff.1 h
        cases hc : (Nat.ble l1 c1 && Nat.ble c1 100000 && Nat.ble i.bytes 10000 && Nat.beq (vcells z).length i.size && (vcells z).all one1) with
        | false => rw [hc] at h; simp at h
        | true =>
          rw [hc] at h
          simp only [cond_true, Option.some.injEq, Prod.mk.injEq] at h
          obtain ⟨rfl, rfl⟩ := h
          simp only [Bool.and_eq_true] at hc
          obtain ⟨⟨⟨⟨q1, q2⟩, q3⟩, q4⟩, q5⟩ := hc
          have b1 := Nat.le_of_ble_eq_true q1
          have b2 := Nat.le_of_ble_eq_true q2
          have b3 := Nat.le_of_ble_eq_true q3
          obtain ⟨_, _, _, hpl⟩ := zerox_some hz
          have hzc : VRs σ (vcells z) z.cells.toList := (VR.plain (σ := σ) hpl).cells
          have hzs : z.cells.size = i.size := by have := hzc.1; have := Nat.eq_of_beq_eq_true q4; simp only [Array.length_toList] at *; omega
          refine ⟨.cells ⟨rep z.cells.toList c1⟩ e, fun w => ?_, fun τ hs w' r hw => OR_cells (hzc.rep c1) hs hw, rfl, fun l c x => by cases x; exact b1⟩
          have hI := infx_some hi
          have hti : (typeInfo e).run P w = .ok i w := by simp [typeInfo, hI]
          have hsz : (sizeOf e).run P w = .ok i.size w := by simp [sizeOf, typeInfo, hI]
          have wr : ∀ n : Nat, n ≤ 100000 → IntKind.i64.wrap (Int.ofNat n) = Int.ofNat n := fun n hn => wrap_small _ (by simp) (by simp; omega)
          have hw1 := wr l1 (by omega)
          have hw2 := wr c1 (by omega)
          have hbig : ¬ ((i.bytes : Int) * Int.ofNat c1 > 2 ^ 48) := by
            have h1 : i.bytes * c1 ≤ 10000 * 100000 := Nat.mul_le_mul b3 b2
            have : ((i.bytes : Int) * Int.ofNat c1) = ((i.bytes * c1 : Nat) : Int) := by simp
            rw [this]; omega
          have hcond : (decide (Int.ofNat c1 < 0) || decide ((i.bytes : Int) * Int.ofNat c1 > 2 ^ 48) || decide (Int.ofNat l1 < 0) || decide (Int.ofNat l1 > Int.ofNat c1)) = false := by
            have e1 : decide (Int.ofNat c1 < 0) = false := by simp
            have e2 : decide (Int.ofNat l1 < 0) = false := by simp
            have e3 : decide (Int.ofNat l1 > Int.ofNat c1) = false := by simp; omega
            rw [e1, e2, e3]; simpa using hbig
          unfold execOp
          simp only [ho]
          cases hlr : ρ l <;> rw [hlr] at hl <;> cases hl
          cases hcr : ρ c <;> rw [hcr] at hcp <;> cases hcp
          simp only [Instr.makeSlice, Sem.run_bind, run_und hd, Result.andThen_ok, asInt, asIntOf, Sem.run_pure, hti, hw1, hw2]
          rw [if_neg (by rw [hcond]; simp)]
          simp only [Sem.run_bind, Sem.run_pure, Result.andThen_ok, run_askRoom, hsz, Int.ofNat_eq_natCast, Int.toNat_natCast]
          by_cases hz0 : c1 * i.size = 0
          · have e0 : (Array.range (c1 * i.size)).map (fun _ => (default : Value)) = ⟨rep z.cells.toList c1⟩ := by
              have : (rep z.cells.toList c1) = [] := List.length_eq_zero_iff.1 (by rw [rep_len]; simp [hzs, hz0])
              rw [hz0, this]; simp
            simp [newRow, valR, hz0]
            rw [← hz0, e0]
          · simp [newRow, valR, hz0, zerox_run hz]
            have e1 := rep_eq z.cells c1 i.size hzs
            rw [e1]
    · simp at h
  | makeMap ty r =>
    rw [ho] at h hρ
    simp only [opA, makeMapA] at h
    cases hd : undx P ty with
    | none => rw [hd] at h; simp at h
    | some d =>
      rw [hd] at h
      cases d <;> (try (simp at h; done))
      rename_i kt et
      simp only at h
      have fin : (execOp ρ o = (do pure (.value (← Instr.makeMap ty (r.map ρ))))) := by unfold execOp; simp only [ho]
      have mk : ob = .map [] 0 → ak = .mp → (∀ w, (Instr.makeMap ty (r.map ρ)).run P w = .ok (.map (some w.heap.size)) (w.alloc (.map #[] 0))) → Lays P σ (execOp ρ o) ob ak := by
        rintro rfl rfl hrun
        refine ⟨.map #[] 0, fun w => ?_, fun τ hs w' q hw => ⟨#[], hw, rfl, fun i a b x => by simp at x⟩, rfl, fun l c x => by cases x⟩
        rw [fin]
        simp [hrun w, valR]
      cases r with
      | none =>
        simp only [Option.map_none, Option.some.injEq, Prod.mk.injEq] at h
        exact mk h.1.symm h.2.symm (fun w => by simp [Instr.makeMap])
      | some x =>
        have hx := hρ x (by simp [Op.operands])
        simp only [Option.map_some] at h
        generalize evx t x = xv at h hx
        cases xv <;> simp at h
        cases hxr : ρ x <;> rw [hxr] at hx <;> cases hx
        exact mk h.1.symm h.2.symm (fun w => by simp [Instr.makeMap, run_und hd, hxr, asInt, asIntOf])
  | _ => rw [ho] at h; simp [opA] at h

end
end Go.Ev
namespace Go.Ev
open Go Go.RowKit
section
variable {P : Program} {B : World} {σ : Sg} {h : H} {w : World}

theorem setCell_heap {w : World} {r i : Nat} {C : Array Value} {e : TypeId} {fz : Nat × Nat} (v : Value) (hw : w.heap[r]? = some (.cells C e fz)) :
    (w.setCell ⟨r, i, none⟩ v).heap[r]? = some (.cells (C.setIfInBounds i v) e fz) := by
  simp [World.setCell, Array.getElem?_modify, hw]

theorem setCells_heap {r : Nat} {e : TypeId} {fz : Nat × Nat} : ∀ (vs : List Value) (o : Nat) (w : World) (C : Array Value), w.heap[r]? = some (.cells C e fz) →
    ∃ C', (w.setCells r o vs).heap[r]? = some (.cells C' e fz) ∧ C'.size = C.size ∧ (∀ i, C'[i]? = if o ≤ i ∧ i < o + vs.length ∧ i < C.size then vs[i - o]? else C[i]?) ∧
      (∀ q, q ≠ r → (w.setCells r o vs).heap[q]? = w.heap[q]?) ∧ (w.setCells r o vs).heap.size = w.heap.size ∧ (w.setCells r o vs).os = w.os ∧ (w.setCells r o vs).tape = w.tape ∧ (w.setCells r o vs).output = w.output
  | [], o, w, C, hw => ⟨C, hw, rfl, fun i => by simp; omega, fun _ _ => rfl, rfl, rfl, rfl, rfl⟩
  | v :: vs, o, w, C, hw => by
    obtain ⟨C', h1, h2, h3, h4, h5, h6, h7, h8⟩ := setCells_heap vs (o + 1) (w.setCell ⟨r, o, none⟩ v) _ (setCell_heap v hw)
    refine ⟨C', h1, by rw [h2]; simp, fun i => ?_, fun q hq => ?_, ?_, ?_, ?_, ?_⟩
    · rw [h3 i]
      simp only [Array.size_setIfInBounds, List.length_cons]
      by_cases e1 : i = o
      · subst e1
        rw [if_neg (by omega)]
        by_cases hi : i < C.size
        · rw [if_pos ⟨by omega, by omega, hi⟩]; simp [hi]
        · rw [if_neg (by omega), Array.getElem?_eq_none (by simp; omega), Array.getElem?_eq_none (by omega)]
      · rw [Array.getElem?_setIfInBounds_ne (Ne.symm e1)]
        by_cases hc : o + 1 ≤ i ∧ i < o + 1 + vs.length ∧ i < C.size
        · rw [if_pos hc, if_pos (by omega)]
          have : i - o = (i - (o + 1)) + 1 := by omega
          rw [this]; simp
        · rw [if_neg hc, if_neg (by omega)]
    · rw [World.setCells, h4 q hq]
      exact Below.heap_setCell w _ v q hq
    · rw [World.setCells, h5]; simp [World.setCell]
    · rw [World.setCells, h6]; rfl
    · rw [World.setCells, h7]; rfl
    · rw [World.setCells, h8]; rfl

/-- Cells overwritten. -/
theorem HR.over (k : HR P B σ h w) {b o r δ x : Nat} {vs vs' : List Value} {h' : H} (hb : σ b = some (r, δ, x)) (hvs : VRs σ vs vs') (hv : h.over ⟨b, o, none⟩ vs = some h') :
    (storeCells ⟨r, δ + o, none⟩ vs').run P w = .ok () (w.setCells r (δ + o) vs') ∧ HR P B σ h' (w.setCells r (δ + o) vs') ∧ FP σ h w (w.setCells r (δ + o) vs') ∧ Stay h h' := by
  unfold H.over at hv
  simp only at hv
  split at hv
  · rename_i cs e _ ho
    cases hall : vs.all one1 with
    | false => rw [hall] at hv; simp at hv
    | true =>
      rw [hall] at hv
      simp only [cond_true] at hv
      obtain ⟨l, hl, rfl⟩ := Option.map_eq_some_iff.1 hv
      obtain ⟨r', δ', x', e1, C, h1, h2, h3⟩ := k.obj b _ ho rfl
      rw [hb] at e1
      cases e1
      obtain ⟨g1, g2, g3⟩ := overx_get hl
      have hlen := hvs.1
      have hC : vs'.length = 0 ∨ δ + o + vs'.length ≤ C.size := by
        by_cases hz : vs.length = 0
        · exact .inl (by omega)
        · have hlt : o + vs.length - 1 < cs.length := by omega
          obtain ⟨v', q1, _⟩ := h3 (o + vs.length - 1) _ (List.getElem?_eq_getElem hlt)
          have := (Array.getElem?_eq_some_iff.1 q1).1
          exact .inr (by omega)
      obtain ⟨C', k1, k2, k3, k4, k5, k6, k7, k8⟩ := setCells_heap vs' (δ + o) w C h1
      have hbel : Below B.heap.size B (w.setCells r (δ + o) vs') := k.bel.trans ⟨k6, k7, k8, by rw [k5]; exact Nat.le_refl _, fun q hq => k4 q (by have := k.own b _ r δ x ho rfl hb; omega)⟩
      have hcell : ∀ j, j < vs'.length → (w.cell? ⟨r, δ + o + 0 + j, none⟩).isSome = true := fun j hj => by
        rw [cell_at h1, Array.getElem?_eq_getElem (by omega)]; rfl
      have hfz : ∀ j, j < vs'.length → w.frozen? ⟨r, δ + o + 0 + j, none⟩ = false := fun j _ => by
        unfold World.frozen?; simp [h1]
      have hone : ∀ v ∈ vs', v.oneCell' = true := fun v hm => by
        obtain ⟨i, hi, e⟩ := List.mem_iff_getElem.1 hm
        have hiv : i < vs.length := by omega
        have hvr := hvs.2 i vs[i] v (List.getElem?_eq_getElem hiv) (by rw [List.getElem?_eq_getElem hi, e])
        rw [hvr.one1]
        exact List.all_eq_true.1 hall _ (List.getElem_mem hiv)
      refine ⟨?_, ?_, FP.upd k ho rfl hb (by rw [k5]; exact Nat.le_refl _) k4, Stay.put ho rfl⟩
      · have := run_storeCells_cells (P := P) r (δ + o) vs' 0 w hcell hfz hone
        simpa using this
      · refine k.upd ho rfl hb hbel k4 ⟨C', k1, ?_, fun i v hv => ?_⟩ (by rw [k5]; exact Nat.le_refl _) (.inl rfl)
        · refine ⟨?_, fun hh => ?_⟩
          · rcases h2.1 with q | ⟨s, q1, q2⟩
            · exact .inl q
            · exact .inr ⟨s, q1, by rw [k2]; exact q2⟩
          · obtain ⟨z1, z2⟩ := h2.2 hh
            exact ⟨z1, by rw [k2, z2, g1]⟩
        · rw [g3 i] at hv
          rw [k3 (δ + i)]
          by_cases hc : o ≤ i ∧ i < o + vs.length
          · rw [if_pos hc] at hv
            rw [if_pos (by omega)]
            have : δ + i - (δ + o) = i - o := by omega
            rw [this]
            exact hvs.at hv
          · rw [if_neg hc] at hv
            rw [if_neg (by omega)]
            exact h3 i v hv
  · simp at hv


theorem storex_run (k : HR P B σ h w) {t : TypeId} {b o r δ x : Nat} {v v' : Value} {h' : H} (hb : σ b = some (r, δ, x)) (hv : VR σ v v') (hs : storex P h t ⟨b, o, none⟩ v = some h') :
    ∃ w', (storeVar t ⟨r, δ + o, none⟩ v').run P w = .ok () w' ∧ HR P B σ h' w' ∧ FP σ h w w' ∧ Stay h h' := by
  unfold storex at hs
  dsimp only at hs
  cases hz : szx P t with
  | none => rw [hz] at hs; simp at hs
  | some n =>
    rw [hz] at hs
    simp only at hs
    cases hl : Nat.beq (vcells v).length n with
    | false => rw [hl] at hs; simp at hs
    | true =>
      rw [hl] at hs
      simp only [cond_true] at hs
      have hc := hv.cells
      obtain ⟨h1, h2, h3, h4⟩ := k.over hb hc hs
      refine ⟨_, ?_, h2, h3, h4⟩
      have hsz : v'.cells.size = n := by have := hc.1; have := Nat.eq_of_beq_eq_true hl; simp only [Array.length_toList] at *; omega
      unfold storeVar
      simp only [Sem.run_bind, run_sz hz, Result.andThen_ok]
      rw [if_neg (by simp [hsz])]
      simp only [Sem.run_bind, Sem.run_pure, Result.andThen_ok, h1]

theorem updx_run {d : TypeDesc} {k v v' : Value} (hv : VR σ v v') (hp : plain k = true) : ∀ {es es' : List MapEntry} {u : List MapEntry × Bool} (c n : Nat), MR σ es es' → updx (some d) k v c es = some u →
    ∃ q, Instr.findNow d k es' n = some q ∧ ((u.2 = true ∧ q = none ∧ MR σ u.1 (es' ++ [{ key := k, val := v', born := c }])) ∨
      (u.2 = false ∧ ∃ i y, q = some (n + i, y) ∧ (∃ e', es'[i]? = some e' ∧ Instr.sameNow d k e'.key = some true) ∧ MR σ u.1 (es'.modify i fun e => { e with key := k, val := v' })))
  | [], es', u, c, n, hm, h => by
    have : es' = [] := List.length_eq_zero_iff.1 (by simpa using hm.1.symm)
    subst this
    simp [updx] at h
    subst h
    refine ⟨none, rfl, .inl ⟨rfl, rfl, by simp, fun i a b x y => ?_⟩⟩
    cases i with
    | zero => simp at x y; subst x; subst y; exact ⟨rfl, hp, rfl, hv⟩
    | succ i => simp at x
  | e :: es, [], u, c, n, hm, h => by have := hm.1; simp at this
  | e :: es, e' :: es', u, c, n, hm, h => by
    obtain ⟨h1, h2, h3, h4⟩ := hm.2 0 e e' rfl rfl
    have hm' : MR σ es es' := ⟨by simpa using hm.1, fun i a b x y => hm.2 (i + 1) a b (by simpa using x) (by simpa using y)⟩
    simp only [updx] at h
    cases hs : sameK (some d) k e.key with
    | none => rw [hs] at h; simp at h
    | some b =>
      rw [hs] at h
      have hs' := sameK_now hs
      simp only [Instr.findNow, h1, hs']
      cases b with
      | true =>
        simp at h
        subst h
        refine ⟨_, rfl, .inr ⟨rfl, 0, e'.val, rfl, ⟨e', rfl, by rw [h1]; exact hs'⟩, by simpa using hm.1, fun i a b x y => ?_⟩⟩
        cases i with
        | zero => simp at x y; subst x; subst y; exact ⟨rfl, hp, h3, hv⟩
        | succ i => simp at x y; exact hm'.2 i a b x y
      | false =>
        obtain ⟨u2, hu2, rfl⟩ := Option.map_eq_some_iff.1 h
        obtain ⟨q, q1, q2⟩ := updx_run hv hp c (n + 1) hm' hu2
        refine ⟨q, q1, ?_⟩
        rcases q2 with ⟨a1, a2, a3⟩ | ⟨a1, i, y, a2, a3, a4⟩
        · refine .inl ⟨a1, a2, by simp [a3.1], fun i a b x y => ?_⟩
          cases i with
          | zero => simp at x y; subst x; subst y; exact ⟨h1, h2, h3, h4⟩
          | succ i => simp at x y; exact a3.2 i a b x (by simpa using y)
        · refine .inr ⟨a1, i + 1, y, by rw [a2]; congr 2; omega, by simpa using a3, by simpa using a4.1, fun j a b x y => ?_⟩
          cases j with
          | zero => simp at x y; subst x; subst y; exact ⟨h1, h2, h3, h4⟩
          | succ j => simp at x y; exact a4.2 j a b x (by simpa using y)

theorem same_bits {d : TypeDesc} {a b : Value} (h : Instr.sameNow d a b = some true) : Instr.sameBits 10000 b a = true := by
  unfold Instr.sameNow at h
  cases d <;> (try (simp at h; done)) <;> cases a <;> (try (simp at h; done)) <;> cases b <;> (try (simp at h; done))
  · simp at h; subst h; simp [Instr.sameBits]
  · simp at h; obtain ⟨rfl, rfl⟩ := h; simp [Instr.sameBits]
  · rename_i x y
    simp only [Option.some.injEq] at h
    show (y == x) = true
    rw [bytes_beq] at h ⊢
    simp only [beq_iff_eq] at h ⊢
    exact h.symm

/-- A map's entries behind an update. -/
theorem updK_run {key : TypeId} {k v v' : Value} (hv : VR σ v v') (hp : plain k = true) (w : World) {es es' : List MapEntry} {u : List MapEntry × Bool} (c : Nat) (hm : MR σ es es') (h : updK P key k v c es = some u) {d : TypeDesc} (hd : undx P key = some d) :
    ∃ q, (Instr.findKey key k es').run P w = .ok q w ∧ ((u.2 = true ∧ q = none ∧ MR σ u.1 (es' ++ [{ key := k, val := v', born := c }])) ∨
      (u.2 = false ∧ ∃ i y, q = some (i, y) ∧ (∃ e' d, es'[i]? = some e' ∧ Instr.sameNow d k e'.key = some true) ∧ MR σ u.1 (es'.modify i fun e => { e with key := k, val := v' }))) := by
  unfold updK at h
  split at h
  · rename_i fs hs
    cases hf : findS P key fs.toList k es with
    | none => rw [hf] at h; simp [freshS] at h
    | some r =>
      rw [hf] at h
      cases r with
      | some x => simp [freshS] at h
      | none =>
        simp only [freshS, Option.some.injEq] at h
        subst h
        obtain ⟨q, q1, q2⟩ := findK_run (key := key) hp w hm (r := none) (by unfold findK; rw [hs]; exact hf) hs
        rcases q2 with ⟨_, rfl⟩ | ⟨_, _, _, e, _⟩
        · refine ⟨none, q1, .inl ⟨rfl, rfl, by simp [hm.1], fun i a b x y => ?_⟩⟩
          by_cases hi : i < es.length
          · have hi2 : i < es'.length := by have := hm.1; omega
            rw [List.getElem?_append_left hi] at x
            rw [List.getElem?_append_left hi2] at y
            exact hm.2 i a b x y
          · have hl := hm.1
            rw [List.getElem?_append_right (by omega)] at x
            rw [List.getElem?_append_right (by omega)] at y
            have e0 : i - es.length = 0 := by
              have := (List.getElem?_eq_some_iff.1 x).1
              simp at this; omega
            rw [e0] at x
            rw [show i - es'.length = 0 by omega] at y
            simp at x y
            subst x; subst y
            exact ⟨rfl, hp, rfl, hv⟩
        · cases e
  · rw [hd] at h
    obtain ⟨q, q1, q2⟩ := updx_run hv hp c 0 hm h
    refine ⟨q, by simp [Instr.findKey, run_und hd, q1], ?_⟩
    rcases q2 with a | ⟨a1, i, y, a2, ⟨e', a3, a4⟩, a5⟩
    · exact .inl a
    · exact .inr ⟨a1, i, y, by rw [a2]; simp, ⟨e', d, a3, a4⟩, a5⟩

theorem mapUpdx_run (K : HR P B σ h w) {t key el : TypeId} {m m' k k' v v' : Value} {h' : H} (hd : undx P t = some (.map key el)) (hm : VR σ m m') (hk : VR σ k k') (hv : VR σ v v') (hu : mapUpdx P key h m k v = some h') :
    ∃ w', (Instr.mapUpdate t m' k' v').run P w = .ok () w' ∧ HR P B σ h' w' ∧ FP σ h w w' ∧ Stay h h' := by
  unfold mapUpdx at hu
  cases hm <;> (try (simp at hu; done))
  rename_i b r δ x e
  simp only at hu
  split at hu
  · rename_i es c ho
    cases hko : keyIn P key k with
    | false => rw [hko] at hu; simp at hu
    | true =>
      rw [hko] at hu
      simp only [cond_true] at hu
      obtain ⟨u, hup, rfl⟩ := Option.map_eq_some_iff.1 hu
      obtain ⟨rfl, hpl⟩ := hk.key hko
      obtain ⟨r', δ', x', e1, es', h1, h2⟩ := K.obj b _ ho rfl
      rw [e] at e1
      cases e1
      obtain ⟨hck, dk, hdk⟩ := keyIn_run (empty := false) hko w
      obtain ⟨q, hfk0, q2⟩ := updK_run hv hpl w c h2 hup hdk
      have hg : (getObj r).run P w = .ok (.map es' c) w := by simp [getObj, Sem.run, h1]
      have hset : ∀ O, (setObj r O).run P w = .ok () { w with heap := w.heap.setIfInBounds r O } := fun O => by simp [setObj, Sem.run, h1]
      have hfk : (Instr.findKey key k' es'.toList).run P w = .ok q w := hfk0
      have fin : ∀ (O : Obj) (o2 : AObj), owned o2 = true → (∀ w' : World, w'.heap[r]? = some O → OR P σ w' o2 r δ x) → HR P B σ (h.put b o2) { w with heap := w.heap.setIfInBounds r O } ∧ FP σ h w { w with heap := w.heap.setIfInBounds r O } := by
        intro O o2 hw2 hO
        have hlt : r < w.heap.size := (Array.getElem?_eq_some_iff.1 h1).1
        have hst : ∀ p, p ≠ r → (w.heap.setIfInBounds r O)[p]? = w.heap[p]? := fun p hp => Array.getElem?_setIfInBounds_ne (Ne.symm hp)
        have hB := K.own b _ r δ x ho rfl e
        refine ⟨K.upd ho rfl e (K.bel.trans ⟨rfl, rfl, rfl, by simp, fun p hp => hst p (by omega)⟩) hst (hO _ (by simp [hlt])) (by simp) (.inl hw2), FP.upd K ho rfl e (by simp) hst⟩
      rcases q2 with ⟨a1, rfl, a3⟩ | ⟨a1, i, y, rfl, ⟨e', dd, a2, a4⟩, a3⟩
      · have := fin (.map (es'.push { key := k', val := v', born := c }) (c + 1)) (.map u.1 (c + 1)) rfl (fun w' hw => ⟨_, hw, by simpa using a3⟩)
        refine ⟨_, ?_, by rw [a1]; exact this.1, this.2, Stay.put ho rfl⟩
        simp only [Instr.mapUpdate, Sem.run_bind, run_und hd, Result.andThen_ok, hg, hck, hfk, hset]
      · have := fin (.map (es'.modify i fun e => { e with key := k', val := v' }) c) (.map u.1 c) rfl (fun w' hw => ⟨_, hw, by simpa using a3⟩)
        refine ⟨_, ?_, by rw [a1]; exact this.1, this.2, Stay.put ho rfl⟩
        have hkey : (Instr.keyThatStays (((es'[i]?).map (·.key)).getD k') k').run P w = .ok k' w := by
          have e3 : es'[i]? = some e' := by simpa using a2
          unfold Instr.keyThatStays
          rw [e3]
          simp [same_bits a4]
        simp only [Instr.mapUpdate, Sem.run_bind, run_und hd, Result.andThen_ok, hg, hck, hfk, hset, hkey]
  · simp at hu

end
end Go.Ev
namespace Go.Ev
open Go Go.RowKit
section
variable {P : Program} {B : World} {σ : Sg} {h : H} {w : World}

theorem lenx_run {x x' : Value} {n : Nat} (hx : VR σ x x') (h : lenx x = some n) (w : World) : (Builtin.lenOf x').run P w = .ok n w := by
  unfold lenx at h
  cases hx <;> (try (simp at h; done)) <;> simp only [Option.some.injEq] at h <;> subst h <;> rfl

theorem firstx_runK (K : HR P B σ h w) {size n N : Nat} {x x' : Value} {l : List Value} (hx : VR σ x x') (hl : lenx x = some N) (hle : n ≤ N) (hf : firstx h size n x = some l) : ∃ l', (Builtin.firstCells size n x').run P w = .ok ⟨l'⟩ w ∧ VRs σ l l' ∧ l'.length = n * size := by
  unfold firstx at hf
  have go : ∀ {b o r δ y : Nat} {len cap : Nat}, σ b = some (r, δ, y) → h.range ⟨b, o, none⟩ (n * size) = some l → ∃ l', (Builtin.firstCells size n (.slice (some ⟨r, δ + o, none⟩) len cap)).run P w = .ok ⟨l'⟩ w ∧ VRs σ l l' ∧ l'.length = n * size := by
    intro b o r δ y len cap e hr
    obtain ⟨l', h1, h2, h3⟩ := K.range e hr
    refine ⟨l', ?_, h2, h3⟩
    have := run_loadCells_list (P := P) w ⟨r, δ + o, none⟩ l' (fun j v hv => by rw [Addr.add_mid]; exact h1 j v hv)
    rw [h3] at this
    simpa [Builtin.firstCells] using this
  cases hx <;> (try (simp at hf; done))
  · rename_i s
    simp only at hf
    cases hb : Nat.beq size 1 with
    | false => rw [hb] at hf; simp at hf
    | true =>
      rw [hb] at hf
      simp only [cond_true, Option.some.injEq] at hf
      have h1 := Nat.eq_of_beq_eq_true hb
      subst h1
      subst hf
      have hn : N = s.data.toList.length := by simpa [lenx] using hl.symm
      have hn2 : (s.data.toList.take n).length = n := by rw [List.length_take]; omega
      refine ⟨(s.data.toList.take n).map fun b => .int .u8 b.toNat, ?_, ?_, by rw [List.length_map, hn2, Nat.mul_one]⟩
      · simp only [Builtin.firstCells, extract_bytes]
        simp
      · refine ⟨rfl, fun i v v' x y => ?_⟩
        rw [x] at y
        cases y
        simp only [List.getElem?_map, Option.map_eq_some_iff] at x
        obtain ⟨b, _, rfl⟩ := x
        exact .int _ _
  · simp only [Option.some.injEq] at hf
    subst hf
    have hn1 : N = 0 := by simpa [lenx] using hl.symm
    have hn : n = 0 := by omega
    exact ⟨[], rfl, .nil σ, by simp [hn]⟩
  · rename_i e _
    exact go e hf
  · rename_i e _
    exact go e hf

theorem firstx_run (K : HR P B σ h w) {size n : Nat} {x x' : Value} {l : List Value} (hx : VR σ x x') (hl : lenx x = some n) (hf : firstx h size n x = some l) : ∃ l', (Builtin.firstCells size n x').run P w = .ok ⟨l'⟩ w ∧ VRs σ l l' ∧ l'.length = n * size := firstx_runK K hx hl (Nat.le_refl n) hf

theorem next_le {need old : Nat} (h1 : old < need) (h2 : need ≤ 1000000) : Builtin.nextslicecap need old ≤ 16000000 := by
  unfold Builtin.nextslicecap
  split
  · omega
  · split
    · omega
    · have g : ∀ c, c ≤ 1000000 → Builtin.growBy need 4 c ≤ 16000000 := by
        intro c hc
        simp only [Builtin.growBy]
        repeat' split
        all_goals omega
      exact g old (by omega)


/-- What holds behind an operation that yields a value. -/
def Post (P : Program) (B : World) (σ : Sg) (h : H) (w : World) (v : Value) (h' : H) (v' : Value) (w' : World) : Prop :=
  ∃ τ, VR τ v v' ∧ EX σ τ h.next h'.next ∧ HR P B τ h' w' ∧ FP σ h w w' ∧ NB σ τ h w h'

theorem Post.keep (K : HR P B σ h w) {v v' : Value} {h' : H} {w' : World} (hv : VR σ v v') (hn : Stay h h') (k : HR P B σ h' w') (f : FP σ h w w') : Post P B σ h w v h' v' w' :=
  ⟨σ, hv, by rw [hn.1]; exact EX.refl σ _, k, f, NB.none hn⟩

theorem Post.shr {h1 : H} (s : Shr h h1) (hn : h1.next = h.next) {v v' : Value} {h' : H} {w' : World} (p : Post P B σ h1 w v h' v' w') : Post P B σ h w v h' v' w' := by
  obtain ⟨τ, p1, p2, p3, p4, p5⟩ := p
  exact ⟨τ, p1, by rw [← hn]; exact p2, p3, p4.shr s, p5.shr s⟩

section append
variable {ts : Array TypeId} {t t2 e ty2 : TypeId} {size n len capR : Nat} {base' : Option Addr} {x' : Value} {new' : List Value} {z : Value} {i : TypeInfo}

theorem append_stay (hts : ts.toList = [t, t2]) (hd : undx P t = some (.slice e)) (hsz : szx P e = some size) (hni : notInt (undx P t2) = true) (hn : ∀ w, (Builtin.lenOf x').run P w = .ok n w) (hf : (Builtin.firstCells size n x').run P w = .ok ⟨new'⟩ w)
    (hc : len + n ≤ capR) {w' : World} (hst : (match base' with | some a => storeCells (a.add (len * size)) new' | none => (pure () : Sem Unit)).run P w = .ok () w') :
    (Builtin.append_ ts ty2 #[.slice base' len capR, x']).run P w = .ok (.slice base' (len + n) capR) w' := by
  have h0 : ts[0]? = some t := by rw [← Array.getElem?_toList, hts]; rfl
  have h1 : ts[1]? = some t2 := by rw [← Array.getElem?_toList, hts]; rfl
  obtain ⟨d2, hd2, hz⟩ : ∃ d2, undx P t2 = some d2 ∧ (d2 matches .int _) = false := by
    cases hh : undx P t2 with
    | none => rw [hh] at hni; simp [notInt] at hni
    | some d2 => refine ⟨d2, rfl, ?_⟩; rw [hh] at hni; cases d2 <;> simp_all [notInt]
  unfold Builtin.append_
  cases d2 <;> (try (simp at hz; done)) <;>
    simp only [h0, h1, List.getElem?_toArray, List.getElem?_cons_zero, List.getElem?_cons_succ, Sem.run_bind, run_und hd, Result.andThen_ok, run_sz hsz, run_und hd2, Sem.run_pure, Bool.false_eq_true, if_false, hn w, if_pos hc, Bool.not_false, if_true, hf] <;>
    (cases base' with
     | none => simp at hst; subst hst; simp
     | some a => simp only at hst; simp [hst])

theorem append_move (hts : ts.toList = [t, t2]) (hd : undx P t = some (.slice e)) (hsz : szx P e = some size) (hni : notInt (undx P t2) = true) (hn : ∀ w, (Builtin.lenOf x').run P w = .ok n w) (hf : ∀ m, (Builtin.firstCells size n x').run P { w with drawn := m } = .ok ⟨new'⟩ { w with drawn := m })
    (hz : zerox P e = some z) (hzs : (vcells z).length = size) (hi : infx P e = some i) (hb : i.bytes ≤ 10000) (hc : capR < len + n) (hsm : len + n ≤ 1000000) {old' : List Value} (ho : ∀ m, (Builtin.firstCells size len (.slice base' len capR)).run P { w with drawn := m } = .ok ⟨old'⟩ { w with drawn := m }) :
    ∃ C nc m, len + n ≤ nc ∧ C.size = old'.length + new'.length + (nc - (len + n)) * size ∧ (∀ j, j < old'.length + new'.length → C[j]? = (old' ++ new')[j]?) ∧
      (Builtin.append_ ts ty2 #[.slice base' len capR, x']).run P w = .ok (.slice (some ⟨w.heap.size, 0, none⟩) (len + n) nc) (World.alloc { w with drawn := m } (.cells C e)) := by
  have h0 : ts[0]? = some t := by rw [← Array.getElem?_toList, hts]; rfl
  have h1 : ts[1]? = some t2 := by rw [← Array.getElem?_toList, hts]; rfl
  obtain ⟨d2, hd2, hzz⟩ : ∃ d2, undx P t2 = some d2 ∧ (d2 matches .int _) = false := by
    cases hh : undx P t2 with
    | none => rw [hh] at hni; simp [notInt] at hni
    | some d2 => refine ⟨d2, rfl, ?_⟩; rw [hh] at hni; cases d2 <;> simp_all [notInt]
  have hI := infx_some hi
  have hti : ∀ w, (typeInfo e).run P w = .ok i w := fun w => by simp [typeInfo, hI]
  have hnx := next_le hc hsm
  have hb2 : ¬ (Builtin.nextslicecap (len + n) capR * i.bytes > 2 ^ 48) := by
    have := Nat.mul_le_mul hnx hb
    omega
  have hmx : ¬ ((((len + n : Nat) : Int) > IntKind.i64.max) ∧ (False ∨ i.bytes = 0)) := by
    have : IntKind.i64.max = 9223372036854775807 := by decide
    rw [this]; omega
  have hcut : ∀ tv : Nat, ∃ nc, (Question.appendCap (len + n) capR e).cut tv = nc ∧ len + n ≤ nc := fun tv => ⟨_, rfl, Nat.le_add_right _ _⟩
  obtain ⟨nc, hnc, hle⟩ := hcut (w.tape w.drawn (.appendCap (len + n) capR e))
  refine ⟨(⟨old'⟩ : Array Value) ++ ⟨new'⟩ ++ Builtin.zeroCells z.cells (nc - (len + n)), nc, w.drawn + 1, hle, ?_, ?_, ?_⟩
  · have : z.cells.size = size := by
      rw [← hzs]
      cases z <;> rfl
    simp [Builtin.zeroCells, this]
  · intro j hj
    rw [Array.getElem?_append_left (by simpa using hj)]
    simp
  · unfold Builtin.append_
    cases d2 <;> (try (simp at hzz; done)) <;>
      simp only [h0, h1, List.getElem?_toArray, List.getElem?_cons_zero, List.getElem?_cons_succ, Sem.run_bind, run_und hd, Result.andThen_ok, run_sz hsz, run_und hd2, Sem.run_pure, Bool.false_eq_true, if_false, hn w, if_neg (Nat.not_le.2 hc), Bool.not_false, if_true, hti] <;>
      rw [if_neg hmx] <;>
      simp only [Sem.run_bind, hti, Result.andThen_ok, if_neg hb2, run_choose, Question.forced, Bool.false_eq_true, if_false, hnc, run_askRoom, ho, hf, zerox_run hz, Sem.run_pure, newRow, run_newObj] <;>
      rfl
end append
end
end Go.Ev
namespace Go.Ev
open Go Go.RowKit
section
variable {P : Program} {B : World} {σ : Sg} {h : H} {w : World}

/-- A new row, behind an append that moved. -/
theorem moved_row (K : HR P B σ h w) (hn : σ h.next = none) (hg : P.globals.size ≤ h.next) {e size len n nc m : Nat} {old new old' new' : List Value} {C : Array Value} (hsz : szx P e = some size) (hnh : isHolder P e = false) (ho : VRs σ old old') (hnw : VRs σ new new') (hol : old'.length = len * size) (hnl : new'.length = n * size)
    (hle : len + n ≤ nc) (hC : C.size = old'.length + new'.length + (nc - (len + n)) * size) (hg2 : ∀ j, j < old'.length + new'.length → C[j]? = (old' ++ new')[j]?) :
    Post P B σ h w (.slice (some ⟨h.next, 0, none⟩) (len + n) 1) (h.new (.cells (old ++ new) e)) (.slice (some ⟨w.heap.size, 0, none⟩) (len + n) nc) (World.alloc { w with drawn := m } (.cells C e)) := by
  have K2 := K.drawn m
  have hsub : Sub σ (addS σ h.next (w.heap.size, 0, nc)) := addS_sub _ hn
  have hall := ho.append hnw
  have hnew := HR.new K2 (o := .cells (old ++ new) e) (O := .cells C e) (δ := 0) (x := nc) hn hg (.inl rfl) (by
    refine ⟨C, ?_, ⟨.inr ⟨size, hsz, ?_⟩, fun hh => by rw [hnh] at hh; cases hh⟩, fun i v hv => ?_⟩
    · show (w.heap.push _)[w.heap.size]? = _
      simp
    · rw [hC, hol, hnl]
      have e1 : nc = (len + n) + (nc - (len + n)) := by omega
      have : nc * size = len * size + n * size + (nc - (len + n)) * size := by
        conv => lhs; rw [e1, Nat.add_mul, Nat.add_mul]
      omega
    · obtain ⟨v', h1, h2⟩ := hall.at hv
      have hi : i < old'.length + new'.length := by
        have := (List.getElem?_eq_some_iff.1 h1).1
        simpa using this
      exact ⟨v', by rw [Nat.zero_add, hg2 i hi]; exact h1, h2.mono hsub⟩)
  refine ⟨addS σ h.next (w.heap.size, 0, nc), ?_, addS_ex _ hn, hnew.1, hnew.2.1, hnew.2.2⟩
  have := VR.slO (σ := addS σ h.next (w.heap.size, 0, nc)) (b := h.next) (o := 0) (r := w.heap.size) (δ := 0) (x := nc) (n := len + n) (k := 0) (addS_self _ _ _) (by omega)
  simpa using this

/-- An append that stays, in a row whose room is not known. -/
theorem stay_row (K : HR P B σ h w) (hn : σ h.next = none) (hg : P.globals.size ≤ h.next) {b o r δ x k e size len n : Nat} {cs old new new' : List Value} (hb : σ b = some (r, δ, x)) (hob : h.objs.get b = some (.cells cs e)) (hok : o = k * size)
    (hsz : szx P e = some size) (hnh : isHolder P e = false) (hs1 : 1 ≤ size) (hor : h.range ⟨b, o, none⟩ (len * size) = some old) (hnw : VRs σ new new') (hnl : new'.length = n * size) (hone : new.all one1 = true) (hn1 : 1 ≤ n) (hle : len + n ≤ x - k) :
    ∃ w', (storeCells ((⟨r, δ + o, none⟩ : Addr).add (len * size)) new').run P w = .ok () w' ∧
      Post P B σ h w (.slice (some ⟨h.next, 0, none⟩) (len + n) 1) ((h.put b .dead).new (.cells (old ++ new) e)) (.slice (some ⟨r, δ + o, none⟩) (len + n) (x - k)) w' := by
  obtain ⟨r', δ', x', e1, C, h1, h2, h3⟩ := K.obj b _ hob rfl
  rw [hb] at e1
  cases e1
  have hcap : δ + x * size ≤ C.size := by
    rcases h2.1 with q | ⟨s, q1, q2⟩
    · omega
    · rw [hsz] at q1; cases q1; exact q2
  clear h2
  have hx : x * size = k * size + (x - k) * size := by
    have : x = k + (x - k) := by omega
    conv => lhs; rw [this, Nat.add_mul]
  have hlen : (len + n) * size ≤ (x - k) * size := Nat.mul_le_mul_right _ hle
  rw [Nat.add_mul] at hlen
  have hadd : (⟨r, δ + o, none⟩ : Addr).add (len * size) = ⟨r, δ + o + len * size, none⟩ := Addr.add_mid _ _ _
  obtain ⟨C', k1, k2, k3, k4, k5, k6, k7, k8⟩ := setCells_heap new' (δ + o + len * size) w C h1
  have hB := K.own b _ r δ x hob rfl hb
  have hbel : Below B.heap.size B (w.setCells r (δ + o + len * size) new') := K.bel.trans ⟨k6, k7, k8, by rw [k5]; exact Nat.le_refl _, fun q hq => k4 q (by omega)⟩
  have hcell : ∀ j, j < new'.length → (w.cell? ⟨r, δ + o + len * size + 0 + j, none⟩).isSome = true := fun j hj => by
    rw [cell_at h1, Array.getElem?_eq_getElem (by omega)]; rfl
  have hfz : ∀ j, j < new'.length → w.frozen? ⟨r, δ + o + len * size + 0 + j, none⟩ = false := fun j _ => by
    unfold World.frozen?; simp [h1]
  have ho1 : ∀ v ∈ new', v.oneCell' = true := fun v hm => by
    obtain ⟨i, hi, e⟩ := List.mem_iff_getElem.1 hm
    have hiv : i < new.length := by have := hnw.1; omega
    have hvr := hnw.2 i new[i] v (List.getElem?_eq_getElem hiv) (by rw [List.getElem?_eq_getElem hi, e])
    rw [hvr.one1]
    exact List.all_eq_true.1 hone _ (List.getElem_mem hiv)
  have hrun := run_storeCells_cells (P := P) r (δ + o + len * size) new' 0 w hcell hfz ho1
  simp only [Nat.add_zero] at hrun
  refine ⟨_, by rw [hadd]; exact hrun, ?_⟩
  -- the old number is dead
  have Kd : HR P B σ (h.put b .dead) w := K.upd hob rfl hb K.bel (fun _ _ => rfl) trivial (Nat.le_refl _) (.inr rfl)
  obtain ⟨eo, hon⟩ := rangex_some (by
    have : h.range ⟨b, o, none⟩ (len * size) = rangex cs o (len * size) := by unfold H.range; simp [hob]
    rw [← this]; exact hor)
  have hsub : Sub σ (addS σ h.next (r, δ + o, x - k)) := addS_sub _ hn
  refine ⟨addS σ h.next (r, δ + o, x - k), ?_, addS_ex _ hn, ?_, FP.upd K hob rfl hb (by rw [k5]; exact Nat.le_refl _) k4, ?_⟩
  · have := VR.slO (σ := addS σ h.next (r, δ + o, x - k)) (b := h.next) (o := 0) (r := r) (δ := δ + o) (x := x - k) (n := len + n) (k := 0) (addS_self _ _ _) (by omega)
    simpa using this
  · refine Kd.add hn hg (.inl rfl) hbel hB (fun q hq _ => k4 q hq) (fun b' p r2 δ2 x2 hp hl e2 => ?_) ⟨C', k1, ⟨.inr ⟨size, hsz, by rw [k2]; omega⟩, fun hh => by rw [hnh] at hh; cases hh⟩, fun i v hv => ?_⟩ (by rw [k5]; exact Nat.le_refl _) (by rw [k5]; exact K.bnd b r δ x hb)
    · simp only [H.put, Tr.get_put] at hp
      split at hp
      · cases hp; simp [live] at hl
      · rename_i hne
        exact Ne.symm (K.inj b b' _ p r δ x r2 δ2 x2 hob hp rfl hl (Ne.symm hne) hb e2)
    · by_cases hi : i < old.length
      · rw [List.getElem?_append_left hi] at hv
        have h4 : cs[o + i]? = some v := by
          rw [eo, List.getElem?_take, if_pos (by omega), List.getElem?_drop] at hv
          exact hv
        obtain ⟨v', q1, q2⟩ := h3 _ v h4
        refine ⟨v', ?_, q2.mono hsub⟩
        rw [k3, if_neg (by omega)]
        have : δ + o + i = δ + (o + i) := by omega
        rw [this]; exact q1
      · rw [List.getElem?_append_right (by omega)] at hv
        obtain ⟨v', q1, q2⟩ := hnw.at hv
        refine ⟨v', ?_, q2.mono hsub⟩
        have hi2 : i - old.length < new'.length := (List.getElem?_eq_some_iff.1 q1).1
        rw [k3, if_pos (by omega)]
        have : δ + o + i - (δ + o + len * size) = i - old.length := by omega
        rw [this]; exact q1
  · intro q p hp hl r2 δ2 x2 e2
    simp only [H.new, H.put, Tr.get_put] at hp
    split at hp
    · rename_i e0
      subst e0
      simp only [H.put, addS_self] at e2
      cases e2
      exact .inr ⟨b, _, δ, x, hob, rfl, fun _ => rfl, hb⟩
    · rename_i e0
      have e0' : q ≠ h.next := e0
      rw [addS_ne _ _ e0'] at e2
      split at hp
      · cases hp; cases hl
      · exact .inr ⟨q, p, δ2, x2, hp, hl, id, e2⟩

theorem appendx0_run (K : HR P B σ h w) {ts : Array TypeId} {t t2 ty2 : TypeId} {s s' x x' v : Value} {h' : H} (hts : ts.toList = [t, t2]) (hs : VR σ s s') (hx : VR σ x x') (hfree : ∀ b, h.next ≤ b → b < h'.next → σ b = none) (hg : P.globals.size ≤ h.next)
    (ha : appendx0 P h t t2 s x = some (v, h')) : ∃ v' w', (Builtin.append_ ts ty2 #[s', x']).run P w = .ok v' w' ∧ Post P B σ h w v h' v' w' := by
  unfold appendx0 at ha
  split at ha
  · rename_i base len cap
    split at ha
    · rename_i e hd
      split at ha
      · rename_i size n z i hsz hlen hz hi
        cases hc : (Nat.ble (len + n) 1000000 && Nat.ble i.bytes 10000 && Nat.beq (vcells z).length size && Nat.ble 1 size && notInt (undx P t2) && !isHolder P e && (base.isSome || (Nat.beq len 0 && Nat.beq cap 0))) with
        | false => rw [hc] at ha; simp at ha
        | true =>
          rw [hc] at ha
          simp only [cond_true] at ha
          simp only [Bool.and_eq_true] at hc
          obtain ⟨⟨⟨⟨⟨⟨c1, c2⟩, c3⟩, c4⟩, c5⟩, c7⟩, c6⟩ := hc
          have hnh : isHolder P e = false := by simpa using c7
          have b1 := Nat.le_of_ble_eq_true c1
          have b2 := Nat.le_of_ble_eq_true c2
          have b3 := Nat.eq_of_beq_eq_true c3
          have b4 := Nat.le_of_ble_eq_true c4
          have hln : ∀ w, (Builtin.lenOf x').run P w = .ok n w := fun w => lenx_run hx hlen w
          unfold app1 at ha
          cases hf : firstx h size n x with
          | none => rw [hf] at ha; simp at ha
          | some new =>
            rw [hf] at ha
            simp only at ha
            obtain ⟨new', f1, f2, f3⟩ := firstx_run K hx hlen hf
            have f1d : ∀ m, (Builtin.firstCells size n x').run P { w with drawn := m } = .ok ⟨new'⟩ { w with drawn := m } := fun m => by
              obtain ⟨n2, g1, g2, g3⟩ := firstx_run (K.drawn m) hx hlen hf
              have : n2 = new' := by
                apply List.ext_getElem?
                intro j
                by_cases hj : j < new.length
                · obtain ⟨u1, a1, a2⟩ := f2.at (List.getElem?_eq_getElem hj)
                  obtain ⟨u2, a3, a4⟩ := g2.at (List.getElem?_eq_getElem hj)
                  rw [a1, a3, a2.one a4]
                · have l1 := f2.1
                  have l2 := g2.1
                  rw [List.getElem?_eq_none (by omega), List.getElem?_eq_none (by omega)]
              rw [← this]; exact g1
            by_cases hn0 : n = 0
            · subst hn0
              simp only [Nat.beq_refl, cond_true, Option.some.injEq, Prod.mk.injEq] at ha
              obtain ⟨rfl, rfl⟩ := ha
              have hnil : new' = [] := List.length_eq_zero_iff.1 (by simpa using f3)
              subst hnil
              have fin : ∀ {base' : Option Addr} {capR : Nat}, len ≤ capR → VR σ (.slice base len cap) (.slice base' len capR) → ∃ v' w', (Builtin.append_ ts ty2 #[.slice base' len capR, x']).run P w = .ok v' w' ∧ Post P B σ h w (.slice base len cap) h v' w' := by
                intro base' capR hle hvr
                refine ⟨_, w, append_stay (w' := w) hts hd hsz c5 hln f1 (by omega) (by cases base' <;> rfl), ?_⟩
                exact Post.keep K (by simpa using hvr) (Stay.refl h) K (FP.refl _ _ _)
              cases hs with
              | slN => exact fin (Nat.le_refl _) .slN
              | slX eb hle => exact fin hle (.slX eb hle)
              | slO eb hle => exact fin (by omega) (.slO eb hle)
            · rw [nbeq hn0] at ha
              simp only [cond_false] at ha
              unfold app2 at ha
              cases hs with
              | slN =>
                simp only [Option.some.injEq, Prod.mk.injEq] at ha
                obtain ⟨rfl, rfl⟩ := ha
                obtain ⟨C, nc, m, q1, q2, q3, q4⟩ := append_move (ty2 := ty2) (base' := none) (capR := 0) (len := 0) hts hd hsz c5 hln f1d hz b3 hi b2 (by omega) b1 (old' := []) (fun m => rfl)
                have hnx : σ h.next = none := hfree _ (Nat.le_refl _) (by show h.next < h.next + 1; omega)
                refine ⟨_, _, q4, ?_⟩
                have := moved_row (m := m) (old := []) (len := 0) K hnx hg hsz hnh (.nil σ) f2 (by simp) f3 q1 q2 q3
                simpa using this
              | slX eb hle =>
                rename_i b o r δ y c
                simp only at ha
                cases hor : h.range ⟨b, o, none⟩ (len * size) with
                | none => rw [hor] at ha; simp at ha
                | some old =>
                  rw [hor] at ha
                  have hm : (2 * c) % 2 = 0 := by omega
                  have hdv : 2 * c / 2 = c := by omega
                  simp only [hm, hdv, Nat.beq_refl, cond_true] at ha
                  cases hroom : Nat.ble (len + n) c with
                  | true =>
                    rw [hroom] at ha
                    simp only [cond_true] at ha
                    obtain ⟨h2, ho2, ha⟩ := Option.map_eq_some_iff.1 ha
                    simp only [Prod.mk.injEq] at ha
                    obtain ⟨rfl, rfl⟩ := ha
                    obtain ⟨g1, g2, g3, g4⟩ := K.over (o := o + len * size) eb f2 ho2
                    have hadd : (⟨r, δ + o, none⟩ : Addr).add (len * size) = ⟨r, δ + (o + len * size), none⟩ := by rw [Addr.add_mid, Nat.add_assoc]
                    refine ⟨_, _, append_stay hts hd hsz c5 hln f1 (Nat.le_of_ble_eq_true hroom) (by simp only [hadd]; exact g1), ?_⟩
                    exact Post.keep K (.slX eb (Nat.le_of_ble_eq_true hroom)) g4 g2 g3
                  | false =>
                    rw [hroom] at ha
                    simp only [cond_false, Option.some.injEq, Prod.mk.injEq] at ha
                    obtain ⟨rfl, rfl⟩ := ha
                    have hlt : c < len + n := by
                      rcases Nat.lt_or_ge c (len + n) with q | q
                      · exact q
                      · rw [Nat.ble_eq_true_of_le q] at hroom; cases hroom
                    obtain ⟨old', o1, o2, o3⟩ := K.range eb hor
                    have hold : ∀ m, (Builtin.firstCells size len (.slice (some ⟨r, δ + o, none⟩) len c)).run P { w with drawn := m } = .ok ⟨old'⟩ { w with drawn := m } := fun m => by
                      have := run_loadCells_list (P := P) { w with drawn := m } ⟨r, δ + o, none⟩ old' (fun j v hv => by rw [Addr.add_mid]; exact o1 j v hv)
                      rw [o3] at this
                      simpa [Builtin.firstCells] using this
                    obtain ⟨C, nc, m, q1, q2, q3, q4⟩ := append_move (ty2 := ty2) hts hd hsz c5 hln f1d hz b3 hi b2 hlt b1 hold
                    have hnx : σ h.next = none := hfree _ (Nat.le_refl _) (by show h.next < h.next + 1; omega)
                    exact ⟨_, _, q4, moved_row (m := m) K hnx hg hsz hnh o2 f2 o3 f3 q1 q2 q3⟩
              | slO eb hle =>
                rename_i b o r δ y k
                simp only at ha
                cases hor : h.range ⟨b, o, none⟩ (len * size) with
                | none => rw [hor] at ha; simp at ha
                | some old =>
                  rw [hor] at ha
                  have hm : (2 * k + 1) % 2 = 1 := by omega
                  have hdv : (2 * k + 1) / 2 = k := by omega
                  have hz10 : Nat.beq 1 0 = false := rfl
                  simp only [hm, hdv, hz10, cond_false] at ha
                  split at ha
                  · rename_i cs e2 hob
                    cases hc2 : (Nat.beq e2 e && Nat.beq o (k * size) && new.all one1) with
                    | false => rw [hc2] at ha; simp at ha
                    | true =>
                      rw [hc2] at ha
                      simp only [cond_true, Option.some.injEq, Prod.mk.injEq] at ha
                      obtain ⟨rfl, rfl⟩ := ha
                      simp only [Bool.and_eq_true] at hc2
                      obtain ⟨⟨d2, d3⟩, d4⟩ := hc2
                      have d2' := Nat.eq_of_beq_eq_true d2
                      have d3' := Nat.eq_of_beq_eq_true d3
                      subst d2'
                      have hnx : σ h.next = none := hfree _ (Nat.le_refl _) (by show h.next < h.next + 1; omega)
                      by_cases hst : len + n ≤ y - k
                      · obtain ⟨w', s1, s2⟩ := stay_row K hnx hg eb hob d3' hsz hnh b4 hor f2 f3 d4 (by omega) hst
                        exact ⟨_, w', append_stay hts hd hsz c5 hln f1 hst (by simpa using s1), s2⟩
                      · obtain ⟨old', o1, o2, o3⟩ := K.range eb hor
                        have hold : ∀ m, (Builtin.firstCells size len (.slice (some ⟨r, δ + o, none⟩) len (y - k))).run P { w with drawn := m } = .ok ⟨old'⟩ { w with drawn := m } := fun m => by
                          have := run_loadCells_list (P := P) { w with drawn := m } ⟨r, δ + o, none⟩ old' (fun j v hv => by rw [Addr.add_mid]; exact o1 j v hv)
                          rw [o3] at this
                          simpa [Builtin.firstCells] using this
                        obtain ⟨C, nc, m, q1, q2, q3, q4⟩ := append_move (ty2 := ty2) hts hd hsz c5 hln f1d hz b3 hi b2 (by omega) b1 hold
                        have Kd : HR P B σ (h.put b .dead) w := K.upd hob rfl eb K.bel (fun _ _ => rfl) trivial (Nat.le_refl _) (.inr rfl)
                        exact ⟨_, _, q4, Post.shr (Shr.put hob rfl) rfl (moved_row (h := h.put b .dead) (m := m) Kd hnx hg hsz hnh o2 f2 o3 f3 q1 q2 q3)⟩
                  · simp at ha
      · simp at ha
    · simp at ha
  · simp at ha

theorem appendz_run (K : HR P B σ h w) {ts : Array TypeId} {t t2 ty2 : TypeId} {s s' x x' v : Value} {h' : H} (hts : ts.toList = [t, t2]) (hs : VR σ s s') (hx : VR σ x x') (hfree : ∀ b, h.next ≤ b → b < h'.next → σ b = none) (hg : P.globals.size ≤ h.next)
    (ha : appendz P h t t2 s x = some (v, h')) : ∃ v' w', (Builtin.append_ ts ty2 #[s', x']).run P w = .ok v' w' ∧ Post P B σ h w v h' v' w' := by
  unfold appendz at ha
  split at ha
  · rename_i len cap n
    split at ha
    · rename_i e k hd hd2
      split at ha
      · rename_i size z i hsz hz hi
        cases hc : (Nat.ble 1 n && Nat.ble n 100000 && Nat.ble i.bytes 10000 && Nat.beq (vcells z).length size && Nat.ble 1 size && !isHolder P e && Nat.beq len 0 && Nat.beq cap 0) with
        | false => rw [hc] at ha; simp at ha
        | true =>
          rw [hc] at ha
          simp only [cond_true, Option.some.injEq, Prod.mk.injEq] at ha
          obtain ⟨rfl, rfl⟩ := ha
          simp only [Bool.and_eq_true] at hc
          obtain ⟨⟨⟨⟨⟨⟨⟨c1, c2⟩, c3⟩, c4⟩, c5⟩, c6⟩, c7⟩, c8⟩ := hc
          have b1 := Nat.le_of_ble_eq_true c1
          have b2 := Nat.le_of_ble_eq_true c2
          have b3 := Nat.le_of_ble_eq_true c3
          have b4 := Nat.eq_of_beq_eq_true c4
          have b5 := Nat.le_of_ble_eq_true c5
          have hnh : isHolder P e = false := by simpa using c6
          obtain rfl := Nat.eq_of_beq_eq_true c7
          obtain rfl := Nat.eq_of_beq_eq_true c8
          have hs' : s' = .slice none 0 0 := by cases hs; rfl
          have hx' : x' = .int .i64 (.ofNat n) := by cases hx; rfl
          subst hs' hx'
          obtain ⟨_, _, _, hpl⟩ := zerox_some hz
          have hzc : VRs σ (vcells z) z.cells.toList := (VR.plain (σ := σ) hpl).cells
          have hzs : z.cells.size = size := by have := hzc.1; simp only [Array.length_toList] at *; omega
          have h0 : ts[0]? = some t := by rw [← Array.getElem?_toList, hts]; rfl
          have h1 : ts[1]? = some t2 := by rw [← Array.getElem?_toList, hts]; rfl
          have hI := infx_some hi
          have hti : ∀ w, (typeInfo e).run P w = .ok i w := fun w => by simp [typeInfo, hI]
          have hnx2 := next_le (need := 0 + n) (old := 0) (by omega) (by omega)
          have hb2 : ¬ (Builtin.nextslicecap (0 + n) 0 * i.bytes > 2 ^ 48) := by
            have := Nat.mul_le_mul hnx2 b3
            omega
          have hmx : ¬ ((((0 + n : Nat) : Int) > IntKind.i64.max) ∧ (True ∨ i.bytes = 0)) := by
            have : IntKind.i64.max = 9223372036854775807 := by decide
            rw [this]; omega
          have hw : IntKind.i64.wrap (Int.ofNat n) = (n : Int) := wrap_small _ (by simp) (by simp; omega)
          have hne : ¬ (n * size = 0) := by
            have := Nat.mul_le_mul b1 b5
            omega
          have hl0 : ¬ ((n : Int) < 0) := by omega
          have hlb : ¬ ((n : Int) * i.bytes > 2 ^ 48) := by
            have h1 := Nat.mul_le_mul b2 b3
            have h2 : (n : Int) * (i.bytes : Int) = ((n * i.bytes : Nat) : Int) := by simp
            rw [h2]
            omega
          have hcut : ∀ tv : Nat, ∃ nc, (Question.appendCap (0 + n) 0 e).cut tv = nc ∧ 0 + n ≤ nc := fun tv => ⟨_, rfl, Nat.le_add_right _ _⟩
          obtain ⟨nc, hnc, hle⟩ := hcut (w.tape w.drawn (.appendCap (0 + n) 0 e))
          have hz0 : Builtin.zeroCells z.cells n = ⟨rep z.cells.toList n⟩ := by
            unfold Builtin.zeroCells
            exact rep_eq z.cells n z.cells.size rfl
          have hrun : (Builtin.append_ ts ty2 #[.slice none 0 0, .int .i64 (.ofNat n)]).run P w = .ok (.slice (some ⟨w.heap.size, 0, none⟩) (0 + n) nc) (World.alloc { w with drawn := w.drawn + 1 } (.cells ((⟨[]⟩ : Array Value) ++ ⟨rep z.cells.toList n⟩ ++ Builtin.zeroCells z.cells (nc - (0 + n))) e)) := by
            unfold Builtin.append_
            have hai : ∀ w, (asIntOf (.int .i64 (.ofNat n))).run P w = .ok (IntKind.i64, Int.ofNat n) w := fun _ => rfl
            have hlt : ¬ (0 + n ≤ 0) := by omega
            have hf0 : ∀ w, (Builtin.firstCells size 0 (.slice none 0 0)).run P w = .ok ⟨[]⟩ w := fun _ => rfl
            simp only [h0, h1, List.getElem?_toArray, List.getElem?_cons_zero, List.getElem?_cons_succ, Sem.run_bind, run_und hd, Result.andThen_ok, run_sz hsz, run_und hd2, Sem.run_pure, if_true, asInt, hai]
            simp only [hw, if_neg hl0, Sem.run_bind, hti, Result.andThen_ok, if_neg hlb, Sem.run_pure, Int.toNat_natCast, if_neg hlt, if_neg hmx, if_neg hb2, run_choose, Question.forced, Bool.false_eq_true, if_false, hnc, run_askRoom, hf0, Bool.not_true, if_neg hne, zerox_run hz, newRow, run_newObj, hz0]
            rfl
          have hnx : σ h.next = none := hfree _ (Nat.le_refl _) (by show h.next < h.next + 1; omega)
          have hlen : (rep z.cells.toList n).length = n * size := by rw [rep_len]; simp [hzs]
          refine ⟨_, _, hrun, ?_⟩
          have := moved_row (m := w.drawn + 1) (old := []) (old' := []) (len := 0) (n := n) (nc := nc) K hnx hg hsz hnh (.nil σ) (hzc.rep n) (by simp) hlen hle (C := (⟨[]⟩ : Array Value) ++ ⟨rep z.cells.toList n⟩ ++ Builtin.zeroCells z.cells (nc - (0 + n))) (by simp [Builtin.zeroCells, hzs]) (fun j hj => by
            rw [Array.getElem?_append_left (by simpa using hj)]
            simp)
          simpa using this
      · simp at ha
    · simp at ha
  · simp at ha
theorem appendx_run (K : HR P B σ h w) {ts : Array TypeId} {t t2 ty2 : TypeId} {s s' x x' v : Value} {h' : H} (hts : ts.toList = [t, t2]) (hs : VR σ s s') (hx : VR σ x x') (hfree : ∀ b, h.next ≤ b → b < h'.next → σ b = none) (hg : P.globals.size ≤ h.next)
    (ha : appendx P h t t2 s x = some (v, h')) : ∃ v' w', (Builtin.append_ ts ty2 #[s', x']).run P w = .ok v' w' ∧ Post P B σ h w v h' v' w' := by
  unfold appendx at ha
  cases h0 : appendx0 P h t t2 s x with
  | none => rw [h0] at ha; exact appendz_run K hts hs hx hfree hg ha
  | some r => rw [h0] at ha; cases ha; exact appendx0_run K hts hs hx hfree hg h0
end
end Go.Ev
namespace Go.Ev
open Go Go.RowKit
section
variable {P : Program} {B : World} {σ : Sg} {h : H} {w : World}

def RX (P : Program) (τ : Sg) (s : Sem Next) (w w' : World) : Res → Prop
  | .val v => ∃ nx v', s.run P w = .ok nx w' ∧ (nx = .value v' ∨ nx = .skip ∧ v' = undef) ∧ VR τ v v'
  | .enter f args => w' = w ∧ ∃ args', VRs τ args args' ∧ s.run P w = (callFunc f ⟨args'⟩).run P w
  | .round l args => w' = w ∧ ∃ r δ x args', τ l = some (r, δ, x) ∧ VRs τ args args' ∧ s.run P w = (Instr.yield r ⟨args'⟩).run P w
  | .defer d => w' = w ∧ ∃ d', DR τ d d' ∧ s.run P w = .ok (.defer d') w

/-- What holds behind an operation's own part. -/
def PostX (P : Program) (B : World) (σ : Sg) (h : H) (w : World) (s : Sem Next) (res : Res) (h' : H) : Prop :=
  ∃ w' τ, EX σ τ h.next h'.next ∧ HR P B τ h' w' ∧ FP σ h w w' ∧ NB σ τ h w h' ∧ RX P τ s w w' res

theorem PostX.same (K : HR P B σ h w) {s : Sem Next} {res : Res} (hr : RX P σ s w w res) : PostX P B σ h w s res h :=
  ⟨w, σ, EX.refl σ _, K, FP.refl _ _ _, NB.none (Stay.refl h), hr⟩

theorem toBytes_run (K : HR P B σ h w) {a b : TypeId} {x x' : Value} {res : Res} {h' : H} (hx : VR σ x x') (hn : ∀ q, h.next ≤ q → q < h'.next → σ q = none) (hg : P.globals.size ≤ h.next) (hv : toBytesX P h a b x = some (res, h')) {s : Sem Next} (hs : s = (do pure (.value (← convert a b x')))) : PostX P B σ h w s res h' := by
  unfold toBytesX at hv
  cases hx <;> (try (simp at hv; done))
  rename_i str
  simp only at hv
  split at hv
  · rename_i e ha hb
    split at hv
    · rename_i he
      simp only [Option.some.injEq, Prod.mk.injEq] at hv
      obtain ⟨rfl, rfl⟩ := hv
      have hnx : σ h.next = none := hn _ (Nat.le_refl _) (by show h.next < h.next + 1; omega)
      have hcut : ∀ tv : Nat, str.size ≤ (Question.appendCap str.size 0 e).cut tv := fun tv => Nat.le_add_right _ _
      generalize hnc : (Question.appendCap str.size 0 e).cut (w.tape w.drawn (.appendCap str.size 0 e)) = nc
      have hle : str.size ≤ nc := by rw [← hnc]; exact hcut _
      generalize hC : (str.data.map fun b => (.int .u8 b.toNat : Value)) ++ Array.replicate (nc - str.size) (.int .u8 0 : Value) = C
      have hCs : C.size = nc := by rw [← hC]; simp; have : str.data.size = str.size := rfl; omega
      let w1 : World := World.alloc { w with drawn := w.drawn + 1 } (.cells C e)
      let w2 : World := w1.freeze ⟨w.heap.size, nc, none⟩ 1
      have hat : w1.heap[w.heap.size]? = some (.cells C e) := by show (w.heap.push _)[w.heap.size]? = _; simp
      have hat2 : w2.heap[w.heap.size]? = some (.cells C e (nc, nc + 1)) := by
        show (w1.heap.modify _ _)[w.heap.size]? = _
        rw [Array.getElem?_modify, if_pos rfl, hat]
        simp
      have hoth : ∀ q, q ≠ w.heap.size → w2.heap[q]? = w1.heap[q]? := fun q hq => by
        show (w1.heap.modify _ _)[q]? = _
        rw [Array.getElem?_modify, if_neg (Ne.symm hq)]
      have hlow : ∀ q, q < w.heap.size → w1.heap[q]? = w.heap[q]? := fun q hq => Below.heap_alloc { w with drawn := w.drawn + 1 } _ q hq
      have hsz2 : w2.heap.size = w.heap.size + 1 := by show (w1.heap.modify _ _).size = _; rw [Array.size_modify]; show (w.heap.push _).size = _; simp
      have hsub := addS_sub (w.heap.size, 0, nc) hnx
      have hbs := K.bel.size
      refine ⟨w2, addS σ h.next (w.heap.size, 0, nc), addS_ex _ hnx, ?_, ?_, ?_, .value (.slice (some ⟨w.heap.size, 0, none⟩) str.size nc), .slice (some ⟨w.heap.size, 0, none⟩) str.size nc, ?_, .inl rfl, ?_⟩
      · refine K.add hnx hg (.inr ⟨_, rfl⟩) (K.bel.trans ⟨rfl, rfl, rfl, by rw [hsz2]; omega, fun q hq => (hoth q (by omega)).trans (hlow q (by omega))⟩) hbs (fun q hq hlt => (hoth q hq).trans (hlow q hlt)) (fun b p r' δ' x' hp hl e2 => ?_) ⟨C, e, (nc, nc + 1), hat2, fun i v hv => ?_⟩ (by rw [hsz2]; omega) (by rw [hsz2]; omega)
        · obtain ⟨r2, δ2, x2, e3, h3⟩ := K.obj b p hp hl
          rw [e2] at e3
          cases e3
          have := h3.lt hl
          omega
        · simp only [List.getElem?_map, Option.map_eq_some_iff] at hv
          obtain ⟨b, hb2, rfl⟩ := hv
          refine ⟨_, ?_, .int _ _⟩
          have hi : i < str.data.size := by have := (List.getElem?_eq_some_iff.1 hb2).1; simpa using this
          rw [← hC, Nat.zero_add, Array.getElem?_append_left (by simpa using hi)]
          simp only [Array.getElem?_map]
          have : str.data[i]? = some b := by simpa using hb2
          rw [this]; rfl
      · exact ⟨by rw [hsz2]; omega, fun q hq _ => (hoth q (by omega)).trans (hlow q hq)⟩
      · intro q p hp hl r δ x e2
        simp only [H.new, Tr.get_put] at hp
        split at hp
        · rename_i e0
          subst e0
          rw [addS_self] at e2
          cases e2
          exact .inl (Nat.le_refl _)
        · rename_i e0
          rw [addS_ne _ _ e0] at e2
          exact .inr ⟨q, p, δ, x, hp, hl, id, e2⟩
      · have hshape : w1.shape? w.heap.size = some (e, nc) := by unfold World.shape?; rw [hat]; simp [hCs]
        have hbs : (Conv.stringToBytes e str).run P w = .ok (.slice (some ⟨w.heap.size, 0, none⟩) str.size nc) w2 := by
          unfold Conv.stringToBytes
          simp only [Sem.run_bind, run_choose, Question.forced, Bool.false_eq_true, if_false, Result.andThen_ok, hnc, hC, newRow, run_newObj, Sem.run_pure, markStringish, run_shape]
          have e5 : ({ heap := w.heap.push (.cells C e), tape := w.tape, drawn := w.drawn + 1, os := w.os, output := w.output } : World) = w1 := rfl
          simp only [e5, hshape]
          simp only [Sem.run_bind, run_freeze, Result.andThen_ok, Sem.run_pure]
          rfl
        subst hs
        simp only [Sem.run_bind]
        have hcv : (convert a b (.string str)).run P w = (Conv.stringToBytes e str).run P w := by
          unfold convert
          simp only [Sem.run_bind, run_und ha, run_und hb, run_und he, Result.andThen_ok]
        rw [hcv, hbs]
        rfl
      · have hl : str.data.toList.length = str.size := Array.length_toList
        rw [hl]
        have := VR.slO (σ := addS σ h.next (w.heap.size, 0, nc)) (b := h.next) (o := 0) (r := w.heap.size) (δ := 0) (x := nc) (n := str.size) (k := 0) (addS_self _ _ _) (by omega)
        simpa using this
    · simp at hv
  · simp at hv

theorem targetx_run (K : HR P B σ h w) {f f' : Value} {as as' : List Value} {res : Res} (hf : VR σ f f') (ha : VRs σ as as') (hv : targetx f as = some res) {s : Sem Next} (hs : s = (do let d ← Deferred.ofValue f' ⟨as'⟩; invoke d.target d.args)) : PostX P B σ h w s res h := by
  unfold targetx at hv
  refine PostX.same K ?_
  cases hf <;> (try (simp at hv; done))
  · rename_i g a a' c c' l1 l2 i1 i2
    simp only [Option.some.injEq] at hv
    subst hv
    refine ⟨rfl, a' ++ as' ++ c', (VRs.append (VRs.append ⟨l1, i1⟩ ha) ⟨l2, i2⟩), ?_⟩
    subst hs
    simp only [Deferred.ofValue, Sem.run_bind, Sem.run_pure, Result.andThen_ok, invoke]
    congr 2
    apply Array.ext'
    simp
  · rename_i b r δ x e
    simp only [Option.some.injEq] at hv
    subst hv
    refine ⟨rfl, r, δ, x, as', e, by simpa using ha, ?_⟩
    subst hs
    simp only [Deferred.ofValue, Sem.run_bind, Sem.run_pure, Result.andThen_ok, invoke]
    congr 2
    apply Array.ext'
    simp

theorem method_run {t : TypeId} {name : String} {f : FuncId} {v : Value} (h : methx P t name = some f) (w : World) : (method (P.types.size + Made.depth) t v name).run P w = .ok (f, v) w := by
  unfold methx at h
  obtain ⟨i, hi, h⟩ := Option.bind_eq_some_iff.1 h
  obtain ⟨m, hm, h⟩ := Option.bind_eq_some_iff.1 h
  cases hp : m.path.isEmpty with
  | false => rw [hp] at h; simp at h
  | true =>
    rw [hp] at h
    simp only [cond_true] at h
    have hpl : m.path.toList = [] := by simpa [Array.isEmpty_iff] using hp
    have hin : (typeInfo t).run P w = .ok i w := by simp [typeInfo, infx_some hi]
    rw [show P.types.size + Made.depth = (P.types.size + 99) + 1 from rfl]
    unfold method
    simp only [Sem.run_bind, hin, Result.andThen_ok, hm, hpl, follow, Sem.run_pure]
    unfold methF at h
    split at h
    · rename_i g e hfn hd
      simp only [Option.some.injEq] at h
      subst h
      rw [hfn]
      simp only [Sem.run_bind, receiverAt, run_und hd, Result.andThen_ok, Place.get, Sem.run_pure]
    · simp at h
    · rename_i g d hnp hfn hd
      simp only [Option.some.injEq] at h
      subst h
      rw [hfn]
      simp only [Sem.run_bind, receiverAt, run_und hd, Result.andThen_ok]
      cases d <;> first | (simp only [Place.get, Sem.run_pure, Result.andThen_ok]; done) | (exact absurd rfl (hnp _))
    · simp at h

theorem copyIn_parts {base : Option Addr} {n : Nat} {cs : List Value} {res : Res} {h' : H} (hv : copyIn h base n cs = some (res, h')) : (∃ v, res = .val v) ∧ h'.next = h.next := by
  unfold copyIn at hv
  split at hv
  · simp only [Option.some.injEq, Prod.mk.injEq] at hv
    obtain ⟨rfl, rfl⟩ := hv
    exact ⟨⟨_, rfl⟩, rfl⟩
  · obtain ⟨h2, ho, hv⟩ := Option.map_eq_some_iff.1 hv
    cases hv
    refine ⟨⟨_, rfl⟩, ?_⟩
    unfold H.over at ho
    split at ho
    · rename_i cs2 e2 _ _
      cases hall : cs.all one1 with
      | false => rw [hall] at ho; simp at ho
      | true =>
        rw [hall] at ho
        simp only [cond_true] at ho
        obtain ⟨l, _, rfl⟩ := Option.map_eq_some_iff.1 ho
        rfl
    · simp at ho
theorem copyTo_parts {ty : TypeId} {base : Option Addr} {len : Nat} {x : Value} {res : Res} {h' : H} (hv : copyTo P h ty base len x = some (res, h')) : (∃ v, res = .val v) ∧ h'.next = h.next := by
  unfold copyTo at hv
  cases h1 : undx P ty with
  | none => rw [h1] at hv; simp at hv
  | some d =>
    rw [h1] at hv
    cases d <;> (try (simp at hv; done))
    rename_i e
    simp only at hv
    cases h2 : szx P e with
    | none => rw [h2] at hv; simp at hv
    | some size =>
      cases h3 : lenx x with
      | none => rw [h2, h3] at hv; simp at hv
      | some m =>
        rw [h2, h3] at hv
        simp only at hv
        obtain ⟨cs, _, hv⟩ := Option.bind_eq_some_iff.1 hv
        exact copyIn_parts hv
theorem copyX_parts {ts : List TypeId} {xs : List Value} {res : Res} {h' : H} (hv : copyX P h ts xs = some (res, h')) : (∃ v, res = .val v) ∧ h'.next = h.next := by
  unfold copyX at hv
  split at hv
  · exact copyTo_parts hv
  · simp at hv
theorem copyX_val {ts : List TypeId} {xs : List Value} {res : Res} {h' : H} (hv : copyX P h ts xs = some (res, h')) : ∃ v, res = .val v := (copyX_parts hv).1
theorem copyX_run (K : HR P B σ h w) {ts : Array TypeId} {xs xs' : List Value} {ty2 : TypeId} {res : Res} {h' : H} (hxs : VRs σ xs xs') (hv : copyX P h ts.toList xs = some (res, h')) : ∃ w' v', (Builtin.copy_ ts ty2 ⟨xs'⟩).run P w = .ok v' w' ∧ HR P B σ h' w' ∧ FP σ h w w' ∧ Stay h h' ∧ ∃ v, res = .val v ∧ VR σ v v' := by
  unfold copyX at hv
  split at hv
  · rename_i ty tr base len cap x hts
    obtain ⟨d', x', rfl⟩ : ∃ d' x', xs' = [d', x'] := by
      have := hxs.1
      match xs', this with
      | [d', x'], _ => exact ⟨d', x', rfl⟩
    have hd := hxs.head
    have hx := hxs.tail.head
    have ht0 : ts[0]? = some ty := by rw [← Array.getElem?_toList, hts]; rfl
    unfold copyTo at hv
    split at hv
    · rename_i e hty
      split at hv
      · rename_i size m hsz hlen
        generalize hk : cond (Nat.ble m len) m len = k at hv
        have hmin : Nat.min m len = k := by
          cases hb : Nat.ble m len with
          | false =>
            rw [hb] at hk
            have hlt : ¬ m ≤ len := fun hh => by rw [Nat.ble_eq_true_of_le hh] at hb; cases hb
            simp only [cond_false] at hk
            subst hk
            exact Nat.min_eq_right (by omega)
          | true =>
            rw [hb] at hk
            simp only [cond_true] at hk
            subst hk
            exact Nat.min_eq_left (Nat.le_of_ble_eq_true hb)
        have hkm : k ≤ m := hmin ▸ Nat.min_le_left m len
        obtain ⟨cs, hcs, hv⟩ := Option.bind_eq_some_iff.1 hv
        obtain ⟨cs', c1, c2, c3⟩ := firstx_runK K hx hlen hkm hcs
        have start : ∀ {base' : Option Addr} {cap' : Nat}, d' = .slice base' len cap' → (Builtin.copy_ ts ty2 ⟨[d', x']⟩).run P w = ((do
            if let some a := base' then storeCells a cs'
            pure (goInt k) : Sem Value)).run P w := by
          intro base' cap' ed
          subst ed
          unfold Builtin.copy_
          simp only [ht0]
          simp only [List.getElem?_toArray, List.getElem?_cons_zero, List.getElem?_cons_succ, Sem.run_bind, run_und hty, Result.andThen_ok, lenx_run hx hlen, run_sz hsz, hmin, c1]
          cases base' <;> rfl
        unfold copyIn at hv
        cases hd with
        | slN =>
          simp only [Option.some.injEq, Prod.mk.injEq] at hv
          obtain ⟨rfl, rfl⟩ := hv
          refine ⟨w, .int .i64 k, ?_, K, FP.refl _ _ _, Stay.refl h, _, rfl, .int _ _⟩
          rw [start rfl]
          simp [goInt]
        | slX eb hc =>
          simp only at hv
          obtain ⟨h2, ho, hv⟩ := Option.map_eq_some_iff.1 hv
          cases hv
          obtain ⟨s1, s2, s3, s4⟩ := K.over eb c2 ho
          refine ⟨_, .int .i64 k, ?_, s2, s3, s4, _, rfl, .int _ _⟩
          rw [start rfl]
          simp only [Sem.run_bind, s1, Result.andThen_ok, Sem.run_pure]
          rfl
        | slO eb hc =>
          simp only at hv
          obtain ⟨h2, ho, hv⟩ := Option.map_eq_some_iff.1 hv
          cases hv
          obtain ⟨s1, s2, s3, s4⟩ := K.over eb c2 ho
          refine ⟨_, .int .i64 k, ?_, s2, s3, s4, _, rfl, .int _ _⟩
          rw [start rfl]
          simp only [Sem.run_bind, s1, Result.andThen_ok, Sem.run_pure]
          rfl
      · simp at hv
    · simp at hv
  · simp at hv

theorem clearX_parts {ts : List TypeId} {xs : List Value} {res : Res} {h' : H} (hv : clearX P h ts xs = some (res, h')) : (∃ v, res = .val v) ∧ h'.next = h.next := by
  unfold clearX at hv
  split at hv
  · split at hv
    · unfold clearTo at hv
      split at hv
      · simp only [Option.some.injEq, Prod.mk.injEq] at hv
        obtain ⟨rfl, rfl⟩ := hv
        exact ⟨⟨_, rfl⟩, rfl⟩
      · rename_i e _ _ a
        generalize hz : Nat.beq _ 0 = zb at hv
        cases zb with
        | true =>
          simp only [cond_true, Option.some.injEq, Prod.mk.injEq] at hv
          obtain ⟨rfl, rfl⟩ := hv
          exact ⟨⟨_, rfl⟩, rfl⟩
        | false =>
          simp only [cond_false] at hv
          obtain ⟨z, _, hv⟩ := Option.bind_eq_some_iff.1 hv
          obtain ⟨h2, ho, hv⟩ := Option.map_eq_some_iff.1 hv
          cases hv
          refine ⟨⟨_, rfl⟩, ?_⟩
          unfold H.over at ho
          split at ho
          · generalize hall : List.all _ one1 = ab at ho
            cases ab with
            | false => simp at ho
            | true =>
              simp only [cond_true] at ho
              obtain ⟨l, _, rfl⟩ := Option.map_eq_some_iff.1 ho
              rfl
          · simp at ho
    · simp at hv
  · simp at hv
theorem clearX_val {ts : List TypeId} {xs : List Value} {res : Res} {h' : H} (hv : clearX P h ts xs = some (res, h')) : ∃ v, res = .val v := (clearX_parts hv).1
theorem clearX_run (K : HR P B σ h w) {ts : Array TypeId} {xs xs' : List Value} {ty2 : TypeId} {res : Res} {h' : H} (hxs : VRs σ xs xs') (hv : clearX P h ts.toList xs = some (res, h')) : ∃ w' v', (Builtin.clear_ ts ty2 ⟨xs'⟩).run P w = .ok v' w' ∧ HR P B σ h' w' ∧ FP σ h w w' ∧ Stay h h' ∧ ∃ v, res = .val v ∧ VR σ v v' := by
  unfold clearX at hv
  split at hv
  · rename_i ty base n cap hts
    obtain ⟨d', rfl⟩ : ∃ d', xs' = [d'] := by
      have := hxs.1
      match xs', this with
      | [d'], _ => exact ⟨d', rfl⟩
    have hd := hxs.head
    have ht0 : ts[0]? = some ty := by rw [← Array.getElem?_toList, hts]; rfl
    have hte : VR σ (.tuple #[]) (.tuple #[]) := .tuple rfl (VRs.nil σ).2
    split at hv
    · rename_i e hty
      have st1 : ∀ v : Value, (#[v] : Array Value)[0]? = some v := fun _ => rfl
      have zcase : ∀ {base' : Option Addr} {cap' : Nat}, n = 0 → d' = .slice base' n cap' → (Builtin.clear_ ts ty2 ⟨[d']⟩).run P w = .ok (.tuple #[]) w := by
        intro base' cap' hn ed
        subst hn ed
        unfold Builtin.clear_
        simp only [ht0, st1, Sem.run_bind, run_und hty, Result.andThen_ok]
        cases base' <;> rfl
      have ncase : ∀ {a' : Addr} {cap' : Nat} {z : Value} {w2 : World}, n ≠ 0 → d' = .slice (some a') n cap' → zerox P e = some z → (storeCells a' (Ev.rep z.cells.toList n)).run P w = .ok () w2 → (Builtin.clear_ ts ty2 ⟨[d']⟩).run P w = .ok (.tuple #[]) w2 := by
        intro a' cap' z w2 hn ed hz hs
        subst ed
        obtain ⟨m, rfl⟩ : ∃ m, n = m + 1 := ⟨n - 1, by omega⟩
        unfold Builtin.clear_
        simp only [ht0, st1, Sem.run_bind, run_und hty, Result.andThen_ok]
        have e1 : (Builtin.zeroCells z.cells (m + 1)).toList = Ev.rep z.cells.toList (m + 1) := by
          unfold Builtin.zeroCells
          rw [rep_eq z.cells (m + 1) z.cells.size rfl]
        simp only [Sem.run_bind, zerox_run hz, Result.andThen_ok, e1, hs, Sem.run_pure]
      have fin : ∀ {b o r δ x : Nat} {cap' : Nat}, σ b = some (r, δ, x) → d' = .slice (some ⟨r, δ + o, none⟩) n cap' → clearTo P h e n (some ⟨b, o, none⟩) = some (res, h') → ∃ w' v', (Builtin.clear_ ts ty2 ⟨[d']⟩).run P w = .ok v' w' ∧ HR P B σ h' w' ∧ FP σ h w w' ∧ Stay h h' ∧ ∃ v, res = .val v ∧ VR σ v v' := by
        intro b o r δ x cap' eb ed hv
        unfold clearTo at hv
        simp only at hv
        cases hz : Nat.beq n 0 with
        | true =>
          rw [hz] at hv
          simp only [cond_true, Option.some.injEq, Prod.mk.injEq] at hv
          obtain ⟨rfl, rfl⟩ := hv
          exact ⟨w, _, zcase (Nat.eq_of_beq_eq_true hz) ed, K, FP.refl _ _ _, Stay.refl h, _, rfl, hte⟩
        | false =>
          rw [hz] at hv
          simp only [cond_false] at hv
          obtain ⟨z, hzz, hv⟩ := Option.bind_eq_some_iff.1 hv
          obtain ⟨h2, ho, hv⟩ := Option.map_eq_some_iff.1 hv
          cases hv
          obtain ⟨_, _, _, hpl⟩ := zerox_some hzz
          have hzc : VRs σ (vcells z) z.cells.toList := (VR.plain (σ := σ) hpl).cells
          obtain ⟨s1, s2, s3, s4⟩ := K.over eb (VRs.rep hzc n) ho
          exact ⟨_, _, ncase (fun h0 => by subst h0; simp at hz) ed hzz s1, s2, s3, s4, _, rfl, hte⟩
      cases hd with
      | slN =>
        unfold clearTo at hv
        simp only [Option.some.injEq, Prod.mk.injEq] at hv
        obtain ⟨rfl, rfl⟩ := hv
        refine ⟨w, .tuple #[], ?_, K, FP.refl _ _ _, Stay.refl h, _, rfl, hte⟩
        unfold Builtin.clear_
        simp only [ht0, st1, Sem.run_bind, run_und hty, Result.andThen_ok]
        rfl
      | slX eb hc => exact fin eb rfl hv
      | slO eb hc => exact fin eb rfl hv
    · simp at hv
  · simp at hv

theorem opX_run (K : HR P B σ h w) {o : Oper} {t : Tm} {ρ : Operand → Value} {res : Res} {h' : H} (hρ : ∀ x ∈ o.op.operands, VR σ (evx t x) (ρ x)) (hn : ∀ q, h.next ≤ q → q < h'.next → σ q = none) (hg : P.globals.size ≤ h.next)
    (hv : opX P t h o.op = some (res, h')) : PostX P B σ h w (execOp ρ o) res h' := by
  cases ho : o.op with
  | store ty a x =>
    rw [ho] at hv hρ
    simp only [opX, storeX] at hv
    have ha := hρ a (by simp [Op.operands])
    have hx := hρ x (by simp [Op.operands])
    generalize evx t a = av at hv ha
    cases hr : ρ a <;> rw [hr] at ha <;> cases ha <;> (try (simp at hv; done))
    rename_i e
    simp only at hv
    obtain ⟨h2, hst, hv⟩ := Option.map_eq_some_iff.1 hv
    cases hv
    obtain ⟨w', s1, s2, s3, s4⟩ := storex_run K e hx hst
    refine ⟨w', σ, by rw [s4.1]; exact EX.refl σ _, s2, s3, NB.none s4, .skip, undef, ?_, .inr ⟨rfl, rfl⟩, VR.undef _⟩
    unfold execOp
    simp only [ho, hr]
    simp only [Sem.run_bind, Instr.storeAt, Instr.sureAddr, Sem.run_pure, Result.andThen_ok, s1]
  | mapUpdate ty m k x =>
    rw [ho] at hv hρ
    simp only [opX, updX] at hv
    split at hv
    · rename_i key el hd
      obtain ⟨h2, hst, hv⟩ := Option.map_eq_some_iff.1 hv
      cases hv
      obtain ⟨w', s1, s2, s3, s4⟩ := mapUpdx_run K hd (hρ m (by simp [Op.operands])) (hρ k (by simp [Op.operands])) (hρ x (by simp [Op.operands])) hst
      refine ⟨w', σ, by rw [s4.1]; exact EX.refl σ _, s2, s3, NB.none s4, .skip, undef, ?_, .inr ⟨rfl, rfl⟩, VR.undef _⟩
      unfold execOp
      simp only [ho]
      simp only [Sem.run_bind, s1, Result.andThen_ok, Sem.run_pure]
    · simp at hv
  | insert ty m k x =>
    rw [ho] at hv hρ
    simp only [opX, updX] at hv
    split at hv
    · rename_i key el hd
      obtain ⟨h2, hst, hv⟩ := Option.map_eq_some_iff.1 hv
      cases hv
      obtain ⟨w', s1, s2, s3, s4⟩ := mapUpdx_run K hd (hρ m (by simp [Op.operands])) (hρ k (by simp [Op.operands])) (hρ x (by simp [Op.operands])) hst
      refine ⟨w', σ, by rw [s4.1]; exact EX.refl σ _, s2, s3, NB.none s4, .skip, undef, ?_, .inr ⟨rfl, rfl⟩, VR.undef _⟩
      unfold execOp
      simp only [ho]
      simp only [Sem.run_bind, s1, Result.andThen_ok, Sem.run_pure]
    · simp at hv
  | convert a b x =>
    rw [ho] at hv hρ
    exact toBytes_run K (hρ x (by simp [Op.operands])) hn hg hv (by unfold execOp; simp only [ho])
  | call c =>
    rw [ho] at hv hρ
    simp only [opX, callX] at hv
    have hargs : VRs σ (c.args.toList.map (evx t)) (c.args.toList.map ρ) := VRs.map_ev fun x hx => hρ x (by simp only [Op.operands, Call.operands]; exact Array.mem_append.2 (.inr (by simpa using hx)))
    have hmap : c.args.map ρ = ⟨c.args.toList.map ρ⟩ := by apply Array.ext'; simp
    cases hc : c.callee with
    | invoke r m =>
      rw [hc] at hv
      simp only at hv
      have hr := hρ r (by simp only [Op.operands, Call.operands, hc]; simp)
      unfold invokeX at hv
      generalize evx t r = rv at hv hr
      cases hrr : ρ r <;> rw [hrr] at hr <;> cases hr <;> (try (simp at hv; done))
      rename_i ty v' v hvv
      simp only at hv
      obtain ⟨f, hf, hv⟩ := Option.map_eq_some_iff.1 hv
      cases hv
      refine PostX.same K ⟨rfl, v' :: c.args.toList.map ρ, VRs.cons hvv hargs, ?_⟩
      unfold execOp
      simp only [ho, resolve, hc, hmap, hrr, Sem.run_bind, Sem.run_pure, Result.andThen_ok, invoke]
      have e0 : (#[Value.iface ty v'] ++ (⟨c.args.toList.map ρ⟩ : Array Value))[0]? = some (.iface ty v') := by simp
      simp only [e0, callMethod, Sem.run_bind, run_program, Result.andThen_ok, method_run hf]
      congr 2
      apply Array.ext'
      simp
      exact List.take_of_length_le (by simp)
    | value f =>
      rw [hc] at hv
      simp only at hv
      obtain ⟨r, ht, hv⟩ := Option.map_eq_some_iff.1 hv
      cases hv
      refine targetx_run K (hρ f (by simp only [Op.operands, Call.operands, hc]; simp)) hargs ht ?_
      unfold execOp
      simp only [ho, resolve, hc, hmap]
    | builtin b =>
      rw [hc] at hv
      simp only [builtinX] at hv
      cases b <;> (try (simp at hv; done))
      case clear =>
        simp only at hv
        obtain ⟨w', v', g1, g2, g3, g4, v, rfl, g5⟩ := clearX_run (ty2 := o.type) K hargs hv
        refine ⟨w', σ, by rw [g4.1]; exact EX.refl σ _, g2, g3, NB.none g4, .value v', v', ?_, .inl rfl, g5⟩
        unfold execOp
        simp only [ho, resolve, hc, hmap]
        simp only [Sem.run_bind, Sem.run_pure, Result.andThen_ok, invoke, builtin]
        rw [g1]
        rfl
      case copy =>
        simp only at hv
        obtain ⟨w', v', g1, g2, g3, g4, v, rfl, g5⟩ := copyX_run (ty2 := o.type) K hargs hv
        refine ⟨w', σ, by rw [g4.1]; exact EX.refl σ _, g2, g3, NB.none g4, .value v', v', ?_, .inl rfl, g5⟩
        unfold execOp
        simp only [ho, resolve, hc, hmap]
        simp only [Sem.run_bind, Sem.run_pure, Result.andThen_ok, invoke, builtin]
        rw [g1]
        rfl
      simp only [appX] at hv
      split at hv
      · rename_i ty ty2 s x hts hxs
        obtain ⟨r, happ, hv⟩ := Option.map_eq_some_iff.1 hv
        cases hv
        obtain ⟨v, h2⟩ := r
        rw [hxs] at hargs
        obtain ⟨s', x', hl'⟩ : ∃ s' x', c.args.toList.map ρ = [s', x'] := by
          have := hargs.1
          match hm : c.args.toList.map ρ, this with
          | [s', x'], _ => exact ⟨s', x', rfl⟩
        rw [hl'] at hargs hmap
        obtain ⟨v', w', g1, τ, g2, g3, g4, g5, g6⟩ := appendx_run (ty2 := o.type) K hts hargs.head hargs.tail.head hn hg happ
        refine ⟨w', τ, g3, g4, g5, g6, .value v', v', ?_, .inl rfl, g2⟩
        unfold execOp
        simp only [ho, resolve, hc, hmap]
        simp only [Sem.run_bind, Sem.run_pure, Result.andThen_ok, invoke, builtin]
        have : (⟨[s', x']⟩ : Array Value) = #[s', x'] := rfl
        rw [this, g1]
        rfl
      · simp at hv
  | defer c =>
    rw [ho] at hv hρ
    simp only [opX, deferX] at hv
    have hargs : VRs σ (c.args.toList.map (evx t)) (c.args.toList.map ρ) := VRs.map_ev fun x hx => hρ x (by simp only [Op.operands, Call.operands]; exact Array.mem_append.2 (.inr (by simpa using hx)))
    have hmap : c.args.map ρ = ⟨c.args.toList.map ρ⟩ := by apply Array.ext'; simp
    cases hc : c.callee with
    | invoke r m => rw [hc] at hv; simp at hv
    | builtin b => rw [hc] at hv; simp at hv
    | value f =>
      rw [hc] at hv
      simp only at hv
      have hf := hρ f (by simp only [Op.operands, Call.operands, hc]; simp)
      generalize evx t f = fv at hv hf
      cases hr : ρ f <;> rw [hr] at hf <;> cases hf <;> (try (simp at hv; done))
      rename_i g a a' c2 c2' l1 l2 i1 i2
      simp only [Option.some.injEq, Prod.mk.injEq] at hv
      obtain ⟨rfl, rfl⟩ := hv
      refine PostX.same K ⟨rfl, { target := .fn (.func g) ⟨c2'⟩, args := ⟨a' ++ c.args.toList.map ρ⟩ }, ⟨.fn g ⟨l2, i2⟩, VRs.append ⟨l1, i1⟩ hargs⟩, ?_⟩
      unfold execOp
      simp only [ho, resolve, hc, hmap, hr, Deferred.ofValue, Sem.run_bind, Sem.run_pure, Result.andThen_ok]
      congr 3
      apply Array.ext'
      simp
  | _ => rw [ho] at hv; simp [opX] at hv

end
end Go.Ev
