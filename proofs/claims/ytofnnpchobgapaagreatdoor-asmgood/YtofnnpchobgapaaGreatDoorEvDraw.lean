/- Regions that draw their order: what the tests of 'drawx' say. -/
import Derived.Test.YtofnnpchobgapaaGreatDoorEvRun
import Derived.Orders
set_option linter.unusedSimpArgs false
set_option linter.unusedVariables false
namespace Go.Ev
open Go Go.RowKit
section
variable {P : Program} {B : World}

theorem bytes_of_eq {a b : ByteArray} (h : bytesEq a.data.toList b.data.toList = true) : a = b := by
  rw [bytesEq_eq] at h
  have h2 : a.data.toList = b.data.toList := by simpa using h
  cases a; cases b
  simp only at h2
  congr 1
  exact Array.ext' h2

theorem veq1_eq {a b : Value} (h : veq1 a b = true) : a = b := by
  unfold veq1 at h
  split at h <;> (try (cases h; done))
  · simp at h; rw [h]
  · simp at h; rw [h.1, h.2]
  · rw [bytes_of_eq h]
  · simp at h; rw [h]
  · simp only [Bool.and_eq_true, decide_eq_true_eq] at h
    rw [h.1.1, Nat.eq_of_beq_eq_true h.1.2, Nat.eq_of_beq_eq_true h.2]
  · simp at h; rw [h]
  · rfl
  · rfl
theorem veqs_eq {f : Value → Value → Bool} (hf : ∀ a b, f a b = true → a = b) : ∀ {x y : List Value}, veqs f x y = true → x = y
  | [], [], _ => rfl
  | [], _ :: _, h => by simp [veqs] at h
  | _ :: _, [], h => by simp [veqs] at h
  | a :: x, b :: y, h => by
    simp only [veqs] at h
    cases hab : f a b with
    | false => rw [hab] at h; simp at h
    | true => rw [hab] at h; rw [hf a b hab, veqs_eq hf h]
theorem veqN_eq : ∀ (n : Nat) (a b : Value), veqN n a b = true → a = b
  | 0, a, b, h => veq1_eq (by simpa [veqN] using h)
  | n + 1, a, b, h => by
    cases a <;> cases b <;> simp only [veqN] at h <;> first
      | exact veq1_eq h
      | (have := veqs_eq (veqN_eq n) h; rw [Array.ext' this])
theorem veq_eq {a b : Value} (h : veq a b = true) : a = b := veqN_eq 3 a b h

/-- The bits of 'before'. -/
theorem foldl_bits (acc : Array Nat) (i : Nat) : ∀ (l : List Edge) (z : Nat), (l.foldl (fun s e => if Region.binds .any e then s ||| 2 ^ e.on ||| acc.getD e.on 0 else s) z).testBit i = true →
    z.testBit i = true ∨ ∃ e ∈ l, Region.binds .any e = true ∧ (e.on = i ∨ (acc.getD e.on 0).testBit i = true)
  | [], z, h => .inl h
  | e :: l, z, h => by
    simp only [List.foldl_cons] at h
    rcases foldl_bits acc i l _ h with h | ⟨e', h1, h2⟩
    · by_cases hb : Region.binds .any e = true
      · rw [if_pos hb] at h
        simp only [Nat.testBit_or, Bool.or_eq_true, Nat.testBit_two_pow] at h
        rcases h with (h | h) | h
        · exact .inl h
        · exact .inr ⟨e, by simp, hb, .inl (by simpa using h)⟩
        · exact .inr ⟨e, by simp, hb, .inr h⟩
      · rw [if_neg hb] at h; exact .inl h
    · exact .inr ⟨e', by simp [h1], h2⟩

theorem before_go : ∀ (l : List Oper) (acc : Array Nat), ∃ acc' : Array Nat, l.foldl (fun acc (o : Oper) => acc.push (o.after.foldl (fun s e => if Region.binds .any e then s ||| 2 ^ e.on ||| acc.getD e.on 0 else s) 0)) acc = acc' ∧ acc'.size = acc.size + l.length ∧ (∀ i, i < acc.size → acc'[i]? = acc[i]?) ∧
    ∀ (k : Nat) o, l[k]? = some o → ∃ pre : Array Nat, acc'[acc.size + k]? = some (o.after.foldl (fun s e => if Region.binds .any e then s ||| 2 ^ e.on ||| pre.getD e.on 0 else s) 0) ∧ ∀ i, i < acc.size + k → pre.getD i 0 = acc'.getD i 0
  | [], acc => ⟨acc, rfl, by simp, fun _ _ => rfl, fun k o h => by simp at h⟩
  | o :: l, acc => by
    obtain ⟨acc', h1, h2, h3, h4⟩ := before_go l (acc.push (o.after.foldl (fun s e => if Region.binds .any e then s ||| 2 ^ e.on ||| acc.getD e.on 0 else s) 0))
    have hps : (acc.push (o.after.foldl (fun s e => if Region.binds .any e then s ||| 2 ^ e.on ||| acc.getD e.on 0 else s) 0)).size = acc.size + 1 := by simp
    refine ⟨acc', h1, by rw [h2, hps]; simp; omega, fun i hi => ?_, fun k o' ho => ?_⟩
    · rw [h3 i (by omega), Array.getElem?_push, if_neg (by omega)]
    · cases k with
      | zero =>
        simp at ho
        subst ho
        refine ⟨acc, ?_, fun i hi => ?_⟩
        · rw [Nat.add_zero, h3 acc.size (by omega)]; simp
        · rw [Array.getD_eq_getD_getElem?, Array.getD_eq_getD_getElem?, h3 i (by omega), Array.getElem?_push, if_neg (by omega)]
      | succ k =>
        simp at ho
        obtain ⟨pre, q1, q2⟩ := h4 k o' ho
        refine ⟨pre, ?_, fun i hi => q2 i (by rw [hps]; omega)⟩
        rw [hps] at q1
        have : acc.size + (k + 1) = acc.size + 1 + k := by omega
        rw [this]; exact q1

theorem before_bit {ops : Array Oper} {j : Nat} {o : Oper} (ho : ops[j]? = some o) (hlt : ∀ e ∈ o.after, Region.binds .any e = true → e.on < j) {i : Nat} (hb : ((Region.before ops).getD j 0).testBit i = true) :
    ∃ e ∈ o.after, Region.binds .any e = true ∧ (e.on = i ∨ ((Region.before ops).getD e.on 0).testBit i = true) := by
  obtain ⟨acc', h1, h2, h3, h4⟩ := before_go ops.toList #[]
  have hbe : Region.before ops = acc' := by
    unfold Region.before
    rw [← Array.foldl_toList]
    exact h1
  obtain ⟨pre, q1, q2⟩ := h4 j o (by simpa using ho)
  simp only [List.size_toArray, List.length_nil, Nat.zero_add] at q1 q2
  rw [hbe, Array.getD_eq_getD_getElem?, q1] at hb
  simp only [Option.getD_some] at hb
  rw [← Array.foldl_toList] at hb
  rcases foldl_bits pre i o.after.toList 0 hb with z | ⟨e, z1, z2, z3⟩
  · simp at z
  · refine ⟨e, by simpa using z1, z2, z3.imp id fun z => ?_⟩
    rw [hbe, ← q2 e.on (hlt e (by simpa using z1) z2)]
    exact z

theorem edgesOk_get : ∀ {l : List Oper} {i k : Nat} {o : Oper}, edgesOk i l = true → l[k]? = some o → ∀ e ∈ o.after, Region.binds .any e = true → e.on < i + k
  | [], i, k, o, _, ho => by simp at ho
  | p :: l, i, k, o, h, ho => by
    simp only [edgesOk, Bool.and_eq_true] at h
    intro e he hb
    cases k with
    | zero =>
      simp at ho
      subst ho
      have := List.all_eq_true.1 h.1 e (by simpa using he)
      rw [hb] at this
      simpa [Nat.blt_eq] using this
    | succ k =>
      simp at ho
      have := edgesOk_get h.2 ho e he hb
      omega

theorem dstsOk_ne : ∀ {l : List Oper} {i j : Nat} {p q : Oper} {d : Tmp}, dstsOk l = true → l[i]? = some p → l[j]? = some q → i < j → p.dst = some d → q.dst ≠ some d
  | [], i, j, p, q, d, _, hp => by simp at hp
  | x :: l, i, j, p, q, d, h, hp => by
    intro hq hij hd he
    simp only [dstsOk, Bool.and_eq_true] at h
    cases j with
    | zero => omega
    | succ j =>
      simp at hq
      cases i with
      | zero =>
        simp at hp
        subst hp
        rw [hd] at h
        have := List.all_eq_true.1 h.1 q (List.mem_of_getElem? hq)
        rw [he] at this
        simp at this
      | succ i =>
        simp at hp
        exact dstsOk_ne h.2 hp hq (by omega) hd he

theorem pairs_go_get {all : List Oper} {b : Oper} {m cb : Nat} : ∀ {as : List Oper} {cs : List Nat} {i k : Nat} {p : Oper} {c : Nat}, pairsOk.go all b m cb i as cs = true → as[k]? = some p → cs[k]? = some c → m.testBit (i + k) = true ∨ apartx all p b c cb = true
  | [], cs, i, k, p, c, _, hp => by simp at hp
  | x :: as, [], i, k, p, c, _, hp => by intro hc; simp at hc
  | x :: as, y :: cs, i, k, p, c, h, hp => by
    intro hc
    simp only [pairsOk.go, Bool.and_eq_true, Bool.or_eq_true] at h
    cases k with
    | zero => simp at hp hc; subst hp; subst hc; simpa using h.1
    | succ k =>
      simp at hp hc
      have := pairs_go_get h.2 hp hc
      rw [Nat.add_assoc, Nat.add_comm 1 k] at this
      exact this
theorem pairsOk_get {all : List Oper} {cl bf : List Nat} : ∀ {l : List Oper} {j0 k : Nat} {b : Oper}, pairsOk all cl bf j0 l = true → l[k]? = some b → pairsOk.go all b (bf.getD (j0 + k) 0) (cl.getD (j0 + k) 0) 0 (all.take (j0 + k)) cl = true
  | [], j0, k, b, _, hb => by simp at hb
  | x :: l, j0, k, b, h, hb => by
    simp only [pairsOk, Bool.and_eq_true] at h
    cases k with
    | zero => simp at hb; subst hb; exact h.1
    | succ k =>
      simp at hb
      have := pairsOk_get h.2 hb
      rw [Nat.add_assoc, Nat.add_comm 1 k] at this
      exact this

/-- Two operations in the text's order: the second waits for the first, or they are apart. -/
theorem pair_of {ops : Array Oper} (h : staticOk P ops = true) {i j : Nat} {p q : Oper} (hp : ops[i]? = some p) (hq : ops[j]? = some q) (hij : i < j) : ((Region.before ops).getD j 0).testBit i = true ∨ apartx ops.toList p q (clsx P p.op) (clsx P q.op) = true := by
  unfold staticOk at h
  simp only [Bool.and_eq_true] at h
  have h1 := pairsOk_get h.2 (k := j) (b := q) (by simpa using hq)
  simp only [Nat.zero_add] at h1
  have hcl : ((ops.toList.map fun o => clsx P o.op).getD j 0) = clsx P q.op := by simp [List.getD, hq]
  rw [hcl] at h1
  have h2 := pairs_go_get h1 (k := i) (p := p) (c := clsx P p.op) (by rw [List.getElem?_take, if_pos hij]; simpa using hp) (by simp [hp])
  have hbf : (Region.before ops).toList.getD j 0 = (Region.before ops).getD j 0 := by simp [List.getD, Array.getD_eq_getD_getElem?]
  rw [hbf, Nat.zero_add] at h2
  exact h2

theorem feasx_of {bf : List Nat} {j E : Nat} : ∀ {cs : List Nat} {y : Nat}, (∀ (k : Nat), cs[k]? = some 3 → (y + k < E → (bf.getD (y + k) 0).testBit j = false) ∧ (E ≤ y + k → (bf.getD j 0).testBit (y + k) = false)) → feasx bf j E y cs = true
  | [], y, h => rfl
  | c :: cs, y, h => by
    simp only [feasx, Bool.and_eq_true, Bool.or_eq_true]
    refine ⟨?_, feasx_of fun k hk => ?_⟩
    · by_cases hc : c = 3
      · subst hc
        have := h 0 rfl
        simp only [Nat.add_zero] at this
        right
        by_cases hy : y < E
        · have e1 : Nat.blt y E = true := by simpa [Nat.blt_eq] using hy
          rw [e1]; simp only [cond_true, this.1 hy]; rfl
        · have e1 : Nat.blt y E = false := by
            cases hb : Nat.blt y E
            · rfl
            · exact absurd (by simpa [Nat.blt_eq] using hb) hy
          rw [e1]; simp only [cond_false, this.2 (by omega)]; rfl
      · left; rw [nbeq hc]; rfl
    · have := h (k + 1) (by simpa using hk)
      have e : y + (k + 1) = y + 1 + k := by omega
      rw [e] at this; exact this

theorem readAll_get {cl bf : List Nat} {j : Nat} {o : Op} {t : Tm} {v : Value} : ∀ {ss : List St} {cs : List Nat} {E0 k : Nat} {ep : Bool} {s : St}, readAll P cl bf j o t v E0 ep cs ss = true → ss[k]? = some s → (k = 0 → ep = true) → (∀ m, k = m + 1 → cs[m]? = some 3) → k ≤ cs.length → feasx bf j (E0 + k) 0 cl = true → ∃ u, opL P t s.h o = some u ∧ veq u v = true
  | [], cs, E0, k, ep, s, _, hs => by simp at hs
  | x :: ss, cs, E0, k, ep, s, h, hs => by
    intro h0 hm hk hf
    unfold readAll at h
    simp only [Bool.and_eq_true, Bool.or_eq_true] at h
    cases k with
    | zero =>
      simp at hs
      subst hs
      simp only [Nat.add_zero] at hf
      rw [h0 rfl, hf] at h
      rcases h.1 with z | z
      · simp at z
      · split at z
        · exact ⟨_, ‹_›, z⟩
        · cases z
    | succ k =>
      simp at hs
      cases cs with
      | nil => simp at hk
      | cons c cs =>
        have h2 := h.2
        simp only at h2
        refine readAll_get h2 hs (fun e => ?_) (fun m e => ?_) (by simpa using hk) (by have : E0 + 1 + k = E0 + (k + 1) := by omega
                                                                                       rw [this]; exact hf)
        · subst e
          have := hm 0 rfl
          simp at this
          subst this; rfl
        · subst e
          have := hm (m + 1) rfl
          simpa using this

theorem allReads_get {all : List Oper} {cl bf : List Nat} {tr : List St} : ∀ {os : List Oper} {ss : List St} {i k : Nat} {o : Oper} {s : St}, allReads P all cl bf tr i os ss = true → os[k]? = some o → ss[k]? = some s → clsx P o.op = 1 → wantx all s.t o = true → ∃ v, opL P s.t s.h o.op = some v ∧ readAll P cl bf (i + k) o.op s.t v 0 true cl tr = true
  | [], ss, i, k, o, s, _, ho => by simp at ho
  | x :: os, [], i, k, o, s, h, ho => by intro hs; simp at hs
  | x :: os, y :: ss, i, k, o, s, h, ho => by
    intro hs hc hw
    simp only [allReads, Bool.and_eq_true, Bool.or_eq_true] at h
    cases k with
    | zero =>
      simp at ho hs
      subst ho; subst hs
      rcases h.1 with (z | z) | z
      · rw [hc] at z; simp at z
      · rw [hw] at z; simp at z
      · split at z
        · exact ⟨_, ‹_›, by simpa using z⟩
        · cases z
    | succ k =>
      simp at ho hs
      obtain ⟨v, h1, h2⟩ := allReads_get h.2 ho hs hc hw
      refine ⟨v, h1, ?_⟩
      rw [Nat.add_assoc, Nat.add_comm 1 k] at h2
      exact h2

/-- The states of a trace. -/
theorem trace_get {pr : Prim} {call : Oracle} {rnd : Option Nat} {nt : Nat} {all : List Oper} : ∀ {os : List Oper} {s : St} {tr : List St}, tracex P pr call rnd nt all os s = some tr → tr.length = os.length + 1 ∧ tr[0]? = some s ∧ lastx tr = tr[os.length]? ∧ ∀ (k : Nat) o, os[k]? = some o → ∃ s1 s2, tr[k]? = some s1 ∧ tr[k + 1]? = some s2 ∧ doOp P pr call rnd nt all o s1 = some s2
  | [], s, tr, h => by simp [tracex] at h; subst h; exact ⟨rfl, rfl, rfl, fun k o hk => by simp at hk⟩
  | o :: os, s, tr, h => by
    simp only [tracex] at h
    split at h
    · rename_i s1 h1
      obtain ⟨q, hq, rfl⟩ := Option.map_eq_some_iff.1 h
      obtain ⟨g1, g2, g3, g4⟩ := trace_get hq
      refine ⟨by simp [g1], rfl, ?_, fun k o' hk => ?_⟩
      · cases q with
        | nil => simp at g1
        | cons x xs => show lastx (x :: xs) = _; rw [g3]; simp
      · cases k with
        | zero => simp at hk; subst hk; exact ⟨s, s1, rfl, by simpa using g2, h1⟩
        | succ k => simp at hk; simpa using g4 k o' hk
    · simp at h
end
end Go.Ev
namespace Go.Ev
open Go Go.RowKit
section
variable {P : Program} {B : World}

theorem clsx_cases (o : Op) : clsx P o = 0 ∨ clsx P o = 1 ∨ clsx P o = 2 ∨ clsx P o = 3 := by
  have hc : ∀ a b, clsConv P a b = 0 ∨ clsConv P a b = 1 ∨ clsConv P a b = 2 ∨ clsConv P a b = 3 := fun a b => by
    unfold clsConv; split <;> (try split) <;> simp
  have hl : ∀ ts, clsLen P ts = 0 ∨ clsLen P ts = 1 ∨ clsLen P ts = 2 ∨ clsLen P ts = 3 := fun ts => by
    unfold clsLen; split <;> (try split) <;> simp
  have hk : ∀ c, clsCall P c = 0 ∨ clsCall P c = 1 ∨ clsCall P c = 2 ∨ clsCall P c = 3 := fun c => by
    unfold clsCall; split
    · split
      · exact hl _
      · simp
      · simp
      · simp
      · simp
    · simp
  unfold clsx
  split <;> first | exact hc _ _ | exact hk _ | simp

theorem setx_get {nt : Nat} {t t' : Tm} {d : Option Tmp} {v : Value} (h : setx nt t d v = some t') : (∀ u, d ≠ some u → t'.get u = t.get u) ∧ (∀ u, d = some u → t'.get u = some v ∧ u < nt) := by
  unfold setx at h
  cases d with
  | none => simp at h; subst h; exact ⟨fun _ _ => rfl, fun u hu => by cases hu⟩
  | some d =>
    obtain ⟨h1, h2⟩ := cond_none h
    simp only [Option.some.injEq] at h2
    subst h2
    refine ⟨fun u hu => ?_, fun u hu => ?_⟩
    · rw [Tr.get_put, if_neg (fun e => hu (by rw [e]))]
    · cases hu; exact ⟨by rw [Tr.get_put, if_pos rfl], by simpa [Nat.blt_eq] using h1⟩

/-- What an operation of ours did, by its class. -/
theorem doOp_parts {pr : Prim} {call : Oracle} {rnd : Option Nat} {nt : Nat} {all : List Oper} {o : Oper} {s s' : St} (hd : doOp P pr call rnd nt all o s = some s') :
    (wantx all s.t o = false ∧ setx nt s.t o.dst undef = some s'.t ∧ s'.h = s.h ∧ s'.ds = s.ds) ∨
    (wantx all s.t o = true ∧ o.op.operands.toList.all (okO P) = true ∧
      ((clsx P o.op = 0 ∧ ∃ v, opP P s.t o.op = some v ∧ setx nt s.t o.dst v = some s'.t ∧ s'.h = s.h ∧ s'.ds = s.ds) ∨
       (clsx P o.op = 1 ∧ ∃ v, opL P s.t s.h o.op = some v ∧ setx nt s.t o.dst v = some s'.t ∧ s'.h = s.h ∧ s'.ds = s.ds) ∨
       (clsx P o.op = 2 ∧ ∃ ob ak, opA P s.t o.op = some (ob, ak) ∧ setx nt s.t o.dst (valA s.h.next ak) = some s'.t ∧ s'.h = s.h.new ob ∧ s'.ds = s.ds) ∨
       (clsx P o.op = 3 ∧ ∃ v, setx nt s.t o.dst v = some s'.t))) := by
  unfold doOp at hd
  cases hw : wantx all s.t o with
  | false =>
    rw [hw] at hd
    simp only [cond_false] at hd
    obtain ⟨t', h1, rfl⟩ := Option.map_eq_some_iff.1 hd
    exact .inl ⟨rfl, h1, rfl, rfl⟩
  | true =>
    rw [hw] at hd
    simp only [cond_true] at hd
    split at hd
    · rename_i r hr
      obtain ⟨hall, hr⟩ := cond_none hr
      refine .inr ⟨rfl, hall, ?_⟩
      split at hd
      · rename_i v ds h2 hres
        obtain ⟨t', h1, rfl⟩ := Option.map_eq_some_iff.1 hd
        unfold opx at hr
        rcases clsx_cases (P := P) o.op with hc | hc | hc | hc
        · rw [hc] at hr
          obtain ⟨u, h3, rfl⟩ := Option.map_eq_some_iff.1 hr
          simp only [resx, Option.some.injEq, Prod.mk.injEq] at hres
          obtain ⟨rfl, rfl, rfl⟩ := hres
          exact .inl ⟨hc, u, h3, h1, rfl, rfl⟩
        · rw [hc] at hr
          obtain ⟨u, h3, rfl⟩ := Option.map_eq_some_iff.1 hr
          simp only [resx, Option.some.injEq, Prod.mk.injEq] at hres
          obtain ⟨rfl, rfl, rfl⟩ := hres
          exact .inr (.inl ⟨hc, u, h3, h1, rfl, rfl⟩)
        · rw [hc] at hr
          obtain ⟨⟨ob, ak⟩, h3, rfl⟩ := Option.map_eq_some_iff.1 hr
          simp only [resx, Option.some.injEq, Prod.mk.injEq] at hres
          obtain ⟨rfl, rfl, rfl⟩ := hres
          exact .inr (.inr (.inl ⟨hc, ob, ak, h3, h1, rfl, rfl⟩))
        · exact .inr (.inr (.inr ⟨hc, v, h1⟩))
      · simp at hd
    · simp at hd

theorem doOp_set {pr : Prim} {call : Oracle} {rnd : Option Nat} {nt : Nat} {all : List Oper} {o : Oper} {s s' : St} (hd : doOp P pr call rnd nt all o s = some s') : ∃ v, setx nt s.t o.dst v = some s'.t := by
  rcases doOp_parts hd with ⟨_, h, _⟩ | ⟨_, _, ⟨_, v, _, h, _⟩ | ⟨_, v, _, h, _⟩ | ⟨_, ob, ak, _, h, _⟩ | ⟨_, v, h⟩⟩
  · exact ⟨_, h⟩
  · exact ⟨v, h⟩
  · exact ⟨v, h⟩
  · exact ⟨_, h⟩
  · exact ⟨v, h⟩

/-- Is i among those that j waits for? -/
def Bf (ops : Array Oper) (i j : Nat) : Prop := ((Region.before ops).getD j 0).testBit i = true

/-- A region's run in the text's order. -/
structure Can (P : Program) (pr : Prim) (call : Oracle) (rnd : Option Nat) (nt : Nat) (ops : Array Oper) (S : Nat → St) : Prop where
  op : ∀ i o, ops[i]? = some o → doOp P pr call rnd nt ops.toList o (S i) = some (S (i + 1))
  static : staticOk P ops = true
  reads : ∀ i o, ops[i]? = some o → clsx P o.op = 1 → wantx ops.toList (S i).t o = true → ∃ v, opL P (S i).t (S i).h o.op = some v ∧ ∀ E, E ≤ ops.size → (E = 0 ∨ ∃ x, ops[E - 1]? = some x ∧ clsx P x.op = 3) →
    (∀ y x, ops[y]? = some x → clsx P x.op = 3 → (y < E → ¬ Bf ops i y) ∧ (E ≤ y → ¬ Bf ops y i)) → opL P (S i).t (S E).h o.op = some v

theorem drawTr_can {pr : Prim} {call : Oracle} {rnd : Option Nat} {nt : Nat} {ops : Array Oper} {s s' : St} (hst : staticOk P ops = true) (hd : drawTr P pr call rnd nt ops s = some s') : ∃ S : Nat → St, Can P pr call rnd nt ops S ∧ S 0 = s ∧ S ops.size = s' := by
  unfold drawTr at hd
  split at hd
  · rename_i tr htr
    obtain ⟨hrd, hd⟩ := cond_none hd
    obtain ⟨g1, g2, g3, g4⟩ := trace_get htr
    have hN : ops.toList.length = ops.size := Array.length_toList
    rw [g3, hN] at hd
    refine ⟨fun i => (tr[i]?).getD s, ⟨fun i o ho => ?_, hst, fun i o ho hc hw => ?_⟩, by simp [g2], by simp [hd]⟩
    · obtain ⟨s1, s2, q1, q2, q3⟩ := g4 i o (by simpa using ho)
      simp [q1, q2, q3]
    · have hi : i < ops.size := (Array.getElem?_eq_some_iff.1 ho).1
      have hti : tr[i]? = some ((tr[i]?).getD s) := by rw [List.getElem?_eq_getElem (by omega)]; rfl
      obtain ⟨v, h1, h2⟩ := allReads_get hrd (k := i) (by simpa using ho) hti hc hw
      refine ⟨v, h1, fun E hE hep hfe => ?_⟩
      have htE : tr[E]? = some ((tr[E]?).getD s) := by rw [List.getElem?_eq_getElem (by omega)]; rfl
      rw [Nat.zero_add] at h2
      have hm3 : ∀ m, E = m + 1 → (ops.toList.map fun o => clsx P o.op)[m]? = some 3 := by
        intro m e
        rcases hep with z | ⟨x, hx, hxc⟩
        · omega
        · rw [e] at hx
          simp only [Nat.add_sub_cancel] at hx
          simp only [List.getElem?_map]
          have : ops.toList[m]? = some x := by simpa using hx
          rw [this]; simp [hxc]
      have hfs : feasx (Region.before ops).toList i (0 + E) 0 (ops.toList.map fun o => clsx P o.op) = true := by
        rw [Nat.zero_add]
        refine feasx_of fun k hk => ?_
        simp only [Nat.zero_add]
        simp only [List.getElem?_map, Option.map_eq_some_iff] at hk
        obtain ⟨x, hx, hxc⟩ := hk
        have := hfe k x (by simpa using hx) hxc
        have hbf : ∀ j, (Region.before ops).toList.getD j 0 = (Region.before ops).getD j 0 := fun j => by simp [List.getD, Array.getD_eq_getD_getElem?]
        rw [hbf, hbf]
        exact ⟨fun z => by simpa [Bf] using this.1 z, fun z => by simpa [Bf] using this.2 z⟩
      obtain ⟨u, k1, k2⟩ := readAll_get h2 (k := E) htE (fun _ => rfl) hm3 (by simp; omega) hfs
      rw [k1, veq_eq k2]
  · simp at hd

/-- The operations of a region in another order: π tells which stands at a place, ι where one stands. -/
structure Link (rops ops : Array Oper) (π ι : Nat → Nat) : Prop where
  size : ops.size = rops.size
  pl : ∀ p, p < ops.size → π p < ops.size
  il : ∀ i, i < ops.size → ι i < ops.size
  ip : ∀ p, p < ops.size → ι (π p) = p
  pi_ : ∀ i, i < ops.size → π (ι i) = i
  eo : ∀ (i : Nat) (o : Oper), rops[i]? = some o → ∀ e ∈ o.after, Region.binds .any e = true → e.on < ops.size
  at_ : ∀ (i : Nat) (o : Oper), rops[i]? = some o → ops[ι i]? = some (ren ι o)
  wl : ∀ (i : Nat) (o : Oper), rops[i]? = some o → ∀ t : Tm, wantx rops.toList t o = wantx ops.toList t (ren ι o)
  wd : ∀ (i : Nat) (o : Oper), rops[i]? = some o → ∀ tm : Array Value, Region.wanted o (yielded rops tm) = Region.wanted (ren ι o) (yielded ops tm)
theorem ren_id (o : Oper) : ren id o = o := by
  unfold ren
  cases o
  simp
theorem Link.refl (ops : Array Oper) (he : ∀ (i : Nat) (o : Oper), ops[i]? = some o → ∀ e ∈ o.after, Region.binds .any e = true → e.on < ops.size) : Link ops ops id id where
  size := rfl
  pl := fun _ h => h
  il := fun _ h => h
  ip := fun _ _ => rfl
  pi_ := fun _ _ => rfl
  eo := he
  at_ := fun i o h => by rw [ren_id]; exact h
  wl := fun i o _ t => by rw [ren_id]
  wd := fun i o _ t => by rw [ren_id]
theorem placesOk_get {n : Nat} {pm : List Nat} : ∀ {l : List Nat} {p k x : Nat}, placesOk n pm p l = true → l[k]? = some x → x < n ∧ posN pm x = p + k
  | [], p, k, x, _, h => by simp at h
  | y :: l, p, k, x, h, hx => by
    simp only [placesOk] at h
    generalize hb : (Nat.blt y n && Nat.beq (posN pm y) p) = bb at h
    cases bb with
    | false => cases h
    | true =>
      simp only [cond_true] at h
      simp only [Bool.and_eq_true] at hb
      cases k with
      | zero =>
        simp at hx
        subst hx
        exact ⟨by simpa [Nat.blt_eq] using hb.1, by simpa using Nat.eq_of_beq_eq_true hb.2⟩
      | succ k =>
        simp at hx
        have := placesOk_get h hx
        exact ⟨this.1, by rw [this.2]; omega⟩
theorem allN_get {pm : List Nat} : ∀ {n i : Nat}, allN pm n = true → i < n → hasN pm i = true
  | n + 1, i, h, hi => by
    simp only [allN] at h
    generalize hb : hasN pm n = bb at h
    cases bb with
    | false => cases h
    | true =>
      by_cases e : i = n
      · subst e; exact hb
      · exact allN_get (n := n) (by simpa using h) (by omega)
theorem hasN_pos : ∀ {pm : List Nat} {i : Nat}, hasN pm i = true → pm[posN pm i]? = some i ∧ posN pm i < pm.length
  | [], i, h => by simp [hasN] at h
  | x :: l, i, h => by
    simp only [hasN] at h
    simp only [posN]
    cases hb : Nat.beq x i with
    | true => simp [Nat.eq_of_beq_eq_true hb]
    | false =>
      rw [hb] at h
      simp only [cond_false] at h
      have := hasN_pos h
      exact ⟨by simpa using this.1, by simpa using this.2⟩
theorem nthR_eq' {α : Type} : ∀ (l : List α) (n : Nat), nthR l n = l[n]?
  | [], n => by simp [nthR]
  | x :: l, 0 => rfl
  | x :: l, n + 1 => by
    have := nthR_eq' l n
    simpa [nthR, hop] using this
theorem Link.perm {ops : Array Oper} {pm : List Nat} (h : permOk ops.toList pm = true) : Link ops ⟨permx ops.toList pm⟩ (fun p => pm.getD p 0) (posN pm) := by
  unfold permOk at h
  simp only [Bool.and_eq_true] at h
  obtain ⟨⟨⟨h1, h2⟩, h3⟩, h4⟩ := h
  have hlen : pm.length = ops.size := by simpa using Nat.eq_of_beq_eq_true h1
  have hsz : (⟨permx ops.toList pm⟩ : Array Oper).size = ops.size := by simp [permx, hlen]
  have hall := fun (i : Nat) (o : Oper) (ho : ops[i]? = some o) => List.all_eq_true.1 h4 o (List.mem_of_getElem? (i := i) (by simpa using ho))
  have hg : ∀ (i : Nat) (o : Oper), ops[i]? = some o → o.guard = none := fun i o ho => by
    have := hall i o ho
    simp only [Bool.and_eq_true] at this
    simpa using this.1
  have hpos : ∀ i, i < ops.size → pm[posN pm i]? = some i ∧ posN pm i < pm.length := fun i hi => hasN_pos (allN_get h3 (by simpa using hi))
  refine ⟨hsz, fun p hp => ?_, fun i hi => ?_, fun p hp => ?_, fun i hi => ?_, fun i o ho e he _ => ?_, fun i o ho => ?_, fun i o ho t => ?_, fun i o ho t => ?_⟩
  · rw [hsz] at hp ⊢
    have hx := List.getElem?_eq_getElem (l := pm) (i := p) (by omega)
    have := (placesOk_get h2 hx).1
    simp only [List.getD_eq_getElem?_getD, hx, Option.getD_some]
    simpa using this
  · rw [hsz] at hi ⊢
    have := (hpos i hi).2
    omega
  · rw [hsz] at hp
    have hx := List.getElem?_eq_getElem (l := pm) (i := p) (by omega)
    have := (placesOk_get h2 hx).2
    simp only [List.getD_eq_getElem?_getD, hx, Option.getD_some]
    omega
  · rw [hsz] at hi
    simp only [List.getD_eq_getElem?_getD, (hpos i hi).1, Option.getD_some]
  · have := hall i o ho
    simp only [Bool.and_eq_true] at this
    have h5 := List.all_eq_true.1 this.2 e (by simpa using he)
    rw [hsz]
    simpa [Nat.blt_eq] using h5
  · have hi : i < ops.size := (Array.getElem?_eq_some_iff.1 ho).1
    have ho' : ops.toList[i]? = some o := by simpa using ho
    simp only [List.getElem?_toArray, permx, List.getElem?_map, (hpos i hi).1, Option.map_some, nthR_eq', ho', Option.getD_some]
  · have e1 := hg i o ho
    have e2 : (ren (posN pm) o).guard = none := e1
    unfold wantx
    rw [e1, e2]
  · have e1 := hg i o ho
    have e2 : (ren (posN pm) o).guard = none := e1
    unfold Region.wanted
    rw [e1, e2]
theorem drawx_can {pr : Prim} {call : Oracle} {rnd : Option Nat} {nt : Nat} {rops : Array Oper} {s s' : St} (hd : drawx P pr call rnd nt rops s = some s') : ∃ (ops : Array Oper) (π ι : Nat → Nat) (S : Nat → St), Link rops ops π ι ∧ Can P pr call rnd nt ops S ∧ S 0 = s ∧ S ops.size = s' := by
  unfold drawx at hd
  cases hst : staticOk P rops with
  | true =>
    rw [hst] at hd
    obtain ⟨S, h⟩ := drawTr_can hst hd
    refine ⟨rops, id, id, S, Link.refl rops (fun i o ho e he hb => ?_), h⟩
    have h2 := hst
    unfold staticOk at h2
    simp only [Bool.and_eq_true] at h2
    have h3 := edgesOk_get h2.1.1 (k := i) (o := o) (by simpa using ho) e he hb
    have hi : i < rops.size := (Array.getElem?_eq_some_iff.1 ho).1
    simp only [Nat.zero_add] at h3
    omega
  | false =>
    rw [hst] at hd
    simp only [cond_false] at hd
    unfold drawPm at hd
    obtain ⟨h1, hd⟩ := cond_none hd
    simp only [Bool.and_eq_true] at h1
    obtain ⟨S, h⟩ := drawTr_can h1.2 hd
    exact ⟨_, _, _, S, Link.perm h1.1, h⟩
theorem doOp_ren {pr : Prim} {call : Oracle} {rnd : Option Nat} {nt : Nat} {rops ops : Array Oper} {ι : Nat → Nat} {o : Oper} {s : St} (hw : ∀ t, wantx rops.toList t o = wantx ops.toList t (ren ι o)) : doOp P pr call rnd nt rops.toList o s = doOp P pr call rnd nt ops.toList (ren ι o) s := by
  unfold doOp
  rw [hw]
  rfl

section can
variable {pr : Prim} {call : Oracle} {rnd : Option Nat} {nt : Nat} {ops : Array Oper} {S : Nat → St} (C : Can P pr call rnd nt ops S)
include C

theorem Can.edge {j : Nat} {o : Oper} (ho : ops[j]? = some o) : ∀ e ∈ o.after, Region.binds .any e = true → e.on < j := by
  have h := C.static
  unfold staticOk at h
  simp only [Bool.and_eq_true] at h
  have := edgesOk_get h.1.1 (k := j) (o := o) (by simpa using ho)
  simpa using this
theorem Can.dsts {i j : Nat} {p q : Oper} {d : Tmp} (hp : ops[i]? = some p) (hq : ops[j]? = some q) (hij : i ≠ j) (hd : p.dst = some d) : q.dst ≠ some d := by
  have h := C.static
  unfold staticOk at h
  simp only [Bool.and_eq_true] at h
  rcases Nat.lt_or_gt_of_ne hij with z | z
  · exact dstsOk_ne h.1.2 (by simpa using hp) (by simpa using hq) z hd
  · intro hq2
    exact dstsOk_ne h.1.2 (by simpa using hq) (by simpa using hp) z hq2 hd
/-- What is closed under the edges is closed under 'before'. -/
theorem Can.closed {L : Nat → Prop} (hcl : ∀ i o, ops[i]? = some o → L i → ∀ e ∈ o.after, Region.binds .any e = true → L e.on) : ∀ (j : Nat) (o : Oper), ops[j]? = some o → (∀ e ∈ o.after, Region.binds .any e = true → L e.on) → ∀ i, Bf ops i j → L i := by
  intro j
  induction j using Nat.strongRecOn with
  | _ j ih =>
    intro o ho hpre i hb
    obtain ⟨e, he, hbd, hcase⟩ := before_bit ho (C.edge ho) hb
    rcases hcase with rfl | hcase
    · exact hpre e he hbd
    · have hlt := C.edge ho e he hbd
      have hjs : j < ops.size := (Array.getElem?_eq_some_iff.1 ho).1
      have ho2 : ops[e.on]? = some ops[e.on] := Array.getElem?_eq_getElem (by omega)
      exact ih e.on hlt _ ho2 (hcl e.on _ ho2 (hpre e he hbd)) i hcase
theorem Can.tmAt : ∀ (j : Nat), j ≤ ops.size → ∀ u, (∃ i o, i < j ∧ ops[i]? = some o ∧ o.dst = some u ∧ (S j).t.get u = (S (i + 1)).t.get u) ∨ ((∀ i o, i < j → ops[i]? = some o → o.dst ≠ some u) ∧ (S j).t.get u = (S 0).t.get u)
  | 0, _, u => .inr ⟨fun i o h => by omega, rfl⟩
  | j + 1, hj, u => by
    have ho : ops[j]? = some ops[j] := Array.getElem?_eq_getElem (by omega)
    obtain ⟨v, hs⟩ := doOp_set (C.op j _ ho)
    by_cases hd : (ops[j]).dst = some u
    · exact .inl ⟨j, _, by omega, ho, hd, rfl⟩
    · have hk := (setx_get hs).1 u hd
      rcases Can.tmAt j (by omega) u with ⟨i, o, h1, h2, h3, h4⟩ | ⟨h1, h2⟩
      · exact .inl ⟨i, o, by omega, h2, h3, hk.trans h4⟩
      · refine .inr ⟨fun i o hi hio => ?_, hk.trans h2⟩
        by_cases e : i = j
        · subst e; rw [ho] at hio; cases hio; exact hd
        · exact h1 i o (by omega) hio
theorem Can.mono (hm : Mono call) : ∀ {i j : Nat}, i ≤ j → j ≤ ops.size → (S i).h.next ≤ (S j).h.next := by
  intro i j hij hj
  induction j with
  | zero => have : i = 0 := by omega
            subst this; exact Nat.le_refl _
  | succ j ih =>
    by_cases e : i = j + 1
    · subst e; exact Nat.le_refl _
    · have ho : ops[j]? = some ops[j] := Array.getElem?_eq_getElem (by omega)
      exact Nat.le_trans (ih (by omega) (by omega)) (doOp_next hm (C.op j _ ho))
end can
end
end Go.Ev
namespace Go.Ev
open Go Go.RowKit

/-- An operation that lays a block, has come up, and is ahead of its turn. -/
def Pend (P : Program) (ops : Array Oper) (S : Nat → St) (L : Nat → Prop) (E k : Nat) : Prop := E ≤ k ∧ L k ∧ ∃ o, ops[k]? = some o ∧ clsx P o.op = 2 ∧ wantx ops.toList (S k).t o = true

/-- What holds while a region is under way in whatever order: L have come up; of class 3 just those ahead of E. -/
structure DI (P : Program) (B : World) (rnd : Option Nat) (nt : Nat) (ops : Array Oper) (S : Nat → St) (b : Frame) (σ0 : Sg) (w0 : World) (L : Nat → Prop) (E : Nat) (σ : Sg) (a : Act) (w : World) : Prop where
  tsize : a.tmps.size = nt
  done : ∀ i o d, ops[i]? = some o → L i → o.dst = some d → VR σ (((S (i + 1)).t.get d).getD undef) (a.tmps.getD d undef)
  rest : ∀ u, (∀ i o, ops[i]? = some o → L i → o.dst ≠ some u) → VR σ (((S 0).t.get u).getD undef) (a.tmps.getD u undef)
  hr : HR P B σ (S E).h w
  le : E ≤ ops.size
  ep : E = 0 ∨ ∃ x, ops[E - 1]? = some x ∧ clsx P x.op = 3
  anch : ∀ i o, ops[i]? = some o → clsx P o.op = 3 → (L i ↔ i < E)
  clos : ∀ i o, ops[i]? = some o → L i → ∀ e ∈ o.after, Region.binds .any e = true → L e.on
  pend : ∀ k, Pend P ops S L E k → ∃ o r O ob ak, ops[k]? = some o ∧ opA P (S k).t o.op = some (ob, ak) ∧ σ (S k).h.next = some (r, 0, 0) ∧ w.heap[r]? = some O ∧ B.heap.size ≤ r ∧ owned ob = true ∧
    (∀ τ, Sub σ τ → ∀ (w' : World), w'.heap[r]? = some O → OR P τ w' ob r 0 0) ∧ (∀ q p, (S E).h.objs.get q = some p → live p = true → ∀ r' δ x, σ q = some (r', δ, x) → r' ≠ r) ∧ w0.heap.size ≤ r
  pdist : ∀ k k' r δ x r' δ' x', Pend P ops S L E k → Pend P ops S L E k' → k ≠ k' → σ (S k).h.next = some (r, δ, x) → σ (S k').h.next = some (r', δ', x') → r ≠ r'
  free : ∀ q, (S E).h.next ≤ q → q < (S ops.size).h.next → (∀ k, Pend P ops S L E k → q ≠ (S k).h.next) → σ q = none
  ds : DRs σ (S E).ds a.defers
  ex : EX σ0 σ (S 0).h.next (S ops.size).h.next
  fp : FP σ0 (S 0).h w0 w
  nb : NB σ0 σ (S 0).h w0 (S E).h
  rn : RnR σ rnd b.roundOf
  glb : P.globals.size ≤ (S 0).h.next

section
variable {P : Program} {B : World} {pr : Prim} {call : Oracle} {rnd : Option Nat} {nt : Nat} {ops : Array Oper} {S : Nat → St} {b : Frame} {σ0 σ τ : Sg} {w0 w w' : World} {L : Nat → Prop} {E : Nat} {a : Act} {h : H}

/-- A number that was known already is taken up. -/
theorem HR.take (k : HR P B σ h w) {o : AObj} {r : Nat} (hn : σ h.next = some (r, 0, 0)) (hB : B.heap.size ≤ r) (hfr : ∀ b p r' δ' x', h.objs.get b = some p → live p = true → σ b = some (r', δ', x') → r' ≠ r) (ho : owned o = true)
    (h2 : OR P σ w o r 0 0) : HR P B σ (h.new o) w where
  bel := k.bel
  glob := k.glob
  obj := fun n p hp hl => by
    simp only [H.new, Tr.get_put] at hp
    split at hp
    · rename_i e
      subst e
      cases hp
      exact ⟨r, 0, 0, hn, h2⟩
    · exact k.obj n p hp hl
  inj := fun n n' p p' r1 δ1 x1 r2 δ2 x2 hp hp' h3 h4 hne e1 e2 => by
    simp only [H.new, Tr.get_put] at hp hp'
    split at hp
    · rename_i e
      subst e
      rw [if_neg (Ne.symm hne)] at hp'
      rw [hn] at e1
      cases e1
      exact Ne.symm (hfr n' p' r2 δ2 x2 hp' h4 e2)
    · split at hp'
      · rename_i e'
        subst e'
        rw [hn] at e2
        cases e2
        exact hfr n p r1 δ1 x1 hp (owned_live h3) e1
      · exact k.inj n n' p p' r1 δ1 x1 r2 δ2 x2 hp hp' h3 h4 hne e1 e2
  own := fun n p r1 δ1 x1 hp h3 e1 => by
    simp only [H.new, Tr.get_put] at hp
    split at hp
    · rename_i e
      subst e
      rw [hn] at e1
      cases e1
      exact hB
    · exact k.own n p r1 δ1 x1 hp h3 e1
  low := fun n p hp => by
    simp only [H.new, Tr.get_put] at hp ⊢
    split at hp
    · omega
    · have := k.low n p hp; omega
  bnd := k.bnd

theorem want_of {t : Tm} {o : Oper} (hv : ∀ j v d, o.guard = some (j, v) → (ops[j]?).bind (·.dst) = some d → VR σ ((t.get d).getD undef) (a.tmps.getD d undef)) : Region.wanted o (yielded ops a.tmps) = wantx ops.toList t o := by
  unfold Region.wanted wantx
  cases hgd : o.guard with
  | none => rfl
  | some g =>
    obtain ⟨j, v⟩ := g
    simp only [yielded, Array.getElem?_toList]
    cases hd : (ops[j]?).bind (·.dst) with
    | none => simp
    | some d =>
      have hv := hv j v d hgd hd
      rw [Array.getD_eq_getD_getElem?] at hv
      simp only [Option.bind_some]
      generalize hz : a.tmps[d]? = z at hv
      cases htg : t.get d with
      | none =>
        rw [htg] at hv
        cases z with
        | none => rfl
        | some z =>
          simp only [Option.getD_none, Option.getD_some, undef] at hv
          cases hv
          rfl
      | some u =>
        rw [htg] at hv
        cases z with
        | none =>
          simp only [Option.getD_none, Option.getD_some, undef] at hv
          cases hv
          rfl
        | some z =>
          simp only [Option.getD_some] at hv
          cases hv <;> first | rfl | (rename_i c; cases c <;> cases v <;> rfl)

section di
variable (C : Can P pr call rnd nt ops S) (D : DI P B rnd nt ops S b σ0 w0 L E σ a w)
include C D

theorem DI.before {j : Nat} {o : Oper} (ho : ops[j]? = some o) (hpre : ∀ e ∈ o.after, Region.binds .any e = true → L e.on) : ∀ i, Bf ops i j → L i := C.closed D.clos j o ho hpre
theorem DI.beforeL {j : Nat} {o : Oper} (ho : ops[j]? = some o) (hl : L j) : ∀ i, Bf ops i j → L i := C.closed D.clos j o ho (D.clos j o ho hl)

/-- What an operation that may come up looks at is as in the text's order. -/
theorem DI.look {j : Nat} {o : Oper} (ho : ops[j]? = some o) (hpre : ∀ e ∈ o.after, Region.binds .any e = true → L e.on) (hj : ¬ L j) {u : Tmp} (hu : u ∈ lookx ops.toList o) : VR σ (((S j).t.get u).getD undef) (a.tmps.getD u undef) := by
  have hjs : j < ops.size := (Array.getElem?_eq_some_iff.1 ho).1
  have has : ∀ {p : Oper}, p.dst = some u → hasT p.dst (lookx ops.toList o) = true := fun hp => by rw [hp]; simpa [hasT] using hu
  rcases C.tmAt j (by omega) u with ⟨i, p, h1, h2, h3, h4⟩ | ⟨h1, h2⟩
  · rw [h4]
    rcases pair_of C.static h2 ho h1 with z | z
    · exact D.done i p u h2 (D.before C ho hpre i z) h3
    · unfold apartx at z
      rw [has h3] at z
      simp at z
  · rw [h2]
    refine D.rest u fun i p hp hl hd => ?_
    rcases Nat.lt_trichotomy i j with z | z | z
    · exact h1 i p z hp hd
    · subst z; exact hj hl
    · rcases pair_of C.static ho hp z with y | y
      · exact hj (D.beforeL C hp hl j y)
      · unfold apartx at y
        rw [has hd] at y
        simp at y

theorem DI.evs {j : Nat} {o : Oper} (ho : ops[j]? = some o) (hpre : ∀ e ∈ o.after, Region.binds .any e = true → L e.on) (hj : ¬ L j) : (∀ x ∈ o.op.operands, okO P x = true → VR σ (evx (S j).t x) (a.eval x)) ∧ Region.wanted o (yielded ops a.tmps) = wantx ops.toList (S j).t o := by
  refine ⟨fun x hx hok => ?_, want_of fun g v d h1 h2 => D.look C ho hpre hj ?_⟩
  · cases x with
    | tmp n => exact D.look C ho hpre hj (by unfold lookx; exact List.mem_append.2 (.inl (List.mem_filterMap.2 ⟨.tmp n, by simpa using hx, rfl⟩)))
    | const v => exact VR.plain hok
    | global g =>
      have hg : g < P.globals.size := by simpa [okO, Nat.blt_eq] using hok
      have := VR.ptr (o := 0) (D.hr.glob g hg)
      simpa [evx, Act.eval] using this
    | func f => exact .func f rfl rfl (fun i v v' hh => by simp at hh) (fun i v v' hh => by simp at hh)
  · unfold lookx
    refine List.mem_append.2 (.inr ?_)
    rw [h1]
    simp only [Array.getElem?_toList, h2]
    simp

/-- The blocks ahead of their turn are taken up, as far as all have come up. -/
theorem DI.merge (hm : Mono call) : ∀ (m : Nat), E ≤ m → m ≤ ops.size → (∀ k o, E ≤ k → k < m → ops[k]? = some o → clsx P o.op ≠ 3 ∧ (clsx P o.op = 2 → L k)) →
    HR P B σ (S m).h w ∧ (S m).ds = (S E).ds ∧ ∀ q p, (S m).h.objs.get q = some p → (S E).h.objs.get q = some p ∨ ∃ k, k < m ∧ Pend P ops S L E k ∧ q = (S k).h.next := by
  intro m
  induction m with
  | zero =>
    intro h1 _ _
    have : E = 0 := by omega
    subst this
    exact ⟨D.hr, rfl, fun q p hq => .inl hq⟩
  | succ m ih =>
    intro h1 h2 h3
    by_cases e : E = m + 1
    · subst e; exact ⟨D.hr, rfl, fun q p hq => .inl hq⟩
    · obtain ⟨g1, g2, g3⟩ := ih (by omega) (by omega) (fun k o k1 k2 => h3 k o k1 (by omega))
      have ho : ops[m]? = some ops[m] := Array.getElem?_eq_getElem (by omega)
      obtain ⟨c1, c2⟩ := h3 m _ (by omega) (by omega) ho
      have up : ∀ q p, ((S E).h.objs.get q = some p ∨ ∃ k, k < m ∧ Pend P ops S L E k ∧ q = (S k).h.next) → ((S E).h.objs.get q = some p ∨ ∃ k, k < m + 1 ∧ Pend P ops S L E k ∧ q = (S k).h.next) := fun q (_ : AObj) hh => hh.imp id fun ⟨k, z1, z2⟩ => ⟨k, by omega, z2⟩
      rcases doOp_parts (C.op m _ ho) with ⟨_, _, e1, e2⟩ | ⟨hw, _, ⟨_, v, _, _, e1, e2⟩ | ⟨_, v, _, _, e1, e2⟩ | ⟨hc, ob, ak, ha, _, e1, e2⟩ | ⟨hc, _⟩⟩
      · rw [e1, e2]; exact ⟨g1, g2, fun q p hq => up q p (g3 q p hq)⟩
      · rw [e1, e2]; exact ⟨g1, g2, fun q p hq => up q p (g3 q p hq)⟩
      · rw [e1, e2]; exact ⟨g1, g2, fun q p hq => up q p (g3 q p hq)⟩
      · have hp : Pend P ops S L E m := ⟨by omega, c2 hc, _, ho, hc, hw⟩
        obtain ⟨o', r, O, ob', ak', p1, p2, p3, p4, p5, p6, p7, p8, _⟩ := D.pend m hp
        rw [ho] at p1
        cases p1
        rw [ha] at p2
        cases p2
        rw [e1, e2]
        refine ⟨g1.take p3 p5 (fun q p r' δ' x' hq hl hs => ?_) p6 (p7 σ (Sub.refl σ) w p4), g2, fun q p hq => ?_⟩
        · rcases g3 q p hq with z | ⟨k, z1, z2, rfl⟩
          · exact p8 q p z hl r' δ' x' hs
          · exact D.pdist k m r' δ' x' r 0 0 z2 hp (by omega) hs p3
        · simp only [H.new, Tr.get_put] at hq
          split at hq
          · rename_i z; exact .inr ⟨m, by omega, hp, z⟩
          · exact up q p (g3 q p hq)
      · exact absurd hc c1
end di
end
end Go.Ev
namespace Go.Ev
open Go Go.RowKit
section
variable {P : Program} {B : World} {pr : Prim} {call : Oracle} {rnd : Option Nat} {nt : Nat} {ops : Array Oper} {S : Nat → St} {b : Frame} {σ0 σ τ : Sg} {w0 w w' : World} {L : Nat → Prop} {E : Nat} {a : Act} {h : H}

theorem put_other {a : Act} {d : Option Tmp} {v : Value} {u : Tmp} (h : d ≠ some u) : (a.put d v).tmps.getD u undef = a.tmps.getD u undef := by
  cases d with
  | none => rfl
  | some d =>
    have hne : d ≠ u := fun e => h (by rw [e])
    simp only [Act.put, Array.getD_eq_getD_getElem?]
    rw [Array.getElem?_setIfInBounds_ne hne]
theorem put_same {a : Act} {d : Option Tmp} {v : Value} {u : Tmp} (h : d = some u) (hu : u < a.tmps.size) : (a.put d v).tmps.getD u undef = v := by
  subst h
  simp [Act.put, Array.getD_eq_getD_getElem?, hu]
theorem put_size {a : Act} {d : Option Tmp} {v : Value} : (a.put d v).tmps.size = a.tmps.size := by
  cases d <;> simp [Act.put]
theorem put_defers {a : Act} {d : Option Tmp} {v : Value} : (a.put d v).defers = a.defers := by cases d <;> rfl

def also (L : Nat → Prop) (j : Nat) : Nat → Prop := fun i => L i ∨ i = j

theorem HR.wider (k : HR P B σ h w) (hs : Sub σ τ) (hb : ∀ b r δ x, τ b = some (r, δ, x) → r < w.heap.size) (he : ∀ q, q < h.next → τ q = σ q) : HR P B τ h w where
  bel := k.bel
  glob := fun g hg => hs _ _ (k.glob g hg)
  obj := fun n o ho hl => let ⟨r, δ, x, h1, h2⟩ := k.obj n o ho hl; ⟨r, δ, x, hs _ _ h1, h2.mono hs rfl⟩
  inj := fun n n' o o' r δ x r' δ' x' ho ho' h3 h4 hne e1 e2 => k.inj n n' o o' r δ x r' δ' x' ho ho' h3 h4 hne (by rw [← he n (k.low n o ho)]; exact e1) (by rw [← he n' (k.low n' o' ho')]; exact e2)
  own := fun n o r δ x ho h3 e1 => k.own n o r δ x ho h3 (by rw [← he n (k.low n o ho)]; exact e1)
  low := k.low
  bnd := hb

section di
variable (C : Can P pr call rnd nt ops S) (D : DI P B rnd nt ops S b σ0 w0 L E σ a w)
include C D

theorem DI.done2 {j : Nat} {o : Oper} (ho : ops[j]? = some o) (hs : Sub σ τ) {v v' : Value} (hset : setx nt (S j).t o.dst v = some (S (j + 1)).t) (hv : VR τ v v') {a2 : Act} (ht : a2.tmps = a.tmps) :
    (∀ i p d, ops[i]? = some p → also L j i → p.dst = some d → VR τ (((S (i + 1)).t.get d).getD undef) ((a2.put o.dst v').tmps.getD d undef)) ∧
    (∀ u, (∀ i p, ops[i]? = some p → also L j i → p.dst ≠ some u) → VR τ (((S 0).t.get u).getD undef) ((a2.put o.dst v').tmps.getD u undef)) := by
  refine ⟨fun i p d hp hl hd => ?_, fun u hu => ?_⟩
  · by_cases e : i = j
    · subst e
      rw [ho] at hp
      cases hp
      obtain ⟨g1, g2⟩ := (setx_get hset).2 d hd
      have hsz : d < a2.tmps.size := by rw [ht, D.tsize]; exact g2
      rw [g1, put_same hd hsz]
      exact hv
    · have hL : L i := hl.resolve_right e
      rw [put_other (C.dsts hp ho e hd), ht]
      exact (D.done i p d hp hL hd).mono hs
  · rw [put_other (hu j o ho (.inr rfl)), ht]
    exact (D.rest u fun i p hp hl => hu i p hp (.inl hl)).mono hs

theorem DI.clos2 {j : Nat} {o : Oper} (ho : ops[j]? = some o) (hpre : ∀ e ∈ o.after, Region.binds .any e = true → L e.on) : ∀ i p, ops[i]? = some p → also L j i → ∀ e ∈ p.after, Region.binds .any e = true → also L j e.on := by
  have _ := C
  intro i p hp hl e he hb
  by_cases h : i = j
  · subst h; rw [ho] at hp; cases hp; exact .inl (hpre e he hb)
  · exact .inl (D.clos i p hp (hl.resolve_right h) e he hb)

/-- An operation that neither lays a block nor is of class 3. -/
theorem DI.float {j : Nat} {o : Oper} (ho : ops[j]? = some o) (hpre : ∀ e ∈ o.after, Region.binds .any e = true → L e.on) (hc : clsx P o.op ≠ 3) (hnp : ¬ (clsx P o.op = 2 ∧ wantx ops.toList (S j).t o = true)) {v v' : Value} (hset : setx nt (S j).t o.dst v = some (S (j + 1)).t) (hv : VR σ v v') :
    DI P B rnd nt ops S b σ0 w0 (also L j) E σ (a.put o.dst v') w := by
  have hP : ∀ k, Pend P ops S (also L j) E k → Pend P ops S L E k := fun k ⟨h1, h2, p, h3, h4, h5⟩ => by
    refine ⟨h1, h2.resolve_right fun e => ?_, p, h3, h4, h5⟩
    subst e; rw [ho] at h3; cases h3; exact hnp ⟨h4, h5⟩
  have hP2 : ∀ k, Pend P ops S L E k → Pend P ops S (also L j) E k := fun k ⟨h1, h2, h3⟩ => ⟨h1, .inl h2, h3⟩
  obtain ⟨d1, d2⟩ := D.done2 C ho (Sub.refl σ) hset hv (a2 := a) rfl
  exact {
    tsize := by rw [put_size]; exact D.tsize
    done := d1
    rest := d2
    hr := D.hr
    le := D.le
    ep := D.ep
    anch := fun i p hp hpc => by
      rw [← D.anch i p hp hpc]
      refine ⟨fun hl => hl.resolve_right fun e => ?_, .inl⟩
      subst e; rw [ho] at hp; cases hp; exact hc hpc
    clos := D.clos2 C ho hpre
    pend := fun k hk => D.pend k (hP k hk)
    pdist := fun k k' r δ x r' δ' x' h1 h2 => D.pdist k k' r δ x r' δ' x' (hP k h1) (hP k' h2)
    free := fun q h1 h2 h3 => D.free q h1 h2 fun k hk => h3 k (hP2 k hk)
    ds := by rw [put_defers]; exact D.ds
    ex := D.ex
    fp := D.fp
    nb := D.nb
    rn := D.rn
    glb := D.glb }

/-- An operation that lays a block. -/
theorem DI.lay (hm : Mono call) {j : Nat} {o : Oper} (ho : ops[j]? = some o) (hpre : ∀ e ∈ o.after, Region.binds .any e = true → L e.on) (hj : ¬ L j) (hc : clsx P o.op = 2) (hw : wantx ops.toList (S j).t o = true) {ob : AObj} {ak : Ak} (ha : opA P (S j).t o.op = some (ob, ak)) (hset : setx nt (S j).t o.dst (valA (S j).h.next ak) = some (S (j + 1)).t) (hh : (S (j + 1)).h = (S j).h.new ob)
    {O : Obj} (hO : ∀ τ, Sub σ τ → ∀ (w' : World) r, w'.heap[r]? = some O → OR P τ w' ob r 0 0) (hown : owned ob = true) (hlc : ∀ l c, ak = .sl l c → l ≤ c) :
    DI P B rnd nt ops S b σ0 w0 (also L j) E (addS σ (S j).h.next (w.heap.size, 0, 0)) (a.put o.dst (valR w.heap.size ak)) (w.alloc O) := by
  have hjs : j < ops.size := (Array.getElem?_eq_some_iff.1 ho).1
  have hEj : E ≤ j := by
    rcases Nat.lt_or_ge j E with z | z
    · exfalso
      rcases D.ep with e | ⟨x, hx, hxc⟩
      · omega
      · have hLx : L (E - 1) := (D.anch _ x hx hxc).2 (by omega)
        by_cases e : j = E - 1
        · subst e; exact hj hLx
        · rcases pair_of C.static ho hx (by omega) with y | y
          · exact hj (D.beforeL C hx hLx j y)
          · unfold apartx at y; rw [hc, hxc] at y; simp at y
    · exact z
  have n1 := C.mono hm hEj (by omega)
  have n2 : (S (j + 1)).h.next = (S j).h.next + 1 := by rw [hh]; rfl
  have n3 := C.mono hm (i := j + 1) (j := ops.size) (by omega) (Nat.le_refl _)
  have n0 := C.mono hm (i := 0) (j := j) (by omega) (by omega)
  have nme : ∀ k, Pend P ops S L E k → (S j).h.next ≠ (S k).h.next := by
    rintro k ⟨h1, h2, p, h3, h4, h5⟩
    have hks : k < ops.size := (Array.getElem?_eq_some_iff.1 h3).1
    have hkj : k ≠ j := fun e => by subst e; exact hj h2
    rcases Nat.lt_or_gt_of_ne hkj with z | z
    · have := C.mono hm (i := k + 1) (j := j) (by omega) (by omega)
      have e1 : (S (k + 1)).h.next = (S k).h.next + 1 := by
        rcases doOp_parts (C.op k p h3) with ⟨q, _⟩ | ⟨_, _, ⟨q, _⟩ | ⟨q, _⟩ | ⟨_, ob', ak', _, _, e1, _⟩ | ⟨q, _⟩⟩
        · rw [h5] at q; cases q
        · rw [h4] at q; cases q
        · rw [h4] at q; cases q
        · rw [e1]; rfl
        · rw [h4] at q; cases q
      omega
    · have := C.mono hm (i := j + 1) (j := k) (by omega) (by omega)
      omega
  have hnx : σ (S j).h.next = none := D.free _ n1 (by omega) nme
  have hsub := addS_sub (w.heap.size, 0, 0) hnx
  have hold : ∀ q, q < w.heap.size → (w.alloc O).heap[q]? = w.heap[q]? := fun q hq => Below.heap_alloc w O q hq
  have hsz : (w.alloc O).heap.size = w.heap.size + 1 := by show (w.heap.push O).size = _; simp
  have hB := D.hr.bel.size
  have hat : (w.alloc O).heap[w.heap.size]? = some O := by show (w.heap.push O)[w.heap.size]? = _; simp
  have hbel : Below w.heap.size w (w.alloc O) := (Below.refl _ w).alloc (Nat.le_refl _) O
  have mb := Mv.below D.hr hbel
  have hHR : HR P B (addS σ (S j).h.next (w.heap.size, 0, 0)) (S E).h (w.alloc O) := mb.hr.wider hsub (fun q r δ x e => by
    by_cases e1 : q = (S j).h.next
    · subst e1; rw [addS_self] at e; cases e; omega
    · rw [addS_ne _ _ e1] at e; have := D.hr.bnd q r δ x e; omega) (fun q hq => addS_ne _ _ (by omega))
  have hP : ∀ k, Pend P ops S (also L j) E k → k = j ∨ Pend P ops S L E k := fun k ⟨h1, h2, h3⟩ => by
    by_cases e : k = j
    · exact .inl e
    · exact .inr ⟨h1, h2.resolve_right e, h3⟩
  have hP2 : ∀ k, Pend P ops S L E k → Pend P ops S (also L j) E k := fun k ⟨h1, h2, h3⟩ => ⟨h1, .inl h2, h3⟩
  obtain ⟨d1, d2⟩ := D.done2 C ho hsub hset (valA_rel (addS_self _ _ _) hlc) (a2 := a) rfl
  exact {
    tsize := by rw [put_size]; exact D.tsize
    done := d1
    rest := d2
    hr := hHR
    le := D.le
    ep := D.ep
    anch := fun i p hp hpc => by
      rw [← D.anch i p hp hpc]
      refine ⟨fun hl => hl.resolve_right fun e => ?_, .inl⟩
      subst e; rw [ho] at hp; cases hp; rw [hc] at hpc; cases hpc
    clos := D.clos2 C ho hpre
    pend := fun k hk => by
      rcases hP k hk with rfl | hk
      · refine ⟨o, w.heap.size, O, ob, ak, ho, ha, addS_self _ _ _, hat, hB, hown, fun τ hs w' hw' => hO τ (hsub.trans hs) w' _ hw', fun q p hp hl r' δ x e => ?_, D.fp.1⟩
        have hq := D.hr.low q p hp
        rw [addS_ne _ _ (by omega)] at e
        have := D.hr.bnd q r' δ x e
        omega
      · obtain ⟨o', r, O', ob', ak', p1, p2, p3, p4, p5, p6, p7, p8, p9⟩ := D.pend k hk
        have hr := D.hr.bnd _ _ _ _ p3
        refine ⟨o', r, O', ob', ak', p1, p2, hsub _ _ p3, (hold r hr).trans p4, p5, p6, fun τ hs => p7 τ (hsub.trans hs), fun q p hp hl r' δ x e => ?_, p9⟩
        have hq := D.hr.low q p hp
        rw [addS_ne _ _ (by omega)] at e
        exact p8 q p hp hl r' δ x e
    pdist := fun k k' r δ x r' δ' x' h1 h2 hne e1 e2 => by
      rcases hP k h1 with rfl | g1
      · rcases hP k' h2 with rfl | g2
        · exact absurd rfl hne
        · rw [addS_self] at e1
          cases e1
          rw [addS_ne _ _ (Ne.symm (nme k' g2))] at e2
          have := D.hr.bnd _ _ _ _ e2
          omega
      · rcases hP k' h2 with rfl | g2
        · rw [addS_self] at e2
          cases e2
          rw [addS_ne _ _ (Ne.symm (nme k g1))] at e1
          have := D.hr.bnd _ _ _ _ e1
          omega
        · rw [addS_ne _ _ (Ne.symm (nme k g1))] at e1
          rw [addS_ne _ _ (Ne.symm (nme k' g2))] at e2
          exact D.pdist k k' r δ x r' δ' x' g1 g2 hne e1 e2
    free := fun q h1 h2 h3 => by
      have hne : q ≠ (S j).h.next := h3 j ⟨hEj, .inr rfl, o, ho, hc, hw⟩
      rw [addS_ne _ _ hne]
      exact D.free q h1 h2 fun k hk => h3 k (hP2 k hk)
    ds := by rw [put_defers]; exact D.ds.mono hsub
    ex := ⟨D.ex.1, D.ex.2.1.trans hsub, fun q hq => by
      rw [addS_ne _ _ (by omega)]
      exact D.ex.2.2 q hq⟩
    fp := ⟨by have := D.fp.1; omega, fun r hr hn => by rw [hold r (by have := D.fp.1; omega)]; exact D.fp.2 r hr hn⟩
    nb := fun q p hp hl r δ x e => by
      have hq := D.hr.low q p hp
      rw [addS_ne _ _ (by omega)] at e
      exact D.nb q p hp hl r δ x e
    rn := D.rn.mono hsub
    glb := D.glb }
end di
end
end Go.Ev
namespace Go.Ev
open Go Go.RowKit
section
variable {P : Program} {B : World} {pr : Prim} {call : Oracle} {rnd : Option Nat} {nt : Nat} {ops : Array Oper} {S : Nat → St} {b : Frame} {σ0 σ τ : Sg} {w0 w w' : World} {L : Nat → Prop} {E : Nat} {a : Act} {h : H} {rops : Array Oper} {π ι : Nat → Nat}

theorem pend_next {k : Nat} {p : Oper} (C : Can P pr call rnd nt ops S) (h3 : ops[k]? = some p) (h4 : clsx P p.op = 2) (h5 : wantx ops.toList (S k).t p = true) : (S (k + 1)).h.next = (S k).h.next + 1 := by
  rcases doOp_parts (C.op k p h3) with ⟨q, _⟩ | ⟨_, _, ⟨q, _⟩ | ⟨q, _⟩ | ⟨_, ob', ak', _, _, e1, _⟩ | ⟨q, _⟩⟩
  · rw [h5] at q; cases q
  · rw [h4] at q; cases q
  · rw [h4] at q; cases q
  · rw [e1]; rfl
  · rw [h4] at q; cases q

section di
variable (C : Can P pr call rnd nt ops S) (D : DI P B rnd nt ops S b σ0 w0 L E σ a w)
include C D

/-- An operation of class 3. -/
theorem DI.anchor (hok : Ok P B call) (hm : Mono call) (hpr : PrimOk P B pr) (hnc : NoCount P) {j : Nat} {o : Oper} (ho : ops[j]? = some o) (hpre : ∀ e ∈ o.after, Region.binds .any e = true → L e.on) (hj : ¬ L j) (hc : clsx P o.op = 3) {i0 : Nat} {o0 : Oper} (hi0 : rops[i0]? = some o0) (he0 : o = ren ι o0) (hwl : ∀ t, wantx rops.toList t o0 = wantx ops.toList t (ren ι o0)) (hwd : ∀ tm, Region.wanted o0 (yielded rops tm) = Region.wanted (ren ι o0) (yielded ops tm)) (rest : List Nat) (k : List Item) (cs : List Frame) :
    ∃ τ a' w', DI P B rnd nt ops S b σ0 w0 (also L j) (j + 1) τ a' w' ∧ Steps P (lone (b.atR a (.inRegion rops (i0 :: rest) :: k)) cs w) (lone (b.atR a' (.inRegion rops rest :: k)) cs w') := by
  subst he0
  have hjs : j < ops.size := (Array.getElem?_eq_some_iff.1 ho).1
  have hEj : E ≤ j := by
    rcases Nat.lt_or_ge j E with z | z
    · exact absurd ((D.anch j _ ho hc).2 z) hj
    · exact z
  have hno : ∀ k p, E ≤ k → k < j → ops[k]? = some p → clsx P p.op ≠ 3 ∧ (clsx P p.op = 2 → L k) := by
    intro k p h1 h2 hp
    rcases pair_of C.static hp ho h2 with y | y
    · have hl := D.before C ho hpre k y
      exact ⟨fun hc3 => by have := (D.anch k p hp hc3).1 hl; omega, fun _ => hl⟩
    · unfold apartx at y
      rw [hc] at y
      refine ⟨fun hc3 => ?_, fun hc2 => ?_⟩
      · rw [hc3] at y; simp at y
      · rw [hc2] at y; simp at y
  obtain ⟨g1, g2, g3⟩ := D.merge C hm j hEj (by omega) hno
  have nE := C.mono hm hEj (by omega)
  have nj := C.mono hm (i := j) (j := j + 1) (by omega) (by omega)
  have nN := C.mono hm (i := j + 1) (j := ops.size) (by omega) (Nat.le_refl _)
  have n0 := C.mono hm (i := 0) (j := j) (by omega) (by omega)
  obtain ⟨hev, hwt⟩ := D.evs C ho hpre hj
  have pname : ∀ k', Pend P ops S L E k' → (k' < j → (S k').h.next < (S j).h.next) ∧ (j < k' → (S (j + 1)).h.next ≤ (S k').h.next) ∧ k' ≠ j := by
    rintro k' ⟨h1, h2, p, h3, h4, h5⟩
    have hks : k' < ops.size := (Array.getElem?_eq_some_iff.1 h3).1
    refine ⟨fun z => ?_, fun z => C.mono hm (by omega) (by omega), fun e => by subst e; exact hj h2⟩
    have := C.mono hm (i := k' + 1) (j := j) (by omega) (by omega)
    have := pend_next C h3 h4 h5
    omega
  have hfree : Free σ (S j).h.next (S (j + 1)).h.next := fun q h1 h2 => D.free q (by omega) (by omega) fun k' hk' => by
    have := pname k' hk'
    rcases Nat.lt_or_gt_of_ne this.2.2 with z | z
    · have := this.1 z; omega
    · have := this.2.1 z; omega
  obtain ⟨v, v', ds', w', τ, m, hv, hset, hds, hst⟩ := doOp_core hok hpr hnc hi0 (by rw [hwd, hwt, hwl]) hev (by rw [g2]; exact D.ds) D.rn g1 (Nat.le_trans D.glb n0) hfree (by rw [doOp_ren hwl]; exact C.op j _ ho) rest k cs
  have hsub := m.ex.2.1
  -- where the numbers ahead of j lie
  have known : ∀ q, (S E).h.next ≤ q → q < (S j).h.next → ∀ r δ x, σ q = some (r, δ, x) → ∃ k', k' < j ∧ Pend P ops S L E k' ∧ q = (S k').h.next := by
    intro q h1 h2 r δ x e
    by_cases hex : ∃ k', Pend P ops S L E k' ∧ q = (S k').h.next
    · obtain ⟨k', hk', hq⟩ := hex
      have := pname k' hk'
      rcases Nat.lt_or_gt_of_ne this.2.2 with z | z
      · exact ⟨k', z, hk', hq⟩
      · have := this.2.1 z; omega
    · rw [D.free q h1 (by omega) (fun k' hk' hq => hex ⟨k', hk', hq⟩)] at e
      cases e
  have apart : ∀ k', Pend P ops S L E k' → j < k' → ∀ r0, σ (S k').h.next = some (r0, 0, 0) → (∀ q p, (S E).h.objs.get q = some p → live p = true → ∀ r' δ x, σ q = some (r', δ, x) → r' ≠ r0) → ∀ q p, (S j).h.objs.get q = some p → live p = true → ∀ r' δ x, σ q = some (r', δ, x) → r' ≠ r0 := by
    intro k' hk' hjk r0 hr0 hap q p hp hl r' δ x e
    rcases g3 q p hp with z | ⟨k2, z1, z2, rfl⟩
    · exact hap q p z hl r' δ x e
    · exact D.pdist k2 k' r' δ x r0 0 0 z2 hk' (by omega) e hr0
  -- what lives ahead of j lay ahead of the region, or is new
  have nbj : NB σ0 σ (S 0).h w0 (S j).h := fun q p hp hl r δ x e => by
    rcases g3 q p hp with z | ⟨k2, _, z2, rfl⟩
    · exact D.nb q p z hl r δ x e
    · obtain ⟨_, r1, _, _, _, _, _, p3, _, _, _, _, _, p9⟩ := D.pend k2 z2
      rw [p3] at e
      cases e
      exact .inl p9
  have hP : ∀ k', Pend P ops S (also L j) (j + 1) k' → Pend P ops S L E k' ∧ j < k' := fun k' ⟨h1, h2, h3⟩ => ⟨⟨by omega, h2.resolve_right (by omega), h3⟩, by omega⟩
  have hP2 : ∀ k', Pend P ops S L E k' → j < k' → Pend P ops S (also L j) (j + 1) k' := fun k' ⟨h1, h2, h3⟩ h4 => ⟨by omega, .inl h2, h3⟩
  have hsame : ∀ k', Pend P ops S L E k' → j < k' → τ (S k').h.next = σ (S k').h.next := fun k' hk' hjk => m.ex.2.2 _ (.inr ((pname k' hk').2.1 hjk))
  obtain ⟨d1, d2⟩ := D.done2 C ho hsub hset hv (a2 := { a with defers := ds' }) rfl
  refine ⟨τ, ({ a with defers := ds' } : Act).put o0.dst v', w', ?_, hst⟩
  exact {
    tsize := by rw [put_size]; exact D.tsize
    done := d1
    rest := d2
    hr := m.hr
    le := by omega
    ep := .inr ⟨_, by simpa using ho, hc⟩
    anch := fun i p hp hpc => by
      constructor
      · rintro (hl | rfl)
        · have := (D.anch i p hp hpc).1 hl; omega
        · omega
      · intro hlt
        by_cases e : i = j
        · exact .inr e
        · refine .inl ((D.anch i p hp hpc).2 ?_)
          rcases Nat.lt_or_ge i E with z | z
          · exact z
          · exact absurd hpc (hno i p z (by omega) hp).1
    clos := D.clos2 C ho hpre
    pend := fun k' hk' => by
      obtain ⟨hk, hjk⟩ := hP k' hk'
      obtain ⟨o', r, O', ob', ak', p1, p2, p3, p4, p5, p6, p7, p8, p9⟩ := D.pend k' hk
      have hrs := D.hr.bnd _ _ _ _ p3
      have hap := apart k' hk hjk r p3 p8
      refine ⟨o', r, O', ob', ak', p1, p2, by rw [hsame k' hk hjk]; exact p3, ?_, p5, p6, fun υ hs => p7 υ (hsub.trans hs), fun q p hp hl r' δ x e => ?_, p9⟩
      · rw [m.fp.2 r hrs (fun q p hp hw r' δ x e => hap q p hp (owned_live hw) r' δ x e)]; exact p4
      · rcases m.nb q p hp hl r' δ x e with z | ⟨b', o2, δ', x', z1, z2, _, z4⟩
        · omega
        · exact hap b' o2 z1 z2 r' δ' x' z4
    pdist := fun k1 k2 r δ x r' δ' x' h1 h2 hne e1 e2 => by
      obtain ⟨q1, q2⟩ := hP k1 h1
      obtain ⟨q3, q4⟩ := hP k2 h2
      rw [hsame k1 q1 q2] at e1
      rw [hsame k2 q3 q4] at e2
      exact D.pdist k1 k2 r δ x r' δ' x' q1 q3 hne e1 e2
    free := fun q h1 h2 h3 => by
      rw [m.ex.2.2 q (.inr h1)]
      refine D.free q (by omega) h2 fun k' hk' => ?_
      rcases Nat.lt_or_gt_of_ne (pname k' hk').2.2 with z | z
      · have := (pname k' hk').1 z; omega
      · exact h3 k' (hP2 k' hk' z)
    ds := by rw [put_defers]; exact hds
    ex := ⟨D.ex.1, D.ex.2.1.trans hsub, fun q hq => by
      rw [m.ex.2.2 q (by omega)]
      exact D.ex.2.2 q hq⟩
    fp := ⟨Nat.le_trans D.fp.1 m.fp.1, fun r hr hn => by
      rw [m.fp.2 r (by have := D.fp.1; omega) (fun q p hp hw r' δ x e => ?_)]
      · exact D.fp.2 r hr hn
      · rcases nbj q p hp (owned_live hw) r' δ x e with z | ⟨b', o2, δ', x', z1, _, z3, z4⟩
        · omega
        · exact hn b' o2 z1 (z3 hw) r' δ' x' z4⟩
    nb := fun q p hp hl r δ x e => by
      rcases m.nb q p hp hl r δ x e with z | ⟨b', o2, δ', x', z1, z2, z3, z4⟩
      · exact .inl (by have := D.fp.1; omega)
      · rcases nbj b' o2 z1 z2 r δ' x' z4 with y | ⟨b3, o3, δ3, x3, y1, y2, y3, y4⟩
        · exact .inl y
        · exact .inr ⟨b3, o3, δ3, x3, y1, y2, fun k => y3 (z3 k), y4⟩
    rn := D.rn.mono hsub
    glb := D.glb }

/-- Whatever may come up comes up. -/
theorem DI.step (hok : Ok P B call) (hm : Mono call) (hpr : PrimOk P B pr) (hnc : NoCount P) {j : Nat} {o : Oper} (ho : ops[j]? = some o) (hpre : ∀ e ∈ o.after, Region.binds .any e = true → L e.on) (hj : ¬ L j) {i0 : Nat} {o0 : Oper} (hi0 : rops[i0]? = some o0) (he0 : o = ren ι o0) (hwl : ∀ t, wantx rops.toList t o0 = wantx ops.toList t (ren ι o0)) (hwd : ∀ tm, Region.wanted o0 (yielded rops tm) = Region.wanted (ren ι o0) (yielded ops tm)) (rest : List Nat) (k : List Item) (cs : List Frame) :
    ∃ E' τ a' w', DI P B rnd nt ops S b σ0 w0 (also L j) E' τ a' w' ∧ Steps P (lone (b.atR a (.inRegion rops (i0 :: rest) :: k)) cs w) (lone (b.atR a' (.inRegion rops rest :: k)) cs w') := by
  subst he0
  by_cases hc3 : clsx P (ren ι o0).op = 3
  · obtain ⟨τ, a', w', h1, h2⟩ := D.anchor C hok hm hpr hnc ho hpre hj hc3 hi0 rfl hwl hwd rest k cs
    exact ⟨j + 1, τ, a', w', h1, h2⟩
  · obtain ⟨hev, hwt⟩ := D.evs C ho hpre hj
    have hnd : o0.semAt b.roundOf a.eval = execOp a.eval o0 := Oper.semAt_eq _ _ _ fun c hc => hc3 (by rw [show (ren ι o0).op = o0.op from rfl, hc]; rfl)
    rcases doOp_parts (C.op j _ ho) with ⟨hw, hset, _, _⟩ | ⟨hw, hall, hcase⟩
    · refine ⟨E, σ, a.put o0.dst undef, w, D.float C ho hpre hc3 (fun z => by rw [hw] at z; cases z.2) hset (VR.undef σ), .one ?_⟩
      have := stepR_op_skip (P := P) (b := b) (a := a) (k := k) (cs := cs) (w := w) (ops := rops) (i := i0) (rest := rest) (by simp [hi0, hwd, hwt, hw])
      simpa [hi0] using this
    · have hwr : Region.wanted o0 (yielded rops a.tmps) = true := (hwd _).trans (hwt.trans hw)
      have hρ : ∀ x ∈ o0.op.operands, VR σ (evx (S j).t x) (a.eval x) := fun x hx => hev x hx (List.all_eq_true.1 hall x (by have hx' : x ∈ (ren ι o0).op.operands := hx; simpa using hx'))
      rcases hcase with ⟨hc, v, hv, hset, _, _⟩ | ⟨hc, v, hv, hset, _, _⟩ | ⟨hc, ob, ak, hv, hset, hh, _⟩ | ⟨hc, _⟩
      · obtain ⟨v', r1, r2⟩ := opP_run hρ hv
        exact ⟨E, σ, a.put o0.dst v', w, D.float C ho hpre hc3 (fun z => by rw [hc] at z; cases z.1) hset r2, op_value hi0 hwr (by rw [hnd]; exact r1 w)⟩
      · obtain ⟨u, h1, h2⟩ := C.reads j _ ho hc hw
        rw [hv] at h1
        cases h1
        have hE := h2 E D.le D.ep (fun y x hx hxc => ⟨fun z hb => hj (D.beforeL C hx ((D.anch y x hx hxc).2 z) j hb), fun z hb => by
          have := (D.anch y x hx hxc).1 (D.before C ho hpre y hb); omega⟩)
        obtain ⟨v', r1, r2⟩ := opL_run D.hr hρ hE
        exact ⟨E, σ, a.put o0.dst v', w, D.float C ho hpre hc3 (fun z => by rw [hc] at z; cases z.1) hset r2, op_value hi0 hwr (by rw [hnd]; exact r1)⟩
      · obtain ⟨O, r1, r2, r3, r4⟩ := opA_run (σ := σ) hρ hv
        exact ⟨E, _, a.put o0.dst _, _, D.lay C hm ho hpre hj hc hw hv hset hh r2 r3 r4, op_value hi0 hwr (by rw [hnd]; exact r1 w)⟩
      · exact absurd hc hc3
end di
end
end Go.Ev
namespace Go.Ev
open Go Go.RowKit
section
variable {P : Program} {B : World} {pr : Prim} {call : Oracle} {rnd : Option Nat} {nt : Nat} {ops : Array Oper} {S : Nat → St} {b : Frame} {σ0 σ τ : Sg} {w0 w w' : World} {E : Nat} {a : Act} {rops : Array Oper} {π ι : Nat → Nat}

def lst (l : Array Bool) : Nat → Prop := fun i => l.getD i false = true

theorem lst_set {l : Array Bool} {j : Nat} (hj : j < l.size) : lst (l.setIfInBounds j true) = also (lst l) j := by
  funext i
  apply propext
  unfold lst also
  by_cases e : i = j
  · subst e; simp [hj]
  · simp only [Array.getD_eq_getD_getElem?]
    rw [Array.getElem?_setIfInBounds_ne (Ne.symm e)]
    simp [e]

def unl : List Bool → Nat
  | [] => 0
  | false :: l => unl l + 1
  | true :: l => unl l
theorem unl_set : ∀ {l : List Bool} {j : Nat}, l[j]? = some false → unl (l.set j true) + 1 = unl l
  | [], j, h => by simp at h
  | x :: l, 0, h => by simp at h; subst h; rfl
  | x :: l, j + 1, h => by
    simp at h
    have := unl_set h
    cases x <;> simp only [List.set_cons_succ, unl] <;> omega
theorem unl_zero : ∀ {l : List Bool} {i : Nat}, unl l = 0 → i < l.length → l[i]? = some true
  | [], i, _, h => by simp at h
  | false :: l, i, h, _ => by simp [unl] at h
  | true :: l, 0, _, _ => rfl
  | true :: l, i + 1, h, hi => by
    simp only [unl] at h
    simpa using unl_zero h (by simpa using hi)

/-- What has come up, by places. -/
def plc (π : Nat → Nat) (n : Nat) (l : Array Bool) : Nat → Prop := fun p => p < n ∧ lst l (π p)
theorem lst_lt {l : Array Bool} {i : Nat} (h : lst l i) : i < l.size := by
  unfold lst at h
  rcases Nat.lt_or_ge i l.size with z | z
  · exact z
  · rw [Array.getD_eq_getD_getElem?, Array.getElem?_eq_none (by omega)] at h; cases h
theorem plc_set (K : Link rops ops π ι) {l : Array Bool} {i : Nat} (hl : l.size = ops.size) (hi : i < ops.size) : plc π ops.size (l.setIfInBounds i true) = also (plc π ops.size l) (ι i) := by
  funext p
  apply propext
  unfold plc
  rw [lst_set (by omega)]
  unfold also
  constructor
  · rintro ⟨h1, h2 | h2⟩
    · exact .inl ⟨h1, h2⟩
    · exact .inr (by rw [← h2, K.ip p h1])
  · rintro (⟨h1, h2⟩ | h2)
    · exact ⟨h1, .inl h2⟩
    · subst h2
      exact ⟨K.il i hi, .inr (K.pi_ i hi)⟩
/-- Something may come up, unless all have. -/
theorem some_ready (K : Link rops ops π ι) (C : Can P pr call rnd nt ops S) {l : Array Bool} (hl : l.size = rops.size) (hr : Region.ready .any rops l = []) : ∀ p, p < ops.size → lst l (π p) := by
  intro p
  induction p using Nat.strongRecOn with
  | _ p ih =>
    intro hp
    have hi : π p < rops.size := by rw [← K.size]; exact K.pl p hp
    have ho : rops[π p]? = some rops[π p] := Array.getElem?_eq_getElem hi
    have hq := K.at_ _ _ ho
    rw [K.ip p hp] at hq
    rcases Bool.eq_false_or_eq_true (l.getD (π p) false) with z | z
    · exact z
    · exfalso
      have : π p ∈ Region.ready .any rops l := mem_ready.2 ⟨by
          have hil : π p < l.size := by omega
          simp only [Array.getD_eq_getD_getElem?, Array.getElem?_eq_getElem hil, Option.getD_some] at z ⊢
          exact z, _, ho, fun e he hb => by
            have hedge := C.edge hq { e with on := ι e.on } (by
              show _ ∈ (rops[π p].after.map fun e => { e with on := ι e.on })
              exact Array.mem_map.2 ⟨e, he, rfl⟩) hb
            have h2 := ih (ι e.on) hedge (by have : ι e.on < p := hedge; omega)
            have hs := K.size
            rcases Nat.lt_or_ge e.on ops.size with y | y
            · rw [K.pi_ e.on y] at h2; exact h2
            · exfalso
              have he2 := K.eo (π p) _ ho e he hb
              omega⟩
      rw [hr] at this
      cases this

theorem DI.run (K : Link rops ops π ι) (C : Can P pr call rnd nt ops S) (hok : Ok P B call) (hm : Mono call) (hpr : PrimOk P B pr) (hnc : NoCount P) (k : List Item) (cs : List Frame) : ∀ (fuel t : Nat) (l : Array Bool) (E : Nat) (σ : Sg) (a : Act) (w : World), l.size = ops.size → unl l.toList ≤ fuel → DI P B rnd nt ops S b σ0 w0 (plc π ops.size l) E σ a w →
    ∃ E' τ a' w', DI P B rnd nt ops S b σ0 w0 (fun i => i < ops.size) E' τ a' w' ∧ Steps P (lone (b.atR a (.inRegion rops (Region.linearise.go .any rops fuel t l []) :: k)) cs w) (lone (b.atR a' (.inRegion rops [] :: k)) cs w') := by
  have fin : ∀ (l : Array Bool) (E : Nat) (σ : Sg) (a : Act) (w : World), l.size = ops.size → (∀ p, p < ops.size → lst l (π p)) → DI P B rnd nt ops S b σ0 w0 (plc π ops.size l) E σ a w → DI P B rnd nt ops S b σ0 w0 (fun i => i < ops.size) E σ a w := by
    intro l E σ a w hs hall D
    have : plc π ops.size l = fun i => i < ops.size := by
      funext i
      apply propext
      exact ⟨fun h => h.1, fun h => ⟨h, hall i h⟩⟩
    rw [← this]; exact D
  have hsz := K.size
  intro fuel
  induction fuel with
  | zero =>
    intro t l E σ a w hs hu D
    refine ⟨E, σ, a, w, fin l E σ a w hs (fun i hi => ?_) D, by simpa [Region.linearise.go] using Steps.refl P _⟩
    have := unl_zero (l := l.toList) (i := π i) (by omega) (by have := K.pl i hi; simpa [hs] using this)
    unfold lst
    rw [Array.getD_eq_getD_getElem?]
    have h2 : l[π i]? = some true := by simpa using this
    rw [h2]; rfl
  | succ fuel ih =>
    intro t l E σ a w hs hu D
    simp only [Region.linearise.go]
    change ∃ E' τ a' w', _ ∧ Steps P (lone (b.atR a (.inRegion rops (match (Region.ready .any rops l)[t % (Region.ready .any rops l).length]? with
      | some i => Region.linearise.go .any rops fuel (t / (Region.ready .any rops l).length) (l.setIfInBounds i true) [i]
      | none => [].reverse) :: k)) cs w) _
    cases hi : (Region.ready .any rops l)[t % (Region.ready .any rops l).length]? with
    | none =>
      have hnil : Region.ready .any rops l = [] := by
        cases hr : Region.ready .any rops l with
        | nil => rfl
        | cons x xs =>
          rw [hr] at hi
          have hlt : t % (x :: xs).length < (x :: xs).length := Nat.mod_lt _ (by simp)
          simp at hi
          simp at hlt
          omega
      exact ⟨E, σ, a, w, fin l E σ a w hs (some_ready K C (by omega) hnil) D, by simpa using Steps.refl P _⟩
    | some j =>
      simp only []
      have hmem := List.mem_of_getElem? hi
      obtain ⟨hun, o, ho, hall⟩ := mem_ready.1 hmem
      have hjs : j < rops.size := (Array.getElem?_eq_some_iff.1 ho).1
      have hjl : j < l.size := by omega
      have hlj : l[j]? = some false := by
        rw [Array.getElem?_eq_getElem hjl]
        simp only [Array.getD_eq_getD_getElem?, Array.getElem?_eq_getElem hjl, Option.getD_some] at hun
        rw [hun]
      have hnl : ¬ plc π ops.size l (ι j) := by
        unfold plc
        rw [K.pi_ j (by omega)]
        unfold lst
        rw [Array.getD_eq_getD_getElem?, hlj]; simp
      rw [linearise_go_acc, List.reverse_singleton, List.singleton_append]
      obtain ⟨E1, τ, a1, w1, D1, st1⟩ := D.step C hok hm hpr hnc (K.at_ j o ho) (fun e he hb => by
        have he' : e ∈ (o.after.map fun e => ({ e with on := ι e.on } : Edge)) := he
        obtain ⟨e0, q1, rfl⟩ := Array.mem_map.1 he'
        have hl0 := hall e0 q1 hb
        have hlt := lst_lt hl0
        exact ⟨K.il e0.on (by omega), by rw [K.pi_ e0.on (by omega)]; exact hl0⟩) hnl ho rfl (K.wl j o ho) (K.wd j o ho) (Region.linearise.go .any rops fuel (t / (Region.ready .any rops l).length) (l.setIfInBounds j true) []) k cs
      rw [← plc_set K hs (by omega)] at D1
      obtain ⟨E2, τ2, a2, w2, D2, st2⟩ := ih (t / (Region.ready .any rops l).length) (l.setIfInBounds j true) E1 τ a1 w1 (by simpa using hs) (by
        have := unl_set (l := l.toList) (j := j) (by simpa using hlj)
        simp only [Array.toList_setIfInBounds]
        omega) D1
      exact ⟨E2, τ2, a2, w2, D2, st1.trans st2⟩

theorem unl_rep : ∀ n, unl (List.replicate n false) = n
  | 0 => rfl
  | n + 1 => by simp only [List.replicate_succ, unl, unl_rep n]

/-- A region that draws its order. -/
theorem draw_ok (hmix : P.follows .mixedOrders = true) (hpr : PrimOk P B pr) (hnc : NoCount P) (call : Oracle) (hok : Ok P B call) (hm : Mono call) : DrawOk P B pr call := by
  intro rnd nt rops b σ w s s' a id k cs SS K hg hf hd
  obtain ⟨ops, π, ι, S, KL, C, h0, hN⟩ := drawx_can hd
  have hsz := KL.size
  have hw := K.drawn (w.drawn + 1)
  have D : DI P B rnd nt ops S b σ { w with drawn := w.drawn + 1 } (plc π ops.size (Array.replicate ops.size false)) 0 σ a { w with drawn := w.drawn + 1 } := by
    have hL : ∀ i, ¬ plc π ops.size (Array.replicate ops.size false) i := fun i => by
      unfold plc lst
      rw [Array.getD_eq_getD_getElem?, Array.getElem?_replicate]
      split <;> simp
    have hmn := C.mono hm (i := 0) (j := ops.size) (by omega) (Nat.le_refl _)
    exact {
      tsize := SS.tmps.1
      done := fun i o d _ hl => absurd hl (hL i)
      rest := fun u _ => by rw [h0]; exact SS.tmps.2 u
      hr := by rw [h0]; exact hw
      le := by omega
      ep := .inl rfl
      anch := fun i o _ _ => ⟨fun hl => absurd hl (hL i), fun hh => by omega⟩
      clos := fun i o _ hl => absurd hl (hL i)
      pend := fun k hk => absurd hk.2.1 (hL k)
      pdist := fun k k' r δ x r' δ' x' h1 => absurd h1.2.1 (hL k)
      free := fun q h1 h2 _ => hf q (by rw [h0] at h1; exact h1) (by rw [hN] at h2; exact h2)
      ds := by rw [h0]; exact SS.defers
      ex := ⟨hmn, Sub.refl σ, fun _ _ => rfl⟩
      fp := FP.refl _ _ _
      nb := NB.none (Stay.refl _)
      rn := SS.round
      glb := by rw [h0]; exact hg }
  obtain ⟨E', τ, a', w', D', st⟩ := DI.run KL C hok hm hpr hnc k cs ops.size (w.tape w.drawn (.order b.fn id)) _ 0 σ a _ (by simp) (by simp [unl_rep]) D
  have hlast : ∀ i o, E' ≤ i → i < ops.size → ops[i]? = some o → clsx P o.op ≠ 3 ∧ (clsx P o.op = 2 → i < ops.size) := fun i o h1 h2 ho => ⟨fun hc => by have := (D'.anch i o ho hc).1 h2; omega, fun _ => h2⟩
  obtain ⟨g1, g2, g3⟩ := D'.merge C hm ops.size D'.le (Nat.le_refl _) hlast
  refine ⟨a', w', τ, ⟨?_, ?_, ?_, ?_⟩, ⟨⟨D'.tsize, fun u => ?_⟩, ?_, D'.rn⟩, ?_⟩
  · have := D'.ex; rw [h0, hN] at this; exact this
  · rw [hN] at g1; exact g1
  · have := D'.fp; rw [h0] at this; exact this
  · intro q p hp hl r δ x e
    rw [← hN] at hp
    rcases g3 q p hp with z | ⟨k2, _, z2, rfl⟩
    · have := D'.nb q p z hl r δ x e
      rw [h0] at this
      exact this
    · obtain ⟨_, r1, _, _, _, _, _, p3, _, _, _, _, _, p9⟩ := D'.pend k2 z2
      rw [p3] at e
      cases e
      exact .inl p9
  · rw [← hN]
    rcases C.tmAt ops.size (Nat.le_refl _) u with ⟨i, o, q1, q2, q3, q4⟩ | ⟨q1, q2⟩
    · rw [q4]; exact D'.done i o u q2 q1 q3
    · rw [q2]; exact D'.rest u fun i o ho hl => q1 i o hl ho
  · rw [← hN, g2]; exact D'.ds
  · refine .head stepR_region_draw ?_
    rw [hmix]
    have e : Region.schedule true rops (w.tape w.drawn (.order b.fn id)) = Region.linearise.go .any rops ops.size (w.tape w.drawn (.order b.fn id)) (Array.replicate ops.size false) [] := by
      unfold Region.schedule Region.linearise
      rw [hsz]
      simp
    rw [e]
    exact st.trans (.one stepR_region_end)

/-- A closed call, reckoned by our machine: nothing is left open. -/
theorem calls_ev {steps d : Nat} (hmix : P.follows .mixedOrders = true) (hpr : PrimOk P B pr) (hnc : NoCount P) {f : FuncId} {args args' : List Value} {fr : Fr} {v : Value} {h h' : H} (K : HR P B σ h B) (hg : P.globals.size ≤ h.next) (hf : ∀ q, h.next ≤ q → σ q = none) (ha : VRs σ args args')
    (he : enterx P f args = some fr) (hc : callN P pr steps d fr h = some (v, h')) : Calls P f ⟨args'⟩ B (fun e W => ∃ v' τ, e = .returned v' ∧ VR τ v v' ∧ HR P B τ h' W ∧ Below B.heap.size B W) :=
  calls_of_ev hpr hnc (draw_ok hmix hpr hnc) K hg hf ha he hc
end
end Go.Ev
