/- Calls told of a part of a memory. -/
import Derived.Test.YtofnnpchobgapaaGreatDoorEvDraw
import Derived.Test.YtofnnpchobgapaaGreatDoorEvDefs
import Derived.Lib.Bytealg
import Derived.Lib.Strings
import Derived.Lib.ItoaNum
import Derived.Lib.LaidTab
import Derived.Lib.UnsafeStr
import Derived.Lib.MakeNoZero
set_option linter.unusedSimpArgs false
set_option linter.unusedVariables false
namespace Go.Ev
open Go Go.RowKit
variable {P : Program} {B : World} {σ : Sg} {h : H}

/-- A memory of tables alone: nothing in it is written. -/
def Ro (h : H) : Prop := ∀ b o, h.objs.get b = some o → owned o = false

def glob0 (n : Nat) : Sg := fun b => if b < n then some (b, 0, 0) else none

theorem ro_start (n : Nat) : Ro ⟨n, .nil⟩ := fun b o ho => by rw [show (⟨n, .nil⟩ : H).objs = .nil from rfl, Tr.get_nil] at ho; simp at ho

theorem HR.start (hg : P.globals.size ≤ B.heap.size) (n : Nat) : HR P B (glob0 P.globals.size) ⟨n, .nil⟩ B where
  bel := Below.refl _ _
  glob := fun g hl => by simp [glob0, hl]
  obj := fun b o ho _ => by rw [show (⟨n, .nil⟩ : H).objs = .nil from rfl, Tr.get_nil] at ho; simp at ho
  inj := fun b b' o o' r δ x r' δ' x' ho => by rw [show (⟨n, .nil⟩ : H).objs = .nil from rfl, Tr.get_nil] at ho; simp at ho
  own := fun b o r δ x ho => by rw [show (⟨n, .nil⟩ : H).objs = .nil from rfl, Tr.get_nil] at ho; simp at ho
  low := fun b o ho => by rw [show (⟨n, .nil⟩ : H).objs = .nil from rfl, Tr.get_nil] at ho; simp at ho
  bnd := fun b r δ x hb => by
    unfold glob0 at hb
    split at hb
    · simp only [Option.some.injEq, Prod.mk.injEq] at hb; omega
    · simp at hb

/-- A table is laid at a number that is known. -/
theorem HR.lay (k : HR P B σ h B) (hr : Ro h) {b r δ x : Nat} {cs : List Value} (hb : b < h.next) (hs : σ b = some (r, δ, x)) (h2 : OR P σ B (.ro cs) r δ x) : HR P B σ (h.put b (.ro cs)) B ∧ Ro (h.put b (.ro cs)) := by
  have ro : Ro (h.put b (.ro cs)) := fun n p hp => by
    simp only [H.put, Tr.get_put] at hp
    split at hp
    · obtain rfl := Option.some.inj hp; rfl
    · exact hr n p hp
  refine ⟨{ bel := k.bel, glob := k.glob, obj := fun n p hp hl => ?_, inj := fun n n' p p' r1 δ1 x1 r2 δ2 x2 hp hp' h3 => ?_, own := fun n p r1 δ1 x1 hp h3 => ?_, low := fun n p hp => ?_, bnd := k.bnd }, ro⟩
  · simp only [H.put, Tr.get_put] at hp
    split at hp
    · rename_i e
      subst e
      obtain rfl := Option.some.inj hp
      exact ⟨r, δ, x, hs, h2⟩
    · exact k.obj n p hp hl
  · rw [ro n p hp] at h3; simp at h3
  · rw [ro n p hp] at h3; simp at h3
  · simp only [H.put, Tr.get_put] at hp ⊢
    split at hp
    · rename_i e; subst e; exact hb
    · exact k.low n p hp

/-- A number more is known. -/
theorem HR.known (k : HR P B σ h B) (hr : Ro h) {n r δ x : Nat} (hn : σ n = none) (hrs : r < B.heap.size) : HR P B (addS σ n (r, δ, x)) h B where
  bel := k.bel
  glob := fun g hgl => by
    have := k.glob g hgl
    rw [addS_ne _ _ (fun e => by subst e; rw [hn] at this; simp at this)]; exact this
  obj := fun b o ho hl => by
    obtain ⟨r', δ', x', h1, h3⟩ := k.obj b o ho hl
    exact ⟨r', δ', x', addS_sub _ hn _ _ h1, h3.mono (addS_sub _ hn) rfl⟩
  inj := fun b b' o o' r1 δ1 x1 r2 δ2 x2 ho _ h3 => by rw [hr b o ho] at h3; simp at h3
  own := fun b o r1 δ1 x1 ho h3 => by rw [hr b o ho] at h3; simp at h3
  low := k.low
  bnd := fun b r1 δ1 x1 hb => by
    by_cases e : b = n
    · subst e; rw [addS_self] at hb; cases hb; exact hrs
    · rw [addS_ne _ _ e] at hb; exact k.bnd b r1 δ1 x1 hb

/-- More numbers may be taken. -/
theorem HR.next (k : HR P B σ h B) {n : Nat} (hn : h.next ≤ n) : HR P B σ ⟨n, h.objs⟩ B where
  bel := k.bel
  glob := k.glob
  obj := k.obj
  inj := k.inj
  own := k.own
  low := fun b o ho => Nat.lt_of_lt_of_le (k.low b o ho) hn
  bnd := k.bnd

theorem ro_cells {r δ x : Nat} {cs : List Value} (hne : cs ≠ []) (hc : ∀ (i : Nat) v, cs[i]? = some v → ∃ v', B.cell? ⟨r, δ + i, none⟩ = some v' ∧ VR σ v v') : OR P σ B (.ro cs) r δ x := by
  obtain ⟨v0, rest, rfl⟩ := List.exists_cons_of_ne_nil hne
  have key : ∀ (i : Nat) v', B.cell? ⟨r, i, none⟩ = some v' → ∃ C e fz, B.heap[r]? = some (.cells C e fz) ∧ C[i]? = some v' := by
    intro i v' hv
    unfold World.cell? at hv
    cases hh : B.heap[r]? with
    | none => simp [hh] at hv
    | some O =>
      cases O <;> simp [hh] at hv
      exact ⟨_, _, _, rfl, hv⟩
  obtain ⟨v', h1, _⟩ := hc 0 v0 rfl
  obtain ⟨C, e, fz, h3, _⟩ := key _ _ h1
  refine ⟨C, e, fz, h3, fun i v hv => ?_⟩
  obtain ⟨u, q1, q2⟩ := hc i v hv
  obtain ⟨C', e', fz', q3, q4⟩ := key _ _ q1
  rw [h3] at q3
  cases q3
  exact ⟨u, q4, q2⟩
end Go.Ev
namespace Go.Ev
open Go Go.RowKit
variable {P : Program} {B : World} {σ : Sg} {h : H}

/-- A type of one cell whose data are literals. -/
def Scal (P : Program) (e : TypeId) : Prop := P.cellsOf e = 1 ∧ ((∃ k, P.underlying e = some (.int k)) ∨ P.underlying e = some .string ∨ P.underlying e = some .bool)

theorem scal_trod {e : TypeId} {fuel : Nat} {cs : List Value} {x : DataW Unit × List MemPlace} (hs : Scal P e) (hd : DataW.trod (fun _ => ()) P B 0 (fun _ => true) false fuel e cs = some x) :
    cs = [litv x.1] ∧ VR σ (litv x.1) (litv x.1) := by
  rcases hs.2 with ⟨k, hk⟩ | hk | hk
  · obtain ⟨n, rfl, rfl, _⟩ := DataW.trod_int hk hd
    exact ⟨rfl, .int _ _⟩
  · obtain ⟨s, rfl, rfl, _⟩ := DataW.trod_string hk hd
    refine ⟨?_, .str _⟩
    show [Value.string s] = [Value.string ⟨⟨s.data.toList⟩⟩]
    rfl
  · obtain ⟨b, rfl, rfl⟩ := DataW.trod_bool hk hd
    exact ⟨rfl, .bool _⟩

/-- A variable that is a row of literals. -/
theorem arr_trod {t e : TypeId} {n fuel : Nat} {cs : List Value} {ds : List (DataW Unit)} {p : List MemPlace} (ht : P.underlying t = some (.array n e)) (hs : Scal P e)
    (hd : DataW.trod (fun _ => ()) P B 0 (fun _ => true) false fuel t cs = some (.agg ds, p)) :
    ∀ (i : Nat) v, (ds.map litv)[i]? = some v → cs[i]? = some v ∧ VR σ v v := by
  obtain ⟨xs, m, _, hx, hcl, hxl, hel⟩ := DataW.trod_array ht hd
  simp only [Prod.mk.injEq, DataW.agg.injEq] at hx
  obtain ⟨rfl, _⟩ := hx
  intro i v hv
  simp only [List.map_map, List.getElem?_map, Option.map_eq_some_iff, Function.comp] at hv
  obtain ⟨y, hy, rfl⟩ := hv
  have hi : i < n := by rw [← hxl]; exact (List.getElem?_eq_some_iff.1 hy).1
  have h1 := hel i hi
  rw [hs.1, Nat.mul_one, hy] at h1
  obtain ⟨h2, h3⟩ := scal_trod (σ := σ) hs h1
  refine ⟨?_, h3⟩
  have := congrArg (·[0]?) h2
  simpa [List.getElem?_take, List.getElem?_drop] using this

theorem cells_one {w : World} {a : Addr} {v : Value} (h : w.cells? 0 a 1 = some [v]) : w.cell? a = some v := by
  have e : a.add 0 = a := by simp [Addr.add]
  unfold World.cells? at h
  rw [if_pos (Nat.zero_le _)] at h
  have h1 : (List.range 1) = [0] := rfl
  rw [h1] at h
  simp only [List.mapM_cons, List.mapM_nil, e] at h
  cases hc : w.cell? a with
  | none => rw [hc] at h; simp at h
  | some x => rw [hc] at h; simpa using h

/-- A slice of literals, with no room beyond them. -/
theorem slice_trod {t e : TypeId} {fuel : Nat} {cs : List Value} {ds : List (DataW Unit)} {p : List MemPlace} (ht : P.underlying t = some (.slice e)) (hs : Scal P e) (hne : ds ≠ [])
    (hd : DataW.trod (fun _ => ()) P B 0 (fun _ => true) false fuel t cs = some (.slice ds [], p)) :
    ∃ r δ, cs = [.slice (some ⟨r, δ, none⟩) ds.length ds.length] ∧ ∀ (i : Nat) v, (ds.map litv)[i]? = some v → B.cell? ⟨r, δ + i, none⟩ = some v ∧ VR σ v v := by
  rcases DataW.trod_slice ht hd with ⟨_, hx⟩ | ⟨a, len, cap, elems, rest, n, _, hc, hx, _, hlc, _, hll, hev, hsp, _⟩
  · simp at hx
  · simp only [Prod.mk.injEq, DataW.slice.injEq] at hx
    obtain ⟨⟨rfl, h6⟩, _⟩ := hx
    have hr : rest = [] := by
      cases rest with
      | nil => rfl
      | cons _ _ => simp at h6
    have hcap : cap = len := by
      have := (hsp rfl).1
      rw [hr] at this
      simp only [List.length_nil] at this
      omega
    subst hcap
    have each : ∀ (i : Nat) v, ((elems.map (·.1)).map litv)[i]? = some v → B.cell? (a.add i) = some v ∧ VR σ v v := by
      intro i v hv
      simp only [List.map_map, List.getElem?_map, Option.map_eq_some_iff, Function.comp] at hv
      obtain ⟨y, hy, rfl⟩ := hv
      have hi : i < cap := by rw [← hll]; exact (List.getElem?_eq_some_iff.1 hy).1
      have h1 := hev i hi
      rw [hs.1, Nat.mul_one, hy] at h1
      obtain ⟨c, h2, h3⟩ := Option.bind_eq_some_iff.1 h1
      obtain ⟨rfl, h5⟩ := scal_trod (σ := σ) hs h3
      exact ⟨cells_one h2, h5⟩
    obtain ⟨b, off, spot⟩ := a
    have hspot : spot = none := by
      obtain ⟨y, ys, hy⟩ := List.exists_cons_of_ne_nil hne
      have := (each 0 (litv y) (by rw [hy]; rfl)).1
      have := World.cell?_spot this
      simpa [Addr.add] using this
    subst hspot
    refine ⟨b, off, ?_, fun i v hv => ?_⟩
    · rw [hc]; simp [hll]
    · have e : (⟨b, off, none⟩ : Addr).add i = ⟨b, off + i, none⟩ := by
        by_cases hi : i = 0
        · subst hi; simp [Addr.add]
        · simp [Addr.add, hi]
      rw [← e]
      exact each i v hv

/-- The state of a memory of tables. -/
structure TabSt (P : Program) (B : World) (σ : Sg) (h : H) : Prop where
  hr : HR P B σ h B
  ro : Ro h
  gl : P.globals.size ≤ h.next
  fr : ∀ q, h.next ≤ q → σ q = none

theorem TabSt.start (hg : P.globals.size ≤ B.heap.size) : TabSt P B (glob0 P.globals.size) ⟨P.globals.size, .nil⟩ :=
  ⟨HR.start hg _, ro_start _, Nat.le_refl _, fun q hq => by simp only [glob0]; rw [if_neg (by simp only at hq; omega)]⟩

theorem TabSt.put {g : Nat} {cs : List Value} (k : TabSt P B σ h) (hg : g < P.globals.size) (hne : cs ≠ []) (hc : ∀ (i : Nat) v, cs[i]? = some v → ∃ v', B.cell? ⟨g, i, none⟩ = some v' ∧ VR σ v v') : TabSt P B σ (h.put g (.ro cs)) := by
  have := k.gl
  obtain ⟨h1, h2⟩ := k.hr.lay k.ro (by omega) (k.hr.glob g hg) (ro_cells hne fun i v hv => by rw [Nat.zero_add]; exact hc i v hv)
  exact ⟨h1, h2, k.gl, k.fr⟩

theorem TabSt.new {r δ : Nat} {cs : List Value} (k : TabSt P B σ h) (hne : cs ≠ []) (hc : ∀ (i : Nat) v, cs[i]? = some v → B.cell? ⟨r, δ + i, none⟩ = some v ∧ ∀ τ : Sg, VR τ v v) : TabSt P B (addS σ h.next (r, δ, 0)) (h.new (.ro cs)) := by
  have hor : OR P (addS σ h.next (r, δ, 0)) B (.ro cs) r δ 0 := ro_cells hne fun i v hv => ⟨v, (hc i v hv).1, (hc i v hv).2 _⟩
  have hn := k.fr h.next (Nat.le_refl _)
  have h1 := (k.hr.known (x := 0) (δ := δ) k.ro hn (hor.lt rfl)).next (n := h.next + 1) (by omega)
  have hro : Ro ⟨h.next + 1, h.objs⟩ := k.ro
  obtain ⟨h2, h3⟩ := h1.lay (b := h.next) hro (by simp) (addS_self _ _ _) hor
  have := k.gl
  exact ⟨h2, h3, by simp only [H.new]; omega, fun q hq => by simp only [H.new] at hq; rw [addS_ne _ _ (by omega)]; exact k.fr q (by omega)⟩

theorem layRows_ok {s e : TypeId} {m : Nat} (ht : P.underlying s = some (.slice e)) (hs : Scal P e) : ∀ (l : List (List (DataW Unit))) (cs : List Value) (σ : Sg) (h : H), TabSt P B σ h → l.length = cs.length → (∀ ds ∈ l, ds ≠ []) →
    (∀ (i : Nat) ds v, l[i]? = some ds → cs[i]? = some v → ∃ p, DataW.trod (fun _ => ()) P B 0 (fun _ => true) false m s [v] = some (.slice ds [], p)) →
    ∃ τ, Sub σ τ ∧ TabSt P B τ (layRows l h).2 ∧ VRs τ (layRows l h).1 cs
  | [], cs, σ, h, k, hl, _, _ => by
    cases cs with
    | nil => exact ⟨σ, Sub.refl σ, k, .nil σ⟩
    | cons _ _ => simp at hl
  | ds :: l, cs, σ, h, k, hl, hne, hd => by
    cases cs with
    | nil => simp at hl
    | cons v cs =>
      obtain ⟨p, hp⟩ := hd 0 ds v rfl rfl
      obtain ⟨r, δ, hv, _⟩ := slice_trod (σ := σ) ht hs (hne ds (by simp)) hp
      have hc : ∀ (i : Nat) v, (ds.map litv)[i]? = some v → B.cell? ⟨r, δ + i, none⟩ = some v ∧ ∀ τ : Sg, VR τ v v := by
        intro i u hu
        refine ⟨?_, fun τ => ?_⟩
        · obtain ⟨r', δ', hv', h5⟩ := slice_trod (σ := σ) ht hs (hne ds (by simp)) hp
          rw [hv] at hv'
          simp only [List.cons.injEq, Value.slice.injEq, Option.some.injEq, Addr.mk.injEq] at hv'
          obtain ⟨⟨⟨rfl, rfl, _⟩, _⟩, _⟩ := hv'
          exact (h5 i u hu).1
        · obtain ⟨_, _, _, h5⟩ := slice_trod (σ := τ) ht hs (hne ds (by simp)) hp
          exact (h5 i u hu).2
      have k1 := k.new (by simpa using hne ds (by simp)) hc
      obtain ⟨τ, t1, t2, t3⟩ := layRows_ok ht hs l cs _ _ k1 (by simpa using hl) (fun d hd => hne d (by simp [hd])) (fun i d u h1 h2 => hd (i + 1) d u (by simpa using h1) (by simpa using h2))
      have hn := k.fr h.next (Nat.le_refl _)
      refine ⟨τ, (addS_sub _ hn).trans t1, t2, ?_⟩
      simp only [List.cons.injEq, and_true] at hv
      subst hv
      exact .cons (.slX (o := 0) (t1 _ _ (addS_self _ _ _)) (Nat.le_refl _)) t3
end Go.Ev
namespace Go.Ev
open Go Go.RowKit
variable {P : Program} {B : World} {σ : Sg} {h : H}

theorem TabSt.move {w : World} (k : TabSt P B σ h) (hb : Below B.heap.size B w) : TabSt P w σ h where
  hr := {
    bel := Below.refl _ _
    glob := k.hr.glob
    obj := fun b o ho hl => by
      obtain ⟨r, δ, x, h1, h2⟩ := k.hr.obj b o ho hl
      exact ⟨r, δ, x, h1, h2.mono (Sub.refl σ) (hb.block r (k.hr.bnd b r δ x h1))⟩
    inj := fun b b' o o' r1 δ1 x1 r2 δ2 x2 ho _ h3 => by rw [k.ro b o ho] at h3; simp at h3
    own := fun b o r1 δ1 x1 ho h3 => by rw [k.ro b o ho] at h3; simp at h3
    low := k.hr.low
    bnd := fun b r δ x h1 => Nat.lt_of_lt_of_le (k.hr.bnd b r δ x h1) hb.size }
  ro := k.ro
  gl := k.gl
  fr := k.fr

theorem ValOk.move {w : World} {pr : FuncId → List Value → Option Value} (k : ValOk P B pr) (hb : Below B.heap.size B w) : ValOk P w pr := by
  intro f args v hp
  obtain ⟨h1, h2, h3⟩ := k f args v hp
  refine ⟨h1, h2, ?_⟩
  rcases h3 with h3 | ⟨h3, h4⟩
  · exact .inl h3
  · exact .inr ⟨h3, fun u hu => h4 u (hb.trans (hu.mono hb.size))⟩

/-- In every world that keeps what lay at the start. -/
def PrimAll (P : Program) (B : World) (pr : Prim) : Prop := ∀ w, Below B.heap.size B w → PrimOk P w pr

theorem bare_all {val : FuncId → List Value → Option Value} (k : ValOk P B val) : PrimAll P B (bare val) :=
  fun w hw => ⟨k.move hw, fun f args h v h' ht => by simp [bare] at ht⟩

theorem ansv_calls {pr : Prim} {steps d : Nat} (hmix : P.follows .mixedOrders = true) (hpr : PrimAll P B pr) (hnc : NoCount P) (k : TabSt P B σ h) {f : FuncId} {args : List Value} {v : Value} (ha : args.all plain1 = true) (hv : plain1 v = true)
    (hc : ansv P pr steps d h f args = some v) :
    (∀ w, (callFunc f ⟨args⟩).run P w = .ok (.enter f ⟨args⟩) w) ∧ ∀ w, Below B.heap.size B w → Calls P f ⟨args⟩ w (fun e W => e = .returned v ∧ Below w.heap.size w W) := by
  unfold ansv at hc
  cases he : enterx P f args with
  | none => rw [he] at hc; simp at hc
  | some fr =>
    rw [he] at hc
    simp only at hc
    cases hn : callN P pr steps d fr h with
    | none => rw [hn] at hc; simp at hc
    | some x =>
      obtain ⟨u, h'⟩ := x
      rw [hn] at hc
      simp only [Option.some.injEq] at hc
      subst hc
      have hargs : VRs σ args args := ⟨rfl, fun i a a' h1 h2 => by
        rw [h1] at h2
        cases h2
        exact VR.plain1 (List.all_eq_true.1 ha _ (List.mem_of_getElem? h1))⟩
      obtain ⟨b, a, e1, e2, e3, e4, e5, e6, e7, e8⟩ := enterx_run hargs he hnc .normal
      refine ⟨e8, fun w hw => ?_⟩
      have kw := k.move hw
      intro cs
      obtain ⟨e, W, g, ⟨v', τ, r1, r2, _, r4⟩, rest⟩ := calls_ev hmix (hpr w hw) hnc kw.hr kw.gl kw.fr hargs he hn cs
      have : v' = u := (r2.one (VR.plain1 hv))
      subst this
      exact ⟨e, W, g, ⟨r1, r4⟩, rest⟩

theorem addP_ok {pr : Prim} {f : FuncId} {v : Value} (hpr : PrimAll P B pr) (hv : plain1 v = true)
    (hc : (∀ w, (callFunc f ⟨[]⟩).run P w = .ok (.enter f ⟨[]⟩) w) ∧ ∀ w, Below B.heap.size B w → Calls P f ⟨[]⟩ w (fun e W => e = .returned v ∧ Below w.heap.size w W)) : PrimAll P B (addP pr f v) := by
  intro w hw
  refine ⟨?_, (hpr w hw).tel⟩
  intro g args u hu
  unfold addP at hu
  simp only at hu
  split at hu
  · rename_i hb
    obtain rfl := Nat.eq_of_beq_eq_true hb
    obtain rfl := Option.some.inj hu
    exact ⟨rfl, hv, .inr ⟨hc.1, fun x hx => hc.2 x (hw.trans (hx.mono hw.size))⟩⟩
  · exact (hpr w hw).val _ _ u hu

noncomputable def sameV : Value → Value → Bool
  | .string a, .string b => bytesEq a.data.toList b.data.toList
  | .int j m, .int k n => cond (Nat.beq (kindNo j) (kindNo k)) (decide (m = n)) false
  | .bool a, .bool b => cond a b (cond b false true)
  | _, _ => false
theorem sameV_eq {a b : Value} (h : sameV a b = true) : a = b := by
  unfold sameV at h
  split at h
  · rename_i x y
    rw [bytesEq_eq] at h
    have := eq_of_beq h
    obtain ⟨⟨x⟩⟩ := x
    obtain ⟨⟨y⟩⟩ := y
    simp only at this
    rw [this]
  · rename_i j m k n
    cases hb : Nat.beq (kindNo j) (kindNo k) with
    | false => rw [hb] at h; simp at h
    | true =>
      rw [hb] at h
      simp only [cond_true, decide_eq_true_eq] at h
      rw [kindNo_inj (Nat.eq_of_beq_eq_true hb), h]
  · rename_i x y
    cases x <;> cases y <;> simp_all
  · simp at h
noncomputable def sameVs : List Value → List Value → Bool
  | [], [] => true
  | a :: x, b :: y => cond (sameV a b) (sameVs x y) false
  | _, _ => false
theorem sameVs_eq : ∀ {x y : List Value}, sameVs x y = true → x = y
  | [], [], _ => rfl
  | [], _ :: _, h => by simp [sameVs] at h
  | _ :: _, [], h => by simp [sameVs] at h
  | a :: x, b :: y, h => by
    unfold sameVs at h
    cases hb : sameV a b with
    | false => rw [hb] at h; simp at h
    | true =>
      rw [hb] at h
      rw [sameV_eq hb, sameVs_eq (x := x) (y := y) (by simpa using h)]

/-- One told call more, of any plain arguments. -/
noncomputable def addM (pr : Prim) (f : FuncId) (as : List Value) (v : Value) : Prim := ⟨fun g args => cond (Nat.beq g f) (cond (sameVs as args) (some v) (pr.val g args)) (pr.val g args), pr.tel⟩

theorem addM_ok {pr : Prim} {f : FuncId} {as : List Value} {v : Value} (hpr : PrimAll P B pr) (ha : as.all plain1 = true) (hv : plain1 v = true)
    (hc : (∀ w, (callFunc f ⟨as⟩).run P w = .ok (.enter f ⟨as⟩) w) ∧ ∀ w, Below B.heap.size B w → Calls P f ⟨as⟩ w (fun e W => e = .returned v ∧ Below w.heap.size w W)) : PrimAll P B (addM pr f as v) := by
  intro w hw
  refine ⟨?_, (hpr w hw).tel⟩
  intro g args u hu
  unfold addM at hu
  simp only at hu
  cases hb : Nat.beq g f with
  | false => rw [hb] at hu; exact (hpr w hw).val _ _ u hu
  | true =>
    rw [hb] at hu
    cases hs : sameVs as args with
    | false => rw [hs] at hu; exact (hpr w hw).val _ _ u hu
    | true =>
      rw [hs] at hu
      obtain rfl := Nat.eq_of_beq_eq_true hb
      obtain rfl := sameVs_eq hs
      obtain rfl := Option.some.inj hu
      exact ⟨ha, hv, .inr ⟨hc.1, fun x hx => hc.2 x (hw.trans (hx.mono hw.size))⟩⟩
end Go.Ev
namespace Go.Ev
open Go Go.RowKit
variable {P : Program} {B : World} {σ : Sg} {h : H}

theorem laid_skip {x : String × DataW Unit} {r : List (String × DataW Unit)} {ps : List MemPlace} (hL : DataW.LaidVars P B (x :: r) ps) : ∃ q, DataW.LaidVars P B r q := by
  obtain ⟨n, d⟩ := x
  obtain ⟨g, t, cs, fuel, p, q, _, _, _, _, h5, _⟩ := hL
  exact ⟨q, h5⟩

theorem globalNamed_lt {t : TypeId} {g : Nat} (ht : (P.globals[g]?).map (·.type) = some t) : g < P.globals.size := by
  obtain ⟨x, hx, _⟩ := Option.map_eq_some_iff.1 ht
  exact (Array.getElem?_eq_some_iff.1 hx).1

/-- A table of literals is laid. -/
theorem tab_lits {n : String} {g m : Nat} {t e : TypeId} {ds : List (DataW Unit)} {r : List (String × DataW Unit)} {ps : List MemPlace} (hL : DataW.LaidVars P B ((n, .agg ds) :: r) ps) (hg : P.globalNamed n = some g)
    (ht : (P.globals[g]?).map (·.type) = some t) (hu : P.underlying t = some (.array m e)) (hs : Scal P e) (hne : ds ≠ []) (k : TabSt P B σ h) : TabSt P B σ (h.put g (.ro (ds.map litv))) := by
  obtain ⟨g', t', cs, fuel, p, q, h1, h2, h3, h4, _, _⟩ := hL
  rw [hg] at h1; cases h1
  rw [ht] at h2; cases h2
  refine k.put (globalNamed_lt ht) (by simpa using hne) fun i v hv => ?_
  obtain ⟨q1, q2⟩ := arr_trod (σ := σ) hu hs h4 i v hv
  exact ⟨v, by rw [World.var?_cell hg h3 i]; simpa using q1, q2⟩

theorem flat_of {α : Type} (f : α → List Value) (k : Nat) : ∀ (ds : List α) (cs : List Value), cs.length = ds.length * k → (∀ j x, ds[j]? = some x → (cs.drop (j * k)).take k = f x) → cs = ds.flatMap f
  | [], cs, hl, _ => by
    have : cs.length = 0 := by simpa using hl
    rw [List.length_eq_zero_iff.1 this]; rfl
  | x :: r, cs, hl, hx => by
    have h0 := hx 0 x rfl
    rw [Nat.zero_mul, List.drop_zero] at h0
    have ih := flat_of f k r (cs.drop k) (by rw [List.length_drop, hl, List.length_cons, Nat.succ_mul, Nat.add_sub_cancel]) (fun j y hy => by
      have := hx (j + 1) y (by simpa using hy)
      rwa [Nat.succ_mul, Nat.add_comm, ← List.drop_drop] at this)
    rw [List.flatMap_cons, ← h0, ← ih, List.take_append_drop]
/-- A struct of literals. -/
theorem struct_trod {e : TypeId} {fs : Array Field} {fuel k : Nat} {cs : List Value} {x : DataW Unit × List MemPlace} (hu : P.underlying e = some (.struct fs)) (hk : P.cellsOf e = k) (hfs : fs.size = k)
    (hof : ∀ (i : Nat) f, fs[i]? = some f → f.offset = i ∧ Scal P f.type) (hd : DataW.trod (fun _ => ()) P B 0 (fun _ => true) false fuel e cs = some x) :
    cs = (parts x.1).map litv ∧ ∀ v ∈ cs, VR σ v v := by
  obtain ⟨xs, n, _, rfl, hl, hlen, hf⟩ := DataW.trod_struct hu hd
  have each : ∀ i, i < k → ∃ y, xs[i]? = some y ∧ cs[i]? = some (litv y.1) ∧ VR σ (litv y.1) (litv y.1) := fun i hi => by
    have hg : fs[i]? = some fs[i] := Array.getElem?_eq_getElem (by omega)
    have h1 := hf i _ hg
    obtain ⟨h2, h3⟩ := hof i _ hg
    have hy : xs[i]? = some xs[i] := List.getElem?_eq_getElem (by omega)
    rw [hy, h2, h3.1] at h1
    obtain ⟨h4, h5⟩ := scal_trod (σ := σ) h3 h1
    refine ⟨_, hy, ?_, h5⟩
    have := congrArg (·[0]?) h4
    simpa [List.getElem?_take, List.getElem?_drop] using this
  have hcl : cs.length = k := hl.trans hk
  constructor
  · apply List.ext_getElem?
    intro i
    by_cases hi : i < k
    · obtain ⟨y, h1, h2, _⟩ := each i hi
      rw [h2]
      simp [parts, h1]
    · rw [List.getElem?_eq_none (by omega), List.getElem?_eq_none (by simp [parts]; omega)]
  · intro v hv
    obtain ⟨i, hi, rfl⟩ := List.mem_iff_getElem.1 hv
    obtain ⟨y, _, h2, h3⟩ := each i (by omega)
    rw [List.getElem?_eq_getElem hi] at h2
    rw [Option.some.inj h2]
    exact h3
/-- A table of structs of literals is laid. -/
theorem tab_aggs {n : String} {g m kc : Nat} {t e : TypeId} {fs : Array Field} {ds : List (DataW Unit)} {r : List (String × DataW Unit)} {ps : List MemPlace} (hL : DataW.LaidVars P B ((n, .agg ds) :: r) ps) (hg : P.globalNamed n = some g)
    (ht : (P.globals[g]?).map (·.type) = some t) (hu : P.underlying t = some (.array m e)) (hue : P.underlying e = some (.struct fs)) (hkt : P.cellsOf t = m * kc) (hk : P.cellsOf e = kc) (hfs : fs.size = kc)
    (hof : ∀ (i : Nat) f, fs[i]? = some f → f.offset = i ∧ Scal P f.type) (hne : (ds.flatMap fun x => (parts x).map litv) ≠ []) (k : TabSt P B σ h) : TabSt P B σ (h.put g (.ro (ds.flatMap fun x => (parts x).map litv))) := by
  obtain ⟨g', t', cs, fuel, p, q, h1, h2, h3, h4, _, _⟩ := hL
  rw [hg] at h1; cases h1
  rw [ht] at h2; cases h2
  obtain ⟨xs, f, _, hx, hcl, hxl, hel⟩ := DataW.trod_array hu h4
  simp only [Prod.mk.injEq, DataW.agg.injEq] at hx
  obtain ⟨rfl, _⟩ := hx
  have each : ∀ j x, xs[j]? = some x → (cs.toList.drop (j * kc)).take kc = (parts x.1).map litv ∧ ∀ v ∈ (cs.toList.drop (j * kc)).take kc, VR σ v v := fun j x hj => by
    have hjm : j < m := by rw [← hxl]; exact (List.getElem?_eq_some_iff.1 hj).1
    have h5 := hel j hjm
    rw [hk, hj] at h5
    exact struct_trod hue hk hfs hof h5
  have hflat := flat_of (fun x : DataW Unit => (parts x).map litv) kc (xs.map (·.1)) cs.toList (by rw [hcl, hkt, List.length_map, hxl]) (fun j x hj => by
    rw [List.getElem?_map, Option.map_eq_some_iff] at hj
    obtain ⟨y, hy, rfl⟩ := hj
    exact (each j y hy).1)
  refine k.put (globalNamed_lt ht) hne fun i v hv => ?_
  rw [← hflat] at hv
  refine ⟨v, by rw [World.var?_cell hg h3 i]; simpa using hv, ?_⟩
  have hmem : v ∈ (xs.map (·.1)).flatMap (fun x : DataW Unit => (parts x).map litv) := by rw [← hflat]; exact List.mem_of_getElem? hv
  rw [List.mem_flatMap] at hmem
  obtain ⟨d, hd, hv2⟩ := hmem
  rw [List.mem_map] at hd
  obtain ⟨y, hy, rfl⟩ := hd
  obtain ⟨j, hj⟩ := List.getElem?_of_mem hy
  obtain ⟨e1, e2⟩ := each j y hj
  exact e2 v (by rw [e1]; exact hv2)

def okScal (P : Program) (t : TypeId) : Bool := (P.cellsOf t == 1) && match P.underlying t with
  | some (.int _) => true
  | some .string => true
  | some .bool => true
  | _ => false
def okStruct (P : Program) (e : TypeId) (k : Nat) : Bool := match P.underlying e with
  | some (.struct fs) => fs.size == k && (List.range k).all fun i => match fs[i]? with
    | some f => f.offset == i && okScal P f.type
    | none => false
  | _ => false
theorem scal_ok {t : TypeId} (h : okScal P t = true) : Scal P t := by
  unfold okScal at h
  rw [Bool.and_eq_true, beq_iff_eq] at h
  refine ⟨h.1, ?_⟩
  have h2 := h.2
  split at h2
  · rename_i k hk; exact .inl ⟨k, hk⟩
  · rename_i hk; exact .inr (.inl hk)
  · rename_i hk; exact .inr (.inr hk)
  · cases h2
theorem structs_ok {e : TypeId} {k : Nat} (h : okStruct P e k = true) : ∃ fs : Array Field, P.underlying e = some (.struct fs) ∧ fs.size = k ∧ ∀ (i : Nat) f, fs[i]? = some f → f.offset = i ∧ Scal P f.type := by
  unfold okStruct at h
  split at h
  · rename_i fs hf
    rw [Bool.and_eq_true, beq_iff_eq, List.all_eq_true] at h
    refine ⟨fs, hf, h.1, fun i f hi => ?_⟩
    have := h.2 i (by rw [List.mem_range, ← h.1]; exact (Array.getElem?_eq_some_iff.1 hi).1)
    rw [hi] at this
    rw [Bool.and_eq_true, beq_iff_eq] at this
    exact ⟨this.1, scal_ok this.2⟩
  · cases h
theorem ne_nil_of {l : List Value} (h : l.isEmpty = false) : l ≠ [] := fun e => by rw [e] at h; cases h

/-- A table of rows of literals is laid: each row takes a number. -/
theorem tab_rows {n : String} {g m : Nat} {t s e : TypeId} {rows : List (List (DataW Unit))} {r : List (String × DataW Unit)} {ps : List MemPlace} (hL : DataW.LaidVars P B ((n, .agg (rows.map fun ds => .slice ds [])) :: r) ps) (hg : P.globalNamed n = some g)
    (ht : (P.globals[g]?).map (·.type) = some t) (hu : P.underlying t = some (.array m s)) (hsz : P.cellsOf t = m) (hc1 : P.cellsOf s = 1) (hus : P.underlying s = some (.slice e)) (hs : Scal P e) (hne : rows ≠ []) (hnes : ∀ ds ∈ rows, ds ≠ []) (k : TabSt P B σ h) :
    ∃ τ, Sub σ τ ∧ TabSt P B τ ((layRows rows h).2.put g (.ro (layRows rows h).1)) := by
  obtain ⟨g', t', cs, fuel, p, q, h1, h2, h3, h4, _, _⟩ := hL
  rw [hg] at h1; cases h1
  rw [ht] at h2; cases h2
  obtain ⟨xs, f, _, hx, hcl, hxl, hel⟩ := DataW.trod_array hu h4
  simp only [Prod.mk.injEq, DataW.agg.injEq] at hx
  have hlen : rows.length = cs.toList.length := by
    have := congrArg List.length hx.1
    rw [List.length_map, List.length_map] at this
    rw [hcl, hsz, this, hxl]
  obtain ⟨τ, t1, t2, t3⟩ := layRows_ok (m := f) hus hs rows cs.toList σ h k hlen hnes (fun i ds v hi hv => by
    have hi' : i < m := by
      have := (List.getElem?_eq_some_iff.1 hv).1
      rw [hcl, hsz] at this
      exact this
    have h5 := hel i hi'
    rw [hc1, Nat.mul_one] at h5
    have h6 : (cs.toList.drop i).take 1 = [v] := by
      apply List.ext_getElem?
      intro j
      cases j with
      | zero => simpa [List.getElem?_take, List.getElem?_drop] using hv
      | succ j => simp [List.getElem?_take]
    rw [h6] at h5
    have h7 := congrArg (·[i]?) hx.1
    simp only [List.getElem?_map, hi, Option.map_some] at h7
    cases hy : xs[i]? with
    | none => rw [hy] at h7; simp at h7
    | some y =>
      rw [hy, Option.map_some, Option.some.injEq] at h7
      rw [hy] at h5
      exact ⟨y.2, by rw [h5, h7]⟩)
  refine ⟨τ, t1, t2.put (globalNamed_lt ht) ?_ fun i v hv => ?_⟩
  · intro he
    have h8 := t3.1
    rw [he, ← hlen] at h8
    exact hne (List.eq_nil_of_length_eq_zero h8.symm)
  · obtain ⟨v', q1, q2⟩ := t3.at hv
    exact ⟨v', by rw [World.var?_cell hg h3 i]; simpa using q1, q2⟩
end Go.Ev
namespace Go.Ev
open Go Go.RowKit
variable {P : Program} {B : World} {σ : Sg} {h : H}

theorem aeq_eq {a b : Option Addr} (h : aeq a b = true) : a = b := by
  unfold aeq at h
  split at h
  · rfl
  · rename_i b o c p
    cases hb : Nat.beq b c with
    | false => rw [hb] at h; simp at h
    | true => rw [hb] at h; rw [Nat.eq_of_beq_eq_true hb, Nat.eq_of_beq_eq_true (show Nat.beq o p = true from h)]
  · cases h
theorem ieq_eq {a b : Int} (h : ieq a b = true) : a = b := by
  unfold ieq at h
  split at h
  · rw [Nat.eq_of_beq_eq_true h]
  · rw [Nat.eq_of_beq_eq_true h]
  · cases h
theorem cond_two {a b : Bool} (h : (cond a b false) = true) : a = true ∧ b = true := by cases a <;> simp_all
theorem vs1_eq {a b : Value} (h : vs1 a b = true) : a = b := by
  unfold vs1 at h
  split at h <;> (try (cases h; done))
  · rename_i a b; cases a <;> cases b <;> simp_all
  · obtain ⟨h1, h2⟩ := cond_two h; rw [kindNo_inj (Nat.eq_of_beq_eq_true h1), ieq_eq h2]
  · rw [bytes_of_eq h]
  · rw [aeq_eq h]
  · obtain ⟨h1, h2⟩ := cond_two h; obtain ⟨h2, h3⟩ := cond_two h2
    rw [aeq_eq h1, Nat.eq_of_beq_eq_true h2, Nat.eq_of_beq_eq_true h3]
  · rfl
  · rw [Nat.eq_of_beq_eq_true h]
  · rfl
  · rfl
theorem feq_eq {a b : Fn} (h : feq a b = true) : a = b := by
  unfold feq at h
  split at h
  · rw [Nat.eq_of_beq_eq_true h]
  · cases h
theorem vsN_eq : ∀ (n : Nat) (a b : Value), vsN n a b = true → a = b
  | 0, a, b, h => vs1_eq (by simpa [vsN] using h)
  | n + 1, a, b, h => by
    cases a <;> cases b <;> simp only [vsN] at h <;> first
      | exact vs1_eq h
      | (have := veqs_eq (vsN_eq n) h; rw [Array.ext' this])
      | (obtain ⟨h1, h2⟩ := cond_two h; rw [Nat.eq_of_beq_eq_true h1, vsN_eq n _ _ h2])
      | (obtain ⟨h1, h2⟩ := cond_two h; obtain ⟨h2, h3⟩ := cond_two h2
         rw [feq_eq h1, Array.ext' (veqs_eq (vsN_eq n) h2), Array.ext' (veqs_eq (vsN_eq n) h3)])
theorem meqs_eq : ∀ {x y : List MapEntry}, meqs x y = true → x = y
  | [], [], _ => rfl
  | [], _ :: _, h => by simp [meqs] at h
  | _ :: _, [], h => by simp [meqs] at h
  | ⟨ak, av, ab⟩ :: x, ⟨bk, bv, bb⟩ :: y, h => by
    simp only [meqs] at h
    obtain ⟨h1, h2⟩ := cond_two h; obtain ⟨h2, h3⟩ := cond_two h2; obtain ⟨h3, h4⟩ := cond_two h3
    rw [Nat.eq_of_beq_eq_true h1, vsN_eq _ _ _ h2, vsN_eq _ _ _ h3, meqs_eq h4]
theorem sameO_eq {a b : AObj} (h : sameO a b = true) : a = b := by
  unfold sameO at h
  split at h
  · obtain ⟨h1, h2⟩ := cond_two h; rw [Nat.eq_of_beq_eq_true h1, veqs_eq (vsN_eq _) h2]
  · rw [veqs_eq (vsN_eq _) h]
  · obtain ⟨h1, h2⟩ := cond_two h; rw [Nat.eq_of_beq_eq_true h1, meqs_eq h2]
  · rfl
  · rfl
  · rfl
  · cases h
theorem sameOo_eq {a b : Option AObj} (h : sameOo a b = true) : a = b := by
  unfold sameOo at h
  split at h
  · rfl
  · rw [sameO_eq h]
  · cases h
theorem sameTr_eq : ∀ {a b : Tr AObj}, sameTr a b = true → a = b
  | .nil, .nil, _ => rfl
  | .nil, .node _ _ _, h => by cases h
  | .node _ _ _, .nil, h => by cases h
  | .node l v r, .node l' v' r', h => by
    obtain ⟨h1, h2⟩ := cond_two (show cond (sameOo v v') (cond (sameTr l l') (sameTr r r') false) false = true from h)
    obtain ⟨h2, h3⟩ := cond_two h2
    rw [sameOo_eq h1, sameTr_eq h2, sameTr_eq h3]
theorem sameH_eq {a b : H} (h : sameH a b = true) : a = b := by
  obtain ⟨n, t⟩ := a
  obtain ⟨m, u⟩ := b
  obtain ⟨h1, h2⟩ := cond_two h
  rw [sameTr_eq (show sameTr t u = true from h2), Nat.eq_of_beq_eq_true (show Nat.beq n m = true from h1)]

theorem ansb_ansv {pr : Prim} {steps d : Nat} {f : FuncId} {args : List Value} (hb : ansb P pr steps d h f args = true) : ansv P pr steps d h f args = some (.bool true) := by
  unfold ansb at hb
  split at hb
  · rename_i b hv; rw [hv, hb]
  · cases hb
/-- A call that was reckoned may be told. -/
theorem addH_all {pr : Prim} {steps d : Nat} (hmix : P.follows .mixedOrders = true) (hnc : NoCount P) (hpr : PrimAll P B pr) {q : Prim} (hq : PrimAll P B q) {f : FuncId} {as : List Value} {h : H} {v : Value} {h' : H} (hc : okTell P q steps d f as h v h' = true) : PrimAll P B (addH pr f as h v h') := by
  intro w hw
  refine ⟨(hpr w hw).val, ?_⟩
  intro g args k u k' ht
  unfold addH at ht
  simp only at ht
  cases hb : Nat.beq g f with
  | false => rw [hb] at ht; exact (hpr w hw).tel _ _ _ _ _ ht
  | true =>
    rw [hb] at ht
    cases hs : veqs (vsN 60) as args with
    | false => rw [hs] at ht; exact (hpr w hw).tel _ _ _ _ _ ht
    | true =>
      rw [hs] at ht
      cases hh : sameH h k with
      | false => rw [hh] at ht; exact (hpr w hw).tel _ _ _ _ _ ht
      | true =>
        rw [hh] at ht
        simp only [cond_true, Option.some.injEq, Prod.mk.injEq] at ht
        obtain ⟨rfl, rfl⟩ := ht
        obtain rfl := Nat.eq_of_beq_eq_true hb
        obtain rfl := veqs_eq (vsN_eq _) hs
        obtain rfl := sameH_eq hh
        unfold okTell at hc
        cases he : enterx P g as with
        | none => rw [he] at hc; simp at hc
        | some fr =>
          rw [he] at hc
          simp only at hc
          cases hn : callN P q steps d fr h with
          | none => rw [hn] at hc; simp [endsIn] at hc
          | some x =>
            obtain ⟨u, k⟩ := x
            rw [hn] at hc
            obtain ⟨c1, c2⟩ := cond_two (show cond (vsN 60 v u) (sameH h' k) false = true from hc)
            obtain rfl := vsN_eq _ _ _ c1
            obtain rfl := sameH_eq c2
            have hr : fr.ret = false := by
              unfold enterx at he
              cases h1 : funx P g with
              | none => rw [h1] at he; simp at he
              | some fn =>
                rw [h1] at he
                simp only at he
                cases h2 : fn.body with
                | none => rw [h2] at he; simp at he
                | some c =>
                  rw [h2] at he
                  simp only at he
                  cases hcc : (Nat.ble as.length fn.ntmps && Nat.ble fn.ntmps 4000) with
                  | false => rw [hcc] at he; simp at he
                  | true => rw [hcc] at he; simp only [cond_true, Option.some.injEq] at he; subst he; rfl
            intro σ w2 args' ha K hg hf c cs
            obtain ⟨b, a, e1, e2, e3, e4, e5, e6, e7, e8⟩ := enterx_run ha he hnc .normal
            obtain ⟨v', w', τ, k1, k2, k3⟩ := callN_ok (hq w hw) hnc (fun call hok hm => draw_ok hmix (hq w hw) hnc call hok hm) d fr h v h' hn hr σ w2 b a e5 K hg hf (c :: cs)
            refine ⟨v', w', τ, k1, k2, .inr ⟨e8 w2, ?_⟩⟩
            rw [e1]
            exact k3.home e2
end Go.Ev
namespace Go.Ev
open Go Go.RowKit
variable {P : Program} {B : World} {σ τ : Sg} {h h0 k kk : H} {w w' : World}

theorem sameO_some {a : AObj} {b : Option AObj} (h : sameOo (some a) b = true) : b = some a := (sameOo_eq h).symm

theorem updL_get (l : List AObj) : ∀ (i : Nat) (t u : Tr AObj) (b : Nat), (updL l i t).get b = (updL l i u).get b ∨ ((updL l i t).get b = t.get b ∧ (updL l i u).get b = u.get b) := by
  induction l with
  | nil => intro i t u b; exact .inr ⟨rfl, rfl⟩
  | cons o l ih =>
    intro i t u b
    have hd : ∀ t : Tr AObj, isDone (t.put i o) i = true := fun t => by unfold isDone; rw [Tr.get_put, if_pos rfl]
    simp only [updL, hd, cond_true]
    rcases ih (i + 1) (t.put i o) (u.put i o) b with z | ⟨z1, z2⟩
    · exact .inl z
    · by_cases e : b = i
      · left; rw [z1, z2, Tr.get_put, Tr.get_put, if_pos e, if_pos e]
      · rw [Tr.get_put, if_neg e] at z1 z2
        exact .inr ⟨z1, z2⟩
theorem updRs_get : ∀ (d : List (Nat × List AObj)) (t u : Tr AObj) (b : Nat), (updRs d t).get b = (updRs d u).get b ∨ ((updRs d t).get b = t.get b ∧ (updRs d u).get b = u.get b)
  | [], _, _, _ => .inr ⟨rfl, rfl⟩
  | q :: l, t, u, b => by
    simp only [updRs]
    rcases updRs_get l (updL q.2 q.1 t) (updL q.2 q.1 u) b with z | ⟨z1, z2⟩
    · exact .inl z
    · rcases updL_get q.2 q.1 t u b with y | ⟨y1, y2⟩
      · left; rw [z1, z2, y]
      · exact .inr ⟨z1.trans y1, z2.trans y2⟩

theorem updL_in {u : Tr AObj} : ∀ (l : List AObj) (i : Nat) (t : Tr AObj), (∀ b o, t.get b = some o → u.get b = some o) → inL u l i = true → ∀ b o, (updL l i t).get b = some o → u.get b = some o
  | [], _, _, h, _ => h
  | o :: l, i, t, h, hi => by
    obtain ⟨h1, h2⟩ := cond_two (show cond (sameOo (some o) (u.get i)) (inL u l (i + 1)) false = true from hi)
    have hd : isDone (t.put i o) i = true := by unfold isDone; rw [Tr.get_put, if_pos rfl]
    simp only [updL, hd, cond_true]
    refine updL_in l (i + 1) _ (fun b p hp => ?_) h2
    rw [Tr.get_put] at hp
    split at hp
    · rename_i e; subst e; rw [sameO_some h1]; exact hp
    · exact h b p hp
theorem updRs_in {u : Tr AObj} : ∀ (l : List (Nat × List AObj)) (t : Tr AObj), (∀ b o, t.get b = some o → u.get b = some o) → inRs u l = true → ∀ b o, (updRs l t).get b = some o → u.get b = some o
  | [], _, h, _ => h
  | q :: l, t, h, hi => by
    obtain ⟨h1, h2⟩ := cond_two (show cond (inL u q.2 q.1) (inRs u l) false = true from hi)
    exact updRs_in l _ (updL_in q.2 q.1 t h h1) h2

theorem updL_low : ∀ (l : List AObj) (i : Nat) (t : Tr AObj) (b : Nat) (o : AObj), (updL l i t).get b = some o → t.get b = some o ∨ b < i + l.length
  | [], _, _, _, _, h => .inl h
  | p :: l, i, t, b, o, h => by
    have hd : isDone (t.put i p) i = true := by unfold isDone; rw [Tr.get_put, if_pos rfl]
    simp only [updL, hd, cond_true] at h
    rcases updL_low l (i + 1) _ b o h with z | z
    · rw [Tr.get_put] at z
      split at z
      · right; simp only [List.length_cons]; omega
      · exact .inl z
    · right; simp only [List.length_cons]; omega
theorem updRs_low {n : Nat} : ∀ (l : List (Nat × List AObj)) (t : Tr AObj), lowRs n l = true → ∀ b o, (updRs l t).get b = some o → t.get b = some o ∨ b < n
  | [], _, _, _, _, h => .inl h
  | q :: l, t, hl, b, o, h => by
    obtain ⟨h1, h2⟩ := cond_two (show cond (Nat.ble (q.1 + q.2.length) n) (lowRs n l) false = true from hl)
    rcases updRs_low l _ h2 b o h with z | z
    · rcases updL_low q.2 q.1 t b o z with y | y
      · exact .inl y
      · have := Nat.le_of_ble_eq_true h1
        exact .inr (by omega)
    · exact .inr z

theorem subTr_get : ∀ {t u : Tr AObj}, subTr t u = true → ∀ b o, t.get b = some o → live o = true → u.get b = some o
  | .nil, _, _, b, o, ho, _ => by rw [Tr.get_nil] at ho; cases ho
  | .node _ _ _, .nil, h, _, _, _, _ => by cases h
  | .node l v r, .node l' v' r', h, b, o, ho, hl => by
    obtain ⟨h1, h2⟩ := cond_two (show cond (subO v v') (cond (subTr l l') (subTr r r') false) false = true from h)
    obtain ⟨h2, h3⟩ := cond_two h2
    rw [Tr.get_node] at ho ⊢
    cases hb : Nat.beq b 0 with
    | true =>
      rw [hb] at ho
      simp only [cond_true] at ho ⊢
      subst ho
      cases v' with
      | none => cases o <;> simp_all [subO, live]
      | some p =>
        have : sameO o p = true := by cases o <;> simp_all [subO, live]
        rw [sameO_eq this]
    | false =>
      rw [hb] at ho
      simp only [cond_false] at ho ⊢
      cases hm : Nat.beq (b % 2) 1 with
      | true => rw [hm] at ho; exact subTr_get h2 _ o ho hl
      | false => rw [hm] at ho; exact subTr_get h3 _ o ho hl

/-- A part of a memory. -/
theorem HR.part (K : HR P B σ k w) (hn : h0.next = k.next) (hi : ∀ b o, h0.objs.get b = some o → k.objs.get b = some o) : HR P B σ h0 w where
  bel := K.bel
  glob := K.glob
  obj := fun b o ho hl => K.obj b o (hi b o ho) hl
  inj := fun b b' o o' r δ x r' δ' x' ho ho' => K.inj b b' o o' r δ x r' δ' x' (hi b o ho) (hi b' o' ho')
  own := fun b o r δ x ho => K.own b o r δ x (hi b o ho)
  low := fun b o ho => by rw [hn]; exact K.low b o (hi b o ho)
  bnd := K.bnd

/-- What goes on in a part goes on in the whole. -/
theorem Mv.frame {d : List (Nat × List AObj)} (K : HR P B σ k w) (hn : h0.next = k.next) (hi : ∀ b o, h0.objs.get b = some o → k.objs.get b = some o) (m : Mv P B σ h0 w τ kk w')
    (hs : ∀ b o, (updRs d h0.objs).get b = some o → live o = true → kk.objs.get b = some o) (hl : lowRs kk.next d = true) : Mv P B σ k w τ (k.upr kk.next d) w' := by
  have hshr : Shr k h0 := fun b o ho hl => ⟨o, hi b o ho, hl, id⟩
  have hsub := m.ex.2.1
  have cls : ∀ b o, (k.upr kk.next d).objs.get b = some o → live o = true → kk.objs.get b = some o ∨ (k.objs.get b = some o ∧ h0.objs.get b = none) := by
    intro b o ho hlo
    have ho : (updRs d k.objs).get b = some o := ho
    rcases updRs_get d k.objs h0.objs b with z | ⟨z1, z2⟩
    · exact .inl (hs b o (z.symm.trans ho) hlo)
    · rw [z1] at ho
      cases h00 : h0.objs.get b with
      | none => exact .inr ⟨ho, rfl⟩
      | some o0 =>
        have := hi b o0 h00
        rw [ho] at this
        cases this
        exact .inl (hs b o (z2.trans h00) hlo)
  have out : ∀ b o, k.objs.get b = some o → h0.objs.get b = none → live o = true → ∃ r δ x, σ b = some (r, δ, x) ∧ OR P σ w o r δ x ∧ w'.heap[r]? = w.heap[r]? := by
    intro b o ho h00 hlo
    obtain ⟨r, δ, x, h1, h2⟩ := K.obj b o ho hlo
    refine ⟨r, δ, x, h1, h2, m.fp.2 r (h2.lt hlo) fun b1 o1 g1 g2 r1 δ1 x1 e1 => ?_⟩
    exact K.inj b1 b o1 o r1 δ1 x1 r δ x (hi b1 o1 g1) ho g2 hlo (fun e => by rw [e, h00] at g1; cases g1) e1 h1
  have sg : ∀ b o, k.objs.get b = some o → live o = true → ∀ r δ x, τ b = some (r, δ, x) → σ b = some (r, δ, x) := by
    intro b o ho hlo r δ x e
    obtain ⟨r1, δ1, x1, h1, _⟩ := K.obj b o ho hlo
    rw [hsub _ _ h1] at e
    rw [h1, e]
  refine ⟨by rw [← hn]; exact m.ex, ?_, m.fp.shr hshr, fun b o ho hlo r δ x e => ?_⟩
  · exact {
      bel := m.hr.bel
      glob := m.hr.glob
      obj := fun b o ho hlo => by
        rcases cls b o ho hlo with z | ⟨z1, z2⟩
        · exact m.hr.obj b o z hlo
        · obtain ⟨r, δ, x, h1, h2, h3⟩ := out b o z1 z2 hlo
          exact ⟨r, δ, x, hsub _ _ h1, h2.mono hsub h3⟩
      inj := fun b b' o o' r δ x r' δ' x' ho ho' hw hl' hne e e' => by
        rcases cls b o ho (owned_live hw) with z | ⟨z1, z2⟩
        · rcases cls b' o' ho' hl' with y | ⟨y1, y2⟩
          · exact m.hr.inj b b' o o' r δ x r' δ' x' z y hw hl' hne e e'
          · have e2 := sg b' o' y1 hl' r' δ' x' e'
            rcases m.nb b o z (owned_live hw) r δ x e with q | ⟨b1, o1, δ1, x1, q1, q2, q3, q4⟩
            · have := K.bnd b' r' δ' x' e2
              omega
            · exact K.inj b1 b' o1 o' r δ1 x1 r' δ' x' (hi b1 o1 q1) y1 (q3 hw) hl' (fun e0 => by rw [e0, y2] at q1; cases q1) q4 e2
        · have e1 := sg b o z1 (owned_live hw) r δ x e
          rcases cls b' o' ho' hl' with y | ⟨y1, y2⟩
          · rcases m.nb b' o' y hl' r' δ' x' e' with q | ⟨b1, o1, δ1, x1, q1, q2, q3, q4⟩
            · have := K.bnd b r δ x e1
              omega
            · exact K.inj b b1 o o1 r δ x r' δ1 x1 z1 (hi b1 o1 q1) hw q2 (fun e0 => by rw [← e0, z2] at q1; cases q1) e1 q4
          · exact K.inj b b' o o' r δ x r' δ' x' z1 y1 hw hl' hne e1 (sg b' o' y1 hl' r' δ' x' e')
      own := fun b o r δ x ho hw e => by
        rcases cls b o ho (owned_live hw) with z | ⟨z1, z2⟩
        · exact m.hr.own b o r δ x z hw e
        · exact K.own b o r δ x z1 hw (sg b o z1 (owned_live hw) r δ x e)
      low := fun b o ho => by
        show b < kk.next
        rcases updRs_low d k.objs hl b o ho with z | z
        · have := K.low b o z
          have := m.ex.1
          omega
        · exact z
      bnd := m.hr.bnd }
  · rcases cls b o ho hlo with z | ⟨z1, z2⟩
    · exact (m.nb.shr hshr) b o z hlo r δ x e
    · exact .inr ⟨b, o, δ, x, z1, hlo, id, sg b o z1 hlo r δ x e⟩

theorem enterx_ret {f : FuncId} {as : List Value} {fr : Fr} (he : enterx P f as = some fr) : fr.ret = false := by
  unfold enterx at he
  cases h1 : funx P f with
  | none => rw [h1] at he; simp at he
  | some fn =>
    rw [h1] at he
    simp only at he
    cases h2 : fn.body with
    | none => rw [h2] at he; simp at he
    | some c =>
      rw [h2] at he
      simp only at he
      cases hcc : (Nat.ble as.length fn.ntmps && Nat.ble fn.ntmps 4000) with
      | false => rw [hcc] at he; simp at he
      | true => rw [hcc] at he; simp only [cond_true, Option.some.injEq] at he; subst he; rfl

/-- A call that was reckoned in a part of a memory may be told. -/
theorem addF_all {pr q : Prim} {steps dd : Nat} (hmix : P.follows .mixedOrders = true) (hnc : NoCount P) (hpr : PrimAll P B pr) (hq : PrimAll P B q) {f : FuncId} {as : List Value} {n m : Nat} {l d : List (Nat × List AObj)} {v : Value}
    (hc : okPart P q steps dd f as n l v m d = true) : PrimAll P B (addF pr f as n l v m d) := by
  intro w hw
  refine ⟨(hpr w hw).val, ?_⟩
  intro g args k u k' ht
  unfold addF at ht
  simp only at ht
  cases hb : Nat.beq g f with
  | false => rw [hb] at ht; exact (hpr w hw).tel _ _ _ _ _ ht
  | true =>
    rw [hb] at ht
    cases hx : Nat.beq k.next n with
    | false => rw [hx] at ht; exact (hpr w hw).tel _ _ _ _ _ ht
    | true =>
      rw [hx] at ht
      cases hs : veqs (vsN 60) as args with
      | false => rw [hs] at ht; exact (hpr w hw).tel _ _ _ _ _ ht
      | true =>
        rw [hs] at ht
        cases hh : inRs k.objs l with
        | false => rw [hh] at ht; exact (hpr w hw).tel _ _ _ _ _ ht
        | true =>
          rw [hh] at ht
          simp only [cond_true, Option.some.injEq, Prod.mk.injEq] at ht
          obtain ⟨rfl, rfl⟩ := ht
          obtain rfl := Nat.eq_of_beq_eq_true hb
          obtain rfl := veqs_eq (vsN_eq _) hs
          have hx' := Nat.eq_of_beq_eq_true hx
          have hin := updRs_in l .nil (fun b o ho => by rw [Tr.get_nil] at ho; cases ho) hh
          obtain ⟨hl, hc⟩ := cond_two hc
          cases he : enterx P g as with
          | none => rw [he] at hc; simp at hc
          | some fr =>
            rw [he] at hc
            simp only at hc
            cases hn : callN P q steps dd fr ⟨n, updRs l .nil⟩ with
            | none => rw [hn] at hc; simp [endsPart] at hc
            | some x =>
              obtain ⟨u, kk⟩ := x
              rw [hn] at hc
              obtain ⟨c1, c2⟩ := cond_two (show cond (vsN 60 v u) (cond (Nat.beq kk.next m) (subTr (updRs d (updRs l .nil)) kk.objs) false) false = true from hc)
              obtain ⟨c2, c3⟩ := cond_two c2
              obtain rfl := vsN_eq _ _ _ c1
              obtain rfl := Nat.eq_of_beq_eq_true c2
              have hr := enterx_ret he
              intro σ w2 args' ha K hg hf c cs
              obtain ⟨b, a, e1, e2, e3, e4, e5, e6, e7, e8⟩ := enterx_run ha he hnc .normal
              have K0 : HR P w σ ⟨n, updRs l .nil⟩ w2 := K.part (h0 := ⟨n, updRs l .nil⟩) hx'.symm hin
              obtain ⟨v', w', τ, k1, k2, k3⟩ := callN_ok (hq w hw) hnc (fun call hok hm => draw_ok hmix (hq w hw) hnc call hok hm) dd fr _ v kk hn hr σ w2 b a e5 K0 (by show P.globals.size ≤ n; rw [← hx']; exact hg) (by show Free σ n kk.next; rw [← hx']; exact hf) (c :: cs)
              refine ⟨v', w', τ, k1, Mv.frame (h0 := ⟨n, updRs l .nil⟩) K hx'.symm hin k2 (subTr_get c3) hl, .inr ⟨e8 w2, ?_⟩⟩
              rw [e1]
              exact k3.home e2
end Go.Ev
namespace Go.Ev
open Go Go.RowKit
variable {P : Program} {B : World}

theorem beq_u8 (a b : UInt8) : Nat.beq a.toNat b.toNat = (a == b) := by
  cases h : Nat.beq a.toNat b.toNat with
  | true => have := Nat.eq_of_beq_eq_true h; simp [UInt8.toNat_inj.1 this]
  | false =>
    symm
    apply beq_eq_false_iff_ne.2
    rintro rfl
    have : Nat.beq a.toNat a.toNat = true := Nat.beq_refl _
    rw [h] at this; cases this
theorem firstB_eq (u : UInt8) : ∀ (l : List UInt8) (i : Nat), firstB u.toNat i l = if Lib.indexByte l u = -1 then -1 else (i : Int) + Lib.indexByte l u
  | [], i => by simp [firstB, Lib.indexByte]
  | b :: l, i => by
    have ge := Lib.indexByte_ge l u
    rw [firstB, beq_u8, firstB_eq u l (i + 1), Lib.indexByte]
    cases hb : b == u with
    | true => simp
    | false =>
      simp only [cond_false, Bool.false_eq_true, if_false]
      by_cases h1 : Lib.indexByte l u = -1
      · simp [h1]
      · have : (Lib.indexByte l u == -1) = false := by simpa using h1
        simp only [h1, if_false, this, Bool.false_eq_true]
        rw [if_neg (by omega)]
        push_cast
        omega
theorem countB_eq (u : UInt8) : ∀ (l : List UInt8) (n : Nat), countB u.toNat n l = n + l.count u
  | [], n => by simp [countB]
  | b :: l, n => by
    rw [countB, beq_u8, countB_eq u l (n + 1), countB_eq u l n, List.count_cons]
    cases hb : b == u <;> simp <;> omega
theorem prefB_eq : ∀ (p s : List UInt8), prefB p s = p.isPrefixOf s
  | [], s => by simp [prefB]
  | _ :: _, [] => rfl
  | a :: p, b :: s => by
    rw [prefB, beq_u8, prefB_eq p s, List.isPrefixOf]
    cases a == b <;> rfl
theorem u8_toNat (c : Nat) : (c % 256) = ((Int.ofNat c).toNat.toUInt8).toNat := by simp

theorem index_ok {f : FuncId} {fn : Func} (hf : P.funcs[f]? = some fn) (hname : (fn.name == "runtime.NumGoroutine") = false) (hb : fn.body.isNone = true) (hn : Extern.findNext fn = none) (he : Extern.find fn = some Extern.BytealgIndexByte.indexByte) (s : ByteArray) (c : Nat) (w : World) :
    (callFunc f ⟨[.string s, .int .u8 (.ofNat c)]⟩).run P w = .ok (.value (.int .i64 (firstB (c % 256) 0 s.data.toList))) w := by
  rw [run_callFunc_extern hf hname hb hn he, Lib.run_indexByteString, u8_toNat, firstB_eq]
  simp only [Result.andThen]
  have ge := Lib.indexByte_ge s.data.toList (Int.ofNat c).toNat.toUInt8
  congr 3
  split
  · assumption
  · omega
theorem count_ok {f : FuncId} {fn : Func} (hf : P.funcs[f]? = some fn) (hname : (fn.name == "runtime.NumGoroutine") = false) (hb : fn.body.isNone = true) (hn : Extern.findNext fn = none) (he : Extern.find fn = some Extern.BytealgCount.count) (s : ByteArray) (c : Nat) (w : World) :
    (callFunc f ⟨[.string s, .int .u8 (.ofNat c)]⟩).run P w = .ok (.value (.int .i64 (countB (c % 256) 0 s.data.toList))) w := by
  rw [run_callFunc_extern hf hname hb hn he, Lib.run_countString, u8_toNat, countB_eq]
  simp [Result.andThen, Lib.countByte]

theorem size_len (s : ByteArray) : s.size = s.data.toList.length := (Array.length_toList (xs := s.data)).symm
/-- A function with a body is entered. -/
theorem enter_ok {f : FuncId} {fn : Func} (hf : P.funcs[f]? = some fn) (hname : (fn.name == "runtime.NumGoroutine") = false) (hb : fn.body.isNone = false) (args : Array Value) (w : World) : (callFunc f args).run P w = .ok (.enter f args) w := by
  have h1 : fn.name ≠ "runtime.NumGoroutine" := by simpa using hname
  obtain ⟨c, hc⟩ : ∃ c, fn.body = some c := by
    cases h2 : fn.body with
    | none => rw [h2] at hb; simp at hb
    | some c => exact ⟨c, rfl⟩
  simp [callFunc, hf, h1, hc, Sem.run]
theorem noCount_of (h : P.funcs.toList.all (fun fn => !(fn.name == "runtime.NumGoroutine")) = true) : NoCount P := by
  intro f fn hf
  have := List.all_eq_true.1 h fn (by rw [← Array.getElem?_toList] at hf; exact List.mem_of_getElem? hf)
  simpa using this
theorem digB_eq : ∀ (f n : Nat) (acc : List UInt8), n < 10 ^ f → digB f n acc = Lib.decDigits n ++ acc ∨ f = 0
  | 0, _, _, _ => .inr rfl
  | f + 1, n, acc, h => by
    left
    unfold digB
    rw [Lib.decDigits]
    by_cases hn : n < 10
    · rw [show Nat.blt n 10 = true from Nat.ble_eq_true_of_le hn, dif_pos hn]; rfl
    · rw [show Nat.blt n 10 = false from by cases hb : Nat.blt n 10 with | false => rfl | true => exact absurd (Nat.le_of_ble_eq_true hb) hn, dif_neg hn]
      simp only [cond_false]
      have h1 : n / 10 < 10 ^ f := by rw [Nat.pow_succ] at h; omega
      rcases digB_eq f (n / 10) (UInt8.ofNat (48 + n % 10) :: acc) h1 with h2 | h2
      · rw [h2, List.append_assoc]; rfl
      · subst h2; simp at h1; omega
theorem itoaB_eq {n : Int} (h : inI64 n = true) : itoaB n = Lib.itoa n ∧ -9223372036854775808 ≤ n ∧ n ≤ 9223372036854775807 := by
  cases n with
  | ofNat n =>
    have h1 : n ≤ 9223372036854775807 := Nat.le_of_ble_eq_true h
    refine ⟨?_, by simp only [Int.ofNat_eq_natCast]; omega, by simp only [Int.ofNat_eq_natCast]; omega⟩
    rcases digB_eq 20 n [] (by omega) with h2 | h2
    · show digB 20 n [] = _
      rw [h2, List.append_nil]
      unfold Lib.itoa
      rw [if_neg (by simp only [Int.ofNat_eq_natCast]; omega)]
      rfl
    · cases h2
  | negSucc n =>
    have h1 : n ≤ 9223372036854775807 := Nat.le_of_ble_eq_true h
    refine ⟨?_, by omega, by omega⟩
    rcases digB_eq 20 (n + 1) [] (by omega) with h2 | h2
    · show 45 :: digB 20 (n + 1) [] = _
      rw [h2, List.append_nil]
      unfold Lib.itoa
      rw [if_pos (by omega)]
      rfl
    · cases h2
theorem tab_below {w W : World} {name : String} {k : IntKind} {zs : List Int} (h : Lib.TabIs P w name k zs) (hb : Below w.heap.size w W) : Lib.TabIs P W name k zs := by
  unfold Lib.TabIs World.var? at *
  cases hg : P.globalNamed name with
  | none => rw [hg] at h; simp at h
  | some g =>
    rw [hg] at h
    simp only [Option.bind_some] at h ⊢
    rcases Nat.lt_or_ge g w.heap.size with h1 | h1
    · rw [hb.block g h1]; exact h
    · rw [Array.getElem?_eq_none h1] at h; simp at h
end Go.Ev
namespace Go.Ev
open Go Go.RowKit
section
variable {P : Program} {B : World} {σ : Sg} {h : H} {w : World}

theorem lies_at {e : TypeId} (hc : P.cellsOf e = 1) (count off n : Nat) (hn : off + n ≤ count) : liesAt P P.depth e count off e n = true := by
  have hd : P.depth = (2 * (P.types.size + Made.depth) + 1) + 1 := rfl
  rw [hd]
  simp only [liesAt, Bool.or_eq_true]
  left
  rw [hd]
  simp [rowAt, hc, hn, sameLayout]
  try omega

theorem run_unsafeString_at (w : World) (pt it ty e : TypeId) (hp : P.underlying pt = some (.pointer e)) (hc : P.cellsOf e = 1) (g off cells : Nat) (hsh : w.shape? g = some (e, cells)) (l : List UInt8) (h0 : l ≠ []) (hn : off + l.length ≤ cells) (h63 : l.length ≤ 9223372036854775807)
    (hcell : ∀ j x, l[j]? = some x → w.cell? ((⟨g, off, none⟩ : Addr).add j) = some (.int .u8 x.toNat)) :
    (Builtin.unsafeString_ #[pt, it] ty #[.pointer (some ⟨g, off, none⟩), .int .i64 l.length]).run P w = .ok (.string ⟨l.toArray⟩) (w.freeze ⟨g, off, none⟩ l.length) := by
  have hl : l.length ≠ 0 := by simpa using h0
  have hlb := Lib.run_loadBytes (P := P) w l ⟨g, off, none⟩ .empty hcell
  have hlies := lies_at (P := P) hc (cells / P.cellsOf e) off l.length (by rw [hc]; simpa using hn)
  have h63' : ¬ (9223372036854775807 : Int) < (l.length : Int) := by omega
  obtain ⟨msg, hdef⟩ : ∃ msg, Builtin.unsafeString_ #[pt, it] ty #[.pointer (some ⟨g, off, none⟩), .int .i64 l.length] =
      (do
        let n ← asInt (.int .i64 l.length)
        if n < 0 then runtimePanic (.error msg)
        if n > IntKind.i64.max then unsupported (.unsafePointer "String: a length above the largest int")
        if n = 0 then pure (.string .empty)
        else if ← variablesAt ⟨g, off, none⟩ (← elemOf pt) n.toNat then do
          let s ← loadBytes ⟨g, off, none⟩ .empty n.toNat
          freeze ⟨g, off, none⟩ n.toNat
          pure (.string s)
        else unsupported (.unsafePointer "String: not so many bytes at ptr")) := ⟨_, rfl⟩
  rw [hdef]
  have hmax : IntKind.i64.max = 9223372036854775807 := rfl
  have hneg : ¬ (l.length : Int) < 0 := by omega
  simp [asInt, asIntOf, hmax, h63', hneg, hl, variablesAt, hsh, elemOf, run_underlying hp, hlies, hlb]

/-- What copyCheck does with a Builder that begins a block of type E of L cells. -/
structure CopyC (P : Program) (f : FuncId) (E L : Nat) : Prop where
  enter : ∀ args w, (callFunc f args).run P w = .ok (.enter f args) w
  holder : isHolder P E = true
  fresh : ∀ (r : Nat) (C : Array Value) (w : World), w.heap[r]? = some (.cells C E (0, 0)) → C.size = L → C[0]? = some (.pointer none) →
    Calls P f #[.pointer (some ⟨r, 0, none⟩)] w (fun e w' => e = .returned (.tuple #[]) ∧ w' = w.setCell ⟨r, 0, none⟩ (.pointer (some ⟨r, 0, none⟩)))
  used : ∀ (r : Nat) (w : World), w.cell? ⟨r, 0, none⟩ = some (.pointer (some ⟨r, 0, none⟩)) → Calls P f #[.pointer (some ⟨r, 0, none⟩)] w (fun e w' => e = .returned (.tuple #[]) ∧ w' = w)

theorem comes_of {f : FuncId} {args : Array Value} {v' : Value} {Q : World → Prop} (he : (callFunc f args).run P w = .ok (.enter f args) w) (hc : Calls P f args w (fun e w' => e = .returned v' ∧ Q w')) (c : Frame) (cs : List Frame) : ∃ w', Q w' ∧ Comes2 P f args c cs w v' w' := by
  obtain ⟨e, w', fr, ⟨rfl, hq⟩, hcm, hfn, hlv⟩ := hc (c :: cs)
  exact ⟨w', hq, .inr ⟨he, Steps.trans hcm (.one (step_leave_returned hlv))⟩⟩
end

section
variable {P : Program} {B : World}
theorem copyT_ok {f : FuncId} {E L : Nat} (C : CopyC P f E L) {args : List Value} {h : H} {v : Value} {h' : H} (ht : copyT E L h args = some (v, h')) {σ : Sg} {w : World} {args' : List Value} (ha : VRs σ args args') (K : HR P B σ h w) (c : Frame) (cs : List Frame) :
    ∃ v' w' τ, VR τ v v' ∧ Mv P B σ h w τ h' w' ∧ Comes2 P f ⟨args'⟩ c cs w v' w' := by
  unfold copyT at ht
  split at ht
  · rename_i b
    obtain ⟨p', rfl⟩ : ∃ p', args' = [p'] := by
      have := ha.1
      match args', this with
      | [p'], _ => exact ⟨p', rfl⟩
    have hp := ha.head
    cases hp
    rename_i r δ x eb
    unfold copyO at ht
    split at ht
    · rename_i c0 cl e ho
      cases hc : (Nat.beq e E && Nat.beq (cl.length + 1) L) with
      | false => rw [hc] at ht; simp at ht
      | true =>
        rw [hc] at ht
        simp only [cond_true] at ht
        simp only [Bool.and_eq_true] at hc
        obtain rfl := Nat.eq_of_beq_eq_true hc.1
        have hL := Nat.eq_of_beq_eq_true hc.2
        obtain ⟨r', δ', x', e1, A, h1, h2, h3⟩ := K.obj b _ ho rfl
        rw [eb] at e1
        cases e1
        obtain ⟨hδ, hsz⟩ := h2.2 C.holder
        subst hδ
        have hsz' : A.size = L := by rw [hsz, ← hL]; rfl
        obtain ⟨v0, g1, g2⟩ := h3 0 c0 rfl
        have g1' : A[0]? = some v0 := g1
        have hadd : (0 : Nat) + 0 = 0 := rfl
        unfold copyV at ht
        split at ht
        · cases g2
          obtain ⟨h2', hov, hv⟩ := Option.map_eq_some_iff.1 ht
          cases hv
          obtain ⟨s1, s2, s3, s4⟩ := K.over eb (VRs.cons (VR.ptr (o := 0) eb) (VRs.nil σ)) hov
          obtain ⟨w', rfl, hcm⟩ := comes_of (Q := fun w' => w' = w.setCell ⟨r, 0, none⟩ (.pointer (some ⟨r, 0, none⟩))) (C.enter _ w) (C.fresh r A w h1 hsz' g1') c cs
          exact ⟨.tuple #[], _, σ, .tuple rfl (VRs.nil σ).2, ⟨by rw [s4.1]; exact EX.refl σ _, s2, s3, NB.none s4⟩, hcm⟩
        · rename_i b'
          cases hb : Nat.beq b b' with
          | false => rw [hb] at ht; simp at ht
          | true =>
            rw [hb] at ht
            simp only [cond_true, Option.some.injEq, Prod.mk.injEq] at ht
            obtain ⟨rfl, rfl⟩ := ht
            obtain rfl := Nat.eq_of_beq_eq_true hb
            cases g2
            rename_i r2 δ2 x2 eb2
            rw [eb] at eb2
            cases eb2
            have hcell : w.cell? ⟨r, 0, none⟩ = some (.pointer (some ⟨r, 0, none⟩)) := by rw [cell_at h1]; exact g1'
            obtain ⟨w', rfl, hcm⟩ := comes_of (Q := fun w' => w' = w) (C.enter _ w) (C.used r w hcell) c cs
            exact ⟨.tuple #[], _, σ, .tuple rfl (VRs.nil σ).2, Mv.refl K, hcm⟩
        · cases ht
    · cases ht
  · cases ht
end

section
variable {P : Program} {B : World}
/-- A row is frozen; all else stays. -/
def Frz (w w' : World) (q : Nat) (A : Array Value) (U : Nat) : Prop :=
  (∃ fz, w'.heap[q]? = some (.cells A U fz)) ∧ (∀ k, k ≠ q → w'.heap[k]? = w.heap[k]?) ∧ w'.heap.size = w.heap.size ∧ w'.os = w.os ∧ w'.tape = w.tape ∧ w'.output = w.output
/-- What String does with a Builder that begins a block of type E of L cells; U: a byte's type. -/
structure StrC (P : Program) (f : FuncId) (E L U : Nat) : Prop where
  enter : ∀ args w, (callFunc f args).run P w = .ok (.enter f args) w
  holder : isHolder P E = true
  empty : ∀ (r : Nat) (C : Array Value) (w : World), w.heap[r]? = some (.cells C E (0, 0)) → C.size = L → C[1]? = some (.slice none 0 0) →
    Calls P f #[.pointer (some ⟨r, 0, none⟩)] w (fun e w' => e = .returned (.string ⟨⟨[]⟩⟩) ∧ Below w.heap.size w w')
  full : ∀ (r : Nat) (C : Array Value) (w : World) (q off cap : Nat) (A : Array Value) (l : List UInt8), w.heap[r]? = some (.cells C E (0, 0)) → C.size = L → C[1]? = some (.slice (some ⟨q, off, none⟩) l.length cap) → l ≠ [] → l.length ≤ cap → l.length ≤ 1000000 →
    w.heap[q]? = some (.cells A U (0, 0)) → off + l.length ≤ A.size → (∀ j x, l[j]? = some x → A[off + j]? = some (.int .u8 x.toNat)) →
    Calls P f #[.pointer (some ⟨r, 0, none⟩)] w (fun e w' => e = .returned (.string ⟨l.toArray⟩) ∧ Frz w w' q A U)

theorem strT_ok {f : FuncId} {E L U : Nat} (S : StrC P f E L U) {args : List Value} {h : H} {v : Value} {h' : H} (ht : strT E L U h args = some (v, h')) {σ : Sg} {w : World} {args' : List Value} (ha : VRs σ args args') (K : HR P B σ h w) (c : Frame) (cs : List Frame) :
    ∃ v' w' τ, VR τ v v' ∧ Mv P B σ h w τ h' w' ∧ Comes2 P f ⟨args'⟩ c cs w v' w' := by
  unfold strT at ht
  split at ht
  · rename_i b
    obtain ⟨p', rfl⟩ : ∃ p', args' = [p'] := by
      have := ha.1
      match args', this with
      | [p'], _ => exact ⟨p', rfl⟩
    have hp := ha.head
    cases hp
    rename_i r δ x eb
    unfold strO at ht
    split at ht
    · rename_i c0 c1 cl e ho
      cases hc : (Nat.beq e E && Nat.beq (cl.length + 2) L) with
      | false => rw [hc] at ht; simp at ht
      | true =>
        rw [hc] at ht
        simp only [cond_true] at ht
        simp only [Bool.and_eq_true] at hc
        obtain rfl := Nat.eq_of_beq_eq_true hc.1
        have hL := Nat.eq_of_beq_eq_true hc.2
        obtain ⟨r', δ', x', e1, A, h1, h2, h3⟩ := K.obj b _ ho rfl
        rw [eb] at e1
        cases e1
        obtain ⟨hδ, hsz⟩ := h2.2 S.holder
        subst hδ
        have hsz' : A.size = L := by rw [hsz, ← hL]; rfl
        obtain ⟨v1, g1, g2⟩ := h3 1 c1 rfl
        have g1' : A[1]? = some v1 := g1
        unfold strV at ht
        split at ht
        · cases g2
          simp only [Option.some.injEq, Prod.mk.injEq] at ht
          obtain ⟨rfl, rfl⟩ := ht
          obtain ⟨w', hb, hcm⟩ := comes_of (Q := fun w' => Below w.heap.size w w') (S.enter _ w) (S.empty r A w h1 hsz' g1') c cs
          exact ⟨_, w', σ, .str _, Mv.below K hb, hcm⟩
        · rename_i q o n cap
          have hsl : ∃ r2 δ2 x2 c2, σ q = some (r2, δ2, x2) ∧ v1 = .slice (some ⟨r2, δ2 + o, none⟩) n c2 ∧ n ≤ c2 := by
            cases g2
            · rename_i r2 δ2 x2 c2 e2 hle; exact ⟨r2, δ2, x2, c2, e2, rfl, hle⟩
            · rename_i r2 δ2 x2 k2 e2 hle; exact ⟨r2, δ2, x2, _, e2, rfl, by omega⟩
          obtain ⟨r2, δ2, x2, c2, eq2, rfl, hnc⟩ := hsl
          unfold strR at ht
          split at ht
          · rename_i l e2 hoq
            cases hcc : (Nat.beq e2 U && Nat.ble 1 n && Nat.ble n 1000000) with
            | false => rw [hcc] at ht; simp at ht
            | true =>
              rw [hcc] at ht
              simp only [cond_true] at ht
              simp only [Bool.and_eq_true] at hcc
              obtain rfl := Nat.eq_of_beq_eq_true hcc.1.1
              have hn1 := Nat.le_of_ble_eq_true hcc.1.2
              have hn2 := Nat.le_of_ble_eq_true hcc.2
              obtain ⟨rg, hrg, ht⟩ := Option.bind_eq_some_iff.1 ht
              obtain ⟨s, hs, ht⟩ := Option.map_eq_some_iff.1 ht
              cases ht
              obtain ⟨b1, b2⟩ := bytesT_some hs
              obtain ⟨d1, d2⟩ := rangex_some hrg
              obtain ⟨r3, δ3, x3, e3, D, k1, k2, k3⟩ := K.obj q _ hoq rfl
              rw [eq2] at e3
              cases e3
              have hsl : s.length = n := by omega
              have hcell : ∀ j x, s[j]? = some x → D[δ2 + o + j]? = some (.int .u8 x.toNat) := fun j x hx => by
                have := b2 j x hx
                rw [d1] at this
                have hl : l[o + j]? = some (.int .u8 x.toNat) := by
                  rw [List.getElem?_take] at this
                  split at this
                  · rw [List.getElem?_drop] at this; exact this
                  · cases this
                obtain ⟨v', y1, y2⟩ := k3 (o + j) _ hl
                cases y2
                rw [Nat.add_assoc]
                exact y1
              have hin : δ2 + o + s.length ≤ D.size := by
                obtain ⟨y, hy⟩ : ∃ y, s[n - 1]? = some y := ⟨_, List.getElem?_eq_getElem (by omega)⟩
                have := (Array.getElem?_eq_some_iff.1 (hcell (n - 1) y hy)).1
                omega
              have hne : s ≠ [] := by intro hz; rw [hz] at hsl; simp at hsl; omega
              obtain ⟨w', ⟨⟨fz, z1⟩, z2, z3, z4, z5, z6⟩, hcm⟩ := comes_of (Q := fun w' => Frz w w' r2 D e2) (S.enter _ w) (S.full r A w r2 (δ2 + o) c2 D s h1 hsz' (by rw [hsl]; exact g1') hne (by omega) (by omega) k1 hin hcell) c cs
              have hB := K.own q _ r2 δ2 x2 hoq rfl eq2
              refine ⟨_, w', σ, .str _, ⟨EX.refl σ _, ?_, FP.upd K hoq rfl eq2 (by omega) z2, NB.none (Stay.put hoq rfl)⟩, hcm⟩
              exact K.upd0 hoq rfl eq2 (K.bel.trans ⟨z4, z5, z6, by omega, fun k hk => z2 k (by omega)⟩) z2 ⟨D, e2, fz, z1, k3⟩ (by omega)
          · cases ht
        · cases ht
    · cases ht
  · cases ht
end

section
variable {P : Program} {B : World}
theorem makeT_ok {f : FuncId} {fn : Func} {U t : Nat} {ps : Array TypeId} (hf : P.funcs[f]? = some fn) (hname : (fn.name == "runtime.NumGoroutine") = false) (hb : fn.body.isNone = true) (hn : Extern.findNext fn = none) (he : Extern.find fn = some (Extern.BytealgMakeNoZero.makeNoZero ps #[t])) (ht0 : P.underlying t = some (.slice U)) (hU : szx P U = some 1) (hnh : isHolder P U = false)
    {args : List Value} {h : H} {v : Value} {h' : H} (ht : makeT U h args = some (v, h')) {σ : Sg} {w : World} {args' : List Value} (ha : VRs σ args args') (K : HR P B σ h w) (hg : P.globals.size ≤ h.next) (hfr : Free σ h.next h'.next) (c : Frame) (cs : List Frame) :
    ∃ v' w' τ, VR τ v v' ∧ Mv P B σ h w τ h' w' ∧ Comes2 P f ⟨args'⟩ c cs w v' w' := by
  unfold makeT at ht
  split at ht
  · rename_i n
    cases hc : Nat.ble n 1000000 with
    | false => rw [hc] at ht; simp at ht
    | true =>
      rw [hc] at ht
      simp only [cond_true, Option.some.injEq, Prod.mk.injEq] at ht
      obtain ⟨rfl, rfl⟩ := ht
      have hle := Nat.le_of_ble_eq_true hc
      obtain ⟨p', rfl⟩ : ∃ p', args' = [p'] := by
        have := ha.1
        match args', this with
        | [p'], _ => exact ⟨p', rfl⟩
      have hp := ha.head
      cases hp
      have hnx : σ h.next = none := hfr _ (Nat.le_refl _) (by show h.next < h.next + 1; omega)
      obtain ⟨D, r1, r2, _⟩ := Lib.run_makeNoZero (P := P) (w := w) ps t U ht0 n (by omega)
      have K2 : HR P B σ h w.drew.drew := K.heap rfl (K.bel.trans ⟨rfl, rfl, rfl, Nat.le_refl _, fun _ _ => rfl⟩)
      have hnew := HR.new K2 (o := .cells [] U) (O := .cells D U) (δ := 0) (x := D.size) hnx hg (.inl rfl) ⟨D, by show (w.heap.push _)[w.heap.size]? = _; simp, ⟨.inr ⟨1, hU, by omega⟩, fun hh => by rw [hnh] at hh; cases hh⟩, fun i v hv => by simp at hv⟩
      refine ⟨.slice (some ⟨w.heap.size, 0, none⟩) n D.size, w.drew.drew.alloc (.cells D U), addS σ h.next (w.heap.size, 0, D.size), ?_, ⟨addS_ex _ hnx, hnew.1, hnew.2.1, hnew.2.2⟩, .inl ?_⟩
      · have := VR.slO (σ := addS σ h.next (w.heap.size, 0, D.size)) (b := h.next) (o := 0) (r := w.heap.size) (δ := 0) (x := D.size) (n := n) (k := 0) (addS_self _ _ _) (by omega)
        simpa using this
      · rw [run_callFunc_extern hf hname hb hn he]
        show ((Extern.BytealgMakeNoZero.makeNoZero ps #[t] #[.int .i64 (n : Int)]).run P w).andThen _ = _
        rw [r1]
        rfl
  · cases ht

/-- Functions told by contracts besides. -/
theorem full_all {val : FuncId → List Value → Option Value} {tel : FuncId → List Value → H → Option (Value × H)} (k : ValOk P B val) (ht : ∀ w, TelOk P w tel) : PrimAll P B ⟨val, tel⟩ :=
  fun w hw => ⟨k.move hw, ht w⟩
end
end Go.Ev
