/- Package types: the layout of fields as a function. -/
import Derived.Test.YtpedfnfangaelaaDoorYPut
namespace Go.Proofs.YtpedfnfangaelaaDoor
open Go.ChangeShapes Go.WideShapes Go.ChangeAt Go.RowKit
set_option linter.unusedSimpArgs false
set_option linter.unusedVariables false

/-- A field; the fields that are laid so far. -/
structure Fd where
  name : ByteArray
  typ : ByteArray
structure LS where
  pls : List Pl
  sz : Int
  al : Int
  tg : Bool
def layStep (T : Tab) (s : LS) (f : Fd) : LS :=
  if (szF T f.typ).2.2 = 0 then
    (if 65536 < upI s.sz (szF T f.typ).2.1 + (szF T f.typ).1 then ⟨s.pls, s.sz, s.al, true⟩
     else ⟨s.pls ++ [⟨f.name, f.typ, upI s.sz (szF T f.typ).2.1⟩], upI s.sz (szF T f.typ).2.1 + (szF T f.typ).1, max s.al (szF T f.typ).2.1, s.tg⟩)
  else ⟨s.pls, s.sz, s.al, true⟩
def hasN (l : List Fd) (s : ByteArray) : Bool := l.any (fun f => decide (f.name = s))
/-- Is this field wrong, behind those? -/
def badF (T : Tab) (pre : List Fd) (f : Fd) : Bool := (hasN pre f.name || !(nameS f.name)) || (szF T f.typ).2.2 == 5
/-- The fields laid from a state on, behind those that were: none where one is wrong. -/
def layL (T : Tab) (pre : List Fd) (s : LS) : List Fd → Option LS
  | [] => some s
  | f :: l => if badF T pre f = true then none else layL T (pre ++ [f]) (layStep T s f) l
def layO : Option LS → Shp × Int
  | none => (⟨[], 0, 0⟩, 5)
  | some s => if (s.tg || decide (65536 < upI s.sz s.al)) = true then (⟨[], 0, 0⟩, 2) else (⟨s.pls, upI s.sz s.al, s.al⟩, 0)
def layR (T : Tab) (l : List Fd) : Shp × Int := layO (layL T [] ⟨[], 0, 1, false⟩ l)
def LSok (s : LS) : Prop := 0 ≤ s.sz ∧ s.sz ≤ 65536 ∧ 1 ≤ s.al ∧ s.al ≤ 8 ∧ (s.pls.length : Int) ≤ s.sz
theorem szF_ok {T : Tab} (h : GoodT T) {t : ByteArray} (he : (szF T t).2.2 = 0) : 1 ≤ (szF T t).1 ∧ (szF T t).1 ≤ 65536 ∧ 1 ≤ (szF T t).2.1 ∧ (szF T t).2.1 ≤ 8 := by
  unfold szF at *
  split
  · rename_i h1
    rw [if_pos h1] at he
    split
    · rename_i h2
      rw [if_pos h2] at he
      have hg := sgF_good h h2
      split
      · rename_i h3
        rw [if_pos h3] at he
        split
        · rename_i h4; rw [if_pos h4] at he; simp at he
        · rename_i h4
          have hc : 0 < (parseS t).1.count := by simpa [Fm.isArray] using h3
          have h1 : (parseS t).1.count ≤ 65536 / (sgF T (parseS t).1).1 := by omega
          have h2 : 65536 / (sgF T (parseS t).1).1 * (sgF T (parseS t).1).1 ≤ 65536 := Int.ediv_mul_le _ (by omega)
          refine ⟨?_, Int.le_trans (Int.mul_le_mul_of_nonneg_right h1 (by omega)) h2, hg.2.2⟩
          have : 0 < (parseS t).1.count * (sgF T (parseS t).1).1 := Int.mul_pos hc (by omega)
          dsimp only
          omega
      · exact hg
    · rename_i h2; rw [if_neg h2] at he; simp at he
  · rename_i h1; rw [if_neg h1] at he; simp at he
theorem szF_err (T : Tab) (t : ByteArray) : (szF T t).2.2 = 0 ∨ (szF T t).2.2 = 2 ∨ (szF T t).2.2 = 5 := by
  unfold szF
  split
  · split
    · split
      · split <;> simp
      · simp
    · simp
  · simp
theorem LSok.step {T : Tab} (h : GoodT T) {s : LS} (hs : LSok s) (f : Fd) : LSok (layStep T s f) := by
  unfold layStep
  split
  · rename_i he
    have hz := szF_ok h he
    have hu := upI_range hs.1 hz.2.2.1
    split
    · exact hs
    · obtain ⟨h1, h2, h3, h4, h5⟩ := hs
      refine ⟨?_, ?_, ?_, ?_, ?_⟩ <;> simp only [List.length_append, List.length_singleton] <;> omega
  · exact hs
/-- The value is a slice that holds these fields. -/
def FdAt (w : World) (v : Value) (l : List Fd) : Prop := ∃ (a : Option Addr) (cap : Nat), v = .slice a l.length cap ∧ (l.length : Int) ≤ 4611686018427387904 ∧ (l ≠ [] → ∃ b off : Nat, a = some ⟨b, off, none⟩ ∧ ∀ (i : Nat) (x : Fd), l[i]? = some x → w.cell? ⟨b, off + i * 2, none⟩ = some (.string x.name) ∧ w.cell? ⟨b, off + i * 2 + 1, none⟩ = some (.string x.typ))
theorem FdAt.keep {w w' : World} {v : Value} {l : List Fd} (h : FdAt w v l) (hb : Below w.heap.size w w') : FdAt w' v l := by
  obtain ⟨a, cap, hv, h1, h2⟩ := h
  refine ⟨a, cap, hv, h1, fun hl => ?_⟩
  obtain ⟨b, off, e, hc⟩ := h2 hl
  exact ⟨b, off, e, fun i x hx => ⟨keep_cell hb (hc i x hx).1, keep_cell hb (hc i x hx).2⟩⟩
/-- Each field's texts are no longer than texts are. -/
def FdS (l : List Fd) : Prop := ∀ f ∈ l, f.name.size ≤ 281474976710656 ∧ f.typ.size ≤ 281474976710656
/-- What holds while fields are laid out. -/
structure LayI (w : World) (a : Option Addr) (c : Nat) (s : LS) (k : Nat) (g : ByteArray → Bool) (wr : World) : Prop where
  bel : Below w.heap.size w wr
  res : wr.heap[w.heap.size]? = some (.cells #[.slice none 0 0, .int .i64 0, .int .i64 0] 71 (0, 0))
  sh : ShIs wr w.heap.size (w.heap.size + 1) (Value.slice a s.pls.length c) s.pls s.sz s.al
  far : ∀ b, (Value.slice a s.pls.length c).ownBlock = some b → w.heap.size + 3 ≤ b
  ns : NameSet wr (w.heap.size + 2) k g
theorem LayI.keep {w wr w' : World} {a : Option Addr} {c : Nat} {s : LS} {k : Nat} {g : ByteArray → Bool} (h : LayI w a c s k g wr) (hb : Below wr.heap.size wr w') : LayI w a c s k g w' := by
  refine ⟨bel_trans h.bel hb, keep_heap hb h.res, ⟨keep_heap hb h.sh.row, owns_of_heap h.sh.own (fun b hbk => hb.block b (row_lt h.sh.own hbk).1), h.sh.ne⟩, h.far, h.ns.of_heap (hb.block _ h.ns.lt)⟩
theorem LayI.mapped {w wr w' : World} {a : Option Addr} {c : Nat} {s : LS} {k : Nat} {g g' : ByteArray → Bool} (h : LayI w a c s k g wr) (hg : wr.grownBy w' (some (w.heap.size + 2))) (hn : NameSet w' (w.heap.size + 2) (k + 1) g') : LayI w a c s (k + 1) g' w' := by
  have hb : ∀ b, b < wr.heap.size → b ≠ w.heap.size + 2 → w'.heap[b]? = wr.heap[b]? := fun b h1 h2 => hg.block b h1 (by simpa using h2)
  have hlt := h.ns.lt
  refine ⟨⟨hg.os.trans h.bel.os, hg.tape.trans h.bel.tape, hg.output.trans h.bel.output, Nat.le_trans h.bel.size hg.size, fun k hk => (hb k (by omega) (by omega)).trans (h.bel.block k hk)⟩, (hb _ (by omega) (by omega)).trans h.res, ⟨(hb _ (by omega) (by omega)).trans h.sh.row, owns_of_heap h.sh.own (fun b hbk => hb b (row_lt h.sh.own hbk).1 (by have := h.far b hbk; omega)), h.sh.ne⟩, h.far, hn⟩
theorem LayI.putted {w wr w' : World} {a : Option Addr} {c g0 cap : Nat} {s s' : LS} {k : Nat} {g : ByteArray → Bool} (h : LayI w a c s k g wr) (hs : s'.pls.length = s.pls.length + 1) (hsh : ShIs w' w.heap.size (w.heap.size + 1) (.slice (some ⟨g0, 0, none⟩) (s.pls.length + 1) cap) s'.pls s'.sz s'.al) (ht : Turned wr w' (w.heap.size + 1) (Value.slice a s.pls.length c).ownBlock) (hat : (Value.slice a s.pls.length c).ownBlock = some g0 ∨ wr.heap.size ≤ g0) : LayI w (some ⟨g0, 0, none⟩) cap s' k g w' := by
  have hlt := h.ns.lt
  have hb : ∀ b, b < w.heap.size + 3 → b ≠ w.heap.size + 1 → w'.heap[b]? = wr.heap[b]? := fun b h1 h2 => ht.block b (by omega) h2 (fun e => by have := h.far b e; omega)
  refine ⟨⟨ht.os.trans h.bel.os, ht.tape.trans h.bel.tape, ht.output.trans h.bel.output, Nat.le_trans h.bel.size ht.size, fun k hk => (hb k (by omega) (by omega)).trans (h.bel.block k hk)⟩, (hb _ (by omega) (by omega)).trans h.res, by rw [hs]; exact hsh, ?_, h.ns.of_heap (hb _ (by omega) (by omega))⟩
  intro b hbk
  simp only [Value.ownBlock, Option.some.injEq] at hbk
  subst hbk
  rcases hat with e | e
  · exact h.far _ e
  · omega
end Go.Proofs.YtpedfnfangaelaaDoor

