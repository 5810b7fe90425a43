/- The structs, as the document's own: rows that are being made. -/
import Derived.Test.YtpedfnfangaelaaDoorYRef9
namespace Go.Proofs.YtpedfnfangaelaaDoor
open Go.ChangeShapes Go.WideShapes Go.ChangeAt Go.RowKit
set_option linter.unusedSimpArgs false
set_option linter.unusedVariables false

def flat2 {α : Type} (f : α → Value × Value) : List α → List Value
  | [] => []
  | x :: l => (f x).1 :: (f x).2 :: flat2 f l
theorem flat2_len {α : Type} (f : α → Value × Value) : ∀ l : List α, (flat2 f l).length = l.length * 2
  | [] => rfl
  | x :: l => by simp only [flat2, List.length_cons, flat2_len f l]; omega
theorem flat2_append {α : Type} (f : α → Value × Value) : ∀ l m : List α, flat2 f (l ++ m) = flat2 f l ++ flat2 f m
  | [], m => rfl
  | x :: l, m => by simp only [flat2, List.cons_append, flat2_append f l m]
theorem flat2_get {α : Type} (f : α → Value × Value) : ∀ (l : List α) (i : Nat) (x : α), l[i]? = some x → (flat2 f l)[i * 2]? = some (f x).1 ∧ (flat2 f l)[i * 2 + 1]? = some (f x).2
  | [], i, x, h => by simp at h
  | y :: l, 0, x, h => by
    simp only [List.getElem?_cons_zero, Option.some.injEq] at h
    subst h
    exact ⟨rfl, rfl⟩
  | y :: l, i + 1, x, h => by
    simp only [List.getElem?_cons_succ] at h
    have := flat2_get f l i x h
    rw [show (i + 1) * 2 = i * 2 + 1 + 1 by omega]
    exact this
/-- A field's three cells. -/
def dcV (f : Fd) : Value × Value × Value := (.string f.typ, .string f.name, .bool false)
/-- A struct's two cells. -/
def srV (p : Value × St) : Value × Value := (.string p.2.name, p.1)
theorem owns_rfd {w : World} {base n : Nat} {v : Value} {l : List Fd} (h : w.ownsRow base 81 3 v n (flat3 dcV l)) (hl10 : l.length ≤ 10) : RFdAt w v l := by
  obtain ⟨hl, hd⟩ := id h
  rw [flat3_len] at hl
  have hn : n = l.length := by omega
  subst hn
  rcases hd with ⟨e0, h0⟩ | ⟨g2, c2, cur, e0, hb, hh, h4, h5, h6, h7⟩
  · exact ⟨none, 0, by rw [e0, h0], by omega, fun hne => absurd (List.eq_nil_of_length_eq_zero h0) hne⟩
  · refine ⟨some ⟨g2, 0, none⟩, c2, e0, by omega, fun _ => ⟨g2, 0, rfl, fun i x hx => ?_⟩⟩
    have hg := flat3_get dcV l i x hx
    rw [Nat.zero_add]
    exact ⟨row_getM h e0 hg.1, row_getM h e0 hg.2.1, row_getM h e0 hg.2.2⟩
theorem RFdAt.of_heap {w w' : World} {v : Value} {l : List Fd} (h : RFdAt w v l) (hb : ∀ b, v.ownBlock = some b → w'.heap[b]? = w.heap[b]?) : RFdAt w' v l := by
  obtain ⟨a, cap, rfl, h1, h3⟩ := h
  refine ⟨a, cap, rfl, h1, fun hl => ?_⟩
  obtain ⟨b, off, rfl, hc⟩ := h3 hl
  have e := hb b rfl
  refine ⟨b, off, rfl, fun i x hx => ?_⟩
  have := hc i x hx
  exact ⟨(World.cell?_of_block e).trans this.1, (World.cell?_of_block e).trans this.2.1, (World.cell?_of_block e).trans this.2.2⟩
/-- A struct whose fields are being laid. -/
structure XOwn (w : World) (base xb : Nat) (nm : ByteArray) (fv : Value) (fs : List Fd) : Prop where
  row : w.heap[xb]? = some (.cells #[.string nm, fv] 79 (0, 0))
  own : w.ownsRow base 81 3 fv fs.length (flat3 dcV fs)
  ne : fv.ownBlock ≠ some xb
  ge : base ≤ xb
theorem XOwn.new (w : World) (nm : ByteArray) : XOwn (w.alloc (.cells #[.string nm, .slice none 0 0] 79)) w.heap.size w.heap.size nm (.slice none 0 0) [] := ⟨heap_new w _, World.ownsRow_nil _ _ _ _, by simp [Value.ownBlock], Nat.le_refl _⟩
theorem x_end {w0 W1 w3 : World} {base xb sl sc g cap : Nat} {nm : ByteArray} {sa : Option Addr} {fs : List Fd} {f : Fd} {o : Obj} (hw : XOwn W1 base xb nm (Value.slice sa sl sc) fs) (hb : Below base w0 W1) (hbase : base ≤ w0.heap.size) (hpl : fs.length = sl)
    (HQ : (W1.alloc o).grownBy w3 (Value.slice sa sl sc).ownBlock ∧ w3.ownsRow base 81 3 (Value.slice (some ⟨g, 0, none⟩) (sl + 1) cap) (sl + 1) (flat3 dcV fs ++ [.string f.typ, .string f.name, .bool false]) ∧ ((Value.slice sa sl sc).ownBlock = some g ∨ g = W1.heap.size + 1) ∧ g < w3.heap.size) :
    Below base w0 (w3.setCell ⟨xb, 1, none⟩ (Value.slice (some ⟨g, 0, none⟩) (sl + 1) cap)) ∧ XOwn (w3.setCell ⟨xb, 1, none⟩ (Value.slice (some ⟨g, 0, none⟩) (sl + 1) cap)) base xb nm (Value.slice (some ⟨g, 0, none⟩) (sl + 1) cap) (fs ++ [f]) := by
  obtain ⟨hg, ho, hat, hlt⟩ := HQ
  have hs := hb.size
  have hgs := hg.size
  rw [World.size_alloc] at hgs
  have hxb : xb < W1.heap.size := (Array.getElem?_eq_some_iff.1 hw.row).1
  have hold : ∀ k, k < W1.heap.size → k ≠ xb → (Value.slice sa sl sc).ownBlock ≠ some k → (w3.setCell ⟨xb, 1, none⟩ (Value.slice (some ⟨g, 0, none⟩) (sl + 1) cap)).heap[k]? = W1.heap[k]? := fun k h1 h2 h3 => by
    rw [heap_set_other h2, hg.block k (by rw [World.size_alloc]; omega) (Ne.symm h3), Below.heap_alloc W1 o k h1]
  have hgt : g ≠ xb := by
    rcases hat with e | e
    · intro e2; rw [e2] at e; exact hw.ne e
    · omega
  have hB3 : w3.heap[xb]? = some (.cells #[.string nm, (Value.slice sa sl sc)] 79 (0, 0)) := by
    rw [hg.block xb (by rw [World.size_alloc]; omega) (Ne.symm hw.ne), Below.heap_alloc W1 o xb hxb]
    exact hw.row
  refine ⟨⟨hg.os.trans hb.os, hg.tape.trans hb.tape, hg.output.trans hb.output, by rw [size_set]; omega, fun k hk => ?_⟩, ?_⟩
  · have h1 : k ≠ xb := by have := hw.ge; omega
    have h2 : (Value.slice sa sl sc).ownBlock ≠ some k := fun e => by have := (row_lt hw.own e).2; omega
    rw [hold k (by omega) h1 h2]
    exact hb.block k (by omega)
  · refine ⟨?_, ?_, ?_, hw.ge⟩
    · rw [heap_set_same hB3]; rfl
    · have e : flat3 dcV (fs ++ [f]) = flat3 dcV fs ++ [.string f.typ, .string f.name, .bool false] := by rw [flat3_append]; rfl
      rw [e, List.length_append, List.length_singleton, hpl]
      refine owns_of_heap ho (fun b hbk => ?_)
      simp only [Value.ownBlock, Option.some.injEq] at hbk
      subst hbk
      exact heap_set_other hgt
    · simp only [Value.ownBlock, ne_eq, Option.some.injEq]; exact hgt
theorem x_far {w0 W1 w3 : World} {base xb sl sc : Nat} {nm : ByteArray} {sa : Option Addr} {fs : List Fd} {o : Obj} (hw : XOwn W1 base xb nm (Value.slice sa sl sc) fs) (hb : Below base w0 W1) (hbase : base ≤ w0.heap.size) (hg : (W1.alloc o).grownBy w3 (Value.slice sa sl sc).ownBlock) :
    w3.heap[xb]? = some (.cells #[.string nm, (Value.slice sa sl sc)] 79 (0, 0)) ∧ Below base w0 w3 := by
  have hs := hb.size
  have hgs := hg.size
  rw [World.size_alloc] at hgs
  have hxb : xb < W1.heap.size := (Array.getElem?_eq_some_iff.1 hw.row).1
  constructor
  · rw [hg.block xb (by rw [World.size_alloc]; omega) (Ne.symm hw.ne), Below.heap_alloc W1 o xb hxb]
    exact hw.row
  · refine ⟨hg.os.trans hb.os, hg.tape.trans hb.tape, hg.output.trans hb.output, by omega, fun k hk => ?_⟩
    rw [hg.block k (by rw [World.size_alloc]; omega) (Ne.symm (fun e => by have := (row_lt hw.own e).2; omega)), Below.heap_alloc W1 o k (by omega)]
    exact hb.block k hk
/-- The structs that are laid already. -/
structure SOwn (w : World) (base : Nat) (sv : Value) (prs : List (Value × St)) : Prop where
  own : w.ownsRow base 79 2 sv prs.length (flat2 srV prs)
  fds : ∀ p ∈ prs, RFdAt w p.1 p.2.fields ∧ ∀ b, p.1.ownBlock = some b → sv.ownBlock ≠ some b ∧ b < w.heap.size
theorem SOwn.nil (w : World) (base : Nat) : SOwn w base (.slice none 0 0) [] := ⟨World.ownsRow_nil _ _ _ _, fun p hp => by simp at hp⟩
theorem SOwn.keep {w w' : World} {base : Nat} {sv : Value} {prs : List (Value × St)} (h : SOwn w base sv prs) (hb : Below w.heap.size w w') : SOwn w' base sv prs :=
  ⟨owns_of_heap h.own (fun b hk => hb.block b (row_lt h.own hk).1), fun p hp => ⟨(h.fds p hp).1.keep hb, fun b hk => ⟨((h.fds p hp).2 b hk).1, Nat.lt_of_lt_of_le ((h.fds p hp).2 b hk).2 hb.size⟩⟩⟩
theorem SOwn.at {w : World} {base : Nat} {sv : Value} {prs : List (Value × St)} {l : List St} (h : SOwn w base sv prs) (hl : prs.map (·.2) = l) (hl8 : l.length ≤ 8) : RStAt w sv l := by
  have hlen : l.length = prs.length := by rw [← hl, List.length_map]
  obtain ⟨_, ⟨e0, h0⟩ | ⟨g2, c2, cur, e0, hb, hh, h4, h5, h6, h7⟩⟩ := id h.own
  · exact ⟨none, 0, by rw [e0, hlen, h0], by omega, fun hne => absurd (List.eq_nil_of_length_eq_zero (by omega)) hne⟩
  · refine ⟨some ⟨g2, 0, none⟩, c2, by rw [e0, hlen], by omega, fun _ => ⟨g2, 0, rfl, fun i x hx => ?_⟩⟩
    rw [← hl, List.getElem?_map] at hx
    cases hp : prs[i]? with
    | none => rw [hp] at hx; simp at hx
    | some p =>
      rw [hp] at hx
      simp only [Option.map_some, Option.some.injEq] at hx
      subst hx
      have hg := flat2_get srV prs i p hp
      rw [Nat.zero_add]
      exact ⟨row_getM h.own e0 hg.1, p.1, row_getM h.own e0 hg.2, (h.fds p (List.mem_of_getElem? hp)).1⟩
theorem s_end {w0 W1 w3 : World} {base sl sc g cap : Nat} {sa : Option Addr} {fv : Value} {nm : ByteArray} {fs : List Fd} {prs : List (Value × St)} {o : Obj} (hw : SOwn W1 base (Value.slice sa sl sc) prs) (hb : Below base w0 W1) (hbase : base ≤ w0.heap.size) (hp : RFdAt W1 fv fs) (hfar : ∀ b, fv.ownBlock = some b → (Value.slice sa sl sc).ownBlock ≠ some b ∧ b < W1.heap.size) (hpl : prs.length = sl)
    (hg : (W1.alloc o).grownBy w3 (Value.slice sa sl sc).ownBlock) (ho : w3.ownsRow base 79 2 (Value.slice (some ⟨g, 0, none⟩) (sl + 1) cap) (sl + 1) (flat2 srV prs ++ [.string nm, fv])) (hat : (Value.slice sa sl sc).ownBlock = some g ∨ g = W1.heap.size + 1) :
    Below base w0 w3 ∧ SOwn w3 base (Value.slice (some ⟨g, 0, none⟩) (sl + 1) cap) (prs ++ [(fv, ⟨nm, fs⟩)]) := by
  have hs := hb.size
  have hgs := hg.size
  rw [World.size_alloc] at hgs
  have hrl : ∀ b, (Value.slice sa sl sc).ownBlock = some b → b < W1.heap.size := fun b h => (row_lt hw.own h).1
  have hold : ∀ k, k < W1.heap.size → (Value.slice sa sl sc).ownBlock ≠ some k → w3.heap[k]? = W1.heap[k]? := fun k h1 h3 => by
    rw [hg.block k (by rw [World.size_alloc]; omega) (Ne.symm h3), Below.heap_alloc W1 o k h1]
  refine ⟨⟨hg.os.trans hb.os, hg.tape.trans hb.tape, hg.output.trans hb.output, by omega, fun k hk => ?_⟩, ?_, ?_⟩
  · rw [hold k (by omega) (fun e => by have := (row_lt hw.own e).2; omega)]
    exact hb.block k (by omega)
  · have e : flat2 srV (prs ++ [(fv, (⟨nm, fs⟩ : St))]) = flat2 srV prs ++ [.string nm, fv] := by rw [flat2_append]; rfl
    rw [e, List.length_append, List.length_singleton, hpl]
    exact ho
  · intro p hpm
    rw [List.mem_append, List.mem_singleton] at hpm
    have hq : ∀ b, b < W1.heap.size → (Value.slice sa sl sc).ownBlock ≠ some b → (Value.slice (some ⟨g, 0, none⟩) (sl + 1) cap).ownBlock ≠ some b := fun b h1 h2 => by
      simp only [Value.ownBlock, ne_eq, Option.some.injEq]
      rcases hat with e | e
      · intro e2; rw [e2] at e; exact h2 e
      · omega
    rcases hpm with hpm | rfl
    · obtain ⟨h1, h2⟩ := hw.fds p hpm
      refine ⟨h1.of_heap (fun b hbk => hold b (h2 b hbk).2 (h2 b hbk).1), fun b hbk => ⟨hq b (h2 b hbk).2 (h2 b hbk).1, ?_⟩⟩
      have := (h2 b hbk).2
      omega
    · refine ⟨hp.of_heap (fun b hbk => hold b (hfar b hbk).2 (hfar b hbk).1), fun b hbk => ⟨hq b (hfar b hbk).2 (hfar b hbk).1, ?_⟩⟩
      have := (hfar b hbk).2
      omega
theorem infoDc : (Tryd.prog.info? 81).map (fun i => (i.zero, i.size, i.bytes)) = some (some (.agg #[.string ⟨#[]⟩, .string ⟨#[]⟩, .bool false]), 3, 40) := by kernel_rfl
theorem infoRs : (Tryd.prog.info? 79).map (fun i => (i.zero, i.size, i.bytes)) = some (some (.agg #[.string ⟨#[]⟩, .slice none 0 0]), 2, 40) := by kernel_rfl
end Go.Proofs.YtpedfnfangaelaaDoor

