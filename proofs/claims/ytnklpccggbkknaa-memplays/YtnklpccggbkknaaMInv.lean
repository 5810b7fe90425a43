/- A memory as it lies in the heap: its blocks, their pages, who owns which block of the heap; what leaves it as it is, and how one of its blocks is turned. -/
import Derived.Test.YtnklpccggbkknaaMWord
namespace Go.Proofs.Ytnklpccggbkknaa
open Go.ChangeShapes Go.WideShapes Go.ChangeAt Go.RowKit Pl
set_option linter.unusedSimpArgs false
set_option linter.unusedVariables false

def noW : WD := ⟨0, 0, 0, 0, 0, 0⟩
/-- A block, as the program keeps it: size, freed, zeroed, and its words. -/
structure AB where
  size : Nat
  freed : Bool
  zeroed : Bool
  wd : Nat → WD
def blankF (size : Nat) (zeroed : Bool) (i : Nat) : WD := if zeroed = true then zeroW ((size : Int) - (i : Int) * 8) else noW
def AB.nw (a : AB) : Nat := (a.size + 7) / 8
def AB.np (a : AB) : Nat := (a.nw + 63) / 64
/-- What a block of the heap is to a memory. -/
inductive Role where
  | mem
  | rows
  | pages (k : Nat)
  | page (k j : Nat)
/-- Is it the block k's? -/
def Role.at : Role → Nat → Prop
  | .pages k, m => k = m
  | .page k _, m => k = m
  | _, _ => False

structure PageIs (w : World) (q : Nat) (f : Nat → WD) : Prop where
  c : ∀ i, i < 64 → WIs w q (i * 6) (f i)
  fz : ∀ o, w.frozen? ⟨q, o, none⟩ = false
def PageOk (w : World) (R : Nat → Option Role) (k : Nat) (ab : AB) (j : Nat) (v : Value) : Prop :=
  (v = .pointer none ∧ ∀ i, i < 64 → ab.wd (j * 64 + i) = blankF ab.size ab.zeroed (j * 64 + i)) ∨
  (∃ q, v = .pointer (some ⟨q, 0, none⟩) ∧ R q = some (.page k j) ∧ PageIs w q (fun i => ab.wd (j * 64 + i)))
def PagesOk (w : World) (R : Nat → Option Role) (k : Nat) (ab : AB) (pv : Value) : Prop :=
  (pv = .slice none 0 0 ∧ ∀ i, ab.wd i = blankF ab.size ab.zeroed i) ∨
  (∃ (b cap : Nat) (ents : Array Value), pv = .slice (some ⟨b, 0, none⟩) ab.np cap ∧ R b = some (.pages k) ∧ w.heap[b]? = some (.cells ents 91 (0, 0)) ∧ (0 < ab.np ∧ ab.np ≤ cap) ∧ ents.size = cap ∧
    ∀ j, j < ab.np → ∃ v, ents[j]? = some v ∧ PageOk w R k ab j v)
structure BlkOk (w : World) (R : Nat → Option Role) (cur : Array Value) (k : Nat) (ab : AB) : Prop where
  s : cur[k * 4]? = some (.int .i64 ab.size)
  f : cur[k * 4 + 1]? = some (.bool ab.freed)
  z : cur[k * 4 + 2]? = some (.bool ab.zeroed)
  p : ∃ pv, cur[k * 4 + 3]? = some pv ∧ PagesOk w R k ab pv
def live (M : List AB) : Int := ((M.filter fun a => !a.freed).length : Nat)
structure MemIs (w : World) (base p : Nat) (R : Nat → Option Role) (a : Option Addr) (cap g : Nat) (cur : Array Value) (M : List AB) : Prop where
  hp : w.heap[p]? = some (.cells #[.slice a M.length cap, .int .i64 (live M)] 64 (0, 0))
  rp : R p = some .mem
  rows : (M = [] ∧ a = none ∧ cap = 0) ∨ (a = some ⟨g, 0, none⟩ ∧ R g = some .rows ∧ w.heap[g]? = some (.cells cur 68 (0, 0)) ∧ (0 < M.length ∧ M.length ≤ cap) ∧ cap ≤ maxLen ∧ cur.size = cap * 4)
  blk : ∀ k ab, M[k]? = some ab → BlkOk w R cur k ab
  rng : ∀ b, R b ≠ none → base ≤ b ∧ b < w.heap.size
  sz : ∀ ab, ab ∈ M → ab.size ≤ 65536
  len : M.length ≤ 100000
def Mem (w : World) (base p : Nat) (R : Nat → Option Role) (M : List AB) : Prop := ∃ a cap g cur, MemIs w base p R a cap g cur M

theorem WIs.keep {w w' : World} {q e : Nat} {x : WD} (h : WIs w q e x) (hk : w'.heap[q]? = w.heap[q]?) : WIs w' q e x :=
  ⟨(World.cell?_of_block hk).trans h.c0, (World.cell?_of_block hk).trans h.c1, (World.cell?_of_block hk).trans h.c2, (World.cell?_of_block hk).trans h.c3, (World.cell?_of_block hk).trans h.c4, (World.cell?_of_block hk).trans h.c5⟩
theorem PageIs.keep {w w' : World} {q : Nat} {f : Nat → WD} (h : PageIs w q f) (hk : w'.heap[q]? = w.heap[q]?) : PageIs w' q f :=
  ⟨fun i hi => (h.c i hi).keep hk, fun o => (World.frozen?_of_block hk).trans (h.fz o)⟩
theorem PageOk.keep {w w' : World} {R R' : Nat → Option Role} {k j : Nat} {ab : AB} {v : Value} (h : PageOk w R k ab j v)
    (hR : ∀ b, R b = some (.page k j) → R' b = some (.page k j) ∧ w'.heap[b]? = w.heap[b]?) : PageOk w' R' k ab j v := by
  rcases h with h | ⟨q, h1, h2, h3⟩
  · exact .inl h
  · exact .inr ⟨q, h1, (hR q h2).1, h3.keep (hR q h2).2⟩
theorem PagesOk.keep {w w' : World} {R R' : Nat → Option Role} {k : Nat} {ab : AB} {pv : Value} (h : PagesOk w R k ab pv)
    (hR : ∀ b r, R b = some r → r.at k → R' b = some r ∧ w'.heap[b]? = w.heap[b]?) : PagesOk w' R' k ab pv := by
  rcases h with h | ⟨b, cap, ents, h1, h2, h3, h4, h5, h6⟩
  · exact .inl h
  · refine .inr ⟨b, cap, ents, h1, (hR b _ h2 rfl).1, (hR b _ h2 rfl).2.trans h3, h4, h5, fun j hj => ?_⟩
    obtain ⟨v, hv, ho⟩ := h6 j hj
    exact ⟨v, hv, ho.keep fun b hb => hR b _ hb rfl⟩
theorem BlkOk.keep {w w' : World} {R R' : Nat → Option Role} {cur cur' : Array Value} {k : Nat} {ab : AB} (h : BlkOk w R cur k ab)
    (hc : ∀ o, k * 4 ≤ o → o < k * 4 + 4 → cur'[o]? = cur[o]?)
    (hR : ∀ b r, R b = some r → r.at k → R' b = some r ∧ w'.heap[b]? = w.heap[b]?) : BlkOk w' R' cur' k ab := by
  obtain ⟨pv, hp, ho⟩ := h.p
  exact ⟨(hc _ (by omega) (by omega)).trans h.s, (hc _ (by omega) (by omega)).trans h.f, (hc _ (by omega) (by omega)).trans h.z, pv, (hc _ (by omega) (by omega)).trans hp, ho.keep hR⟩
/-- Whatever leaves the memory's own blocks of the heap alone leaves the memory as it is. -/
theorem MemIs.keep {w w' : World} {base p : Nat} {R : Nat → Option Role} {a : Option Addr} {cap g : Nat} {cur : Array Value} {M : List AB} (h : MemIs w base p R a cap g cur M)
    (hs : w.heap.size ≤ w'.heap.size) (hk : ∀ b, R b ≠ none → w'.heap[b]? = w.heap[b]?) : MemIs w' base p R a cap g cur M := by
  have hk' : ∀ b r, R b = some r → w'.heap[b]? = w.heap[b]? := fun b r hb => hk b (by simp [hb])
  refine ⟨(hk' p _ h.rp).trans h.hp, h.rp, ?_, fun k ab hab => (h.blk k ab hab).keep (fun _ _ _ => rfl) (fun b r hb _ => ⟨hb, hk' b r hb⟩), fun b hb => ⟨(h.rng b hb).1, Nat.lt_of_lt_of_le (h.rng b hb).2 hs⟩, h.sz, h.len⟩
  rcases h.rows with h1 | ⟨h1, h2, h3, h4, h5, h6⟩
  · exact .inl h1
  · exact .inr ⟨h1, h2, (hk' g _ h2).trans h3, h4, h5, h6⟩
theorem Mem.keep {w w' : World} {base p : Nat} {R : Nat → Option Role} {M : List AB} (h : Mem w base p R M)
    (hs : w.heap.size ≤ w'.heap.size) (hk : ∀ b, R b ≠ none → w'.heap[b]? = w.heap[b]?) : Mem w' base p R M := by
  obtain ⟨a, cap, g, cur, h⟩ := h
  exact ⟨a, cap, g, cur, h.keep hs hk⟩
theorem MemIs.below {w w' : World} {base p : Nat} {R : Nat → Option Role} {a : Option Addr} {cap g : Nat} {cur : Array Value} {M : List AB} (h : MemIs w base p R a cap g cur M)
    (hb : Below w.heap.size w w') : MemIs w' base p R a cap g cur M := h.keep hb.size fun b hR => hb.block b (h.rng b hR).2
theorem Mem.below {w w' : World} {base p : Nat} {R : Nat → Option Role} {M : List AB} (h : Mem w base p R M) (hb : Below w.heap.size w w') : Mem w' base p R M := by
  obtain ⟨a, cap, g, cur, h⟩ := h
  exact ⟨a, cap, g, cur, h.below hb⟩
/-- One block of the memory is turned. -/
theorem MemIs.turn {w w' : World} {base p : Nat} {R R' : Nat → Option Role} {a : Option Addr} {cap g : Nat} {cur cur' : Array Value} {M : List AB} {k : Nat} {ab ab' : AB}
    (h : MemIs w base p R a cap g cur M) (hM : M[k]? = some ab)
    (hp : w'.heap[p]? = some (.cells #[.slice a M.length cap, .int .i64 (live (M.set k ab'))] 64 (0, 0)))
    (hg : w'.heap[g]? = some (.cells cur' 68 (0, 0))) (hsz : cur'.size = cur.size)
    (hout : ∀ o, o < k * 4 ∨ k * 4 + 4 ≤ o → cur'[o]? = cur[o]?) (hB : BlkOk w' R' cur' k ab')
    (hR : ∀ b r, R b = some r → ¬ r.at k → R' b = some r) (hrng : ∀ b, R' b ≠ none → base ≤ b ∧ b < w'.heap.size)
    (hk : ∀ b r, R b = some r → ¬ r.at k → r ≠ .mem → r ≠ .rows → w'.heap[b]? = w.heap[b]?) (hs : ab'.size ≤ 65536) : MemIs w' base p R' a cap g cur' (M.set k ab') := by
  have hlt : k < M.length := by
    rcases Nat.lt_or_ge k M.length with h | h
    · exact h
    · rw [List.getElem?_eq_none h] at hM; cases hM
  refine ⟨by rw [List.length_set]; exact hp, hR p _ h.rp (fun h => h), ?_, fun i bi hbi => ?_, hrng, fun b hb => ?_, by rw [List.length_set]; exact h.len⟩
  · rcases h.rows with ⟨rfl, _⟩ | ⟨h1, h2, h3, h4, h5, h6⟩
    · simp at hlt
    · exact .inr ⟨h1, hR g _ h2 (fun h => h), hg, by rw [List.length_set]; exact h4, h5, hsz.trans h6⟩
  · rw [List.getElem?_set] at hbi
    by_cases hik : k = i
    · subst hik
      rw [if_pos rfl, if_pos hlt] at hbi
      cases hbi
      exact hB
    · rw [if_neg hik] at hbi
      refine (h.blk i bi hbi).keep (fun o h1 h2 => hout o (by omega)) (fun b r hb hr => ?_)
      have hne : ¬ r.at k := by cases r <;> simp_all [Role.at] <;> omega
      refine ⟨hR b r hb hne, hk b r hb hne ?_ ?_⟩ <;> (intro e; subst e; exact hr)
  · rcases List.mem_or_eq_of_mem_set hb with h1 | rfl
    · exact h.sz _ h1
    · exact hs
theorem heap_set_same {w : World} {b o : Nat} {c : Array Value} {t : TypeId} {fr : Nat × Nat} (h : w.heap[b]? = some (.cells c t fr)) (v : Value) :
    (w.setCell ⟨b, o, none⟩ v).heap[b]? = some (.cells (c.setIfInBounds o v) t fr) := by
  simp only [World.setCell, Array.getElem?_modify, if_true, h, Option.map_some]
  rfl
theorem heap_cell {w : World} {b o : Nat} {c : Array Value} {t : TypeId} {fr : Nat × Nat} {v : Value} (h : w.heap[b]? = some (.cells c t fr)) (hv : c[o]? = some v) : w.cell? ⟨b, o, none⟩ = some v := by
  rw [cell_of_row w b o c t fr h]; exact hv
theorem heap_frozen {w : World} {b o : Nat} {c : Array Value} {t : TypeId} (h : w.heap[b]? = some (.cells c t (0, 0))) : w.frozen? ⟨b, o, none⟩ = false := by
  simp [World.frozen?, h]
end Go.Proofs.Ytnklpccggbkknaa
