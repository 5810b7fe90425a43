import Derived.Test.YtlonbaefdffbeaaGreatDoorLCut
import Derived.BigQuiet
import Derived.RangeFuncBox
namespace Go.Proofs.YtlonbaefdffbeaaGreatDoor
open Go.ChangeShapes Go.WideShapes Go.ChangeAt Go.RowKit
set_option linter.unusedSimpArgs false
set_option linter.unusedVariables false

structure Wd where
 k : Int
 s : ByteArray
 n : Int
 pl : Int
 pc : Int
structure PC where
 PB : Nat
 g : Nat
 cap : Nat
 a : Option Addr
 el : Int
 ec : Int
 ws : List Wd
abbrev pp (c : PC) : Value := .pointer (some ⟨c.PB, 0, none⟩)
structure PSt where
 i : Nat
 depth : Int
 nodes : Int
 funcs : Int
 fl : Int
 fc : Int
 e : Int
structure WdAt (W : World) (g i : Nat) (x : Wd) : Prop where
 c0 : W.cell? ⟨g, i * 5, none⟩ = some (.int .i64 x.k)
 c1 : W.cell? ⟨g, i * 5 + 1, none⟩ = some (.string x.s)
 c2 : W.cell? ⟨g, i * 5 + 2, none⟩ = some (.int .i64 x.n)
 c3 : W.cell? ⟨g, i * 5 + 3, none⟩ = some (.int .i64 x.pl)
 c4 : W.cell? ⟨g, i * 5 + 4, none⟩ = some (.int .i64 x.pc)
structure WdsAt (W : World) (c : PC) : Prop where
 cap : c.ws.length ≤ c.cap
 lim : c.ws.length ≤ 65536
 adr : c.ws ≠ [] → c.a = some ⟨c.g, 0, none⟩
 ne : c.g ≠ c.PB
 siz : ∀ (i : Nat) (x : Wd), c.ws[i]? = some x → x.s.size ≤ 65536
 row : ∀ i x, c.ws[i]? = some x → WdAt W c.g i x
structure PAt (W : World) (c : PC) (s : PSt) : Prop where
 c0 : W.cell? ⟨c.PB, 0, none⟩ = some (.slice c.a c.ws.length c.cap)
 c1 : W.cell? ⟨c.PB, 1, none⟩ = some (.int .i64 c.el)
 c2 : W.cell? ⟨c.PB, 2, none⟩ = some (.int .i64 c.ec)
 c3 : W.cell? ⟨c.PB, 3, none⟩ = some (.int .i64 (s.i : Int))
 c4 : W.cell? ⟨c.PB, 4, none⟩ = some (.int .i64 s.depth)
 c5 : W.cell? ⟨c.PB, 5, none⟩ = some (.int .i64 s.nodes)
 c6 : W.cell? ⟨c.PB, 6, none⟩ = some (.int .i64 s.funcs)
 c7 : W.cell? ⟨c.PB, 7, none⟩ = some (.int .i64 s.fl)
 c8 : W.cell? ⟨c.PB, 8, none⟩ = some (.int .i64 s.fc)
 c9 : W.cell? ⟨c.PB, 9, none⟩ = some (.int .i64 s.e)
 fz : ∀ i, W.frozen? ⟨c.PB, i, none⟩ = false
 wds : WdsAt W c
 lim : s.i ≤ c.ws.length
structure Chg (PB : Nat) (w W : World) : Prop where
 os : W.os = w.os
 tape : W.tape = w.tape
 output : W.output = w.output
 size : w.heap.size ≤ W.heap.size
 block : ∀ k, k < w.heap.size → k ≠ PB → W.heap[k]? = w.heap[k]?
theorem Chg.refl (PB : Nat) (w : World) : Chg PB w w := ⟨rfl, rfl, rfl, Nat.le_refl _, fun _ _ _ => rfl⟩
theorem Chg.trans {PB : Nat} {w W W' : World} (h : Chg PB w W) (h' : Chg PB W W') : Chg PB w W' :=
 ⟨h'.os.trans h.os, h'.tape.trans h.tape, h'.output.trans h.output, Nat.le_trans h.size h'.size, fun k h1 h2 => (h'.block k (by have := h.size; omega) h2).trans (h.block k h1 h2)⟩
theorem Chg.of {PB : Nat} {w W : World} (h : Below w.heap.size w W) : Chg PB w W := ⟨h.os, h.tape, h.output, h.size, fun k h1 _ => h.block k h1⟩
theorem Chg.alloc {PB : Nat} {w W : World} (h : Chg PB w W) (o : Obj) : Chg PB w (W.alloc o) := h.trans (.of ((Below.refl _ _).alloc (Nat.le_refl _) _))
theorem Chg.drew {PB : Nat} {w W : World} (h : Chg PB w W) : Chg PB w W.drew := h.trans (.of ((Below.refl _ _).drew))
theorem Chg.drewN {PB : Nat} {w W : World} (h : Chg PB w W) (n : Nat) : Chg PB w (W.drewN n) := ⟨h.os, h.tape, h.output, h.size, h.block⟩
theorem Chg.undrew {PB : Nat} {w W : World} (h : Chg PB w.drew W) : Chg PB w W := ⟨h.os, h.tape, h.output, h.size, h.block⟩
theorem Chg.set {PB : Nat} {w W : World} (h : Chg PB w W) (o : Nat) (v : Value) : Chg PB w (W.setCell ⟨PB, o, none⟩ v) :=
 ⟨h.os, h.tape, h.output, by rw [size_set]; exact h.size, fun k h1 h2 => (heap_set_other h2).trans (h.block k h1 h2)⟩
theorem Chg.setNew {PB b : Nat} {w W : World} (h : Chg PB w W) (hb : w.heap.size ≤ b) (o : Nat) (v : Value) : Chg PB w (W.setCell ⟨b, o, none⟩ v) :=
 ⟨h.os, h.tape, h.output, by rw [size_set]; exact h.size, fun k h1 h2 => (heap_set_other (by omega)).trans (h.block k h1 h2)⟩
theorem Chg.cell {PB : Nat} {w W : World} (h : Chg PB w W) {b o : Nat} {v : Value} (hc : w.cell? ⟨b, o, none⟩ = some v) (hb : b ≠ PB) : W.cell? ⟨b, o, none⟩ = some v :=
 (World.cell?_of_block (h.block b (block_lt_of_cell hc) hb)).trans hc
theorem WdAt.chg {PB : Nat} {w W : World} {g i : Nat} {x : Wd} (h : WdAt w g i x) (hc : Chg PB w W) (hg : g ≠ PB) : WdAt W g i x :=
 ⟨hc.cell h.c0 hg, hc.cell h.c1 hg, hc.cell h.c2 hg, hc.cell h.c3 hg, hc.cell h.c4 hg⟩
theorem WdsAt.chg {w W : World} {c : PC} (h : WdsAt w c) (hc : Chg c.PB w W) : WdsAt W c :=
 ⟨h.cap, h.lim, h.adr, h.ne, h.siz, fun i x hx => (h.row i x hx).chg hc h.ne⟩
theorem PAt.below {w W : World} {c : PC} {s : PSt} (h : PAt w c s) (hb : Below w.heap.size w W) : PAt W c s := by
 have k : ∀ o v, w.cell? ⟨c.PB, o, none⟩ = some v → W.cell? ⟨c.PB, o, none⟩ = some v := fun o v hv => keep_cell hb hv
 exact ⟨k _ _ h.c0, k _ _ h.c1, k _ _ h.c2, k _ _ h.c3, k _ _ h.c4, k _ _ h.c5, k _ _ h.c6, k _ _ h.c7, k _ _ h.c8, k _ _ h.c9, fun i => by
  have hl : c.PB < w.heap.size := block_lt_of_cell h.c0;have := h.fz i;unfold World.frozen? at this ⊢;rw [hb.block c.PB hl];exact this, h.wds.chg (.of hb), h.lim⟩
theorem PAt.lt {w : World} {c : PC} {s : PSt} (h : PAt w c s) : c.PB < w.heap.size := block_lt_of_cell h.c0
def wordF (c : PC) (s : PSt) : Wd := if s.e = 0 then (c.ws[s.i]?).getD ⟨0, ⟨#[]⟩, 0, c.el, c.ec⟩ else ⟨0, ⟨#[]⟩, 0, c.el, c.ec⟩
theorem wordF_siz {W : World} {c : PC} (h : WdsAt W c) (s : PSt) : (wordF c s).s.size ≤ 65536 := by
 unfold wordF
 split
 ·cases hx : c.ws[s.i]? with
  | none => exact Nat.zero_le _
  | some x => exact h.siz _ _ hx
 ·exact Nat.zero_le _
def failF (e pl pc : Int) (s : PSt) : PSt := if s.e = 0 then { s with e := e, fl := pl, fc := pc } else s
def refuseF (c : PC) (s : PSt) : PSt := failF 4 (wordF c s).pl (wordF c s).pc s
def isF (c : PC) (s : PSt) (t : ByteArray) : Bool := (wordF c s).s.toList == t.toList
def pret (v : Value) (c : PC) (s : PSt) (w : World) : Ending → World → Prop := fun e W => e = .returned v ∧ PAt W c s ∧ Chg c.PB w W
end Go.Proofs.YtlonbaefdffbeaaGreatDoor
