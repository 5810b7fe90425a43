/- The plain mathematics of package val: machine values as triples of integers, its operations as functions of them. No program is named here. -/
import Derived.WalkKit
namespace Go.Proofs.YtfepkekielopmaaGreatDoor.Pl
open Go Go.RowKit

/-- A value: kind, number, block. -/
structure V where
  k : Int
  n : Int
  b : Int

def noV : V := ⟨0, 0, 0⟩
def ofF (n : Int) : V := ⟨1, n, 0⟩
def atF (b n : Int) : V := if b < 1 then noV else ⟨2, n, b⟩
def goodF (a : V) : Bool := if a.k = 0 then a.n == 0 && a.b == 0 else if a.k = 1 then a.b == 0 else if a.k = 2 then decide (1 ≤ a.b) else false
def kindF (a : V) : Int := if goodF a = true then a.k else 0
def bitN (b : Bool) : Int := if b = true then 1 else 0
def bitF (b : Bool) : V := ofF (bitN b)

def divideF (op a b : Int) : V × Bool :=
  if b = 0 ∨ (a = -9223372036854775808 ∧ b = -1) then (noV, false)
  else if op = 14 then (ofF (wrap64 (a.tdiv b)), true) else (ofF (a.tmod b), true)
def shiftF (op a b : Int) : V × Bool :=
  if b < 0 ∨ 63 < b then (noV, false)
  else if op = 19 then (ofF (wrap64 (a * 2 ^ b.toNat)), true) else (ofF (a / 2 ^ b.toNat), true)
def compareF (op a b : Int) : V × Bool :=
  if op = 21 then (bitF (a == b), true)
  else if op = 22 then (bitF (a != b), true)
  else if op = 23 then (bitF (decide (a < b)), true)
  else if op = 24 then (bitF (decide (a ≤ b)), true)
  else if op = 25 then (bitF (decide (b < a)), true)
  else if op = 26 then (bitF (decide (b ≤ a)), true)
  else (noV, false)
def intsF (op a b : Int) : V × Bool :=
  if op = 11 then (ofF (wrap64 (a + b)), true)
  else if op = 12 then (ofF (wrap64 (a - b)), true)
  else if op = 13 then (ofF (wrap64 (a * b)), true)
  else if op = 14 ∨ op = 15 then divideF op a b
  else if op = 16 then (ofF (bits .and .i64 a b), true)
  else if op = 17 then (ofF (bits .or .i64 a b), true)
  else if op = 18 then (ofF (bits .xor .i64 a b), true)
  else if op = 19 ∨ op = 20 then shiftF op a b
  else compareF op a b
def ptrsF (op : Int) (p q : V) : V × Bool :=
  if op = 21 then (bitF (p.k == q.k && p.n == q.n && p.b == q.b), true)
  else if op = 22 then (bitF (!(p.k == q.k && p.n == q.n && p.b == q.b)), true)
  else (noV, false)
def pintF (op : Int) (p : V) (n : Int) : V × Bool :=
  if op = 11 then (atF p.b (wrap64 (p.n + n)), true)
  else if op = 12 then (atF p.b (wrap64 (p.n - n)), true)
  else if op = 21 ∧ n = 0 then (ofF 0, true)
  else if op = 22 ∧ n = 0 then (ofF 1, true)
  else (noV, false)
def binF (op : Int) (a b : V) : V × Bool :=
  if kindF a = 1 ∧ kindF b = 1 then intsF op a.n b.n
  else if kindF a = 2 ∧ kindF b = 2 then ptrsF op a b
  else if kindF a = 2 ∧ kindF b = 1 then pintF op a b.n
  else if kindF a = 1 ∧ kindF b = 2 ∧ op ≠ 12 then pintF op b a.n
  else (noV, false)
def unF (op : Int) (a : V) : V × Bool :=
  if kindF a = 1 then
    if op = 1 then (ofF (wrap64 (-a.n)), true)
    else if op = 2 then (ofF (bits .xor .i64 (-1) a.n), true)
    else if op = 3 then (ofF (wrap64 (IntKind.i8.wrap a.n)), true)
    else if op = 4 then (ofF (wrap64 (wrap32 a.n)), true)
    else (noV, false)
  else (noV, false)
def flipF (op : Int) : Int × Bool :=
  if op = 21 then (22, true) else if op = 22 then (21, true) else if op = 23 then (26, true) else if op = 24 then (25, true)
  else if op = 25 then (24, true) else if op = 26 then (23, true) else (0, false)
def swapF (op : Int) : Int × Bool :=
  if op = 11 ∨ op = 13 ∨ op = 16 ∨ op = 17 ∨ op = 18 ∨ op = 21 ∨ op = 22 then (op, true)
  else if op = 23 then (25, true) else if op = 24 then (26, true) else if op = 25 then (23, true) else if op = 26 then (24, true) else (0, false)

end Go.Proofs.YtfepkekielopmaaGreatDoor.Pl
