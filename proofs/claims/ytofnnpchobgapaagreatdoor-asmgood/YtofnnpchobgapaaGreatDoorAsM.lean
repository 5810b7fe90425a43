/- Machine code: which programs are well formed, as functions. -/
import Derived.Test.YtofnnpchobgapaaGreatDoorAsB
namespace Go.Proofs.YtofnnpchobgapaaGreatDoor
open Go.ChangeShapes Go.WideShapes Go.ChangeAt Go.RowKit
set_option linter.unusedSimpArgs false
set_option linter.unusedVariables false

/-- An operation's shape. -/
structure ASp where
  name : ByteArray
  r : Int
  m : Int
  sub : Int
  k : Int
  cc : Bool
  l : Bool
def aspNone : ASp := ⟨⟨#[]⟩, 0, 0, 0, 0, false, false⟩
def aspTab : List ASp := [⟨⟨#[]⟩, 0, 0, 0, 0, false, false⟩, ⟨⟨#[109, 111, 118, 114]⟩, 2, 1, 0, 0, false, false⟩, ⟨⟨#[109, 111, 118, 107]⟩, 2, 0, 0, 1, false, false⟩, ⟨⟨#[108, 111, 97, 100]⟩, 2, 1, 1, 2, false, false⟩, ⟨⟨#[115, 116, 111, 114, 101]⟩, 1, 1, 1, 2, false, false⟩, ⟨⟨#[108, 101, 97]⟩, 2, 1, 0, 2, false, false⟩, ⟨⟨#[108, 101, 97, 103]⟩, 2, 0, 2, 3, false, false⟩, ⟨⟨#[97, 108, 117]⟩, 2, 2, 4, 0, false, false⟩, ⟨⟨#[97, 108, 117, 107]⟩, 2, 0, 4, 2, false, false⟩, ⟨⟨#[117, 110]⟩, 2, 0, 5, 0, false, false⟩, ⟨⟨#[101, 120, 116]⟩, 2, 2, 6, 0, false, false⟩, ⟨⟨#[115, 104, 105, 102, 116]⟩, 2, 0, 7, 4, false, false⟩, ⟨⟨#[115, 104, 105, 102, 116, 99]⟩, 2, 0, 7, 0, false, false⟩, ⟨⟨#[99, 113, 111]⟩, 0, 0, 0, 0, false, false⟩, ⟨⟨#[105, 100, 105, 118]⟩, 0, 2, 0, 0, false, false⟩, ⟨⟨#[99, 109, 112]⟩, 1, 2, 0, 0, false, false⟩, ⟨⟨#[99, 109, 112, 107]⟩, 1, 0, 0, 2, false, false⟩, ⟨⟨#[115, 101, 116]⟩, 2, 0, 0, 0, true, false⟩, ⟨⟨#[106, 109, 112]⟩, 0, 0, 0, 0, false, true⟩, ⟨⟨#[106, 99, 99]⟩, 0, 0, 0, 0, true, true⟩, ⟨⟨#[108, 97, 98, 101, 108]⟩, 0, 0, 0, 0, false, true⟩, ⟨⟨#[99, 97, 108, 108]⟩, 0, 0, 3, 0, false, false⟩, ⟨⟨#[114, 101, 116]⟩, 0, 0, 0, 0, false, false⟩, ⟨⟨#[101, 110, 116, 101, 114]⟩, 0, 0, 0, 5, false, false⟩, ⟨⟨#[108, 101, 97, 118, 101]⟩, 0, 0, 0, 5, false, false⟩, ⟨⟨#[105, 110, 105]⟩, 0, 0, 0, 0, false, false⟩, ⟨⟨#[111, 117, 116, 105]⟩, 0, 0, 0, 0, false, false⟩]
def aspOf (op : Int) : ASp := if op < 0 then aspNone else (aspTab[op.toNat]?).getD aspNone
def aspV (x : ASp) : Value := .agg #[.string x.name, .int .i64 x.r, .int .i64 x.m, .int .i64 x.sub, .int .i64 x.k, .bool x.cc, .bool x.l]
/-- Is a number from nought to n? -/
def awB (x n : Int) : Bool := decide (0 ≤ x) && decide (x ≤ n)
def aplB (p n : Int) : Bool := p == 0 || (awB n 15 && (p == 1 || n != 4))
def aluB (n : Int) : Bool := n == 11 || n == 12 || n == 13 || n == 16 || n == 17 || n == 18
def asbB (s n ng nf : Int) : Bool :=
  if s = 1 then n == 1 || n == 4 || n == 8 else if s = 2 then awB n (ng - 1) else if s = 3 then awB n (nf - 1) else if s = 4 then aluB n else if s = 5 then n == 1 || n == 2 else if s = 6 then n == 3 || n == 4 else if s = 7 then n == 19 || n == 20 else true
def a32B (k : Int) : Bool := decide (-2147483648 ≤ k) && decide (k ≤ 2147483647)
def acoB (c k z : Int) : Bool := if c = 2 then a32B k else if c = 3 then awB k z else if c = 4 then awB k 63 else if c = 5 then awB k 65536 else true
/-- The size of a global. -/
def glA (globals : List Int) (n : Int) : Int := (globals[n.toNat]?).getD 0
/-- May an instruction be one of the program's, its goal aside: what the program asks. -/
def spTakes (s : ASp) (globals : List Int) (nf : Int) (x : AIns) : Bool :=
  !s.name.data.toList.isEmpty && (aplB s.r x.r && (aplB s.m x.m && (asbB s.sub x.sub globals.length nf && (acoB s.k x.k (glA globals x.sub) && ((!s.cc || (decide (21 ≤ x.cc) && decide (x.cc ≤ 26))) && (!s.l || awB x.l 10000000))))))
def takesA (globals : List Int) (nf : Int) (x : AIns) : Bool := spTakes (aspOf x.op) globals nf x
/-- The labels of the first n instructions: where each was seen last, and how many unlike ones there are. -/
structure PlS where
  g : Int → Option Nat
  s : Nat
def plStep (st : PlS) (n : Nat) (x : AIns) : PlS := if x.op = 20 then ⟨fun y => if y = x.l then some n else st.g y, if (st.g x.l).isSome then st.s else st.s + 1⟩ else st
def plA (code : List AIns) : Nat → PlS
  | 0 => ⟨fun _ => none, 0⟩
  | n + 1 => match code[n]? with
    | some x => plStep (plA code n) n x
    | none => plA code n
/-- How many of the first n are labels. -/
def lbA (code : List AIns) : Nat → Nat
  | 0 => 0
  | n + 1 => match code[n]? with
    | some x => if x.op = 20 then lbA code n + 1 else lbA code n
    | none => lbA code n
theorem plA_step {code : List AIns} {n : Nat} {x : AIns} (h : code[n]? = some x) : plA code (n + 1) = plStep (plA code n) n x := by simp only [plA, h]
theorem lbA_step {code : List AIns} {n : Nat} {x : AIns} (h : code[n]? = some x) : lbA code (n + 1) = if x.op = 20 then lbA code n + 1 else lbA code n := by simp only [lbA, h]
def jumpA (x : AIns) : Bool := x.op == 18 || x.op == 19
def goalsA (code : List AIns) : Bool := (code.all fun x => !jumpA x || ((plA code code.length).g x.l).isSome) && lbA code code.length == (plA code code.length).s
def someA (code : List AIns) : Bool := code.any fun x => x.op != 20
def codeA (globals : List Int) (nf : Int) (code : List AIns) : Bool := !(decide (100000 < (code.length : Int)) || !someA code) && (code.all (takesA globals nf) && goalsA code)
def globalsA (globals : List Int) : Bool := globals.all (fun x => awB x 65536) && decide ((globals.length : Int) ≤ 200)
def headA (main params nf : Int) : Bool := !(decide (100 < nf) || (!awB main (nf - 1) || !awB params 6))
def GoodA (p : APg) : Bool := globalsA p.globals && (headA p.main p.params p.funcs.length && p.funcs.all (fun f => codeA p.globals p.funcs.length f.code))

/-- The document's own: which instructions are right, goals aside. -/
def awrB (op : Int) : Bool := op == 1 || op == 2 || op == 3 || op == 5 || op == 6 || op == 7 || op == 8 || op == 9 || op == 10 || op == 11 || op == 12 || op == 17
def anrB (op : Int) : Bool := awrB op || op == 4 || op == 15 || op == 16
def anmB (op : Int) : Bool := op == 1 || op == 3 || op == 4 || op == 5 || op == 7 || op == 10 || op == 14 || op == 15
def aregB (x : Int) : Bool := !(decide (x < 0) || decide (15 < x))
def accB (c : Int) : Bool := decide (21 ≤ c) && decide (c ≤ 26)
def arestB (x : AIns) : Bool :=
  if x.op = 3 ∨ x.op = 4 then (x.sub == 1 || x.sub == 4 || x.sub == 8) && a32B x.k else if x.op = 5 ∨ x.op = 16 then a32B x.k else if x.op = 7 then aluB x.sub else if x.op = 8 then aluB x.sub && a32B x.k
  else if x.op = 9 then x.sub == 1 || x.sub == 2 else if x.op = 10 then x.sub == 3 || x.sub == 4 else if x.op = 11 then (x.sub == 19 || x.sub == 20) && (decide (0 ≤ x.k) && decide (x.k ≤ 63))
  else if x.op = 12 then x.sub == 19 || x.sub == 20 else if x.op = 17 then accB x.cc else if x.op = 19 then accB x.cc && (decide (0 ≤ x.l) && decide (x.l ≤ 10000000)) else if x.op = 18 ∨ x.op = 20 then decide (0 ≤ x.l) && decide (x.l ≤ 10000000)
  else if x.op = 23 ∨ x.op = 24 then decide (0 ≤ x.k) && decide (x.k ≤ 65536) else true
def rightA (x : AIns) : Bool :=
  !(decide (x.op < 1) || (decide (26 < x.op) || (anrB x.op && !aregB x.r || (anmB x.op && !aregB x.m || awrB x.op && x.r == 4)))) && (!(anmB x.op && (x.m == 4 && (x.op != 3 && (x.op != 4 && (x.op != 5 && x.op != 1))))) && arestB x)
/-- Where a label stands first; -1: nowhere. -/
def placeA (l : Int) : List AIns → Nat → Int
  | [], _ => -1
  | x :: code, n => if x.op = 20 ∧ x.l = l then n else placeA l code (n + 1)
def oneA (globals : List Int) (nf : Int) (code : List AIns) (n : Nat) (x : AIns) : Bool :=
  rightA x && (!(x.op == 20 && placeA x.l code 0 != (n : Int) || jumpA x && decide (placeA x.l code 0 < 0)) && (!(x.op == 21 && (decide (x.sub < 0) || decide (nf ≤ x.sub))) && !(x.op == 6 && (decide (x.sub < 0) || (decide ((globals.length : Int) ≤ x.sub) || (decide (x.k < 0) || decide (glA globals x.sub < x.k)))))))
def rcodeA (globals : List Int) (nf : Int) (code : List AIns) : Bool := ((List.range code.length).all fun n => match code[n]? with | some x => oneA globals nf code n x | none => true) && !(!someA code || decide (100000 < (code.length : Int)))
end Go.Proofs.YtofnnpchobgapaaGreatDoor

