/- A machine of our own for closed calls: its memory is numbered from nought, whatever the real memory is; a slice's spare room is not known. -/
import GoSem.Step
import Derived.KernelRfl
set_option linter.unusedSimpArgs false
set_option linter.unusedVariables false
namespace Go.Ev
open Go

inductive Tr (α : Type) where
  | nil
  | node (l : Tr α) (v : Option α) (r : Tr α)

noncomputable def Tr.get {α : Type} (t : Tr α) : Nat → Option α :=
  Tr.rec (motive := fun _ => Nat → Option α) (fun _ => none) (fun _ v _ gl gr n => cond (Nat.beq n 0) v (cond (Nat.beq (n % 2) 1) (gl (n / 2)) (gr (n / 2 - 1)))) t

noncomputable def Tr.set {α : Type} : Nat → Tr α → Nat → α → Tr α
  | 0, t, _, _ => t
  | f + 1, .nil, n, x => cond (Nat.beq n 0) (.node .nil (some x) .nil) (cond (Nat.beq (n % 2) 1) (.node (Tr.set f .nil (n / 2) x) none .nil) (.node .nil none (Tr.set f .nil (n / 2 - 1) x)))
  | f + 1, .node l v r, n, x => cond (Nat.beq n 0) (.node l (some x) r) (cond (Nat.beq (n % 2) 1) (.node (Tr.set f l (n / 2) x) v r) (.node l v (Tr.set f r (n / 2 - 1) x)))

noncomputable def Tr.put {α : Type} (t : Tr α) : Nat → α → Tr α :=
  Tr.rec (motive := fun _ => Nat → α → Tr α) (fun n x => Tr.set (n + 1) .nil n x) (fun l v r pl pr n x => cond (Nat.beq n 0) (.node l (some x) r) (cond (Nat.beq (n % 2) 1) (.node (pl (n / 2) x) v r) (.node l v (pr (n / 2 - 1) x)))) t

/-- (What it is put round is unfolded in a round of its own: so a long recursion is no deep one.) -/
noncomputable def hop {α : Type} (x : α) : α := x
noncomputable def nthR {α : Type} (l : List α) : Nat → Option α :=
  List.rec (motive := fun _ => Nat → Option α) (fun _ => none) (fun x _ ih n => Nat.rec (motive := fun _ => Option α) (some x) (fun m _ => hop (ih m)) n) l
noncomputable def dropR {α : Type} (l : List α) : Nat → List α :=
  List.rec (motive := fun _ => Nat → List α) (fun _ => []) (fun x xs ih n => Nat.rec (motive := fun _ => List α) (x :: xs) (fun m _ => hop (ih m)) n) l
noncomputable def takeR {α : Type} (l : List α) : Nat → List α :=
  List.rec (motive := fun _ => Nat → List α) (fun _ => []) (fun x _ ih n => Nat.rec (motive := fun _ => List α) [] (fun m _ => x :: ih m) n) l
noncomputable def lenR {α : Type} (l : List α) : Nat → Bool :=
  List.rec (motive := fun _ => Nat → Bool) (fun n => Nat.beq n 0) (fun _ _ ih n => Nat.rec (motive := fun _ => Bool) false (fun m _ => hop (ih m)) n) l
/-- The one list, from its end on, ahead of the other. -/
noncomputable def revR {α : Type} (a : List α) : List α → List α :=
  List.rec (motive := fun _ => List α → List α) (fun l => l) (fun x _ ih l => hop (ih (x :: l))) a
/-- A list that is looked at once. -/
noncomputable def doneR {α : Type} (l : List α) : Option (List α) := List.rec (motive := fun _ => Option (List α)) (some []) (fun x xs _ => some (x :: xs)) l
/-- Values over the first ones of a list; ahead of them others, the last one first. -/
noncomputable def overG {α : Type} (cs : List α) : List α → List α → Option (List α) :=
  List.rec (motive := fun _ => List α → List α → Option (List α))
    (fun vs acc => List.rec (motive := fun _ => Option (List α)) (doneR (revR acc [])) (fun _ _ _ => none) vs)
    (fun c cs ih vs acc => List.rec (motive := fun _ => Option (List α)) (doneR (revR acc (c :: cs))) (fun v vs _ => hop (ih vs (v :: acc))) vs) cs
noncomputable def overP {α : Type} (cs : List α) : Nat → List α → List α → Option (List α) :=
  List.rec (motive := fun _ => Nat → List α → List α → Option (List α))
    (fun n vs acc => Nat.rec (motive := fun _ => Option (List α)) (overG [] vs acc) (fun _ _ => none) n)
    (fun c cs ih n vs acc => Nat.rec (motive := fun _ => Option (List α)) (overG (c :: cs) vs acc) (fun m _ => hop (ih m vs (c :: acc))) n) cs

noncomputable def evens {α : Type} : List α → List α
  | [] => []
  | [a] => [a]
  | a :: _ :: l => a :: evens l
noncomputable def odds {α : Type} : List α → List α
  | [] => []
  | [_] => []
  | _ :: b :: l => b :: odds l
/-- A list as a tree. -/
noncomputable def tabN {α : Type} : Nat → List α → Tr α
  | 0, _ => .nil
  | _ + 1, [] => .nil
  | f + 1, x :: xs => .node (tabN f (evens xs)) (some x) (tabN f (odds xs))

noncomputable def infT (P : Program) : Tr TypeInfo := tabN P.types.toList.length P.types.toList
noncomputable def infx (P : Program) (t : TypeId) : Option TypeInfo := (infT P).get t
noncomputable def undOf (P : Program) (i : TypeInfo) : TypeDesc → Option TypeDesc
  | .named _ u => (infx P u).map (·.desc)
  | _ => some i.desc
noncomputable def undx (P : Program) (t : TypeId) : Option TypeDesc :=
  match infx P t with
  | some i => undOf P i i.desc
  | none => none
/-- Is a type strings.Builder, or a struct that begins with one? A variable of such a type is never a part of a row that grows. -/
noncomputable def isBd : TypeDesc → Bool
  | .named n _ => n == "strings.Builder"
  | _ => false
noncomputable def isB (P : Program) (t : TypeId) : Bool := match infx P t with
  | some i => isBd i.desc
  | none => false
noncomputable def beginsB (P : Program) : List Field → Bool
  | f :: _ => isB P f.type
  | [] => false
noncomputable def isHolder (P : Program) (e : TypeId) : Bool := match undx P e with
  | some (.struct fs) => cond (isB P e) true (beginsB P fs.toList)
  | _ => false
noncomputable def funT (P : Program) : Tr Func := tabN P.funcs.toList.length P.funcs.toList
noncomputable def funx (P : Program) (f : FuncId) : Option Func := (funT P).get f

abbrev Tm := Tr Value

structure ALoop where
  state : LoopState
  pending : Option Code
  fn : FuncId
  nt : Nat
  tmps : Tm
  params : List Tmp
  assign : Code
  body : Code
  defers : Nat

inductive AObj where
  | cells (cs : List Value) (elem : TypeId)
  | ro (cs : List Value)
  | map (es : List MapEntry) (clock : Nat)
  | loop (l : ALoop)
  | deferred (ds : Option (List Deferred))
  | dead

structure H where
  next : Nat
  objs : Tr AObj

noncomputable def H.new (h : H) (o : AObj) : H := ⟨h.next + 1, h.objs.put h.next o⟩
noncomputable def H.put (h : H) (b : Nat) (o : AObj) : H := ⟨h.next, h.objs.put b o⟩

noncomputable def evx (t : Tm) : Operand → Value
  | .tmp n => (t.get n).getD undef
  | .const v => v
  | .global g => .pointer (some ⟨g, 0, none⟩)
  | .func f => .func (.func f) #[] #[]

/-- Has a value no address in it? (and no slice with room) -/
noncomputable def plain1 : Value → Bool
  | .bool _ | .int _ _ | .string _ | .nilFunc | .nilIface | .pointer none | .map none | .float _ _ => true
  | .slice none 0 0 => true
  | _ => false
noncomputable def plain : Value → Bool
  | .agg cs => cs.toList.all plain1
  | v => plain1 v

noncomputable def okO (P : Program) : Operand → Bool
  | .tmp _ => true
  | .const v => plain v
  | .global g => Nat.blt g P.globals.size
  | .func _ => true

noncomputable def pureOf (P : Program) {α : Type} : Sem α → Option α
  | .pure a => some a
  | .program k => pureOf P (k P)
  | _ => none

noncomputable def pureP (P : Program) (s : Sem Value) : Option Value :=
  match pureOf P s with
  | some v => cond (plain1 v) (some v) none
  | none => none

noncomputable def szx (P : Program) (t : TypeId) : Option Nat := (infx P t).map (·.size)
noncomputable def aggx (P : Program) (t : TypeId) : Option Bool :=
  match undx P t with
  | some (.struct _) | some (.array _ _) => some true
  | some _ => some false
  | none => none

noncomputable def rangex (cs : List Value) (off n : Nat) : Option (List Value) :=
  let l := takeR (dropR cs off) n
  cond (lenR l n) (some l) none

noncomputable def H.range (h : H) (a : Addr) (n : Nat) : Option (List Value) :=
  match a.spot, h.objs.get a.block with
  | none, some (.cells cs _) => rangex cs a.off n
  | none, some (.ro cs) => rangex cs a.off n
  | _, _ => none

noncomputable def cell1 : Option (List Value) → Option Value
  | some [v] => some v
  | _ => none

noncomputable def loadx (P : Program) (h : H) (t : TypeId) (a : Addr) : Option Value :=
  match aggx P t, szx P t with
  | some true, some n => (h.range a n).map fun l => .agg ⟨l⟩
  | some false, _ => cell1 (h.range a 1)
  | _, _ => none

noncomputable def vcells : Value → List Value
  | .agg cs => cs.toList
  | v => [v]
noncomputable def one1 : Value → Bool
  | .agg _ | .tuple _ => false
  | _ => true

noncomputable def overx (cs : List Value) (n : Nat) (vs : List Value) : Option (List Value) := overP cs n vs []

noncomputable def H.over (h : H) (a : Addr) (vs : List Value) : Option H :=
  match a.spot, h.objs.get a.block with
  | none, some (.cells cs e) => cond (vs.all one1) ((overx cs a.off vs).map fun l => h.put a.block (.cells l e)) none
  | _, _ => none

noncomputable def storex (P : Program) (h : H) (t : TypeId) (a : Addr) (v : Value) : Option H :=
  let vs := vcells v
  match szx P t with
  | some n => cond (Nat.beq vs.length n) (h.over a vs) none
  | none => none

noncomputable def zerox (P : Program) (t : TypeId) : Option Value := (infx P t).bind fun i => i.zero.bind fun z => cond (plain z) (some z) none

noncomputable def addx (a : Addr) (n : Nat) : Addr := ⟨a.block, a.off + n, none⟩

noncomputable def fieldAddrx (P : Program) (s : TypeId) (x : Value) (f : Nat) : Option Value :=
  match undx P s, x with
  | some (.struct fs), .pointer (some ⟨b, o, none⟩) =>
    match fs.toList[f]? with
    | some fd => match szx P fd.type with
      | some (_ + 1) => some (.pointer (some ⟨b, o + fd.offset, none⟩))
      | _ => none
    | none => none
  | _, _ => none

noncomputable def partx (P : Program) (t : TypeId) (cs : List Value) (off : Nat) : Option Value :=
  match aggx P t, szx P t with
  | some true, some n => (rangex cs off n).map fun l => .agg ⟨l⟩
  | some false, _ => nthR cs off
  | _, _ => none

noncomputable def fieldx (P : Program) (s : TypeId) (x : Value) (f : Nat) : Option Value :=
  match undx P s, x with
  | some (.struct fs), .agg cs => (fs.toList[f]?).bind fun fd => partx P fd.type cs.toList fd.offset
  | _, _ => none

noncomputable def idx (i : Int) (n : Nat) : Option Nat :=
  match i with
  | .ofNat k => cond (Nat.blt k n) (some k) none
  | _ => none

noncomputable def indexAddrx (P : Program) (t : TypeId) (x i : Value) : Option Value :=
  match undx P t, x, i with
  | some (.array len e), .pointer (some ⟨b, o, none⟩), .int _ i => (idx i len).bind fun k => (szx P e).map fun s => .pointer (some ⟨b, o + k * s, none⟩)
  | some (.slice e), .slice (some ⟨b, o, none⟩) len _, .int _ i => (idx i len).bind fun k => (szx P e).map fun s => .pointer (some ⟨b, o + k * s, none⟩)
  | _, _, _ => none

noncomputable def indexx (P : Program) (t : TypeId) (x i : Value) : Option Value :=
  match undx P t, x, i with
  | some (.array len e), .agg cs, .int _ i => (idx i len).bind fun k => (szx P e).bind fun s => partx P e cs.toList (k * s)
  | some .string, .string s, .int _ (.ofNat i) => (nthR s.data.toList i).map fun b => .int .u8 b.toNat
  | _, _, _ => none

noncomputable def bound (d : Nat) (m : Nat) : Option Value → Option Nat
  | none => some d
  | some (.int _ (.ofNat k)) => cond (Nat.ble k m) (some k) none
  | _ => none

/-- A slice with its room told: it must lie within what is known. -/
noncomputable def slice3 (P : Program) (e : TypeId) (a : Option Addr) (len cap : Nat) (lo hi : Option Value) (mx : Value) : Option Value :=
  match hi with
  | none => none
  | some hv => (bound 0 (cond (Nat.beq (cap % 2) 0) (cap / 2) len) (some mx)).bind fun m => (bound 0 m (some hv)).bind fun h => (bound 0 h lo).bind fun l => (szx P e).map fun s =>
    .slice (cond (Nat.beq m l) a (a.map fun a => addx a (l * s))) (h - l) (2 * (m - l))
/-- A slice's room: twice a number, where it is known; else once more than twice the element's number where it begins. -/
noncomputable def slicex (P : Program) (t : TypeId) (x : Value) (lo hi mx : Option Value) : Option Value :=
  match undx P t, x, mx with
  | some .string, .string s, none =>
    let n := s.data.toList.length
    (bound n n hi).bind fun h => (bound 0 h lo).map fun l => .string ⟨⟨(s.data.toList.drop l).take (h - l)⟩⟩
  | some (.slice e), .slice a len cap, none =>
    (bound len (cond (Nat.beq (cap % 2) 0) (cap / 2) len) hi).bind fun h => (bound 0 h lo).bind fun l => (szx P e).bind fun s =>
      cond (Nat.beq (cap % 2) 0)
        (some (.slice (cond (Nat.beq (cap / 2) l) a (a.map fun a => addx a (l * s))) (h - l) (2 * (cap / 2 - l))))
        (cond (Nat.beq l 0 || Nat.blt l len) (some (.slice (a.map fun a => addx a (l * s)) (h - l) (2 * (cap / 2 + l) + 1))) none)
  | some (.slice e), .slice a len cap, some mx => slice3 P e a len cap lo hi mx
  | some (.pointer arr), .pointer (some a), none =>
    match undx P arr with
    | some (.array n e) => (bound n n hi).bind fun h => (bound 0 h lo).bind fun l => (szx P e).map fun s =>
        .slice (some (cond (Nat.beq n l) a (addx a (l * s)))) (h - l) (2 * (n - l))
    | _ => none
  | some (.array n e), .pointer (some a), none =>
    (bound n n hi).bind fun h => (bound 0 h lo).bind fun l => (szx P e).map fun s =>
        .slice (some (cond (Nat.beq n l) a (addx a (l * s)))) (h - l) (2 * (n - l))
  | _, _, _ => none

noncomputable def fillx (place : Nat → Option (Nat × Nat)) : List Value → List (Nat × Value) → Option (List Value)
  | cs, [] => some cs
  | cs, (i, v) :: rest =>
    match place i with
    | none => none
    | some (off, size) => cond (Nat.beq (vcells v).length size) ((overx cs off (vcells v)).bind fun cs => fillx place cs rest) none

noncomputable def placesx (P : Program) : List Field → Option (List (Nat × Nat))
  | [] => some []
  | f :: fs => match szx P f.type with
    | some s => (placesx P fs).map fun q => (f.offset, s) :: q
    | none => none

noncomputable def buildx (P : Program) (t : TypeId) (parts : List (Nat × Value)) : Option Value :=
  (zerox P t).bind fun z =>
  match undx P t with
  | some (.struct fs) => (placesx P fs.toList).bind fun q => (fillx (fun i => q[i]?) (vcells z) parts).map fun cs => .agg ⟨cs⟩
  | some (.array _ e) => (szx P e).bind fun s => (fillx (fun i => some (i * s, s)) (vcells z) parts).map fun cs => .agg ⟨cs⟩
  | _ => none

noncomputable def rep (z : List Value) : Nat → List Value
  | 0 => []
  | n + 1 => z ++ rep z n

noncomputable def firstx (h : H) (size n : Nat) : Value → Option (List Value)
  | .slice (some a) _ _ => h.range a (n * size)
  | .slice none _ _ => some []
  | .string s => cond (Nat.beq size 1) (some ((s.data.toList.take n).map fun b => .int .u8 b.toNat)) none
  | _ => none

noncomputable def lenx : Value → Option Nat
  | .slice _ n _ => some n
  | .string s => some s.data.toList.length
  | _ => none

/-- Behind the tests: the new cells are at hand. -/
noncomputable def app2 (h : H) (e size : Nat) (base : Option Addr) (len cap n : Nat) (new : List Value) : Option (Value × H) :=
  match base with
  | none => some (.slice (some ⟨h.next, 0, none⟩) (len + n) 1, h.new (.cells new e))
  | some a =>
    match h.range a (len * size) with
    | none => none
    | some old =>
      cond (Nat.beq (cap % 2) 0)
        (cond (Nat.ble (len + n) (cap / 2))
          ((h.over (addx a (len * size)) new).map fun h => (.slice base (len + n) cap, h))
          (some (.slice (some ⟨h.next, 0, none⟩) (len + n) 1, h.new (.cells (old ++ new) e))))
        (match h.objs.get a.block with
         | some (.cells _ e2) => cond (Nat.beq e2 e && Nat.beq a.off (cap / 2 * size) && new.all one1)
             (some (.slice (some ⟨h.next, 0, none⟩) (len + n) 1, (h.put a.block .dead).new (.cells (old ++ new) e))) none
         | _ => none)
noncomputable def app1 (h : H) (e size : Nat) (base : Option Addr) (len cap n : Nat) (x : Value) : Option (Value × H) :=
  match firstx h size n x with
  | some new => cond (Nat.beq n 0) (some (.slice base len cap, h)) (app2 h e size base len cap n new)
  | none => none
noncomputable def notInt : Option TypeDesc → Bool
  | some (.int _) => false
  | some _ => true
  | none => false
noncomputable def appendx0 (P : Program) (h : H) (sType xType : TypeId) (s x : Value) : Option (Value × H) :=
  match s with
  | .slice base len cap => match undx P sType with
    | some (.slice e) => match szx P e, lenx x, zerox P e, infx P e with
      | some size, some n, some z, some i => cond (Nat.ble (len + n) 1000000 && Nat.ble i.bytes 10000 && Nat.beq (vcells z).length size && Nat.ble 1 size && notInt (undx P xType) && !isHolder P e && (base.isSome || (Nat.beq len 0 && Nat.beq cap 0)))
          (app1 h e size base len cap n x) none
      | _, _, _, _ => none
    | _ => none
  | _ => none
/-- So many noughts, appended to an empty slice. -/
noncomputable def appendz (P : Program) (h : H) (sType xType : TypeId) (s x : Value) : Option (Value × H) :=
  match s, x with
  | .slice none len cap, .int .i64 (.ofNat n) => match undx P sType, undx P xType with
    | some (.slice e), some (.int _) => match szx P e, zerox P e, infx P e with
      | some size, some z, some i => cond (Nat.ble 1 n && Nat.ble n 100000 && Nat.ble i.bytes 10000 && Nat.beq (vcells z).length size && Nat.ble 1 size && !isHolder P e && Nat.beq len 0 && Nat.beq cap 0)
          (some (.slice (some ⟨h.next, 0, none⟩) n 1, h.new (.cells (rep (vcells z) n) e))) none
      | _, _, _ => none
    | _, _ => none
  | _, _ => none
noncomputable def appendx (P : Program) (h : H) (sType xType : TypeId) (s x : Value) : Option (Value × H) :=
  match appendx0 P h sType xType s x with
  | some r => some r
  | none => appendz P h sType xType s x

noncomputable def bytesEq : List UInt8 → List UInt8 → Bool
  | [], [] => true
  | a :: x, b :: y => cond (Nat.beq a.toNat b.toNat) (bytesEq x y) false
  | _, _ => false
noncomputable def bytesLt : List UInt8 → List UInt8 → Bool
  | _, [] => false
  | [], _ :: _ => true
  | a :: x, b :: y => cond (Nat.blt a.toNat b.toNat) true (cond (Nat.beq a.toNat b.toNat) (bytesLt x y) false)

noncomputable def strx (op : BinOp) (a b : List UInt8) : Option Value :=
  match op with
  | .add => cond (Nat.ble (a.length + b.length) 1000000) (some (.string ⟨⟨a ++ b⟩⟩)) none
  | .eql => some (.bool (bytesEq a b))
  | .neq => some (.bool (!bytesEq a b))
  | .lss => some (.bool (bytesLt a b))
  | .leq => some (.bool (bytesLt a b || bytesEq a b))
  | .gtr => some (.bool (!(bytesLt a b || bytesEq a b)))
  | .geq => some (.bool (!bytesLt a b))
  | _ => none

/-- Equality of two cells, of a type that is no struct and no array. -/
noncomputable def eq1 : Value → Value → Option Bool
  | .bool a, .bool b => some (a == b)
  | .string a, .string b => some (bytesEq a.data.toList b.data.toList)
  | .pointer none, .pointer b => some b.isNone
  | .pointer (some _), .pointer none => some false
  | .slice none _ _, .slice b _ _ => some b.isNone
  | .slice (some _) _ _, .slice none _ _ => some false
  | .map none, .map b => some b.isNone
  | .map (some _), .map none => some false
  | .nilIface, .iface _ _ => some false
  | .iface _ _, .nilIface => some false
  | .nilIface, .nilIface => some true
  | .nilFunc, .nilFunc => some true
  | .nilFunc, .func _ _ _ => some false
  | .func _ _ _, .nilFunc => some false
  | _, _ => none
/-- Equality of two cells within a struct: of texts, numbers, truth. -/
noncomputable def eqIn (d : Option TypeDesc) (x y : Value) : Option Bool :=
  match d, x, y with
  | some .bool, .bool a, .bool b => some (a == b)
  | some (.int _), .int j a, .int k b => if j = k then some (a == b) else none
  | some .string, .string a, .string b => some (bytesEq a.data.toList b.data.toList)
  | _, _, _ => none
noncomputable def eqFields (P : Program) (x y : List Value) : List Field → Option Bool
  | [] => some true
  | f :: fs => match x[f.offset]?, y[f.offset]? with
    | some a, some b => match eqIn (undx P f.type) a b with
      | some true => eqFields P x y fs
      | some false => some false
      | none => none
    | _, _ => none
/-- Does a type suit the two values (of a cell each)? -/
noncomputable def suits (d : Option TypeDesc) (x y : Value) : Bool :=
  match d, x, y with
  | some .bool, .bool _, .bool _ => true
  | some .string, .string _, .string _ => true
  | some (.pointer _), .pointer a, .pointer b => a.isNone || b.isNone
  | some .unsafePointer, .pointer a, .pointer b => a.isNone || b.isNone
  | some (.slice _), .slice a _ _, .slice b _ _ => a.isNone || b.isNone
  | some (.map _ _), .map a, .map b => a.isNone || b.isNone
  | some (.interface _), .nilIface, .iface _ _ => true
  | some (.interface _), .iface _ _, .nilIface => true
  | some (.interface _), .nilIface, .nilIface => true
  | some (.func _ _ _), .nilFunc, .nilFunc => true
  | some (.func _ _ _), .nilFunc, .func _ _ _ => true
  | some (.func _ _ _), .func _ _ _, .nilFunc => true
  | _, _, _ => false
noncomputable def isConst : Operand → Bool
  | .const _ => true
  | _ => false
noncomputable def eqx (P : Program) (t : TypeId) (ox oy : Operand) (x y : Value) : Option Bool :=
  match x, y with
  | .agg a, .agg b => match undx P t with
    | some (.struct fs) => cond (!P.stoodInHeld t && !P.eqGuardType P.depth t && fs.toList.all (fun f => f.name != "_")) (eqFields P a.toList b.toList fs.toList) none
    | _ => none
  | .nilIface, .nilIface => cond ((isConst ox || isConst oy) && suits (undx P t) x y) (some true) none
  | x, y => cond (suits (undx P t) x y) (eq1 x y) none

noncomputable def kindNo : IntKind → Nat
  | .i8 => 0 | .i16 => 1 | .i32 => 2 | .i64 => 3 | .u8 => 4 | .u16 => 5 | .u32 => 6 | .u64 => 7
noncomputable def wrapx (k : IntKind) (n : Int) : Int :=
  cond (Nat.beq (kindNo k) 3) (match n with
    | .ofNat m => cond (Nat.blt m 4611686018427387904) (.ofNat m) (k.wrap n)
    | .negSucc m => k.wrap (.negSucc m)) (k.wrap n)
noncomputable def intx (P : Program) (op : BinOp) (t : TypeId) (j : IntKind) (a : Int) (k : IntKind) (b : Int) : Option Value :=
  match op with
  | .add => cond (Nat.beq (kindNo j) (kindNo k)) (some (.int j (wrapx j (a + b)))) none
  | .sub => cond (Nat.beq (kindNo j) (kindNo k)) (some (.int j (wrapx j (a - b)))) none
  | .eql => cond (Nat.beq (kindNo j) (kindNo k)) (some (.bool (decide (a = b)))) none
  | .neq => cond (Nat.beq (kindNo j) (kindNo k)) (some (.bool (!decide (a = b)))) none
  | .lss => cond (Nat.beq (kindNo j) (kindNo k)) (some (.bool (decide (a < b)))) none
  | .leq => cond (Nat.beq (kindNo j) (kindNo k)) (some (.bool (decide (a ≤ b)))) none
  | .gtr => cond (Nat.beq (kindNo j) (kindNo k)) (some (.bool (decide (b < a)))) none
  | .geq => cond (Nat.beq (kindNo j) (kindNo k)) (some (.bool (decide (b ≤ a)))) none
  | _ => pureP P (binOp op t (.int j a) (.int k b))

noncomputable def binx (P : Program) (op : BinOp) (t : TypeId) (ox oy : Operand) (x y : Value) : Option Value :=
  match x, y with
  | .string a, .string b => strx op a.data.toList b.data.toList
  | .int j a, .int k b => intx P op t j a k b
  | _, _ => match op with
    | .eql => (eqx P t ox oy x y).map .bool
    | .neq => (eqx P t ox oy x y).map fun b => .bool (!b)
    | _ => none

noncomputable def sameK (d : Option TypeDesc) (k e : Value) : Option Bool :=
  match d, k, e with
  | some (.int _), .int i a, .int j b => if i = j then some (a == b) else none
  | some .string, .string a, .string b => some (bytesEq a.data.toList b.data.toList)
  | some .bool, .bool a, .bool b => some (a == b)
  | _, _, _ => none
noncomputable def keyOk (d : Option TypeDesc) (k : Value) : Bool :=
  match d, k with
  | some (.int _), .int _ _ => true
  | some .string, .string _ => true
  | some .bool, .bool _ => true
  | _, _ => false
noncomputable def findx (d : Option TypeDesc) (k : Value) : List MapEntry → Option (Option Value)
  | [] => some none
  | e :: es => match sameK d k e.key with
    | some true => some (some e.val)
    | some false => findx d k es
    | none => none
noncomputable def updx (d : Option TypeDesc) (k v : Value) (c : Nat) : List MapEntry → Option (List MapEntry × Bool)
  | [] => some ([{ key := k, val := v, born := c }], true)
  | e :: es => match sameK d k e.key with
    | some true => some ({ e with key := k, val := v } :: es, false)
    | some false => (updx d k v c es).map fun r => (e :: r.1, r.2)
    | none => none

/-- Keys that are structs of texts, numbers, truth. -/
noncomputable def eqA (P : Program) (key : TypeId) (fs : List Field) (k e : Value) : Option Bool :=
  match k, e with
  | .agg a, .agg b => cond (!P.stoodInHeld key && fs.all (fun f => f.name != "_")) (eqFields P a.toList b.toList fs) none
  | _, _ => none
noncomputable def findS (P : Program) (key : TypeId) (fs : List Field) (k : Value) : List MapEntry → Option (Option Value)
  | [] => some none
  | e :: es => match eqA P key fs k e.key with
    | some true => some (some e.val)
    | some false => findS P key fs k es
    | none => none
noncomputable def keyFs (P : Program) (cs : List Value) : List Field → Bool
  | [] => true
  | f :: fs => match partx P f.type cs f.offset with
    | some v => keyOk (undx P f.type) v && keyFs P cs fs
    | none => false
noncomputable def keyAgg (P : Program) (fs : List Field) : Value → Bool
  | .agg cs => cs.toList.all plain1 && keyFs P cs.toList fs
  | _ => false
noncomputable def keyIn (P : Program) (key : TypeId) (k : Value) : Bool :=
  match undx P key with
  | some (.struct fs) => keyAgg P fs.toList k
  | d => keyOk d k
noncomputable def findK (P : Program) (key : TypeId) (k : Value) (es : List MapEntry) : Option (Option Value) :=
  match undx P key with
  | some (.struct fs) => findS P key fs.toList k es
  | d => findx d k es
noncomputable def freshS (v : Value) (k : Value) (c : Nat) (es : List MapEntry) : Option (Option Value) → Option (List MapEntry × Bool)
  | some none => some (es ++ [{ key := k, val := v, born := c }], true)
  | _ => none
noncomputable def updK (P : Program) (key : TypeId) (k v : Value) (c : Nat) (es : List MapEntry) : Option (List MapEntry × Bool) :=
  match undx P key with
  | some (.struct fs) => freshS v k c es (findS P key fs.toList k es)
  | d => updx d k v c es

noncomputable def entriesx (h : H) : Value → Option (List MapEntry)
  | .map none => some []
  | .map (some r) => match h.objs.get r with | some (.map es _) => some es | _ => none
  | _ => none
noncomputable def foundx (P : Program) (e : TypeId) : Option Value → Option (Value × Bool)
  | some v => some (v, true)
  | none => (zerox P e).map fun z => (z, false)
noncomputable def lookupx (P : Program) (h : H) (t : TypeId) (m k : Value) (ok : Bool) : Option Value :=
  match undx P t with
  | some (.map key e) => cond (keyIn P key k)
    ((entriesx h m).bind fun es => (findK P key k es).bind fun r => (foundx P e r).map fun p => cond ok (.tuple #[p.1, .bool p.2]) p.1) none
  | _ => none

noncomputable def mapUpdx (P : Program) (key : TypeId) (h : H) (m k v : Value) : Option H :=
  match m with
  | .map (some r) => match h.objs.get r with
    | some (.map es c) => cond (keyIn P key k) ((updK P key k v c es).map fun u => h.put r (.map u.1 (cond u.2 (c + 1) c))) none
    | _ => none
  | _ => none

inductive Res where
  | val (v : Value)
  | enter (f : FuncId) (args : List Value)
  | round (l : Nat) (args : List Value)
  | defer (d : Deferred)

noncomputable def targetx (f : Value) (args : List Value) : Option Res :=
  match f with
  | .func (.func g) first cap => some (.enter g (first.toList ++ args ++ cap.toList))
  | .func (.yield l) first _ => some (.round l (first.toList ++ args))
  | _ => none

noncomputable def pickx (c a b : Value) : Option Value := match c with | .bool c => some (cond c a b) | _ => none
noncomputable def nilx : Value → Option Value
  | .pointer (some a) => some (.pointer (some a))
  | .func fn a b => match fn with
    | .func f => some (.func (.func f) a b)
    | .yield f => some (.func (.yield f) a b)
    | _ => none
  | _ => none
noncomputable def unx (P : Program) (op : UnOp) : Value → Option Value
  | .int k n => pureP P (Op.unary op (.int k n))
  | .bool b => pureP P (Op.unary op (.bool b))
  | _ => none
noncomputable def convI (P : Program) (d : Option TypeDesc) (n : Int) : Option Value := match d with | some (.int k) => pureP P (Conv.intToInt k n) | _ => none
noncomputable def convS (d : Option TypeDesc) (s : ByteArray) : Option Value := match d with | some .string => some (.string s) | _ => none
noncomputable def convP (P : Program) (b : TypeId) : Value → Option Value
  | .string s => convS (undx P b) s
  | .int _ n => convI P (undx P b) n
  | _ => none
noncomputable def extractx (i : Nat) : Value → Option Value | .tuple vs => nthR vs.toList i | _ => none
noncomputable def lenS (d : Option TypeDesc) (s : ByteArray) : Option Value := match d with | some .string => some (.int .i64 s.data.toList.length) | _ => none
noncomputable def lenL (d : Option TypeDesc) (n : Nat) : Option Value := match d with | some (.slice _) => some (.int .i64 n) | _ => none
noncomputable def lenA (d : Option TypeDesc) : Option Value := match d with | some (.array n _) => some (.int .i64 n) | _ => none
noncomputable def lenP (P : Program) (ty : TypeId) : Value → Option Value
  | .string s => lenS (undx P ty) s
  | .slice _ n _ => lenL (undx P ty) n
  | .agg _ => lenA (undx P ty)
  | .pointer _ => lenA (undx P ty)
  | _ => none
noncomputable def maxx : List Value → Option Value | [.int k x, .int _ y] => some (.int k (if y > x then y else x)) | _ => none
noncomputable def minx : List Value → Option Value | [.int k x, .int _ y] => some (.int k (if y < x then y else x)) | _ => none
noncomputable def lenC (P : Program) : List TypeId → List Value → Option Value | [ty], [x] => lenP P ty x | _, _ => none
noncomputable def capS (c : Nat) : Option TypeDesc → Option Value
  | some (.slice _) => some (.int .i64 c)
  | _ => none
/-- The room of a row, where it is known. -/
noncomputable def capC (P : Program) : List TypeId → List Value → Option Value
  | [ty], [.slice none 0 0] => capS 0 (undx P ty)
  | [ty], [.slice (some _) _ c] => cond (Nat.beq (c % 2) 0) (capS (c / 2) (undx P ty)) none
  | _, _ => none
noncomputable def builtinP (P : Program) (b : Builtin) (ts : List TypeId) (xs : List Value) : Option Value :=
  match b with
  | .len => lenC P ts xs
  | .cap => capC P ts xs
  | .max => maxx xs
  | .min => minx xs
  | _ => none
noncomputable def callP (P : Program) (t : Tm) (c : Call) : Option Value := match c.callee with | .builtin b => builtinP P b c.argTypes.toList (c.args.toList.map (evx t)) | _ => none
noncomputable def partsx (t : Tm) : List (Nat × Operand) → List (Nat × Value)
  | [] => []
  | p :: ps => (p.1, evx t p.2) :: partsx t ps

noncomputable def ifaceP (P : Program) (ty : TypeId) (x : Value) : Option Value :=
  match undx P ty with
  | some (.interface _) => none
  | some _ => some (.iface ty x)
  | none => none
noncomputable def failsP (P : Program) (asserted : TypeId) : Bool → Option Value
  | true => (zerox P asserted).map fun z => .tuple #[z, .bool false]
  | false => none
noncomputable def holdsP (v : Value) : Bool → Option Value
  | true => some (.tuple #[v, .bool true])
  | false => some v
noncomputable def assertV (P : Program) (asserted : TypeId) (ok : Bool) : Value → Option Value
  | .iface t v => cond (Nat.beq t asserted) (holdsP v ok) (failsP P asserted ok)
  | .nilIface => failsP P asserted ok
  | _ => none
noncomputable def assertP (P : Program) (asserted : TypeId) (ok : Bool) (x : Value) : Option Value :=
  match undx P asserted with
  | some (.interface _) => none
  | some _ => assertV P asserted ok x
  | none => none
/-- What hangs on the temporaries alone. -/
noncomputable def opP (P : Program) (t : Tm) (o : Op) : Option Value :=
  match o with
  | .move x => some (evx t x)
  | .assign x => some (evx t x)
  | .pick c a b => pickx (evx t c) (evx t a) (evx t b)
  | .build ty ps => buildx P ty (partsx t ps.toList)
  | .nilCheck x => nilx (evx t x)
  | .binOp op ty x y _ => binx P op ty x y (evx t x) (evx t y)
  | .unOp op _ x => unx P op (evx t x)
  | .convert a b x => cond (undx P a).isSome (convP P b (evx t x)) none
  | .makeFunc fn a b => match fn with
    | .func f => some (.func (.func f) ⟨a.toList.map (evx t)⟩ ⟨b.toList.map (evx t)⟩)
    | _ => none
  | .slice ty x lo hi mx => slicex P ty (evx t x) (lo.map (evx t)) (hi.map (evx t)) (mx.map (evx t))
  | .fieldAddr s x f => fieldAddrx P s (evx t x) f
  | .field s x f => fieldx P s (evx t x) f
  | .indexAddr ty x i => indexAddrx P ty (evx t x) (evx t i)
  | .index ty x i => indexx P ty (evx t x) (evx t i)
  | .extract x i => extractx i (evx t x)
  | .makeInterface ty x => ifaceP P ty (evx t x)
  | .typeAssert x _ ty ok => assertP P ty ok (evx t x)
  | .call c => callP P t c
  | _ => none

noncomputable def loadL (P : Program) (h : H) (ty : TypeId) : Value → Option Value | .pointer (some a) => loadx P h ty a | _ => none
noncomputable def lenM (P : Program) (h : H) (ty : TypeId) : Value → Option Value
  | .map (some r) => match undx P ty, h.objs.get r with
    | some (.map _ _), some (.map es _) => some (.int .i64 es.length)
    | _, _ => none
  | _ => none
noncomputable def lenCM (P : Program) (h : H) : List TypeId → List Value → Option Value | [ty], [x] => lenM P h ty x | _, _ => none
noncomputable def callL (P : Program) (t : Tm) (h : H) (c : Call) : Option Value := match c.callee with
  | .builtin b => match b with
    | .len => lenCM P h c.argTypes.toList (c.args.toList.map (evx t))
    | _ => none
  | _ => none

noncomputable def bytesT : List Value → Option (List UInt8)
  | [] => some []
  | .int .u8 (.ofNat n) :: l => cond (Nat.blt n 256) ((bytesT l).map fun r => UInt8.ofNat n :: r) none
  | _ => none
noncomputable def strE (P : Program) (h : H) (e : TypeId) (a : Addr) (n : Nat) : Option Value := match undx P e with
  | some (.int .u8) => (h.range a n).bind fun l => (bytesT l).map fun s => .string ⟨⟨s⟩⟩
  | _ => none
noncomputable def strL (P : Program) (h : H) (a b : TypeId) : Value → Option Value
  | .slice (some ad) n _ => match undx P a, undx P b with
    | some (.slice e), some .string => strE P h e ad n
    | _, _ => none
  | _ => none
/-- What reads memory. -/
noncomputable def opL (P : Program) (t : Tm) (h : H) (o : Op) : Option Value :=
  match o with
  | .load ty a => loadL P h ty (evx t a)
  | .lookup ty m k ok => lookupx P h ty (evx t m) (evx t k) ok
  | .call c => callL P t h c
  | .convert a b x => strL P h a b (evx t x)
  | _ => none

inductive Ak where
  | ptr
  | sl (l c : Nat)
  | mp

noncomputable def allocA (P : Program) (e : TypeId) : Option (AObj × Ak) := (zerox P e).map fun z => (.cells (vcells z) e, .ptr)
noncomputable def boxA (e : TypeId) (v : Value) : Option (AObj × Ak) := cond ((vcells v).all one1) (some (.cells (vcells v) e, .ptr)) none
noncomputable def buildA (P : Program) (e : TypeId) (n : Nat) (ps : List (Nat × Value)) : Option (AObj × Ak) :=
  (szx P e).bind fun s => (zerox P e).bind fun z => cond (Nat.ble (n * s) 100000 && Nat.beq (vcells z).length s && (ps.all fun p => (vcells p.2).all one1) && (vcells z).all one1)
    ((fillx (fun i => some (i * s, s)) (rep (vcells z) n) ps).map fun cs => (.cells cs e, .sl n n)) none
noncomputable def buildSliceA (P : Program) (ty : TypeId) (n : Nat) (ps : List (Nat × Value)) : Option (AObj × Ak) := match undx P ty with | some (.slice e) => buildA P e n ps | _ => none
noncomputable def makeA (P : Program) (e : TypeId) (l c : Nat) : Option (AObj × Ak) :=
  (zerox P e).bind fun z => (infx P e).bind fun i => cond (Nat.ble l c && Nat.ble c 100000 && Nat.ble i.bytes 10000 && Nat.beq (vcells z).length i.size && (vcells z).all one1)
    (some (.cells (rep (vcells z) c) e, .sl l c)) none
noncomputable def makeSliceA (P : Program) (ty : TypeId) (l c : Value) : Option (AObj × Ak) := match l, c with
  | .int .i64 (.ofNat l), .int .i64 (.ofNat c) => match undx P ty with | some (.slice e) => makeA P e l c | _ => none
  | _, _ => none
noncomputable def makeMapA (P : Program) (ty : TypeId) (r : Option Value) : Option (AObj × Ak) := match undx P ty with
  | some (.map _ _) => match r with
    | none => some (.map [] 0, .mp)
    | some (.int _ _) => some (.map [] 0, .mp)
    | _ => none
  | _ => none

/-- What lays a new block, and how it is handed out. -/
noncomputable def opA (P : Program) (t : Tm) (o : Op) : Option (AObj × Ak) :=
  match o with
  | .alloc e => allocA P e
  | .box e x => boxA e (evx t x)
  | .buildSlice ty n ps => buildSliceA P ty n (partsx t ps.toList)
  | .makeSlice ty l c => makeSliceA P ty (evx t l) (evx t c)
  | .makeMap ty r => makeMapA P ty (r.map (evx t))
  | _ => none

noncomputable def valA (n : Nat) : Ak → Value
  | .ptr => .pointer (some ⟨n, 0, none⟩)
  | .sl l c => .slice (some ⟨n, 0, none⟩) l (2 * c)
  | .mp => .map (some n)

noncomputable def storeX (P : Program) (h : H) (ty : TypeId) (a x : Value) : Option (Res × H) := match a with
  | .pointer (some a) => (storex P h ty a x).map fun h => (.val undef, h)
  | _ => none
noncomputable def updX (P : Program) (h : H) (ty : TypeId) (m k x : Value) : Option (Res × H) := match undx P ty with
  | some (.map key _) => (mapUpdx P key h m k x).map fun h => (.val undef, h)
  | _ => none
noncomputable def toBytesX (P : Program) (h : H) (a b : TypeId) (x : Value) : Option (Res × H) := match x with
  | .string s => match undx P a, undx P b with
    | some .string, some (.slice e) => match undx P e with
      | some (.int .u8) => some (.val (.slice (some ⟨h.next, 0, none⟩) s.data.toList.length 1), h.new (.ro (s.data.toList.map fun b => .int .u8 b.toNat)))
      | _ => none
    | _, _ => none
  | _ => none
noncomputable def appX (P : Program) (h : H) : List TypeId → List Value → Option (Res × H) | [ty, ty2], [s, x] => (appendx P h ty ty2 s x).map fun r => (.val r.1, r.2) | _, _ => none
noncomputable def copyIn (h : H) (base : Option Addr) (n : Nat) (cs : List Value) : Option (Res × H) :=
  match base with
  | none => some (.val (.int .i64 (.ofNat n)), h)
  | some a => (h.over a cs).map fun h => (.val (.int .i64 (.ofNat n)), h)
noncomputable def copyTo (P : Program) (h : H) (ty : TypeId) (base : Option Addr) (len : Nat) (x : Value) : Option (Res × H) :=
  match undx P ty with
  | some (.slice e) => match szx P e, lenx x with
    | some size, some m => (firstx h size (cond (Nat.ble m len) m len) x).bind fun cs => copyIn h base (cond (Nat.ble m len) m len) cs
    | _, _ => none
  | _ => none
noncomputable def copyX (P : Program) (h : H) : List TypeId → List Value → Option (Res × H)
  | ty :: _, [.slice base len _, x] => copyTo P h ty base len x
  | _, _ => none
noncomputable def clearTo (P : Program) (h : H) (e : TypeId) (n : Nat) : Option Addr → Option (Res × H)
  | none => some (.val (.tuple #[]), h)
  | some a => cond (Nat.beq n 0) (some (.val (.tuple #[]), h)) ((zerox P e).bind fun z => (h.over a (rep (vcells z) n)).map fun h => (.val (.tuple #[]), h))
noncomputable def clearX (P : Program) (h : H) : List TypeId → List Value → Option (Res × H)
  | [ty], [.slice base n _] => match undx P ty with
    | some (.slice e) => clearTo P h e n base
    | _ => none
  | _, _ => none
noncomputable def builtinX (P : Program) (h : H) (b : Builtin) (ts : List TypeId) (xs : List Value) : Option (Res × H) := match b with
  | .append => appX P h ts xs
  | .copy => copyX P h ts xs
  | .clear => clearX P h ts xs
  | _ => none
/-- A method of a value behind an interface: one of its own, not of a part. -/
noncomputable def methF : Option (FuncId × Bool) → Option TypeDesc → Option FuncId
  | some (f, true), some (.pointer _) => some f
  | some (_, false), some (.pointer _) => none
  | some (f, false), some _ => some f
  | _, _ => none
noncomputable def methx (P : Program) (t : TypeId) (name : String) : Option FuncId :=
  (infx P t).bind fun i => (i.methods.find? (·.name == name)).bind fun m => cond m.path.isEmpty (methF m.func (undx P t)) none
noncomputable def invokeX (P : Program) (h : H) (name : String) (args : List Value) : Value → Option (Res × H)
  | .iface t v => (methx P t name).map fun f => (.enter f (v :: args), h)
  | _ => none
noncomputable def callX (P : Program) (t : Tm) (h : H) (c : Call) : Option (Res × H) := match c.callee with
  | .invoke r name => invokeX P h name (c.args.toList.map (evx t)) (evx t r)
  | .value f => (targetx (evx t f) (c.args.toList.map (evx t))).map fun r => (r, h)
  | .builtin b => builtinX P h b c.argTypes.toList (c.args.toList.map (evx t))
noncomputable def deferX (t : Tm) (h : H) (c : Call) : Option (Res × H) := match c.callee with
  | .value f => match evx t f with
    | .func (.func g) first cap => some (.defer { target := .fn (.func g) cap, args := ⟨first.toList ++ c.args.toList.map (evx t)⟩ }, h)
    | _ => none
  | _ => none

/-- What changes memory, or calls. -/
noncomputable def opX (P : Program) (t : Tm) (h : H) (o : Op) : Option (Res × H) :=
  match o with
  | .store ty a x => storeX P h ty (evx t a) (evx t x)
  | .mapUpdate ty m k x => updX P h ty (evx t m) (evx t k) (evx t x)
  | .insert ty m k x => updX P h ty (evx t m) (evx t k) (evx t x)
  | .convert a b x => toBytesX P h a b (evx t x)
  | .call c => callX P t h c
  | .defer c => deferX t h c
  | _ => none

noncomputable def clsConv (P : Program) (a b : TypeId) : Nat := match undx P a with
  | some (.slice _) => 1
  | some .string => match undx P b with | some (.slice _) => 3 | _ => 0
  | _ => 0
noncomputable def clsLen (P : Program) : List TypeId → Nat
  | [ty] => match undx P ty with | some (.map _ _) => 1 | _ => 0
  | _ => 0
noncomputable def clsCall (P : Program) (c : Call) : Nat := match c.callee with
  | .builtin b => match b with
    | .len => clsLen P c.argTypes.toList
    | .cap => 0
    | .max => 0
    | .min => 0
    | _ => 3
  | _ => 3
/-- 0: opP, 1: opL, 2: opA, 3: opX. -/
noncomputable def clsx (P : Program) : Op → Nat
  | .load .. => 1
  | .lookup .. => 1
  | .convert a b _ => clsConv P a b
  | .alloc _ => 2
  | .box .. => 2
  | .buildSlice .. => 2
  | .makeSlice .. => 2
  | .makeMap .. => 2
  | .store .. => 3
  | .mapUpdate .. => 3
  | .insert .. => 3
  | .defer _ => 3
  | .call c => clsCall P c
  | _ => 0

noncomputable def opx (P : Program) (t : Tm) (h : H) (o : Op) : Option (Res × H) :=
  match clsx P o with
  | 0 => (opP P t o).map fun v => (.val v, h)
  | 1 => (opL P t h o).map fun v => (.val v, h)
  | 2 => (opA P t o).map fun r => (.val (valA h.next r.2), h.new r.1)
  | _ => opX P t h o

structure Fr where
  fn : FuncId
  nt : Nat
  tmps : Tm
  todo : List Item
  defers : List Deferred
  round : Option Nat
  ret : Bool

noncomputable def putAll : Tm → Nat → List Value → Tm
  | t, _, [] => t
  | t, i, v :: vs => putAll (t.put i v) (i + 1) vs

noncomputable def enterx (P : Program) (f : FuncId) (args : List Value) : Option Fr :=
  match funx P f with
  | some fn => match fn.body with
    | some c => cond (Nat.ble args.length fn.ntmps && Nat.ble fn.ntmps 4000) (some { fn := f, nt := fn.ntmps, tmps := putAll .nil 0 args, todo := [.code c], defers := [], round := none, ret := false }) none
    | none => none
  | none => none

noncomputable def putPs (nt : Nat) : Tm → List Tmp → List Value → Option Tm
  | t, [], [] => some t
  | t, p :: ps, v :: vs => cond (Nat.blt p nt) (putPs nt (t.put p v) ps vs) none
  | _, _, _ => none

noncomputable def roundx (h : H) (l : Nat) (args : List Value) : Option Fr :=
  match h.objs.get l with
  | some (.loop r) => (putPs r.nt r.tmps r.params args).map fun t => { fn := r.fn, nt := r.nt, tmps := t, todo := [.code r.assign, .beginRound, .code r.body], defers := [], round := some l, ret := false }
  | _ => none

abbrev Oracle := Fr → H → Option (Value × H)
/-- Calls that are not run, but told: those with a plain answer that leave the memory; and those of one memory, with what they leave. -/
structure Prim where
  val : FuncId → List Value → Option Value
  tel : FuncId → List Value → H → Option (Value × H)

noncomputable def callx (P : Program) (pr : Prim) (call : Oracle) (f : FuncId) (args : List Value) (h : H) : Option (Value × H) :=
  match pr.val f args with
  | some v => some (v, h)
  | none => match pr.tel f args h with
    | some r => cond (Nat.ble h.next r.2.next) (some r) none
    | none => match enterx P f args with
      | some fr => call fr h
      | none => none

noncomputable def wantx (ops : List Oper) (t : Tm) (o : Oper) : Bool :=
  match o.guard with
  | none => true
  | some (j, b) => match ((ops[j]?).bind (·.dst)).bind t.get with
    | some (.bool c) => c == b
    | _ => false

noncomputable def setx (nt : Nat) (t : Tm) (d : Option Tmp) (v : Value) : Option Tm :=
  match d with
  | some d => cond (Nat.blt d nt) (some (t.put d v)) none
  | none => some t

structure St where
  t : Tm
  ds : List Deferred
  h : H

noncomputable def resx (P : Program) (pr : Prim) (call : Oracle) (rnd : Option Nat) (s : St) : Res × H → Option (Value × List Deferred × H)
  | (.val v, h) => some (v, s.ds, h)
  | (.enter f args, h) => match callx P pr call f args h with
    | some r => some (r.1, s.ds, r.2)
    | none => none
  | (.round l args, h) => match roundx h l args with
    | some fr => match call fr h with
      | some r => some (r.1, s.ds, r.2)
      | none => none
    | none => none
  | (.defer d, h) => match rnd with
    | none => some (undef, d :: s.ds, h)
    | some _ => none

noncomputable def doOp (P : Program) (pr : Prim) (call : Oracle) (rnd : Option Nat) (nt : Nat) (all : List Oper) (o : Oper) (s : St) : Option St :=
  cond (wantx all s.t o)
    (match cond (o.op.operands.toList.all (okO P)) (opx P s.t s.h o.op) none with
     | some r => match resx P pr call rnd s r with
       | some (v, ds, h) => (setx nt s.t o.dst v).map fun t => ⟨t, ds, h⟩
       | none => none
     | none => none)
    ((setx nt s.t o.dst undef).map fun t => ⟨t, s.ds, s.h⟩)

noncomputable def opsx (P : Program) (pr : Prim) (call : Oracle) (rnd : Option Nat) (nt : Nat) (all : List Oper) : List Oper → St → Option St
  | [], s => some s
  | o :: os, s => match doOp P pr call rnd nt all o s with
    | some s => opsx P pr call rnd nt all os s
    | none => none

/-- The states behind each operation. -/
noncomputable def tracex (P : Program) (pr : Prim) (call : Oracle) (rnd : Option Nat) (nt : Nat) (all : List Oper) : List Oper → St → Option (List St)
  | [], s => some [s]
  | o :: os, s => match doOp P pr call rnd nt all o s with
    | some s' => (tracex P pr call rnd nt all os s').map (s :: ·)
    | none => none

/-- A value's own equality (true: they are one). -/
noncomputable def veq1 : Value → Value → Bool
  | .bool a, .bool b => a == b
  | .int j a, .int k b => decide (j = k) && a == b
  | .string a, .string b => bytesEq a.data.toList b.data.toList
  | .pointer a, .pointer b => decide (a = b)
  | .slice a l c, .slice b m d => decide (a = b) && Nat.beq l m && Nat.beq c d
  | .map a, .map b => decide (a = b)
  | .nilIface, .nilIface => true
  | .nilFunc, .nilFunc => true
  | _, _ => false
noncomputable def veqs (f : Value → Value → Bool) : List Value → List Value → Bool
  | [], [] => true
  | a :: x, b :: y => cond (f a b) (veqs f x y) false
  | _, _ => false
noncomputable def veqN : Nat → Value → Value → Bool
  | 0, a, b => veq1 a b
  | n + 1, .agg a, .agg b => veqs (veqN n) a.toList b.toList
  | n + 1, .tuple a, .tuple b => veqs (veqN n) a.toList b.toList
  | _ + 1, a, b => veq1 a b
noncomputable def veq (a b : Value) : Bool := veqN 3 a b

noncomputable def lookx (all : List Oper) (o : Oper) : List Tmp :=
  (o.op.operands.toList.filterMap fun | .tmp t => some t | _ => none) ++
  (match o.guard with
   | some (g, _) => ((all[g]?).bind (·.dst)).toList
   | none => [])

noncomputable def hasT (d : Option Tmp) (l : List Tmp) : Bool := match d with | some d => l.contains d | none => false

/-- Two operations, the first ahead of the second and not waited for by it, may change places as far as temporaries go, and as far as kinds go. -/
noncomputable def apartx (all : List Oper) (a b : Oper) (ca cb : Nat) : Bool :=
  !hasT a.dst (lookx all b) && !hasT b.dst (lookx all a) && !(a.dst.isSome && decide (a.dst = b.dst)) && !(Nat.beq cb 3 && (Nat.beq ca 2 || Nat.beq ca 3))

noncomputable def pairsOk (all : List Oper) (cl bf : List Nat) : Nat → List Oper → Bool
  | _, [] => true
  | j, b :: bs =>
    let m := bf.getD j 0
    let cb := cl.getD j 0
    (go b m cb 0 (all.take j) cl) && pairsOk all cl bf (j + 1) bs
where go (b : Oper) (m cb : Nat) : Nat → List Oper → List Nat → Bool
  | i, a :: as, c :: cs => (m.testBit i || apartx all a b c cb) && go b m cb (i + 1) as cs
  | _, [], _ => true
  | _, _ :: _, [] => false

noncomputable def dstsOk : List Oper → Bool
  | [] => true
  | o :: os => (match o.dst with | none => true | some d => os.all fun p => match p.dst with | none => true | some e => !(Nat.beq e d)) && dstsOk os

noncomputable def edgesOk : Nat → List Oper → Bool
  | _, [] => true
  | i, o :: os => o.after.toList.all (fun e => !Region.binds .any e || Nat.blt e.on i) && edgesOk (i + 1) os

noncomputable def staticOk (P : Program) (ops : Array Oper) : Bool :=
  edgesOk 0 ops.toList && dstsOk ops.toList && pairsOk ops.toList (ops.toList.map fun o => clsx P o.op) (Region.before ops).toList 0 ops.toList

/-- May an operation j come up where just the class-3 operations ahead of E have come up? -/
noncomputable def feasx (bf : List Nat) (j E : Nat) : Nat → List Nat → Bool
  | _, [] => true
  | y, c :: cs => (!(Nat.beq c 3) || cond (Nat.blt y E) (!(bf.getD y 0).testBit j) (!(bf.getD j 0).testBit y)) && feasx bf j E (y + 1) cs

/-- It reads the same at the beginning of each such stretch. -/
noncomputable def readAll (P : Program) (cl bf : List Nat) (j : Nat) (o : Op) (t : Tm) (v : Value) : Nat → Bool → List Nat → List St → Bool
  | E, ep, cs, s :: ss => (!(ep && feasx bf j E 0 cl) || (match opL P t s.h o with | some u => veq u v | none => false)) &&
    (match cs with
     | c :: cs' => readAll P cl bf j o t v (E + 1) (Nat.beq c 3) cs' ss
     | [] => true)
  | _, _, _, [] => true

noncomputable def allReads (P : Program) (all : List Oper) (cl bf : List Nat) (tr : List St) : Nat → List Oper → List St → Bool
  | i, o :: os, s :: ss =>
    (!(Nat.beq (clsx P o.op) 1) || !(wantx all s.t o) ||
      (match opL P s.t s.h o.op with
       | some v => readAll P cl bf i o.op s.t v 0 true cl tr
       | none => false)) && allReads P all cl bf tr (i + 1) os ss
  | _, [], _ => true
  | _, _ :: _, [] => false

noncomputable def lastx : List St → Option St
  | [] => none
  | [s] => some s
  | _ :: l => lastx l

noncomputable def drawTr (P : Program) (pr : Prim) (call : Oracle) (rnd : Option Nat) (nt : Nat) (ops : Array Oper) (s : St) : Option St :=
  match tracex P pr call rnd nt ops.toList ops.toList s with
  | some tr => cond (allReads P ops.toList (ops.toList.map fun o => clsx P o.op) (Region.before ops).toList tr 0 ops.toList tr) (lastx tr) none
  | none => none

/-- The place of a number in a list. -/
noncomputable def posN : List Nat → Nat → Nat
  | [], _ => 0
  | x :: l, i => cond (Nat.beq x i) 0 (posN l i + 1)
noncomputable def hasN : List Nat → Nat → Bool
  | [], _ => false
  | x :: l, i => cond (Nat.beq x i) true (hasN l i)
/-- An operation whose edges are told by places in another order. -/
noncomputable def ren (ι : Nat → Nat) (o : Oper) : Oper := { o with after := o.after.map fun e => { e with on := ι e.on } }
noncomputable def permx (ops : List Oper) (pm : List Nat) : List Oper := pm.map fun i => ren (posN pm) ((nthR ops i).getD ⟨none, .assign (.const undef), 0, "", #[], none⟩)
noncomputable def placesOk (n : Nat) (pm : List Nat) : Nat → List Nat → Bool
  | _, [] => true
  | p, x :: l => cond (Nat.blt x n && Nat.beq (posN pm x) p) (placesOk n pm (p + 1) l) false
noncomputable def allN (pm : List Nat) : Nat → Bool
  | 0 => true
  | n + 1 => cond (hasN pm n) (allN pm n) false
noncomputable def permOk (ops : List Oper) (pm : List Nat) : Bool :=
  Nat.beq pm.length ops.length && placesOk ops.length pm 0 pm && allN pm ops.length && ops.all fun o => o.guard.isNone && o.after.toList.all fun e => Nat.blt e.on ops.length
noncomputable def pick1 (bf : List Nat) (done : Nat) (two : Bool) : Nat → List Nat → Option Nat
  | _, [] => none
  | i, c :: cs => cond (!done.testBit i && Nat.beq (Nat.land (bf.getD i 0) done) (bf.getD i 0) && (two || !Nat.beq c 2)) (some i) (pick1 bf done two (i + 1) cs)
/-- Does something that changes memory wait for it? -/
noncomputable def need3 (bf : List Nat) (done i : Nat) : Nat → List Nat → Bool
  | _, [] => false
  | j, c :: cs => cond (Nat.beq c 3 && !done.testBit j && (bf.getD j 0).testBit i) true (need3 bf done i (j + 1) cs)
noncomputable def pick2 (cl bf : List Nat) (done : Nat) : Nat → List Nat → Option Nat
  | _, [] => none
  | i, _ :: cs => cond (!done.testBit i && Nat.beq (Nat.land (bf.getD i 0) done) (bf.getD i 0) && need3 bf done i 0 cl) (some i) (pick2 cl bf done (i + 1) cs)
noncomputable def pickGo (cl bf : List Nat) : Nat → Nat → List Nat
  | 0, _ => []
  | f + 1, done => match pick1 bf done false 0 cl with
    | some i => i :: pickGo cl bf f (Nat.lor done (2 ^ i))
    | none => match pick2 cl bf done 0 cl with
      | some i => i :: pickGo cl bf f (Nat.lor done (2 ^ i))
      | none => match pick1 bf done true 0 cl with
        | some i => i :: pickGo cl bf f (Nat.lor done (2 ^ i))
        | none => []
/-- An order in which what lays a block comes as late as it may. -/
noncomputable def pickPm (P : Program) (ops : Array Oper) : List Nat := pickGo (ops.toList.map fun o => clsx P o.op) (Region.before ops).toList ops.toList.length 0
noncomputable def drawPm (P : Program) (pr : Prim) (call : Oracle) (rnd : Option Nat) (nt : Nat) (ops : Array Oper) (pm : List Nat) (s : St) : Option St :=
  cond (permOk ops.toList pm && staticOk P ⟨permx ops.toList pm⟩) (drawTr P pr call rnd nt ⟨permx ops.toList pm⟩ s) none
noncomputable def drawx (P : Program) (pr : Prim) (call : Oracle) (rnd : Option Nat) (nt : Nat) (ops : Array Oper) (s : St) : Option St :=
  cond (staticOk P ops) (drawTr P pr call rnd nt ops s) (drawPm P pr call rnd nt ops (pickPm P ops) s)

inductive Out where
  | more (fr : Fr) (h : H)
  | done (v : Value) (h : H)

noncomputable def resultsx (P : Program) (h : H) (t : Tm) : List ResultVar → Option (List Value)
  | [] => some []
  | .tmp n :: rs => (resultsx P h t rs).map (((t.get n).getD undef) :: ·)
  | .cell a ty :: rs => match (t.get a).getD undef with
    | .pointer (some a) => match loadx P h ty a with
      | some v => (resultsx P h t rs).map (v :: ·)
      | none => none
    | _ => none

noncomputable def packx : List Value → Value
  | [v] => v
  | vs => .tuple ⟨vs⟩

noncomputable def unwindx (P : Program) (pr : Prim) (call : Oracle) (fr : Fr) (h : H) : Option Out :=
  match fr.defers with
  | [] => match funx P fr.fn with
    | some fn => (resultsx P h fr.tmps fn.results.toList).map fun vs => .done (packx vs) h
    | none => none
  | { target := .collected b, args := _ } :: ds => match h.objs.get b with
    | some (.deferred (some l)) => some (.more { fr with defers := l ++ ds } (h.put b (.deferred none)))
    | _ => none
  | { target := .fn (.func g) cap, args := as } :: ds => match pr.val g (as.toList ++ cap.toList) with
    | some _ => none
    | none => match enterx P g (as.toList ++ cap.toList) with
      | some fr2 => match call fr2 h with
        | some r => some (.more { fr with defers := ds } r.2)
        | none => none
      | none => none
  | _ => none

noncomputable def leavex (fr : Fr) (h : H) (j : Option Code) : Option Out :=
  match fr.round with
  | none => match j with
    | none | some .ret => some (.more { fr with ret := true } h)
    | _ => none
  | some l => match h.objs.get l with
    | some (.loop r) => some (.done (.bool j.isNone) (h.put l (.loop { r with state := cond j.isNone .ready .done, pending := j })))
    | _ => none

noncomputable def rangex1 (P : Program) (pr : Prim) (call : Oracle) (fr : Fr) (k : List Item) (f : Operand) (ps : Array Tmp) (a b : Code) (h : H) (d : Nat) (ds : List Deferred) : Option Out :=
  match cond (okO P f) (evx fr.tmps f) undef with
  | .func (.func g) first cap => match pr.val g (first.toList ++ [.func (.yield h.next) #[] #[]] ++ cap.toList) with
    | some _ => none
    | none => match enterx P g (first.toList ++ [.func (.yield h.next) #[] #[]] ++ cap.toList) with
      | some fr2 => match call fr2 (h.new (.loop { state := .ready, pending := none, fn := fr.fn, nt := fr.nt, tmps := fr.tmps, params := ps.toList, assign := a, body := b, defers := d })) with
        | some r => match r.2.objs.get h.next with
          | some (.loop q) => cond (decide (q.state = LoopState.busy)) none
            (some (.more { fr with defers := ds, todo := (q.pending.map Item.code).toList ++ k } (r.2.put h.next .dead)))
          | _ => none
        | none => none
      | none => none
  | _ => none
noncomputable def rangex0 (P : Program) (pr : Prim) (call : Oracle) (fr : Fr) (k : List Item) (f : Operand) (ps : Array Tmp) (a b : Code) (h : H) : Option Out :=
  match fr.round with
  | none => rangex1 P pr call fr k f ps a b (h.new (.deferred (some []))) h.next ({ target := .collected h.next, args := #[] } :: fr.defers)
  | some l => match h.objs.get l with
    | some (.loop r) => rangex1 P pr call fr k f ps a b h r.defers fr.defers
    | _ => none
noncomputable def beginx (fr : Fr) (k : List Item) (h : H) : Option Out :=
  match fr.round with
  | some l => match h.objs.get l with
    | some (.loop r) => cond (decide (r.state = LoopState.ready)) (some (.more { fr with todo := k } (h.put l (.loop { r with state := LoopState.busy })))) none
    | _ => none
  | none => none
noncomputable def goto (fr : Fr) (h : H) (k : List Item) : Option Out := some (.more { fr with todo := k } h)
noncomputable def condx (fr : Fr) (h : H) (k : List Item) (a b : Code) : Value → Option Out
  | .bool t => goto fr h (.code (cond t a b) :: k)
  | _ => none
noncomputable def exitx (fr : Fr) (h : H) (c : Code) : Option (List Item) → Option Out
  | some k => goto fr h k
  | none => leavex fr h (some c)
noncomputable def behind (fr : Fr) (k : List Item) : Option St → Option Out
  | some s => some (.more { fr with tmps := s.t, defers := s.ds, todo := k } s.h)
  | none => none
noncomputable def regionx (P : Program) (pr : Prim) (call : Oracle) (fr : Fr) (h : H) (k : List Item) (ops : Array Oper) (d : Bool) : Option Out :=
  behind fr k (cond d (drawx P pr call fr.round fr.nt ops ⟨fr.tmps, fr.defers, h⟩) (opsx P pr call fr.round fr.nt ops.toList ops.toList ⟨fr.tmps, fr.defers, h⟩))
noncomputable def codex (P : Program) (pr : Prim) (call : Oracle) (fr : Fr) (h : H) (k : List Item) : Code → Option Out
  | .skip => goto fr h k
  | .region _ ops d => regionx P pr call fr h k ops d
  | .seq a b => goto fr h (.code a :: .code b :: k)
  | .cond c a b => condx fr h k a b (cond (okO P c) (evx fr.tmps c) undef)
  | .block id b => goto fr h (.code b :: .inBlock id :: k)
  | .loop b => goto fr h (.code b :: .inLoop b :: k)
  | .rangeFunc f ps a b => rangex0 P pr call fr k f ps a b h
  | .exit id => exitx fr h (.exit id) (exitTo id k)
  | .scope b => goto fr h (.code b :: .inScope b :: k)
  | .label _ => goto fr h k
  | .goto l => exitx fr h (.goto l) (gotoIn l k)
  | .ret => leavex fr h (some .ret)
  | .refuse _ => none
noncomputable def itemx (P : Program) (pr : Prim) (call : Oracle) (fr : Fr) (h : H) : List Item → Option Out
  | [] => leavex fr h none
  | i :: k => match i with
    | .code c => codex P pr call fr h k c
    | .inBlock _ => goto fr h k
    | .inScope _ => goto fr h k
    | .inLoop b => goto fr h (.code b :: .inLoop b :: k)
    | .beginRound => beginx fr k h
    | _ => none
noncomputable def stepx (P : Program) (pr : Prim) (call : Oracle) (fr : Fr) (h : H) : Option Out :=
  cond fr.ret (unwindx P pr call fr h) (itemx P pr call fr h fr.todo)

noncomputable def runx (P : Program) (pr : Prim) (call : Oracle) : Nat → Fr → H → Option (Value × H)
  | 0, _, _ => none
  | n + 1, fr, h => match stepx P pr call fr h with
    | some (.more fr h) => runx P pr call n fr h
    | some (.done v h) => some (v, h)
    | none => none

noncomputable def callN (P : Program) (pr : Prim) (steps : Nat) : Nat → Oracle
  | 0, _, _ => none
  | d + 1, fr, h => runx P pr (callN P pr steps d) steps fr h

end Go.Ev
