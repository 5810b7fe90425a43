/- What the evaluator's checks are made of: equality of memories, memories as changes of others, told calls. -/
import Derived.Test.YtofnnpchobgapaaGreatDoorEvDef
import Derived.OpenShut
set_option linter.unusedSimpArgs false
set_option linter.unusedVariables false
namespace Go.Ev
open Go

noncomputable def aeq : Option Addr → Option Addr → Bool
  | none, none => true
  | some ⟨b, o, none⟩, some ⟨c, p, none⟩ => cond (Nat.beq b c) (Nat.beq o p) false
  | _, _ => false
noncomputable def ieq : Int → Int → Bool
  | .ofNat a, .ofNat b => Nat.beq a b
  | .negSucc a, .negSucc b => Nat.beq a b
  | _, _ => false
noncomputable def vs1 : Value → Value → Bool
  | .bool a, .bool b => cond a b (cond b false true)
  | .int j a, .int k b => cond (Nat.beq (kindNo j) (kindNo k)) (ieq a b) false
  | .string a, .string b => bytesEq a.data.toList b.data.toList
  | .pointer a, .pointer b => aeq a b
  | .slice a l c, .slice b m d => cond (aeq a b) (cond (Nat.beq l m) (Nat.beq c d) false) false
  | .map none, .map none => true
  | .map (some a), .map (some b) => Nat.beq a b
  | .nilIface, .nilIface => true
  | .nilFunc, .nilFunc => true
  | _, _ => false
noncomputable def feq : Fn → Fn → Bool
  | .func f, .func g => Nat.beq f g
  | _, _ => false
noncomputable def vsN : Nat → Value → Value → Bool
  | 0, a, b => vs1 a b
  | n + 1, .agg a, .agg b => veqs (vsN n) a.toList b.toList
  | n + 1, .tuple a, .tuple b => veqs (vsN n) a.toList b.toList
  | n + 1, .iface t a, .iface u b => cond (Nat.beq t u) (vsN n a b) false
  | n + 1, .func f a b, .func g c d => cond (feq f g) (cond (veqs (vsN n) a.toList c.toList) (veqs (vsN n) b.toList d.toList) false) false
  | _ + 1, a, b => vs1 a b
noncomputable def meqs : List MapEntry → List MapEntry → Bool
  | [], [] => true
  | a :: x, b :: y => cond (Nat.beq a.born b.born) (cond (vsN 60 a.key b.key) (cond (vsN 60 a.val b.val) (meqs x y) false) false) false
  | _, _ => false
noncomputable def sameO : AObj → AObj → Bool
  | .cells a e, .cells b f => cond (Nat.beq e f) (veqs (vsN 60) a b) false
  | .ro a, .ro b => veqs (vsN 60) a b
  | .map a c, .map b d => cond (Nat.beq c d) (meqs a b) false
  | .deferred none, .deferred none => true
  | .deferred (some []), .deferred (some []) => true
  | .dead, .dead => true
  | _, _ => false
noncomputable def sameOo : Option AObj → Option AObj → Bool
  | none, none => true
  | some a, some b => sameO a b
  | _, _ => false
noncomputable def isNil : Tr AObj → Bool
  | .nil => true
  | .node _ _ _ => false
noncomputable def atNode (f : Tr AObj → Option AObj → Tr AObj → Bool) : Tr AObj → Bool
  | .nil => false
  | .node l v r => f l v r
noncomputable def sameTr (t : Tr AObj) : Tr AObj → Bool :=
  Tr.rec (motive := fun _ => Tr AObj → Bool) isNil (fun _ v _ sl sr => atNode fun l' v' r' => cond (sameOo v v') (cond (sl l') (sr r') false) false) t
noncomputable def sameH (a b : H) : Bool := cond (Nat.beq a.next b.next) (sameTr a.objs b.objs) false

noncomputable def isDone (t : Tr AObj) (i : Nat) : Bool := match t.get i with | some _ => true | none => false
/-- (What is laid is looked at once: so nothing waits.) -/
noncomputable def updT : List (Nat × AObj) → Tr AObj → Tr AObj
  | [], t => t
  | q :: l, t => cond (isDone (t.put q.1 q.2) q.1) (updT l (t.put q.1 q.2)) .nil
/-- A memory as a change of another. -/
noncomputable def H.upd (h : H) (n : Nat) (l : List (Nat × AObj)) : H := ⟨n, updT l h.objs⟩

noncomputable def updL : List AObj → Nat → Tr AObj → Tr AObj
  | [], _, t => t
  | o :: l, i, t => cond (isDone (t.put i o) i) (updL l (i + 1) (t.put i o)) .nil
noncomputable def updRs : List (Nat × List AObj) → Tr AObj → Tr AObj
  | [], t => t
  | q :: l, t => updRs l (updL q.2 q.1 t)
/-- A memory as a change of another, by runs. -/
noncomputable def H.upr (h : H) (n : Nat) (l : List (Nat × List AObj)) : H := ⟨n, updRs l h.objs⟩

/-- Values, in short. -/
noncomputable def vi (n : Nat) : Value := .int .i64 (.ofNat n)
noncomputable def vj (n : Nat) : Value := .int .i64 (.negSucc n)
noncomputable def vb (n : Nat) : Value := .int .u8 (.ofNat n)
noncomputable def vk (k : IntKind) (n : Nat) : Value := .int k (.ofNat n)
noncomputable def vp (b o : Nat) : Value := .pointer (some ⟨b, o, none⟩)
noncomputable def v0 : Value := .pointer none
noncomputable def vl (b o l c : Nat) : Value := .slice (some ⟨b, o, none⟩) l c
noncomputable def ve : Value := .slice none 0 0
noncomputable def vs (l : List Nat) : Value := .string ⟨⟨l.map UInt8.ofNat⟩⟩
noncomputable def vt : Value := .bool true
noncomputable def vf : Value := .bool false
noncomputable def vm (n : Nat) : Value := .map (some n)

/-- What the evaluator reckons of a call with plain arguments and a plain answer. -/
noncomputable def ansv (P : Program) (pr : Prim) (steps d : Nat) (h : H) (f : FuncId) (args : List Value) : Option Value :=
  match enterx P f args with
  | some fr => match callN P pr steps d fr h with
    | some (v, _) => some v
    | none => none
  | none => none
noncomputable def ansb (P : Program) (pr : Prim) (steps d : Nat) (h : H) (f : FuncId) (args : List Value) : Bool :=
  match ansv P pr steps d h f args with
  | some (.bool b) => b
  | _ => false
/-- No call told of one memory. -/
noncomputable def bare (val : FuncId → List Value → Option Value) : Prim := ⟨val, fun _ _ _ => none⟩
/-- One told call more. -/
noncomputable def addP (pr : Prim) (f : FuncId) (v : Value) : Prim := ⟨fun g args => match Nat.beq g f, args with
  | true, [] => some v
  | _, _ => pr.val g args, pr.tel⟩
/-- One more call that is told of one memory. -/
noncomputable def addH (pr : Prim) (f : FuncId) (as : List Value) (h : H) (v : Value) (h' : H) : Prim :=
  ⟨pr.val, fun g args k => cond (Nat.beq g f) (cond (veqs (vsN 60) as args) (cond (sameH h k) (some (v, h')) (pr.tel g args k)) (pr.tel g args k)) (pr.tel g args k)⟩
noncomputable def endsIn (v : Value) (h' : H) : Option (Value × H) → Bool
  | some (u, k) => cond (vsN 60 v u) (sameH h' k) false
  | none => false
/-- The check of such a call. -/
noncomputable def okTell (P : Program) (pr : Prim) (steps d : Nat) (f : FuncId) (as : List Value) (h : H) (v : Value) (h' : H) : Bool :=
  match enterx P f as with
  | some fr => endsIn v h' (callN P pr steps d fr h)
  | none => false
/-- Are these objects in a memory? -/
noncomputable def inL (t : Tr AObj) : List AObj → Nat → Bool
  | [], _ => true
  | o :: l, i => cond (sameOo (some o) (t.get i)) (inL t l (i + 1)) false
noncomputable def inRs (t : Tr AObj) : List (Nat × List AObj) → Bool
  | [] => true
  | q :: l => cond (inL t q.2 q.1) (inRs t l) false
noncomputable def lowRs (n : Nat) : List (Nat × List AObj) → Bool
  | [] => true
  | q :: l => cond (Nat.ble (q.1 + q.2.length) n) (lowRs n l) false
/-- What lives in the one is in the other. -/
noncomputable def subO : Option AObj → Option AObj → Bool
  | none, _ => true
  | some .dead, _ => true
  | some o, some o' => sameO o o'
  | some _, none => false
noncomputable def subTr (t : Tr AObj) : Tr AObj → Bool :=
  Tr.rec (motive := fun _ => Tr AObj → Bool) (fun _ => true) (fun _ v _ sl sr => atNode fun l' v' r' => cond (subO v v') (cond (sl l') (sr r') false) false) t
/-- One more call that is told of a part of a memory: it looks at the objects l alone, and d are those that it changes and makes. -/
noncomputable def addF (pr : Prim) (f : FuncId) (as : List Value) (n : Nat) (l : List (Nat × List AObj)) (v : Value) (m : Nat) (d : List (Nat × List AObj)) : Prim :=
  ⟨pr.val, fun g args k => cond (Nat.beq g f) (cond (Nat.beq k.next n) (cond (veqs (vsN 60) as args) (cond (inRs k.objs l) (some (v, k.upr m d)) (pr.tel g args k)) (pr.tel g args k)) (pr.tel g args k)) (pr.tel g args k)⟩
noncomputable def endsPart (v : Value) (m : Nat) (t : Tr AObj) : Option (Value × H) → Bool
  | some (u, k) => cond (vsN 60 v u) (cond (Nat.beq k.next m) (subTr t k.objs) false) false
  | none => false
/-- The check of such a call. -/
noncomputable def okPart (P : Program) (pr : Prim) (steps dd : Nat) (f : FuncId) (as : List Value) (n : Nat) (l : List (Nat × List AObj)) (v : Value) (m : Nat) (d : List (Nat × List AObj)) : Bool :=
  cond (lowRs m d) (match enterx P f as with
  | some fr => endsPart v m (updRs d (updRs l .nil)) (callN P pr steps dd fr ⟨n, updRs l .nil⟩)
  | none => false) false
end Go.Ev
namespace Go.Ev
open Go
/-- A literal's cell. -/
noncomputable def litv : DataW Unit → Value
  | .lit (.bool b) => .bool b
  | .lit (.int k n) => .int k n
  | .lit (.string s) => .string ⟨⟨s⟩⟩
  | _ => .nilIface

/-- Rows behind a table of slices: each takes a number. -/
noncomputable def layRows (l : List (List (DataW Unit))) (h : H) : List Value × H :=
  List.rec (motive := fun _ => H → List Value × H) (fun h => ([], h)) (fun ds _ ih h => ((Value.slice (some ⟨h.next, 0, none⟩) ds.length (2 * ds.length)) :: (ih (h.new (.ro (ds.map litv)))).1, (ih (h.new (.ro (ds.map litv)))).2)) l h

noncomputable def parts : DataW Unit → List (DataW Unit)
  | .agg ds => ds
  | _ => []
noncomputable def elems : DataW Unit → List (DataW Unit)
  | .slice ds _ => ds
  | _ => []
noncomputable def putL (g : Nat) (d : DataW Unit) (h : H) : H := h.put g (.ro ((parts d).map litv))
noncomputable def putR (g : Nat) (d : DataW Unit) (h : H) : H := (layRows ((parts d).map elems) h).2.put g (.ro (layRows ((parts d).map elems) h).1)

/-- A table of structs of literals. -/
noncomputable def putA (g : Nat) (d : DataW Unit) (h : H) : H := h.put g (.ro ((parts d).flatMap fun x => (parts x).map litv))

/-- What Go's library tells of strings, as functions over bytes. -/
noncomputable def firstB (c : Nat) : Nat → List UInt8 → Int
  | _, [] => -1
  | i, b :: l => cond (Nat.beq b.toNat c) (.ofNat i) (firstB c (i + 1) l)
noncomputable def countB (c : Nat) : Nat → List UInt8 → Nat
  | n, [] => n
  | n, b :: l => cond (Nat.beq b.toNat c) (countB c (n + 1) l) (countB c n l)
noncomputable def prefB : List UInt8 → List UInt8 → Bool
  | [], _ => true
  | _ :: _, [] => false
  | a :: p, b :: s => cond (Nat.beq a.toNat b.toNat) (prefB p s) false
noncomputable def digB : Nat → Nat → List UInt8 → List UInt8
  | 0, _, acc => acc
  | f + 1, n, acc => cond (Nat.blt n 10) (UInt8.ofNat (48 + n) :: acc) (digB f (n / 10) (UInt8.ofNat (48 + n % 10) :: acc))
noncomputable def itoaB : Int → List UInt8
  | .ofNat n => digB 20 n []
  | .negSucc n => 45 :: digB 20 (n + 1) []
noncomputable def inI64 : Int → Bool
  | .ofNat n => Nat.ble n 9223372036854775807
  | .negSucc n => Nat.ble n 9223372036854775807
/-- copyCheck, told. -/
noncomputable def copyV (b : Nat) (h : H) : Value → Option (Value × H)
  | .pointer none => (h.over ⟨b, 0, none⟩ [.pointer (some ⟨b, 0, none⟩)]).map fun h => (.tuple #[], h)
  | .pointer (some ⟨b', 0, none⟩) => cond (Nat.beq b b') (some (.tuple #[], h)) none
  | _ => none
noncomputable def copyO (E L b : Nat) (h : H) : Option AObj → Option (Value × H)
  | some (.cells (c :: cs) e) => cond (Nat.beq e E && Nat.beq (cs.length + 1) L) (copyV b h c) none
  | _ => none
noncomputable def copyT (E L : Nat) (h : H) : List Value → Option (Value × H)
  | [.pointer (some ⟨b, 0, none⟩)] => copyO E L b h (h.objs.get b)
  | _ => none

/-- String, told. -/
noncomputable def strR (q o n : Nat) (U : Nat) (h : H) : Option AObj → Option (Value × H)
  | some (.cells l e) => cond (Nat.beq e U && Nat.ble 1 n && Nat.ble n 1000000) ((rangex l o n).bind fun r => (bytesT r).map fun s => (.string ⟨⟨s⟩⟩, h.put q (.ro l))) none
  | _ => none
noncomputable def strV (U : Nat) (h : H) : Value → Option (Value × H)
  | .slice none 0 0 => some (.string ⟨⟨[]⟩⟩, h)
  | .slice (some ⟨q, o, none⟩) n _ => strR q o n U h (h.objs.get q)
  | _ => none
noncomputable def strO (E L U : Nat) (h : H) : Option AObj → Option (Value × H)
  | some (.cells (_ :: c :: cs) e) => cond (Nat.beq e E && Nat.beq (cs.length + 2) L) (strV U h c) none
  | _ => none
noncomputable def strT (E L U : Nat) (h : H) : List Value → Option (Value × H)
  | [.pointer (some ⟨b, 0, none⟩)] => strO E L U h (h.objs.get b)
  | _ => none

/-- internal/bytealg.MakeNoZero, told: its bytes are not known. -/
noncomputable def makeT (U : Nat) (h : H) : List Value → Option (Value × H)
  | [.int .i64 (.ofNat n)] => cond (Nat.ble n 1000000) (some (.slice (some ⟨h.next, 0, none⟩) n 1, h.new (.cells [] U))) none
  | _ => none

noncomputable def orT (a b : Option (Value × H)) : Option (Value × H) := match a with
  | some x => some x
  | none => b
end Go.Ev
