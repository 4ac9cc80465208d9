import PyProof.Rows.All
import HandS.ForMost
import HandS.Words
import HandS.WordsExc
import HandS.Defaults
import HandS.Wide
import HandS.Gcd
import HandS.TupAny
import HandS.IsInst
import HandS.TupLe
import HandS.Deep
import HandS.Zip
import HandS.RevRange
import HandS.Flow
import HandS.Small
import HandS.Conv
import HandS.CallSlots
import HandS.Star
import HandS.MethStar
import HandS.TryOnly
import HandS.HeadWalk
import HandS.Style
import KE.KStateDown
import Lean
import HandS.Head0
import HandS.Head1
import HandS.Head2
import HandS.Head3
import HandS.HeadEnd
import HandS.HeadHook1
import HandS.HeadHook2
import PySem.Challenge.RW_linkedfaults_k39_whole_stays
section
set_option Elab.async false
set_option linter.all false
set_option maxRecDepth 100000
/-! values, states, an own syntax and what it comes to -/
set_option autoImplicit false
namespace Z
open PySem L2

/-- data: trees that never change -/
inductive T where
  | non | bl (b : Bool) | int (i : Int) | str (s : Str) | ty (n : String) | cls (c : Nat)
  | tup (ds : List T) | lst (ds : List T)
  | dk (kvs : List (Key × T)) | dt (kvs : List (List Key × T))
  | ins (c : Nat) (fs : List (Str × T))
  | scr (ns : List Int)
/-- a value: data, or one of the changing objects -/
inductive D where
  | t (x : T) | c (n : Nat)
/-- what a changing object holds: nothing any more, a list, a list that is walked, an instance -/
inductive C where
  | x | l (ds : List D) | lk (ds : List D) | i (c : Nat) (fs : List (Str × T))
abbrev S := List C
abbrev Sl := List (Option D)

inductive R (α : Type) where
  | ok (a : α) (s : S) | ex (c : Nat) (fs : List (Str × T)) (s : S) | no
def R.bind {α β : Type} : R α → (α → S → R β) → R β
  | .ok a s, k => k a s
  | .ex c fs s, _ => .ex c fs s
  | .no, _ => .no
/-- within a comprehension nothing is let out -/
def R.hold {α : Type} : R α → R α
  | .ex _ _ _ => .no
  | r => r
def R.of {α : Type} (o : Option α) (s : S) : R α := match o with
  | some a => .ok a s
  | none => .no

/-! ### what operators come to -/
mutual
def py : T → PyData
  | .non => .none
  | .bl b => .bool b
  | .int i => .int i
  | .str s => .str s
  | .tup ds => .tuple (pys ds)
  | .lst ds => .list (pys ds)
  | _ => .none
termination_by structural x => x
def pys : List T → List PyData
  | [] => []
  | d :: ds => py d :: pys ds
termination_by structural x => x
end
mutual
/-- data of the kinds that == and in read -/
def isD : T → Bool
  | .non => true
  | .bl _ => true
  | .int _ => true
  | .str _ => true
  | .tup ds => isDs ds
  | .lst ds => isDs ds
  | _ => false
termination_by structural x => x
def isDs : List T → Bool
  | [] => true
  | d :: ds => isD d && isDs ds
termination_by structural x => x
end
def cmpable (x : T) : Bool := isD x && SeqAt.shaped (py x)
def eqT (x y : T) : Option Bool := if cmpable x && cmpable y then some (PyData.eqv (py x) (py y)) else none
def isNon : T → Bool
  | .non => true
  | _ => false
def isT : T → T → Option Bool
  | x, .non => some (isNon x)
  | .bl a, .bl b => some (decide (a = b))
  | _, _ => none
def inT : T → T → Option Bool
  | x, .lst ds => if cmpable x && cmpable (.lst ds) then some (ds.any fun y => PyData.eqv (py y) (py x)) else none
  | x, .tup ds => if cmpable x && cmpable (.tup ds) then some (ds.any fun y => PyData.eqv (py y) (py x)) else none
  | _, _ => none
def binT : Operator → T → T → Option T
  | .Add, .int i, .int j => some (.int (i + j))
  | .Add, .str a, .str b => if a.length + b.length ≤ sizeLine then some (.str (a ++ b)) else none
  | .Add, .lst a, .lst b => if a.length + b.length ≤ sizeLine then some (.lst (a ++ b)) else none
  | .Add, .tup a, .tup b => if a.length + b.length ≤ sizeLine then some (.tup (a ++ b)) else none
  | .Sub, .int i, .int j => some (.int (i - j))
  | .Mult, .int i, .int j => if i.natAbs.log2 + j.natAbs.log2 < 1000000 then some (.int (i * j)) else none
  | .Mult, .lst a, .int k => if -9223372036854775808 ≤ k ∧ k < 9223372036854775808 ∧ a.length * k.toNat ≤ sizeLine then some (.lst (List.replicate k.toNat a).flatten) else none
  | .FloorDiv, .int i, .int j => if 0 < j ∧ j.natAbs.log2 < 9000 then some (.int (i / j)) else none
  | .Mod, .int i, .int j => if 0 < j then some (.int (i % j)) else none
  | .Pow, .int i, .int j => if 0 ≤ j ∧ j ≤ 1000000 ∧ i.natAbs < 2 ^ 64 then some (.int (i ^ j.toNat)) else none
  | _, _, _ => none
def cmpT : CmpOp → T → T → Option Bool
  | .Eq, x, y => eqT x y
  | .NotEq, x, y => (eqT x y).map (!·)
  | .Lt, .int i, .int j => some (decide (i < j))
  | .LtE, .int i, .int j => some (decide (i ≤ j))
  | .Gt, .int i, .int j => some (decide (j < i))
  | .GtE, .int i, .int j => some (decide (j ≤ i))
  | .Is, x, y => isT x y
  | .IsNot, x, y => (isT x y).map (!·)
  | .In, x, y => inT x y
  | .NotIn, x, y => (inT x y).map (!·)
  | _, _, _ => none
def tru : T → Option Bool
  | .non => some false
  | .bl b => some b
  | .int i => some (i != 0)
  | .str s => if s.length ≤ sizeLine then some ((s.length : Int) != 0) else none
  | .lst ds => some (!ds.isEmpty)
  | .tup ds => some (!ds.isEmpty)
  | .dk kvs => none
  | _ => none

/-! ### a value as data -/
def D.tree : D → Option T
  | .t x => some x
  | .c _ => none
def trees : List D → Option (List T)
  | [] => some []
  | .t x :: r => (trees r).map (x :: ·)
  | .c _ :: _ => none
def view (s : S) : D → Option T
  | .t x => some x
  | .c n => match s[n]? with
    | some (.l ds) => (trees ds).map T.lst
    | some (.lk ds) => (trees ds).map T.lst
    | _ => none

/-! ### built-ins -/
inductive Bi where
  | len | int | abs | list | tuple | gcd | isi
/-- the type's name of data -/
def tyName : T → Option String
  | .non => some "NoneType"
  | .bl _ => some "bool"
  | .int _ => some "int"
  | .str _ => some "str"
  | .tup _ => some "tuple"
  | .lst _ => some "list"
  | .dk _ => some "dict"
  | .dt _ => none
  | _ => none
/-- isinstance with a built-in class | a tuple of such -/
def isiT (x : T) : T → Option Bool
  | .ty n => (tyName x).bind fun m => L2.kitB m n
  | .tup [.ty n, .ty k] => (tyName x).bind fun m => (L2.kitB m n).bind fun b => if b then some true else L2.kitB m k
  | _ => none
def biT : Bi → List T → Option T
  | .len, [.lst ds] => some (.int ds.length)
  | .len, [.tup ds] => some (.int ds.length)
  | .len, [.str z] => if z.length ≤ sizeLine then some (.int z.length) else none
  | .int, [.int i] => some (.int i)
  | .int, [.bl b] => some (.int (if b then 1 else 0))
  | .abs, [.int i] => some (.int (if i < 0 then -i else i))
  | .list, [.lst ds] => some (.lst ds)
  | .list, [.tup ds] => some (.lst ds)
  | .tuple, [.lst ds] => some (.tup ds)
  | .tuple, [.tup ds] => some (.tup ds)
  | .gcd, [.int i, .int j] => some (.int (Nat.gcd i.natAbs j.natAbs : Nat))
  | .isi, [x, c] => (isiT x c).map T.bl
  | _, _ => none
end Z
end
section
set_option Elab.async false
set_option linter.all false
set_option maxRecDepth 100000
set_option autoImplicit false
namespace Z
open PySem L2

mutual
/-- expressions; names by their slots -/
inductive E where
  | var (i : Nat)
  | con (x : T)
  | glob (i : Nat)
  | ty (n : String)
  | cls (c : Nat)
  | bin (op : Operator) (a b : E)
  | neg (a : E)
  | cmp (op : CmpOp) (a b : E)
  | chain (op op' : CmpOp) (a b c : E)
  | and (a b : E) | or (a b : E) | one (a : E) | not (a : E)
  | ite (c a b : E)
  | lst (cell : Bool) (es : Es)
  | tup (es : Es)
  | sub (a i : E)
  | slc (a : E) (lo hi : Eo)
  | call (f : Nat) (es : Es)
  | meth (m : Str) (o : E) (es : Es)
  | make (c : Nat) (es : Es)
  | bi (b : Bi) (es : Es)
  | app (o : E) (e : E)
  | ext (o : E) (e : E)
  | pop (o : E) (e : E)
  | fld (f : Str) (o : E)
  | lc (cell : Bool) (own : List (Str × Nat)) (elt : E) (tg : Tg) (it : It) (cond : Eo)
  | frz (e : E)
  | dk0
  | hole
inductive Es where
  | nil | cons (e : E) (es : Es)
inductive Eo where
  | no | yes (e : E)
/-- what is walked -/
inductive It where
  | val (e : E) | rng1 (e : E) | rng2 (a b : E) | enum (e : E) | zip (a b : E) | revRng1 (e : E)
/-- targets -/
inductive Tg where
  | name (i : Nat) | tup (ts : Tgs)
inductive Tgs where
  | nil | cons (t : Tg) (ts : Tgs)
end

/-- what a body knows: calls, defaults, constants of the module, __init__ of a class, its methods -/
structure G where
  call : Nat → List D → S → R D
  dfl : Nat → Nat → List T
  consts : List T
  ini : Nat → Nat
  mth : Nat → Str → Option Nat
  att : Nat → Str → Bool

def wipeD (σ : Sl) : List Nat → Sl
  | [] => σ
  | v :: vs => (wipeD σ vs).set v none

def lift2 (s : S) (f : T → T → Option T) (a b : D) : Option D := (view s a).bind fun x => (view s b).bind fun y => (f x y).map D.t
def sIx (n def_ : Nat) (o : Option Int) : Nat := HT.sIx n def_ o
def cutT (xs : List T) (lo hi : Option Int) : List T := (xs.drop (HT.sIx xs.length 0 lo)).take (HT.sIx xs.length xs.length hi - HT.sIx xs.length 0 lo)
def slcT (x : T) (lo hi : Option Int) : Option T := match x with
  | .lst ds => some (.lst (cutT ds lo hi))
  | .tup ds => some (.tup (cutT ds lo hi))
  | _ => none
def subT : T → T → Option T
  | .lst ds, .int i => atI ds i
  | .tup ds, .int i => atI ds i
  | .str z, .int i => if z.length ≤ sizeLine then (atI z.cps.toList i).map fun c => .str ⟨#[c]⟩ else none
  | _, _ => none
/-- o[i] of a value -/
def subD (s : S) : D → D → Option D
  | .c n, .t (.int i) => match s[n]? with
    | some (.l ds) => atI ds i
    | some (.lk ds) => atI ds i
    | _ => none
  | .t x, .t y => (subT x y).map D.t
  | _, _ => none
/-- the attribute f -/
def fldD (g : G) (s : S) (f : Str) : D → Option D
  | .t (.ins c fs) => if g.att c f then (fs.lookup f).map D.t else none
  | .c n => match s[n]? with
    | some (.i c fs) => if g.att c f then (fs.lookup f).map D.t else none
    | _ => none
  | _ => none
/-- the class of an instance -/
def clsD (s : S) (m : Str) : D → Option Nat
  | .t (.ins c fs) => if (fs.lookup m).isNone then some c else none
  | .c n => match s[n]? with
    | some (.i c fs) => if (fs.lookup m).isNone then some c else none
    | _ => none
  | _ => none
/-- may a changing object at n hold this -/
def older (n : Nat) : D → Bool
  | .t _ => true
  | .c m => decide (m < n)
def isL (s : S) : D → Bool
  | .c n => match s[n]? with
    | some (.l _) => true
    | _ => false
  | _ => false
def appD (s : S) (o x : D) : R D := match o with
  | .c n => match s[n]? with
    | some (.l ds) => if older n x && decide (ds.length < sizeLine) then .ok (.t .non) (s.set n (.l (ds ++ [x]))) else .no
    | _ => .no
  | _ => .no
def extD (s : S) (o x : D) : R D := match o, x with
  | .c n, .t (.lst zs) => match s[n]? with
    | some (.l ds) => if ds.length + zs.length ≤ sizeLine then .ok (.t .non) (s.set n (.l (ds ++ zs.map D.t))) else .no
    | _ => .no
  | _, _ => .no
def popD (s : S) (o x : D) : R D := match o, x with
  | .c n, .t (.int i) => match s[n]? with
    | some (.l ds) => if -9223372036854775808 ≤ i ∧ i < 9223372036854775808 then (match seqIndex? i ds.length with
      | some k => (match ds[k]? with
        | some y => .ok y (s.set n (.l (ds.eraseIdx k)))
        | none => .no)
      | none => .no) else .no
    | _ => .no
  | _, _ => .no
/-- made into data; what held it holds nothing any more -/
def frzD (s : S) : D → R D
  | .t x => .ok (.t x) s
  | .c n => match s[n]? with
    | some (.l ds) => (match trees ds with
      | some xs => .ok (.t (.lst xs)) (s.set n .x)
      | none => .no)
    | some (.i c fs) => .ok (.t (.ins c fs)) (s.set n .x)
    | _ => .no
def newL (s : S) (ds : List D) : R D := .ok (.c s.length) (s ++ [.l ds])
def lstD (cell : Bool) (s : S) (ds : List D) : R D :=
  if ds.length ≤ sizeLine then (if cell then newL s ds else R.of ((trees ds).map fun xs => .t (.lst xs)) s) else .no
def tupD (s : S) (ds : List D) : R D := if ds.length ≤ sizeLine then R.of ((trees ds).map fun xs => .t (.tup xs)) s else .no
/-- an instance is made, filled by its class's __init__, and stands from then on -/
def makeD (g : G) (c : Nat) (ds : List D) (s : S) : R D :=
  (g.call (g.ini c) (.c s.length :: ds) (s ++ [.i c []])).bind fun r s1 => match r, s1[s.length]? with
    | .t .non, some (.i c' fs) => if c' = c then .ok (.t (.ins c fs)) (s1.take s.length) else .no
    | _, _ => .no
/-- the items of what is walked; a list that changes is held meanwhile -/
def walk (s : S) : D → Option (List D × Option Nat)
  | .t (.lst ds) => some (ds.map D.t, none)
  | .t (.tup ds) => some (ds.map D.t, none)
  | .t (.scr ns) => some (ns.map fun n => D.t (.int n), none)
  | .t (.str z) => some (z.cps.toList.map fun c => D.t (.str ⟨#[c]⟩), none)
  | .c n => match s[n]? with
    | some (.l ds) => some (ds, some n)
    | _ => none
  | _ => none
def lock (s : S) : Option Nat → S
  | none => s
  | some n => match s[n]? with
    | some (.l ds) => s.set n (.lk ds)
    | _ => s
def unlock (s : S) : Option Nat → S
  | none => s
  | some n => match s[n]? with
    | some (.lk ds) => s.set n (.l ds)
    | _ => s
def smallI (i : Int) : Bool := decide (-4611686018427387904 ≤ i) && decide (i < 4611686018427387904)
def upI (lo : Int) : Nat → List D
  | 0 => []
  | n + 1 => .t (.int lo) :: upI (lo + 1) n
def dnI : Nat → List D
  | 0 => []
  | n + 1 => .t (.int n) :: dnI n
def numd (i : Int) : List T → List D
  | [] => []
  | x :: r => .t (.tup [.int i, x]) :: numd (i + 1) r
def zipd : List T → List T → List D
  | x :: r, y :: q => .t (.tup [x, y]) :: zipd r q
  | _, _ => []

/-- a comprehension's turns, one for each item; the new list is the n0-th object -/
def turns (n0 : Nat) (f : D → S → R (Option D)) : List D → S → R Unit
  | [], s => .ok () s
  | d :: ds, s => (f d s).bind fun o s1 => match o with
    | none => turns n0 f ds s1
    | some y => match s1[n0]? with
      | some (.l acc) => if older n0 y && decide (acc.length < sizeLine) then turns n0 f ds (s1.set n0 (.l (acc ++ [y]))) else .no
      | _ => .no
def lcEnd (cell : Bool) (n : Nat) (s : S) : R D :=
  if cell then .ok (.c n) (s.take (n + 1)) else match s[n]? with
    | some (.l ds) => R.of ((trees ds).map fun xs => .t (.lst xs)) (s.take n)
    | _ => .no

mutual
def setTg : Tg → D → Sl → Option Sl
  | .name i, d, σ => if i < σ.length then some (σ.set i (some d)) else none
  | .tup ts, .t (.tup xs), σ => setTgs ts xs σ
  | .tup ts, .t (.lst xs), σ => setTgs ts xs σ
  | .tup _, _, _ => none
termination_by structural x => x
def setTgs : Tgs → List T → Sl → Option Sl
  | .nil, [], σ => some σ
  | .cons t ts, x :: xs, σ => (setTg t (.t x) σ).bind fun σ1 => setTgs ts xs σ1
  | _, _, _ => none
termination_by structural x => x
end

def truD (s : S) (d : D) : Option Bool := (view s d).bind tru

mutual
def ev (g : G) : E → Sl → S → R D
  | .var i, σ, s => match σ[i]? with
    | some (some d) => .ok d s
    | _ => .no
  | .con x, _, s => .ok (.t x) s
  | .glob i, _, s => R.of (g.consts[i]?.map D.t) s
  | .ty n, _, s => .ok (.t (.ty n)) s
  | .cls c, _, s => .ok (.t (.cls c)) s
  | .bin op a b, σ, s => (ev g a σ s).bind fun x s => (ev g b σ s).bind fun y s => R.of (lift2 s (binT op) x y) s
  | .neg a, σ, s => (ev g a σ s).bind fun x s => match x with
    | .t (.int i) => .ok (.t (.int (-i))) s
    | _ => .no
  | .cmp op a b, σ, s => (ev g a σ s).bind fun x s => (ev g b σ s).bind fun y s => R.of (lift2 s (fun x y => (cmpT op x y).map T.bl) x y) s
  | .chain op op' a b c, σ, s => (ev g a σ s).bind fun x s => (ev g b σ s).bind fun y s =>
      (R.of ((view s x).bind fun x => (view s y).bind fun y => cmpT op x y) s).bind fun k s => match k with
        | true => (ev g c σ s).bind fun z s => R.of (lift2 s (fun x y => (cmpT op' x y).map T.bl) y z) s
        | false => .ok (.t (.bl false)) s
  | .and a b, σ, s => (ev g a σ s).bind fun x s => (R.of (truD s x) s).bind fun k s => if k then ev g b σ s else .ok x s
  | .or a b, σ, s => (ev g a σ s).bind fun x s => (R.of (truD s x) s).bind fun k s => if k then .ok x s else ev g b σ s
  | .one a, σ, s => ev g a σ s
  | .not a, σ, s => (ev g a σ s).bind fun x s => (R.of (truD s x) s).bind fun k s => .ok (.t (.bl (!k))) s
  | .ite c a b, σ, s => (ev g c σ s).bind fun x s => (R.of (truD s x) s).bind fun k s => if k then ev g a σ s else ev g b σ s
  | .lst cell es, σ, s => (evs g es σ s).bind fun ds s => lstD cell s ds
  | .tup es, σ, s => (evs g es σ s).bind fun ds s => tupD s ds
  | .sub a i, σ, s => (ev g a σ s).bind fun x s => (ev g i σ s).bind fun y s => R.of (subD s x y) s
  | .slc a lo hi, σ, s => (ev g a σ s).bind fun x s => (evo g lo σ s).bind fun l s => (evo g hi σ s).bind fun h s => R.of ((view s x).bind fun x => (slcT x l h).map D.t) s
  | .call f es, σ, s => (evs g es σ s).bind fun ds s => g.call f (ds ++ (g.dfl f ds.length).map D.t) s
  | .meth m o es, σ, s => (ev g o σ s).bind fun x s => match (clsD s m x).bind fun c => g.mth c m with
    | some f => (evs g es σ s).bind fun ds s => g.call f (x :: (ds ++ (g.dfl f (ds.length + 1)).map D.t)) s
    | none => .no
  | .make c es, σ, s => (evs g es σ s).bind fun ds s => makeD g c (ds ++ (g.dfl (g.ini c) (ds.length + 1)).map D.t) s
  | .bi b es, σ, s => (evs g es σ s).bind fun ds s => R.of ((ds.mapM (view s)).bind fun xs => (biT b xs).map D.t) s
  | .app o e, σ, s => (ev g o σ s).bind fun x s => if isL s x then (ev g e σ s).bind fun y s => appD s x y else .no
  | .ext o e, σ, s => (ev g o σ s).bind fun x s => if isL s x then (ev g e σ s).bind fun y s => extD s x y else .no
  | .pop o e, σ, s => (ev g o σ s).bind fun x s => if isL s x then (ev g e σ s).bind fun y s => popD s x y else .no
  | .fld f o, σ, s => (ev g o σ s).bind fun x s => R.of (fldD g s f x) s
  | .lc cell own elt tg it cond, σ, s => (evI g it σ s).bind fun p s =>
      (turns s.length (fun d s => match setTg tg d (wipeD σ (own.map (·.2))) with
        | some σ1 => (evC g cond σ1 s).hold.bind fun k s => if k then (ev g elt σ1 s).hold.bind fun x s => .ok (some x) s else .ok none s
        | none => .no) p.1 (lock s p.2 ++ [.l []])).bind fun _ s2 => lcEnd cell s.length (unlock s2 p.2)
  | .frz e, σ, s => (ev g e σ s).bind fun x s => frzD s x
  | .dk0, _, s => .ok (.t (.dk [])) s
  | .hole, _, _ => .no
termination_by structural x => x
def evs (g : G) : Es → Sl → S → R (List D)
  | .nil, _, s => .ok [] s
  | .cons e es, σ, s => (ev g e σ s).bind fun x s => (evs g es σ s).bind fun xs s => .ok (x :: xs) s
termination_by structural x => x
def evo (g : G) : Eo → Sl → S → R (Option Int)
  | .no, _, s => .ok none s
  | .yes e, σ, s => (ev g e σ s).bind fun x s => match x with
    | .t (.int i) => .ok (some i) s
    | _ => .no
termination_by structural x => x
/-- a clause's test -/
def evC (g : G) : Eo → Sl → S → R Bool
  | .no, _, s => .ok true s
  | .yes e, σ, s => (ev g e σ s).bind fun x s => R.of (truD s x) s
termination_by structural x => x
def evI (g : G) : It → Sl → S → R (List D × Option Nat)
  | .val e, σ, s => (ev g e σ s).bind fun x s => R.of (walk s x) s
  | .rng1 e, σ, s => (ev g e σ s).bind fun x s => match x with
    | .t (.int j) => if smallI j then .ok (upI 0 j.toNat, none) s else .no
    | _ => .no
  | .rng2 a b, σ, s => (ev g a σ s).bind fun x s => (ev g b σ s).bind fun y s => match x, y with
    | .t (.int i), .t (.int j) => if smallI i && smallI j then .ok (upI i (j - i).toNat, none) s else .no
    | _, _ => .no
  | .enum e, σ, s => (ev g e σ s).bind fun x s => match x with
    | .t (.lst ds) => .ok (numd 0 ds, none) s
    | _ => .no
  | .zip a b, σ, s => (ev g a σ s).bind fun x s => (ev g b σ s).bind fun y s => match x, y with
    | .t (.lst xs), .t (.lst ys) => .ok (zipd xs ys, none) s
    | _, _ => .no
  | .revRng1 e, σ, s => (ev g e σ s).bind fun x s => match x with
    | .t (.int j) => if smallI j then .ok (dnI j.toNat, none) s else .no
    | _ => .no
termination_by structural x => x
end
end Z
end
section
set_option Elab.async false
set_option linter.all false
set_option maxRecDepth 100000
set_option autoImplicit false
namespace Z
open PySem L2

mutual
inductive Stm where
  | set (tg : Tg) (e : E)
  | par (i j : Nat) (a b : E)
  | setSub (o i e : E)
  | setFld (f : Str) (o e : E)
  | aug (i : Nat) (op : Operator) (e : E)
  | expr (e : E)
  | ret (e : E)
  | retN
  | ife (c : E) (a b : Ss)
  | for (tg : Tg) (it : It) (b : Ss)
  | whl (fuel : Nat) (c : E) (b : Ss)
  | pass | brk | cont
  | hole
inductive Ss where
  | nil | cons (st : Stm) (r : Ss)
end

/-- what a statement comes to -/
inductive O where
  | nx (σ : Sl) (s : S) | rt (d : D) (s : S) | bk (σ : Sl) (s : S) | ct (σ : Sl) (s : S) | ex (c : Nat) (fs : List (Str × T)) (σ : Sl) (s : S) | no
def R.then {α : Type} (σ : Sl) : R α → (α → S → O) → O
  | .ok a s, k => k a s
  | .ex c fs s, _ => .ex c fs σ s
  | .no, _ => .no

def forL (u : Option Nat) (f : D → Sl → S → O) : List D → Sl → S → O
  | [], σ, s => .nx σ (unlock s u)
  | d :: ds, σ, s => match f d σ s with
    | .nx σ s => forL u f ds σ s
    | .ct σ s => forL u f ds σ s
    | .bk σ s => .nx σ (unlock s u)
    | .rt d s => .rt d (unlock s u)
    | .ex c fs σ s => .ex c fs σ (unlock s u)
    | .no => .no
def whlL (c : Sl → S → R Bool) (f : Sl → S → O) : Nat → Sl → S → O
  | 0, _, _ => .no
  | n + 1, σ, s => (c σ s).then σ fun k s => if k then (match f σ s with
    | .nx σ s => whlL c f n σ s
    | .ct σ s => whlL c f n σ s
    | .bk σ s => .nx σ s
    | o => o) else .nx σ s
/-- o[i] = x -/
def setSubD (s : S) (o i x : D) : Option S := match o, i with
  | .c n, .t (.int i) => match s[n]? with
    | some (.l ds) => if older n x then (ixN ds.length i).map fun k => s.set n (.l (ds.set k x)) else none
    | _ => none
  | _, _ => none
def putT (f : Str) (x : T) : List (Str × T) → List (Str × T)
  | [] => [(f, x)]
  | (g, y) :: r => if g = f then (g, x) :: r else (g, y) :: putT f x r
def setFldD (g : G) (s : S) (f : Str) (o x : D) : Option S := match o, x with
  | .c n, .t x => match s[n]? with
    | some (.i c fs) => if g.att c f && decide (fs.length < 1000) then some (s.set n (.i c (putT f x fs))) else none
    | _ => none
  | _, _ => none

def augD : Operator → D → D → Option D
  | .Add, .t (.int a), .t (.int b) => some (.t (.int (a + b)))
  | .Sub, .t (.int a), .t (.int b) => some (.t (.int (a - b)))
  | _, _, _ => none
mutual
def ex (g : G) : Stm → Sl → S → O
  | .set tg e, σ, s => (ev g e σ s).then σ fun x s => match setTg tg x σ with
    | some σ1 => .nx σ1 s
    | none => .no
  | .par i j a b, σ, s => (ev g a σ s).then σ fun x s => (ev g b σ s).then σ fun y s => if i < σ.length ∧ j < σ.length then .nx ((σ.set i (some x)).set j (some y)) s else .no
  | .setSub o i e, σ, s => (ev g e σ s).then σ fun x s => (ev g o σ s).then σ fun o s => (ev g i σ s).then σ fun i s => match setSubD s o i x with
    | some s => .nx σ s
    | none => .no
  | .setFld f o e, σ, s => (ev g e σ s).then σ fun x s => (ev g o σ s).then σ fun o s => match setFldD g s f o x with
    | some s => .nx σ s
    | none => .no
  | .aug i op e, σ, s => match σ[i]? with
    | some (some x) => (ev g e σ s).then σ fun y s => match augD op x y with
      | some z => .nx (σ.set i (some z)) s
      | none => .no
    | _ => .no
  | .expr e, σ, s => (ev g e σ s).then σ fun _ s => .nx σ s
  | .ret e, σ, s => (ev g e σ s).then σ fun x s => .rt x s
  | .retN, _, s => .rt (.t .non) s
  | .ife c a b, σ, s => ((ev g c σ s).bind fun x s => R.of (truD s x) s).then σ fun k s => if k then exs g a σ s else exs g b σ s
  | .for tg it b, σ, s => (evI g it σ s).then σ fun p s => forL p.2 (fun d σ s => match setTg tg d σ with
      | some σ1 => exs g b σ1 s
      | none => .no) p.1 σ (lock s p.2)
  | .whl n c b, σ, s => whlL (fun σ s => (ev g c σ s).bind fun x s => R.of (truD s x) s) (exs g b) n σ s
  | .pass, σ, s => .nx σ s
  | .brk, σ, s => .bk σ s
  | .cont, σ, s => .ct σ s
  | .hole, _, _ => .no
termination_by structural x => x
def exs (g : G) : Ss → Sl → S → O
  | .nil, σ, s => .nx σ s
  | .cons st r, σ, s => match ex g st σ s with
    | .nx σ s => exs g r σ s
    | o => o
termination_by structural x => x
end

/-- a def: parameters, slots, body; keep: what it made goes on changing -/
structure Fn where
  np : Nat
  nn : Nat
  keep : Bool := false
  body : Ss
def fin (F : Fn) (n0 : Nat) : O → R D
  | .nx _ s => .ok (.t .non) (if F.keep then s else s.take n0)
  | .rt d s => if F.keep then .ok d s else (match d with
    | .t x => .ok (.t x) (s.take n0)
    | .c n => if n < n0 then .ok (.c n) (s.take n0) else .no)
  | .ex c fs _ s => .ex c fs (s.take n0)
  | _ => .no
def callF (g : G) (F : Fn) (ds : List D) (s : S) : R D :=
  if ds.length = F.np then fin F s.length (exs g F.body (ds.map some ++ List.replicate (F.nn - F.np) none) s) else .no
def callN (ft : Nat → Option Fn) (g : G) : Nat → Nat → List D → S → R D
  | 0, _, _, _ => .no
  | k + 1, f, ds, s => match ft f with
    | some F => callF { g with call := callN ft g k } F ds s
    | none => .no
end Z
end
section
set_option Elab.async false
set_option linter.all false
set_option maxRecDepth 100000
set_option autoImplicit false
namespace Z
open PySem L2

/-- the world of a proof -/
structure Wd where
  P : Program
  w : World
  K : PySem.W.Frag
  mg : Str → Option Value
  base : Heap
  ca : Nat → Addr
  fa : Nat → Addr
  fd : Nat → FuncData
  fps : Nat → List Str

/-- where the changing objects stand: nothing any more, or an address (true: held by a walk) -/
abbrev Ga := List (Option (Addr × Bool))
def Live (γ : Ga) (a : Addr) : Prop := ∃ b, some (a, b) ∈ γ
/-- the n-th of them stands at a, if it stands -/
def Pl (γ : Ga) (n : Nat) (a : Addr) : Prop := ∃ o, γ[n]? = some o ∧ ∀ p, o = some p → p.1 = a
theorem Pl.eq {γ : Ga} {n : Nat} {a b : Addr} {k : Bool} (h : Pl γ n a) (e : γ[n]? = some (some (b, k))) : b = a := by
  obtain ⟨o, h1, h2⟩ := h
  rw [e] at h1
  cases h1
  exact h2 _ rfl
theorem Pl.of {γ : Ga} {n : Nat} {a : Addr} {k : Bool} (e : γ[n]? = some (some (a, k))) : Pl γ n a := ⟨_, e, fun p h => by cases h; rfl⟩
theorem Pl.lt {γ : Ga} {n : Nat} {a : Addr} (h : Pl γ n a) : n < γ.length := by
  obtain ⟨o, h1, _⟩ := h
  exact (List.getElem?_eq_some_iff.mp h1).1
theorem live_of {γ : Ga} {n : Nat} {a : Addr} {k : Bool} (e : γ[n]? = some (some (a, k))) : Live γ a := ⟨k, List.mem_of_getElem? e⟩
/-- a tuple, a list of the module's text -/
def StatT (K : PySem.W.Frag) (a : Addr) (xs : List V) : Prop  := ∃ (o : Obj) (its : Array Value) (n : Nat), K.lookup a = some o ∧ o.cls = .type "tuple" ∧ o.data = .seq its n ∧ its.size ≤ sizeLine ∧ Vals xs its.toList
def StatL (K : PySem.W.Frag) (a : Addr) (xs : List V) : Prop  := ∃ (o : Obj) (its : Array Value) (n : Nat), K.lookup a = some o ∧ o.cls = .type "list" ∧ o.dict = none ∧ o.data = .seq its n ∧ its.size ≤ sizeLine ∧ Vals xs its.toList
def TupR (K : PySem.W.Frag) (γ : Ga) (H : Hp) (a : Addr) (xs : List V) : Prop := (¬ Live γ a ∧ H a = some (.tup xs)) ∨ StatT K a xs
def ScrR (K : PySem.W.Frag) (γ : Ga) (H : Hp) (a : Addr) (xs : List V) : Prop := (¬ Live γ a ∧ Rd H a (.lst xs)) ∨ StatL K a xs
theorem TupR.sq {K : PySem.W.Frag} {γ : Ga} {H : Hp} {a : Addr} {xs : List V} (h : TupR K γ H a xs) : SqT K H a xs := by
  rcases h with ⟨_, h⟩ | h
  · exact .inl (.inl h)
  · exact .inr h
theorem ScrR.sq {K : PySem.W.Frag} {γ : Ga} {H : Hp} {a : Addr} {xs : List V} (h : ScrR K γ H a xs) : SqL K H a xs := by
  rcases h with ⟨_, h⟩ | h
  · exact .inl h
  · exact .inr h

mutual
def Rep (W : Wd) (γ : Ga) (H : Hp) : T → V → Prop
  | .non, v => v = .non
  | .bl b, v => v = .bl b
  | .int i, v => v = .int i
  | .str s, v => v = .str s
  | .ty n, v => v = .ty n
  | .cls c, v => v = .ref (W.ca c)
  | .tup ds, v => ∃ a vs, v = .ref a ∧ TupR W.K γ H a vs ∧ Reps W γ H ds vs
  | .lst ds, v => ∃ a vs, v = .ref a ∧ ¬ Live γ a ∧ H a = some (.lst vs) ∧ Reps W γ H ds vs
  | .dk kvs, v => ∃ a ws, v = .ref a ∧ ¬ Live γ a ∧ Rd H a (.dK ws) ∧ RepKs W γ H kvs ws
  | .dt kvs, v => ∃ a ws, v = .ref a ∧ ¬ Live γ a ∧ Rd H a (.dT ws) ∧ RepTs W γ H kvs ws
  | .ins c fs, v => ∃ a dx ws, v = .ref a ∧ ¬ Live γ a ∧ H a = some (.ins (W.ca c) dx ws) ∧ RepFs W γ H fs ws
  | .scr ns, v => ∃ a, v = .ref a ∧ ScrR W.K γ H a (ns.map V.int)
termination_by structural x => x
def Reps (W : Wd) (γ : Ga) (H : Hp) : List T → List V → Prop
  | [], vs => vs = []
  | d :: ds, vs => ∃ v r, vs = v :: r ∧ Rep W γ H d v ∧ Reps W γ H ds r
termination_by structural x => x
def RepKs (W : Wd) (γ : Ga) (H : Hp) : List (Key × T) → List (Key × V) → Prop
  | [], vs => vs = []
  | d :: ds, vs => ∃ v r, vs = v :: r ∧ RepKp W γ H d v ∧ RepKs W γ H ds r
termination_by structural x => x
def RepKp (W : Wd) (γ : Ga) (H : Hp) : Key × T → Key × V → Prop
  | (k, d), p => p.1 = k ∧ Rep W γ H d p.2
termination_by structural x => x
def RepTs (W : Wd) (γ : Ga) (H : Hp) : List (List Key × T) → List (List Key × V) → Prop
  | [], vs => vs = []
  | d :: ds, vs => ∃ v r, vs = v :: r ∧ RepTp W γ H d v ∧ RepTs W γ H ds r
termination_by structural x => x
def RepTp (W : Wd) (γ : Ga) (H : Hp) : List Key × T → List Key × V → Prop
  | (k, d), p => p.1 = k ∧ Rep W γ H d p.2
termination_by structural x => x
def RepFs (W : Wd) (γ : Ga) (H : Hp) : List (Str × T) → List (Str × V) → Prop
  | [], vs => vs = []
  | d :: ds, vs => ∃ v r, vs = v :: r ∧ RepFp W γ H d v ∧ RepFs W γ H ds r
termination_by structural x => x
def RepFp (W : Wd) (γ : Ga) (H : Hp) : Str × T → Str × V → Prop
  | (k, d), p => p.1 = k ∧ Rep W γ H d p.2
termination_by structural x => x
end
def RepD (W : Wd) (γ : Ga) (H : Hp) : D → V → Prop
  | .t x, v => Rep W γ H x v
  | .c n, v => ∃ a, v = .ref a ∧ Pl γ n a
def RepDs (W : Wd) (γ : Ga) (H : Hp) : List D → List V → Prop
  | [], vs => vs = []
  | d :: ds, vs => ∃ v r, vs = v :: r ∧ RepD W γ H d v ∧ RepDs W γ H ds r

/-- dicts may be held by a walk -/
def dish : HO → Bool
  | .dK _ => true
  | .dT _ => true
  | .frz _ (.dK _) => true
  | .frz _ (.dT _) => true
  | _ => false
/-- what stays -/
structure Ext0 (γ γ' : Ga) (H H' : Hp) : Prop where
  keep : ∀ a o, ¬ Live γ a → H a = some o → dish o = false → H' a = some o
  read : ∀ a u, ¬ Live γ a → Rd H a u → Rd H' a u
  live : ∀ a, H a ≠ none → Live γ' a → Live γ a
structure Ext (γ γ' : Ga) (H H' : Hp) : Prop extends Ext0 γ γ' H H' where
  grow : ∀ (n : Nat) (a : Addr), Pl γ n a → Pl γ' n a
  dead : ∀ (n : Nat), γ[n]? = some none → γ'[n]? = some none
  lock : ∀ (n : Nat) (a : Addr), γ[n]? = some (some (a, true)) → γ'[n]? = some (some (a, true)) ∧ H' a = H a

theorem Rd.some {H : Hp} {a : Addr} {u : HO} (h : Rd H a u) : H a ≠ none := by
  rcases h with h | ⟨o, h⟩ <;> rw [h] <;> simp
section
variable {W : Wd} {γ γ' γ'' : Ga} {H H' H'' : Hp}
theorem Ext.refl : Ext γ γ H H := ⟨⟨fun _ _ _ h _ => h, fun _ _ _ h => h, fun _ _ h => h⟩, fun _ _ h => h, fun _ h => h, fun _ _ h => ⟨h, rfl⟩⟩
theorem Ext0.nl (x : Ext0 γ γ' H H') {a : Addr} (n : ¬ Live γ a) (h : H a ≠ none) : ¬ Live γ' a := fun l => n (x.live a h l)
theorem Ext.trans (x : Ext γ γ' H H') (y : Ext γ' γ'' H' H'') : Ext γ γ'' H H'' where
  keep := fun a o n h d => y.keep a o (x.nl n (by rw [h]; simp)) (x.keep a o n h d) d
  read := fun a u n h => y.read a u (x.nl n (Rd.some h)) (x.read a u n h)
  live := fun a h l => by
    by_cases q : Live γ a
    · exact q
    · refine absurd (y.live a ?_ l) (x.nl q h)
      cases e : H a with
      | none => exact absurd e h
      | some o => exact Rd.some (x.read a o q (.inl e))
  grow := fun n a h => y.grow n a (x.grow n a h)
  dead := fun n h => y.dead n (x.dead n h)
  lock := fun n a h => by
    obtain ⟨h1, h2⟩ := x.lock n a h
    obtain ⟨h3, h4⟩ := y.lock n a h1
    exact ⟨h3, h4.trans h2⟩
theorem Ext0.tup (x : Ext0 γ γ' H H') {K : PySem.W.Frag} {a : Addr} {xs : List V} (h : TupR K γ H a xs) : TupR K γ' H' a xs := by
  rcases h with ⟨n, h⟩ | h
  · exact .inl ⟨x.nl n (by rw [h]; simp), x.keep _ _ n h rfl⟩
  · exact .inr h
theorem Ext0.scr (x : Ext0 γ γ' H H') {K : PySem.W.Frag} {a : Addr} {xs : List V} (h : ScrR K γ H a xs) : ScrR K γ' H' a xs := by
  rcases h with ⟨n, h⟩ | h
  · exact .inl ⟨x.nl n (Rd.some h), x.read _ _ n h⟩
  · exact .inr h
mutual
theorem Rep.ext0 (x : Ext0 γ γ' H H') : ∀ (d : T) (v : V), Rep W γ H d v → Rep W γ' H' d v
  | .non, _, h => h
  | .bl _, _, h => h
  | .int _, _, h => h
  | .str _, _, h => h
  | .ty _, _, h => h
  | .cls _, _, h => h
  | .tup ds, _, ⟨a, vs, e, h, r⟩ => ⟨a, vs, e, x.tup h, Reps.ext0 x ds vs r⟩
  | .lst ds, _, ⟨a, vs, e, n, h, r⟩ => ⟨a, vs, e, x.nl n (by rw [h]; simp), x.keep _ _ n h rfl, Reps.ext0 x ds vs r⟩
  | .dk kvs, _, ⟨a, vs, e, n, h, r⟩ => ⟨a, vs, e, x.nl n (Rd.some h), x.read _ _ n h, RepKs.ext0 x kvs vs r⟩
  | .dt kvs, _, ⟨a, vs, e, n, h, r⟩ => ⟨a, vs, e, x.nl n (Rd.some h), x.read _ _ n h, RepTs.ext0 x kvs vs r⟩
  | .ins c fs, _, ⟨a, dx, vs, e, n, h, r⟩ => ⟨a, dx, vs, e, x.nl n (by rw [h]; simp), x.keep _ _ n h rfl, RepFs.ext0 x fs vs r⟩
  | .scr ns, _, ⟨a, e, h⟩ => ⟨a, e, x.scr h⟩
theorem Reps.ext0 (x : Ext0 γ γ' H H') : ∀ (ds : List T) (vs : List V), Reps W γ H ds vs → Reps W γ' H' ds vs
  | [], _, h => h
  | d :: ds, _, ⟨v, r, e, h1, h2⟩ => ⟨v, r, e, Rep.ext0 x d v h1, Reps.ext0 x ds r h2⟩
theorem RepKs.ext0 (x : Ext0 γ γ' H H') : ∀ (ds : List (Key × T)) (vs : List (Key × V)), RepKs W γ H ds vs → RepKs W γ' H' ds vs
  | [], _, h => h
  | d :: ds, _, ⟨v, r, e, h1, h2⟩ => ⟨v, r, e, RepKp.ext0 x d v h1, RepKs.ext0 x ds r h2⟩
theorem RepKp.ext0 (x : Ext0 γ γ' H H') : ∀ (p : Key × T) (q : Key × V), RepKp W γ H p q → RepKp W γ' H' p q
  | (k, d), q, h => ⟨h.1, Rep.ext0 x d q.2 h.2⟩
theorem RepTs.ext0 (x : Ext0 γ γ' H H') : ∀ (ds : List (List Key × T)) (vs : List (List Key × V)), RepTs W γ H ds vs → RepTs W γ' H' ds vs
  | [], _, h => h
  | d :: ds, _, ⟨v, r, e, h1, h2⟩ => ⟨v, r, e, RepTp.ext0 x d v h1, RepTs.ext0 x ds r h2⟩
theorem RepTp.ext0 (x : Ext0 γ γ' H H') : ∀ (p : List Key × T) (q : List Key × V), RepTp W γ H p q → RepTp W γ' H' p q
  | (k, d), q, h => ⟨h.1, Rep.ext0 x d q.2 h.2⟩
theorem RepFs.ext0 (x : Ext0 γ γ' H H') : ∀ (ds : List (Str × T)) (vs : List (Str × V)), RepFs W γ H ds vs → RepFs W γ' H' ds vs
  | [], _, h => h
  | d :: ds, _, ⟨v, r, e, h1, h2⟩ => ⟨v, r, e, RepFp.ext0 x d v h1, RepFs.ext0 x ds r h2⟩
theorem RepFp.ext0 (x : Ext0 γ γ' H H') : ∀ (p : Str × T) (q : Str × V), RepFp W γ H p q → RepFp W γ' H' p q
  | (k, d), q, h => ⟨h.1, Rep.ext0 x d q.2 h.2⟩
end
theorem Rep.ext (x : Ext γ γ' H H') (d : T) (v : V) (h : Rep W γ H d v) : Rep W γ' H' d v := Rep.ext0 x.toExt0 d v h
theorem Reps.ext (x : Ext γ γ' H H') (d : List T) (v : List V) (h : Reps W γ H d v) : Reps W γ' H' d v := Reps.ext0 x.toExt0 d v h
theorem RepFs.ext (x : Ext γ γ' H H') (d : List (Str × T)) (v : List (Str × V)) (h : RepFs W γ H d v) : RepFs W γ' H' d v := RepFs.ext0 x.toExt0 d v h
theorem RepKs.ext (x : Ext γ γ' H H') (d : List (Key × T)) (v : List (Key × V)) (h : RepKs W γ H d v) : RepKs W γ' H' d v := RepKs.ext0 x.toExt0 d v h
theorem RepTs.ext (x : Ext γ γ' H H') (d : List (List Key × T)) (v : List (List Key × V)) (h : RepTs W γ H d v) : RepTs W γ' H' d v := RepTs.ext0 x.toExt0 d v h
theorem RepD.ext (x : Ext γ γ' H H') : ∀ {d : D} {v : V}, RepD W γ H d v → RepD W γ' H' d v
  | .t t, v, h => Rep.ext x t v h
  | .c n, v, ⟨a, e, h⟩ => ⟨a, e, x.grow n a h⟩
theorem RepDs.ext (x : Ext γ γ' H H') : ∀ {ds : List D} {vs : List V}, RepDs W γ H ds vs → RepDs W γ' H' ds vs
  | [], _, h => h
  | d :: ds, _, ⟨v, r, e, h1, h2⟩ => ⟨v, r, e, RepD.ext x h1, RepDs.ext x h2⟩

/-! ### the changing objects -/
def COk (W : Wd) (γ : Ga) (H : Hp) (n : Nat) : C → Prop
  | .x => γ[n]? = some none
  | .l ds => ∃ a vs, γ[n]? = some (some (a, false)) ∧ H a = some (.lst vs) ∧ RepDs W γ H ds vs ∧ ∀ d ∈ ds, older n d = true
  | .lk ds => ∃ a vs, γ[n]? = some (some (a, true)) ∧ H a = some (.lst vs) ∧ RepDs W γ H ds vs ∧ ∀ d ∈ ds, older n d = true
  | .i c fs => ∃ a dx gs, γ[n]? = some (some (a, false)) ∧ H a = some (.ins (W.ca c) dx gs) ∧ RepFs W γ H fs gs
structure StOk (W : Wd) (γ : Ga) (s : S) (H : Hp) : Prop where
  len : γ.length = s.length
  inj : ∀ (n m : Nat) (a : Addr) (b c : Bool), γ[n]? = some (some (a, b)) → γ[m]? = some (some (a, c)) → n = m
  ok : ∀ (n : Nat) (c : C), s[n]? = some c → COk W γ H n c
theorem StOk.live {s : S} (x : StOk W γ s H) {a : Addr} (l : Live γ a) : H a ≠ none := by
  obtain ⟨k, l⟩ := l
  obtain ⟨n, hn, e⟩ := List.getElem_of_mem l
  have e1 : γ[n]? = some (some (a, k)) := by rw [List.getElem?_eq_getElem hn, e]
  have hs : n < s.length := by rw [← x.len]; exact hn
  have q := x.ok n s[n] (List.getElem?_eq_getElem hs)
  generalize s[n] = c at q
  cases c with
  | x => rw [show γ[n]? = some none from q] at e1; cases e1
  | l ds => obtain ⟨b, vs, h1, h2, _⟩ := q; rw [h1] at e1; cases e1; rw [h2]; simp
  | lk ds => obtain ⟨b, vs, h1, h2, _⟩ := q; rw [h1] at e1; cases e1; rw [h2]; simp
  | i c fs => obtain ⟨b, dx, vs, h1, h2, _⟩ := q; rw [h1] at e1; cases e1; rw [h2]; simp
/-- a place that stands as it did -/
theorem COk.ext (x : Ext γ γ' H H') {n : Nat} (hg : γ'[n]? = γ[n]?) (hk : ∀ a b, γ[n]? = some (some (a, b)) → H' a = H a) : ∀ {c : C}, COk W γ H n c → COk W γ' H' n c
  | .x, h => hg.trans h
  | .l ds, ⟨a, vs, h1, h2, h3, h4⟩ => ⟨a, vs, hg.trans h1, (hk a _ h1).trans h2, RepDs.ext x h3, h4⟩
  | .lk ds, ⟨a, vs, h1, h2, h3, h4⟩ => ⟨a, vs, hg.trans h1, (hk a _ h1).trans h2, RepDs.ext x h3, h4⟩
  | .i c fs, ⟨a, dx, vs, h1, h2, h3⟩ => ⟨a, dx, vs, hg.trans h1, (hk a _ h1).trans h2, RepFs.ext x fs vs h3⟩
/-- something new is laid -/
theorem ext_new {s : S} (st : StOk W γ s H) {p : Addr} {o : HO} (hp : H p = none) : Ext γ γ H (upd H p o) where
  keep := fun a o n h d => by rw [upd_ne (ne_of_none h hp)]; exact h
  read := fun a u n h => by
    have hn : a ≠ p := fun e => Rd.some h (by rw [e]; exact hp)
    rcases h with h | ⟨o, h⟩
    · exact .inl (by rw [upd_ne hn]; exact h)
    · exact .inr ⟨o, by rw [upd_ne hn]; exact h⟩
  live := fun _ _ l => l
  grow := fun _ _ h => h
  dead := fun _ h => h
  lock := fun n a h => ⟨h, upd_ne fun e => st.live (live_of h) (by rw [e]; exact hp)⟩
theorem StOk.fresh {s : S} (st : StOk W γ s H) {p : Addr} (hp : H p = none) : ¬ Live γ p := fun l => st.live l hp
theorem StOk.new {s : S} (st : StOk W γ s H) {p : Addr} {o : HO} (hp : H p = none) : StOk W γ s (upd H p o) :=
  ⟨st.len, st.inj, fun n c h => COk.ext (ext_new st hp) rfl (fun a b e => by
    have : a ≠ p := fun q => st.fresh hp (by rw [← q]; exact live_of e)
    exact upd_ne this) (st.ok n c h)⟩
/-- a changing object changes -/
theorem ext_write {s : S} (st : StOk W γ s H) {n : Nat} {p : Addr} {o : HO} (hp : γ[n]? = some (some (p, false))) : Ext γ γ H (upd H p o) where
  keep := fun a o l h d => by
    have hn : a ≠ p := fun e => l (by rw [e]; exact live_of hp)
    rw [upd_ne hn]; exact h
  read := fun a u l h => by
    have hn : a ≠ p := fun e => l (by rw [e]; exact live_of hp)
    rcases h with h | ⟨o, h⟩
    · exact .inl (by rw [upd_ne hn]; exact h)
    · exact .inr ⟨o, by rw [upd_ne hn]; exact h⟩
  live := fun _ _ l => l
  grow := fun _ _ h => h
  dead := fun _ h => h
  lock := fun m a h => ⟨h, upd_ne fun e => by
    subst e
    have := st.inj n m a _ _ hp h
    subst this
    rw [hp] at h
    cases h⟩
theorem StOk.write {s : S} (st : StOk W γ s H) {n : Nat} {p : Addr} {o : HO} {c : C} (hp : γ[n]? = some (some (p, false))) (h : COk W γ (upd H p o) n c) : StOk W γ (s.set n c) (upd H p o) := by
  refine ⟨by rw [st.len, List.length_set], st.inj, fun m d e => ?_⟩
  by_cases hm : n = m
  · subst hm
    rw [List.getElem?_set_self'] at e
    cases q : s[n]? with
    | none => rw [q] at e; cases e
    | some b => rw [q] at e; cases e; exact h
  · rw [List.getElem?_set_ne hm] at e
    refine COk.ext (ext_write st hp) rfl (fun a b q => ?_) (st.ok m d e)
    have : a ≠ p := fun z => hm (st.inj n m p _ _ hp (by rw [← z]; exact q))
    exact upd_ne this
/-- a new changing object -/
theorem ext_cell {s : S} (st : StOk W γ s H) {p : Addr} {o : HO} (hp : H p = none) : Ext γ (γ ++ [some (p, false)]) H (upd H p o) where
  keep := (ext_new st hp).keep
  read := (ext_new st hp).read
  live := fun a h l => by
    obtain ⟨b, l⟩ := l
    rcases List.mem_append.mp l with l | l
    · exact ⟨b, l⟩
    · have e : a = p := by simpa using congrArg (fun z => z.map Prod.fst) (List.mem_singleton.mp l)
      rw [e] at h; exact absurd hp h
  grow := fun n a h => by
    have hn := h.lt
    obtain ⟨o, h1, h2⟩ := h
    exact ⟨o, by rw [List.getElem?_append_left hn]; exact h1, h2⟩
  dead := fun n h => by
    have hn : n < γ.length := (List.getElem?_eq_some_iff.mp h).1
    rw [List.getElem?_append_left hn]; exact h
  lock := fun n a h => by
    have hn : n < γ.length := (List.getElem?_eq_some_iff.mp h).1
    exact ⟨by rw [List.getElem?_append_left hn]; exact h, ((ext_new (o := o) st hp).lock n a h).2⟩
/-- the n-th place is set -/
theorem get_set {n m : Nat} {o : Option (Addr × Bool)} (hn : n < γ.length) : (γ.set n o)[m]? = if n = m then some o else γ[m]? := by
  by_cases h : n = m
  · subst h
    rw [List.getElem?_set_self hn, if_pos rfl]
  · rw [List.getElem?_set_ne h, if_neg h]
theorem live_set {n : Nat} {o : Option (Addr × Bool)} {b : Addr} (l : Live (γ.set n o) b) : Live γ b ∨ ∃ k, o = some (b, k) := by
  obtain ⟨k, l⟩ := l
  rcases List.mem_or_eq_of_mem_set l with l | l
  · exact .inl ⟨k, l⟩
  · exact .inr ⟨k, l.symm⟩
/-- it holds nothing any more: what it held are data from then on -/
theorem ext_die {n : Nat} {a : Addr} (hp : γ[n]? = some (some (a, false))) : Ext γ (γ.set n none) H H where
  keep := fun _ _ _ h _ => h
  read := fun _ _ _ h => h
  live := fun b _ l => by
    rcases live_set l with l | ⟨k, e⟩
    · exact l
    · cases e
  grow := fun m b h => by
    have hn : n < γ.length := (List.getElem?_eq_some_iff.mp hp).1
    obtain ⟨o, h1, h2⟩ := h
    by_cases e : n = m
    · exact ⟨none, by rw [get_set hn, if_pos e], fun p q => by cases q⟩
    · exact ⟨o, by rw [get_set hn, if_neg e]; exact h1, h2⟩
  dead := fun m h => by
    have hn : n < γ.length := (List.getElem?_eq_some_iff.mp hp).1
    rw [get_set hn]
    by_cases e : n = m
    · rw [if_pos e]
    · rw [if_neg e]; exact h
  lock := fun m b h => by
    have hn : n < γ.length := (List.getElem?_eq_some_iff.mp hp).1
    refine ⟨?_, rfl⟩
    rw [get_set hn, if_neg fun e => ?_]
    · exact h
    · subst e; rw [hp] at h; cases h
theorem StOk.die {s : S} (st : StOk W γ s H) {n : Nat} {a : Addr} (hp : γ[n]? = some (some (a, false))) : StOk W (γ.set n none) (s.set n .x) H ∧ ¬ Live (γ.set n none) a := by
  have hn : n < γ.length := (List.getElem?_eq_some_iff.mp hp).1
  have hs : n < s.length := by rw [← st.len]; exact hn
  have back : ∀ m b k, (γ.set n none)[m]? = some (some (b, k)) → γ[m]? = some (some (b, k)) ∧ n ≠ m := fun m b k e => by
    rw [get_set hn] at e
    by_cases q : n = m
    · rw [if_pos q] at e; cases e
    · rw [if_neg q] at e; exact ⟨e, q⟩
  refine ⟨⟨by rw [List.length_set, List.length_set, st.len], fun i j b k l h1 h2 => st.inj i j b k l (back _ _ _ h1).1 (back _ _ _ h2).1, fun m c e => ?_⟩, fun ⟨k, l⟩ => ?_⟩
  · by_cases q : n = m
    · subst q
      rw [List.getElem?_set_self hs] at e
      cases e
      show (γ.set n none)[n]? = some none
      rw [get_set hn, if_pos rfl]
    · rw [List.getElem?_set_ne q] at e
      exact COk.ext (ext_die hp) (by rw [get_set hn, if_neg q]) (fun _ _ _ => rfl) (st.ok m c e)
  · obtain ⟨m, hm, e⟩ := List.getElem_of_mem l
    have e1 : (γ.set n none)[m]? = some (some (a, k)) := by rw [List.getElem?_eq_getElem hm, e]
    obtain ⟨e2, ne⟩ := back _ _ _ e1
    exact ne (st.inj n m a _ _ hp e2)
/-- a list is held by a walk, and let go -/
theorem ext_flag {n : Nat} {a : Addr} {k k' : Bool} (hp : γ[n]? = some (some (a, k))) (hk : k = false) : Ext γ (γ.set n (some (a, k'))) H H where
  keep := fun _ _ _ h _ => h
  read := fun _ _ _ h => h
  live := fun b _ l => by
    rcases live_set l with l | ⟨j, e⟩
    · exact l
    · cases e; exact live_of hp
  grow := fun m b h => by
    have hn : n < γ.length := (List.getElem?_eq_some_iff.mp hp).1
    by_cases e : n = m
    · subst e
      have := h.eq hp
      subst this
      exact Pl.of (k := k') (by rw [get_set hn, if_pos rfl])
    · obtain ⟨o, h1, h2⟩ := h
      exact ⟨o, by rw [get_set hn, if_neg e]; exact h1, h2⟩
  dead := fun m h => by
    have hn : n < γ.length := (List.getElem?_eq_some_iff.mp hp).1
    rw [get_set hn, if_neg fun e => ?_]
    · exact h
    · subst e; rw [hp] at h; cases h
  lock := fun m b h => by
    have hn : n < γ.length := (List.getElem?_eq_some_iff.mp hp).1
    refine ⟨?_, rfl⟩
    rw [get_set hn, if_neg fun e => ?_]
    · exact h
    · subst e; rw [hp] at h; cases h; cases hk
theorem StOk.flag {s : S} (st : StOk W γ s H) {n : Nat} {a : Addr} {k k' : Bool} {c : C} (hp : γ[n]? = some (some (a, k))) (x : Ext0 γ (γ.set n (some (a, k'))) H H) (g : ∀ m b, Pl γ m b → Pl (γ.set n (some (a, k'))) m b)
    (h : COk W (γ.set n (some (a, k'))) H n c) : StOk W (γ.set n (some (a, k'))) (s.set n c) H := by
  have hn : n < γ.length := (List.getElem?_eq_some_iff.mp hp).1
  have hs : n < s.length := by rw [← st.len]; exact hn
  have back : ∀ m b j, (γ.set n (some (a, k')))[m]? = some (some (b, j)) → ∃ i, γ[m]? = some (some (b, i)) := fun m b j e => by
    rw [get_set hn] at e
    by_cases q : n = m
    · subst q
      rw [if_pos rfl] at e
      cases e
      exact ⟨k, hp⟩
    · rw [if_neg q] at e; exact ⟨j, e⟩
  refine ⟨by rw [List.length_set, List.length_set, st.len], fun i j b k l h1 h2 => ?_, fun m d e => ?_⟩
  · obtain ⟨_, h1⟩ := back _ _ _ h1
    obtain ⟨_, h2⟩ := back _ _ _ h2
    exact st.inj i j b _ _ h1 h2
  · by_cases q : n = m
    · subst q
      rw [List.getElem?_set_self hs] at e
      cases e
      exact h
    · rw [List.getElem?_set_ne q] at e
      have hg : (γ.set n (some (a, k')))[m]? = γ[m]? := by rw [get_set hn, if_neg q]
      have rd : ∀ {ds : List D} {vs : List V}, RepDs W γ H ds vs → RepDs W (γ.set n (some (a, k'))) H ds vs := fun {ds vs} r => by
        induction ds generalizing vs with
        | nil => exact r
        | cons d ds ih =>
          obtain ⟨v, r', e, h1, h2⟩ := r
          refine ⟨v, r', e, ?_, ih h2⟩
          cases d with
          | t y => exact Rep.ext0 x y v h1
          | c i => obtain ⟨b, e, h⟩ := h1; exact ⟨b, e, g _ _ h⟩
      have z := st.ok m d e
      cases d with
      | x => exact hg.trans z
      | l ds => obtain ⟨b, vs, h1, h2, h3, h4⟩ := z; exact ⟨b, vs, hg.trans h1, h2, rd h3, h4⟩
      | lk ds => obtain ⟨b, vs, h1, h2, h3, h4⟩ := z; exact ⟨b, vs, hg.trans h1, h2, rd h3, h4⟩
      | i c fs => obtain ⟨b, dx, vs, h1, h2, h3⟩ := z; exact ⟨b, dx, vs, hg.trans h1, h2, RepFs.ext0 x fs vs h3⟩
end
end Z
end
section
set_option Elab.async false
set_option linter.all false
set_option maxRecDepth 100000
set_option maxHeartbeats 1000000
set_option autoImplicit false
namespace Z
open PySem PySem.Spec L2

/-- data as they are seen: a list may be one that changes -/
def Vw (W : Wd) (γ : Ga) (H : Hp) : T → V → Prop
  | .lst ds, v => ∃ a vs, v = .ref a ∧ H a = some (.lst vs) ∧ Reps W γ H ds vs
  | .ins c fs, v => ∃ a dx ws, v = .ref a ∧ H a = some (.ins (W.ca c) dx ws) ∧ RepFs W γ H fs ws
  | x, v => Rep W γ H x v
section
variable {W : Wd} {γ γ' : Ga} {H H' : Hp}
theorem Rep.vw : ∀ {x : T} {v : V}, Rep W γ H x v → Vw W γ H x v
  | .lst _, _, ⟨a, vs, e, _, h, r⟩ => ⟨a, vs, e, h, r⟩
  | .ins _ _, _, ⟨a, dx, ws, e, _, h, r⟩ => ⟨a, dx, ws, e, h, r⟩
  | .non, _, h => h
  | .bl _, _, h => h
  | .int _, _, h => h
  | .str _, _, h => h
  | .ty _, _, h => h
  | .cls _, _, h => h
  | .tup _, _, h => h
  | .dk _, _, h => h
  | .dt _, _, h => h
  | .scr _, _, h => h
theorem trees_ok : ∀ {ds : List D} {xs : List T} {vs : List V}, trees ds = some xs → RepDs W γ H ds vs → Reps W γ H xs vs
  | [], xs, vs, e, h => by
    cases e
    exact h
  | .t x :: r, xs, vs, e, ⟨v, q, e2, h1, h2⟩ => by
    unfold trees at e
    cases z : trees r with
    | none => rw [z] at e; cases e
    | some ys =>
      rw [z] at e
      cases e
      exact ⟨v, q, e2, h1, trees_ok z h2⟩
  | .c _ :: _, _, _, e, _ => by cases e
theorem trees_len : ∀ {ds : List D} {xs : List T}, trees ds = some xs → xs.length = ds.length
  | [], xs, e => by cases e; rfl
  | .t x :: r, xs, e => by
    unfold trees at e
    cases z : trees r with
    | none => rw [z] at e; cases e
    | some ys =>
      rw [z] at e
      cases e
      rw [List.length_cons, List.length_cons, trees_len z]
  | .c _ :: _, _, e => by cases e
theorem Reps.length : ∀ {ds : List T} {vs : List V}, Reps W γ H ds vs → vs.length = ds.length
  | [], _, h => by cases h; rfl
  | _ :: _, _, ⟨v, r, e, _, h⟩ => by rw [e, List.length_cons, List.length_cons, Reps.length h]
theorem RepDs.length : ∀ {ds : List D} {vs : List V}, RepDs W γ H ds vs → vs.length = ds.length
  | [], _, h => by cases h; rfl
  | _ :: _, _, ⟨v, r, e, _, h⟩ => by rw [e, List.length_cons, List.length_cons, RepDs.length h]
theorem Reps.append : ∀ {ds es : List T} {vs ws : List V}, Reps W γ H ds vs → Reps W γ H es ws → Reps W γ H (ds ++ es) (vs ++ ws)
  | [], _, _, _, h, k => by cases h; exact k
  | _ :: _, _, _, _, ⟨v, r, e, h1, h2⟩, k => by rw [e]; exact ⟨v, _, rfl, h1, Reps.append h2 k⟩
theorem RepDs.append : ∀ {ds es : List D} {vs ws : List V}, RepDs W γ H ds vs → RepDs W γ H es ws → RepDs W γ H (ds ++ es) (vs ++ ws)
  | [], _, _, _, h, k => by cases h; exact k
  | _ :: _, _, _, _, ⟨v, r, e, h1, h2⟩, k => by rw [e]; exact ⟨v, _, rfl, h1, RepDs.append h2 k⟩
theorem Reps.ds : ∀ {ds : List T} {vs : List V}, Reps W γ H ds vs → RepDs W γ H (ds.map D.t) vs
  | [], _, h => h
  | _ :: _, _, ⟨v, r, e, h1, h2⟩ => ⟨v, r, e, h1, Reps.ds h2⟩
theorem Reps.get : ∀ {ds : List T} {vs : List V} {i : Nat} {d : T}, Reps W γ H ds vs → ds[i]? = some d → ∃ v, vs[i]? = some v ∧ Rep W γ H d v
  | [], _, _, _, _, e => by simp at e
  | _ :: _, _, 0, _, ⟨v, r, e, h1, _⟩, q => by
    simp at q
    subst q
    rw [e]
    exact ⟨v, by simp, h1⟩
  | _ :: ds, _, i + 1, d, ⟨v, r, e, _, h2⟩, q => by
    rw [e]
    obtain ⟨u, h3, h4⟩ := Reps.get (i := i) (d := d) h2 (by simpa using q)
    exact ⟨u, by simpa using h3, h4⟩
theorem RepDs.get : ∀ {ds : List D} {vs : List V} {i : Nat} {d : D}, RepDs W γ H ds vs → ds[i]? = some d → ∃ v, vs[i]? = some v ∧ RepD W γ H d v
  | [], _, _, _, _, e => by simp at e
  | _ :: _, _, 0, _, ⟨v, r, e, h1, _⟩, q => by
    simp at q
    subst q
    rw [e]
    exact ⟨v, by simp, h1⟩
  | _ :: ds, _, i + 1, d, ⟨v, r, e, _, h2⟩, q => by
    rw [e]
    obtain ⟨u, h3, h4⟩ := RepDs.get (i := i) (d := d) h2 (by simpa using q)
    exact ⟨u, by simpa using h3, h4⟩
theorem Reps.drop : ∀ {ds : List T} {vs : List V} (n : Nat), Reps W γ H ds vs → Reps W γ H (ds.drop n) (vs.drop n)
  | _, _, 0, h => h
  | [], _, _ + 1, h => by cases h; exact rfl
  | _ :: _, _, n + 1, ⟨v, r, e, _, h⟩ => by rw [e]; exact Reps.drop n h
theorem Reps.take : ∀ {ds : List T} {vs : List V} (n : Nat), Reps W γ H ds vs → Reps W γ H (ds.take n) (vs.take n)
  | _, _, 0, _ => rfl
  | [], _, _ + 1, h => by cases h; exact rfl
  | _ :: _, _, n + 1, ⟨v, r, e, h1, h⟩ => by rw [e]; exact ⟨v, _, rfl, h1, Reps.take n h⟩
theorem Reps.rep {ds : List T} {vs : List V} (h : Reps W γ H ds vs) : ∀ n : Nat, Reps W γ H (List.replicate n ds).flatten (List.replicate n vs).flatten
  | 0 => rfl
  | n + 1 => by
    rw [List.replicate_succ, List.replicate_succ, List.flatten_cons, List.flatten_cons]
    exact h.append (Reps.rep h n)
theorem view_ok {s : S} (st : StOk W γ s H) {d : D} {v : V} {x : T} (r : RepD W γ H d v) (e : view s d = some x) : Vw W γ H x v := by
  cases d with
  | t y =>
    cases e
    exact Rep.vw r
  | c n =>
    obtain ⟨a, rfl, ha⟩ := r
    unfold view at e
    simp only at e
    have key : ∀ (ds : List D) (k : Bool), (∃ b vs, γ[n]? = some (some (b, k)) ∧ H b = some (.lst vs) ∧ RepDs W γ H ds vs ∧ ∀ d ∈ ds, older n d = true) → (trees ds).map T.lst = some x → Vw W γ H x (.ref a) := fun ds k h e => by
      obtain ⟨b, vs, h1, h2, h3, _⟩ := h
      have := ha.eq h1
      subst this
      cases z : trees ds with
      | none => rw [z] at e; cases e
      | some xs =>
        rw [z] at e
        cases e
        exact ⟨b, vs, rfl, h2, trees_ok z h3⟩
    split at e
    · rename_i ds q
      exact key ds _ (st.ok n _ q) e
    · rename_i ds q
      exact key ds _ (st.ok n _ q) e
    · cases e
/-! data in the layer's words -/
mutual
theorem dp_ok : ∀ {x : T} {v : V}, Rep W γ H x v → isD x = true → Dp W.K H v (py x)
  | .non, _, h, _ => by cases h; exact .non
  | .bl b, _, h, _ => by cases h; exact .bl b
  | .int b, _, h, _ => by cases h; exact .int b
  | .str b, _, h, _ => by cases h; exact .str b
  | .tup ds, _, ⟨a, vs, e, h, r⟩, d => by rw [e]; exact .tup h.sq (dps_ok r d)
  | .lst ds, _, ⟨a, vs, e, _, h, r⟩, d => by rw [e]; exact .lst (SqL.of h) (dps_ok r d)
  | .ty _, _, _, d => by cases d
  | .cls _, _, _, d => by cases d
  | .dk _, _, _, d => by cases d
  | .dt _, _, _, d => by cases d
  | .ins _ _, _, _, d => by cases d
  | .scr _, _, _, d => by cases d
theorem dps_ok : ∀ {ds : List T} {vs : List V}, Reps W γ H ds vs → isDs ds = true → DpAll W.K H vs (pys ds)
  | [], _, h, _ => by cases h; exact .nil
  | d :: ds, _, ⟨v, r, e, h1, h2⟩, k => by
    have k' : (isD d && isDs ds) = true := k
    rw [Bool.and_eq_true] at k'
    rw [e]
    exact .cons (dp_ok h1 k'.1) (dps_ok h2 k'.2)
end
theorem vdp_ok {x : T} {v : V} (h : Vw W γ H x v) (d : isD x = true) : Dp W.K H v (py x) := by
  cases x with
  | lst ds =>
    obtain ⟨a, vs, e, h, r⟩ := h
    rw [e]
    exact .lst (SqL.of h) (dps_ok r d)
  | ins _ _ => cases d
  | _ => exact dp_ok (γ := γ) h d

/-! ### new objects -/
theorem new_lst {s : S} (st : StOk W γ s H) {p : Addr} (hp : H p = none) {ds : List T} {vs : List V} (r : Reps W γ H ds vs) : Rep W γ (upd H p (.lst vs)) (.lst ds) (.ref p) :=
  ⟨p, vs, rfl, st.fresh hp, upd_same, Reps.ext (ext_new st hp) ds vs r⟩
theorem new_tup {s : S} (st : StOk W γ s H) {p : Addr} (hp : H p = none) {ds : List T} {vs : List V} (r : Reps W γ H ds vs) : Rep W γ (upd H p (.tup vs)) (.tup ds) (.ref p) :=
  ⟨p, vs, rfl, .inl ⟨st.fresh hp, upd_same⟩, Reps.ext (ext_new st hp) ds vs r⟩
end

/-! ### what follows -/
def post {α β : Type} (W : Wd) (rel : Ga → Hp → α → β → Prop) (wx : Value → Option Addr → Hp → Prop) (γ : Ga) (H : Hp) (Q : β → Hp → Prop) : R α → Prop
  | .ok a s => ∀ γ' H' b, Ext γ γ' H H' → StOk W γ' s H' → rel γ' H' a b → Q b H'
  | .ex c fs s => ∀ γ' H' d, Ext γ γ' H H' → StOk W γ' s H' → (match d with
      | none => fs = []
      | some a => ∃ gs, ¬ Live γ' a ∧ H' a = some (.xd gs) ∧ RepFs W γ' H' fs gs) → wx (.ref (W.ca c)) d H'
  | .no => False
def EnvOk (W : Wd) (γ : Ga) (H : Hp) (σd : Sl) (σ : St) : Prop := σd.length = σ.length ∧ ∀ (i : Nat) (d : D), σd[i]? = some (some d) → ∃ v, σ[i]? = some (some v) ∧ RepD W γ H d v
section
variable {W : Wd} {γ γ' : Ga} {H H' : Hp} {α β : Type} {rel : Ga → Hp → α → β → Prop} {wx : Value → Option Addr → Hp → Prop} {Q : β → Hp → Prop}
theorem EnvOk.ext (x : Ext γ γ' H H') {σd : Sl} {σ : St} (e : EnvOk W γ H σd σ) : EnvOk W γ' H' σd σ := ⟨e.1, fun i d h => by
  obtain ⟨v, h1, h2⟩ := e.2 i d h
  exact ⟨v, h1, h2.ext x⟩⟩
theorem post_mono (x : Ext γ γ' H H') {r : R α} (h : post W rel wx γ H Q r) : post W rel wx γ' H' Q r := by
  cases r with
  | ok a s => exact fun γ2 H2 b x2 => h γ2 H2 b (x.trans x2)
  | ex c fs s => exact fun γ2 H2 d x2 => h γ2 H2 d (x.trans x2)
  | no => exact h
theorem post_bind {δ ε : Type} {rel' : Ga → Hp → δ → ε → Prop} {Q' : ε → Hp → Prop} {r : R α} {k : α → S → R δ} (h : post W rel' wx γ H Q' (r.bind k))
    (f : ∀ a s γ1 H1 b, r = .ok a s → Ext γ γ1 H H1 → StOk W γ1 s H1 → rel γ1 H1 a b → post W rel' wx γ1 H1 Q' (k a s) → Q b H1) : post W rel wx γ H Q r := by
  cases r with
  | ok a s => exact fun γ1 H1 b x st q => f a s γ1 H1 b rfl x st q (post_mono x h)
  | ex c fs s => exact h
  | no => exact h
end

/-! ### readings -/
abbrev at_ (wx : WX) (σ : St) : Value → Option Addr → Hp → Prop := fun c d H => wx c d σ H
abbrev relT (W : Wd) : Ga → Hp → D → V → Prop := fun γ H d v => RepD W γ H d v
abbrev relTs (W : Wd) : Ga → Hp → List D → List V → Prop := fun γ H d v => RepDs W γ H d v
abbrev relB : Ga → Hp → Bool → Bool → Prop := fun _ _ b c => b = c
abbrev relO : Ga → Hp → Option Int → Option Int → Prop := fun _ _ b c => b = c
def tE (W : Wd) (wx : WX) (f : Sl → S → R D) : TE := fun σ H Q => ∃ γ σd s, EnvOk W γ H σd σ ∧ StOk W γ s H ∧ post W (relT W) (at_ wx σ) γ H Q (f σd s)
def tT (W : Wd) (wx : WX) (f : Sl → S → R Bool) : TT := fun σ H Q => ∃ γ σd s, EnvOk W γ H σd σ ∧ StOk W γ s H ∧ post W relB (at_ wx σ) γ H Q (f σd s)
def tA (W : Wd) (wx : WX) (f : Sl → S → R (List D)) : TA := fun σ H Q => ∃ γ σd s, EnvOk W γ H σd σ ∧ StOk W γ s H ∧ post W (relTs W) (at_ wx σ) γ H Q (f σd s)
def tO (W : Wd) (wx : WX) (f : Sl → S → R (Option Int)) : TO := fun σ H Q => ∃ γ σd s, EnvOk W γ H σd σ ∧ StOk W γ s H ∧ post W relO (at_ wx σ) γ H Q (f σd s)
end Z
end
section
set_option Elab.async false
set_option linter.all false
set_option maxRecDepth 100000
set_option maxHeartbeats 1000000
set_option autoImplicit false
namespace Z
open PySem PySem.Spec L2

/-- what a new value of data is wanted for -/
def Nw (W : Wd) (γ : Ga) (s : S) (H : Hp) (z : T) (Q : VK) : Prop := ∀ γ' H' v, Ext γ γ' H H' → StOk W γ' s H' → Rep W γ' H' z v → Q v H'
section
variable {W : Wd} {γ : Ga} {s : S} {H : Hp} {Q : VK}
theorem Nw.here {z : T} {v : V} (st : StOk W γ s H) (h : Nw W γ s H z Q) (r : Rep W γ H z v) : Q v H := h γ H v Ext.refl st r
theorem Nw.lst {ds : List T} {vs : List V} (st : StOk W γ s H) (h : Nw W γ s H (.lst ds) Q) (r : Reps W γ H ds vs) : ∀ p, H p = none → Q (.ref p) (upd H p (.lst vs)) :=
  fun p hp => h γ _ _ (ext_new st hp) (st.new hp) (new_lst st hp r)
theorem Nw.tup {ds : List T} {vs : List V} (st : StOk W γ s H) (h : Nw W γ s H (.tup ds) Q) (r : Reps W γ H ds vs) : ∀ p, H p = none → Q (.ref p) (upd H p (.tup vs)) :=
  fun p hp => h γ _ _ (ext_new st hp) (st.new hp) (new_tup st hp r)
theorem nw_of {a : Option T} {wx : Value → Option Addr → Hp → Prop} (h : post W (relT W) wx γ H Q (R.of (a.map D.t) s)) : ∃ z, a = some z ∧ Nw W γ s H z Q := by
  cases a with
  | none => exact h.elim
  | some z => exact ⟨z, rfl, h⟩
end

def rBin (W : Wd) (f : T → T → Option T) : R2 := fun x y H Q => ∃ γ s a b z, StOk W γ s H ∧ Vw W γ H a x ∧ Vw W γ H b y ∧ f a b = some z ∧ Nw W γ s H z Q
section
variable {W : Wd} {X : Cx}
theorem if_some {α : Type} {c : Prop} [Decidable c] {a z : α} (h : (if c then some a else none) = some z) : c ∧ a = z := by
  by_cases hc : c
  · rw [if_pos hc] at h; exact ⟨hc, Option.some.inj h⟩
  · rw [if_neg hc] at h; cases h
theorem op_bin (hK : X.K = W.K) (op : Operator) : OpR X (binaryOp op) (rBin W (binT op)) := by
  intro pins s0 σ H x y v u Q I rx ry h
  obtain ⟨γ, s, a, b, z, st, va, vb, e, n⟩ := h
  unfold binT at e
  split at e
  · cases e; cases va; cases vb
    exact op_add pins s0 σ H _ _ v u Q I rx ry ⟨_, _, rfl, rfl, n.here st rfl⟩
  · obtain ⟨hc, e⟩ := if_some e
    cases e; cases va; cases vb
    exact op_add_str pins s0 σ H _ _ v u Q I rx ry ⟨_, _, rfl, rfl, hc, n.here st rfl⟩
  · obtain ⟨hc, e⟩ := if_some e
    cases e
    obtain ⟨p, vs, rfl, h1, r1⟩ := va
    obtain ⟨q, ws, rfl, h2, r2⟩ := vb
    exact op_cat pins s0 σ H _ _ v u Q I rx ry ⟨_, _, _, _, rfl, rfl, h1, h2, by rw [r1.length, r2.length]; exact hc, n.lst st (r1.append r2)⟩
  · obtain ⟨hc, e⟩ := if_some e
    cases e
    obtain ⟨p, vs, rfl, h1, r1⟩ := va
    obtain ⟨q, ws, rfl, h2, r2⟩ := vb
    refine op_catA pins s0 σ H _ _ v u Q I rx ry ⟨_, _, _, _, rfl, rfl, by rw [hK]; exact h1.sq, by rw [hK]; exact h2.sq, by rw [r1.length, r2.length]; exact hc, fun e => ?_, fun _ e => ?_, fun _ _ => n.tup st (r1.append r2)⟩
    · subst e
      refine n.here st ⟨q, ws, rfl, h2, ?_⟩
      have := r1.append r2
      rwa [List.nil_append] at this
    · subst e
      refine n.here st ⟨p, vs, rfl, h1, ?_⟩
      have := r1.append r2
      rwa [List.append_nil] at this
  · cases e; cases va; cases vb
    exact op_sub pins s0 σ H _ _ v u Q I rx ry ⟨_, _, rfl, rfl, n.here st rfl⟩
  · obtain ⟨hc, e⟩ := if_some e
    cases e; cases va; cases vb
    exact op_mulW pins s0 σ H _ _ v u Q I rx ry ⟨_, _, rfl, rfl, hc, n.here st rfl⟩
  · obtain ⟨hc, e⟩ := if_some e
    cases e; cases vb
    obtain ⟨p, vs, rfl, h1, r1⟩ := va
    exact op_rep pins s0 σ H _ _ v u Q I rx ry ⟨_, _, _, rfl, rfl, h1, hc.1, hc.2.1, by rw [r1.length]; exact hc.2.2, n.lst st (r1.rep _)⟩
  · obtain ⟨hc, e⟩ := if_some e
    cases e; cases va; cases vb
    exact op_fdivW pins s0 σ H _ _ v u Q I rx ry ⟨_, _, rfl, rfl, hc, n.here st rfl⟩
  · obtain ⟨hc, e⟩ := if_some e
    cases e; cases va; cases vb
    exact op_mod pins s0 σ H _ _ v u Q I rx ry ⟨_, _, rfl, rfl, hc, n.here st rfl⟩
  · obtain ⟨hc, e⟩ := if_some e
    cases e; cases va; cases vb
    exact op_pow pins s0 σ H _ _ v u Q I rx ry ⟨_, _, rfl, rfl, hc, n.here st rfl⟩
  · cases e

/-! ### comparisons: the answer a truth -/
def rCmp (W : Wd) (f : T → T → Option Bool) : R2 := fun x y H Q => ∃ γ a b k, Vw W γ H a x ∧ Vw W γ H b y ∧ f a b = some k ∧ Q (.bl k) H
theorem eqT_some {a b : T} {k : Bool} (h : eqT a b = some k) : isD a = true ∧ isD b = true ∧ SeqAt.shaped (py a) = true ∧ SeqAt.shaped (py b) = true ∧ k = PyData.eqv (py a) (py b) := by
  unfold eqT at h
  obtain ⟨h1, h2⟩ := if_some h
  unfold cmpable at h1
  simp only [Bool.and_eq_true] at h1
  exact ⟨h1.1.1, h1.2.1, h1.1.2, h1.2.2, h2.symm⟩
theorem map_some' {α β : Type} {o : Option α} {f : α → β} {z : β} (h : o.map f = some z) : ∃ a, o = some a ∧ f a = z := by
  cases o with
  | none => cases h
  | some a => exact ⟨a, rfl, Option.some.inj h⟩
theorem pys_map : ∀ ds : List T, pys ds = ds.map py
  | [] => rfl
  | d :: ds => by
    show py d :: pys ds = _
    rw [pys_map ds]; rfl
theorem inT_some {a b : T} {k : Bool} (h : inT a b = some k) : ∃ ds, (b = .lst ds ∨ b = .tup ds) ∧ isD a = true ∧ isD b = true ∧ SeqAt.shaped (py a) = true ∧ SeqAt.shaped (py b) = true ∧ k = (pys ds).any fun z => PyData.eqv z (py a) := by
  unfold inT at h
  split at h
  · rename_i x ds
    obtain ⟨h1, h2⟩ := if_some h
    unfold cmpable at h1
    simp only [Bool.and_eq_true] at h1
    refine ⟨ds, .inl rfl, h1.1.1, h1.2.1, h1.1.2, h1.2.2, ?_⟩
    rw [← h2, pys_map, List.any_map]
    rfl
  · rename_i x ds
    obtain ⟨h1, h2⟩ := if_some h
    unfold cmpable at h1
    simp only [Bool.and_eq_true] at h1
    refine ⟨ds, .inr rfl, h1.1.1, h1.2.1, h1.1.2, h1.2.2, ?_⟩
    rw [← h2, pys_map, List.any_map]
    rfl
  · cases h
theorem isT_some {γ : Ga} {H : Hp} {a b : T} {x y : V} {k : Bool} (va : Vw W γ H a x) (vb : Vw W γ H b y) (h : isT a b = some k) :
    (y = .non ∧ k = decide (x = .non)) ∨ ∃ c d, x = .bl c ∧ y = .bl d ∧ k = decide (c = d) := by
  unfold isT at h
  split at h
  · cases h
    refine .inl ⟨vb, ?_⟩
    cases a with
    | non =>
      have : x = .non := va
      rw [this]; rfl
    | _ =>
      first
        | (have : x = _ := va
           rw [this]; rfl)
        | (obtain ⟨_, e, _⟩ := va
           rw [e]; rfl)
        | (obtain ⟨_, _, e, _⟩ := va
           rw [e]; rfl)
        | (obtain ⟨_, _, _, e, _⟩ := va
           rw [e]; rfl)
  · cases h
    exact .inr ⟨_, _, va, vb, rfl⟩
  · cases h
theorem op_cmp (hK : X.K = W.K) (hu : X.A.units + 65 < cLine) (op : CmpOp) : OpR X (compareOp op) (rCmp W (cmpT op)) := by
  intro pins s0 σ H x y v u Q I rx ry h
  obtain ⟨γ, a, b, k, va, vb, e, q⟩ := h
  have hu' : X.A.units + 64 < cLine := by omega
  unfold cmpT at e
  split at e
  · obtain ⟨h1, h2, h3, h4, rfl⟩ := eqT_some e
    exact op_eqD hu' pins s0 σ H _ _ v u Q I rx ry ⟨_, _, by rw [hK]; exact vdp_ok va h1, by rw [hK]; exact vdp_ok vb h2, h3, h4, q⟩
  · obtain ⟨k', e', rfl⟩ := map_some' e
    obtain ⟨h1, h2, h3, h4, rfl⟩ := eqT_some e'
    exact op_neD hu' pins s0 σ H _ _ v u Q I rx ry ⟨_, _, by rw [hK]; exact vdp_ok va h1, by rw [hK]; exact vdp_ok vb h2, h3, h4, q⟩
  · cases e; cases va; cases vb
    exact op_lt pins s0 σ H _ _ v u Q I rx ry ⟨_, _, rfl, rfl, q⟩
  · cases e; cases va; cases vb
    exact op_le pins s0 σ H _ _ v u Q I rx ry ⟨_, _, rfl, rfl, q⟩
  · cases e; cases va; cases vb
    exact op_gt pins s0 σ H _ _ v u Q I rx ry ⟨_, _, rfl, rfl, q⟩
  · cases e; cases va; cases vb
    exact op_ge pins s0 σ H _ _ v u Q I rx ry ⟨_, _, rfl, rfl, q⟩
  · rcases isT_some va vb e with ⟨rfl, rfl⟩ | ⟨c, d, rfl, rfl, rfl⟩
    · exact op_isN pins s0 σ H _ _ v u Q I rx ry ⟨rfl, q⟩
    · exact op_is_bl pins s0 σ H _ _ v u Q I rx ry ⟨_, _, rfl, rfl, q⟩
  · obtain ⟨k', e', rfl⟩ := map_some' e
    rcases isT_some va vb e' with ⟨rfl, rfl⟩ | ⟨c, d, rfl, rfl, rfl⟩
    · exact op_notN pins s0 σ H _ _ v u Q I rx ry ⟨rfl, q⟩
    · exact op_isnot_bl pins s0 σ H _ _ v u Q I rx ry ⟨_, _, rfl, rfl, q⟩
  · obtain ⟨ds, rfl | rfl, h1, h2, h3, h4, rfl⟩ := inT_some e
    rotate_left
    · obtain ⟨as, r1⟩ := Dp.reads I _ x v (by rw [hK]; exact vdp_ok va h1) rx
      obtain ⟨bs, r2⟩ := Dp.reads I (.tuple (pys ds)) y u (by rw [hK]; exact vdp_ok vb h2) ry
      exact SeqAt.in_tuple_reads r2 r1 (SeqAt.canLay_of_shaped (d := .tuple (pys ds)) h4) (SeqAt.canLay_of_shaped h3) (PyProof.Rows.room_in_shaped h3 hu) ⟨.bl _, H, I, rfl, q⟩
    exact op_inD hu pins s0 σ H _ _ v u Q I rx ry ⟨_, _, by rw [hK]; exact vdp_ok va h1, by rw [hK]; exact vdp_ok vb h2, h3, h4, q⟩
  · obtain ⟨k', e', rfl⟩ := map_some' e
    obtain ⟨ds, rfl | rfl, h1, h2, h3, h4, rfl⟩ := inT_some e'
    rotate_left
    · obtain ⟨as, r1⟩ := Dp.reads I _ x v (by rw [hK]; exact vdp_ok va h1) rx
      obtain ⟨bs, r2⟩ := Dp.reads I (.tuple (pys ds)) y u (by rw [hK]; exact vdp_ok vb h2) ry
      exact SeqAt.notIn_tuple_reads r2 r1 (SeqAt.canLay_of_shaped (d := .tuple (pys ds)) h4) (SeqAt.canLay_of_shaped h3) (PyProof.Rows.room_in_shaped h3 hu) ⟨.bl _, H, I, rfl, q⟩
    exact op_notInD hu pins s0 σ H _ _ v u Q I rx ry ⟨_, _, by rw [hK]; exact vdp_ok va h1, by rw [hK]; exact vdp_ok vb h2, h3, h4, q⟩
  · cases e

/-! ### truth -/
theorem same_empty {α β : Type} {xs : List α} {ys : List β} (h : xs.length = ys.length) : ys.isEmpty = xs.isEmpty := by
  cases xs <;> cases ys <;> simp at h <;> rfl
theorem tru_vw (hK : X.K = W.K) {γ : Ga} {H : Hp} {a : T} {x : V} {k : Bool} (va : Vw W γ H a x) (h : tru a = some k) : TruV X.K x H k := by
  rw [hK]
  unfold tru at h
  split at h
  · cases h; cases va; rfl
  · cases h; cases va; rfl
  · cases h; cases va; rfl
  · obtain ⟨h1, h2⟩ := if_some h
    cases va
    exact ⟨h1, h2.symm⟩
  · cases h
    obtain ⟨p, vs, rfl, h1, r⟩ := va
    refine .inl ⟨vs, SqL.of h1, ?_⟩
    rw [same_empty r.length]
  · cases h
    obtain ⟨p, vs, rfl, h1, r⟩ := va
    refine .inr (.inl ⟨vs, h1.sq, ?_⟩)
    rw [same_empty r.length]
  · cases h
  · cases h
end
end Z
end
section
set_option Elab.async false
set_option linter.all false
set_option maxRecDepth 100000
set_option maxHeartbeats 1000000
set_option autoImplicit false
namespace Z
open PySem PySem.Spec L2

def Vws (W : Wd) (γ : Ga) (H : Hp) : List T → List V → Prop
  | [], vs => vs = []
  | x :: xs, vs => ∃ v r, vs = v :: r ∧ Vw W γ H x v ∧ Vws W γ H xs r
section
variable {W : Wd} {γ : Ga} {H : Hp}
theorem views_ok {s : S} (st : StOk W γ s H) : ∀ {ds : List D} {xs : List T} {vs : List V}, ds.mapM (view s) = some xs → RepDs W γ H ds vs → Vws W γ H xs vs
  | [], xs, vs, e, h => by
    have e' : some [] = some xs := e
    cases e'
    exact h
  | d :: ds, xs, vs, e, ⟨v, r, e2, h1, h2⟩ => by
    rw [List.mapM_cons] at e
    cases z : view s d with
    | none => rw [z] at e; cases e
    | some x =>
      rw [z] at e
      cases y : ds.mapM (view s) with
      | none => rw [y] at e; cases e
      | some ys =>
        rw [y] at e
        cases e
        exact ⟨v, r, e2, view_ok st h1 z, views_ok st y h2⟩
theorem Vws.one {x : T} {vs : List V} (h : Vws W γ H [x] vs) : ∃ v, vs = [v] ∧ Vw W γ H x v := by
  obtain ⟨v, r, rfl, h1, h2⟩ := h
  cases h2
  exact ⟨v, rfl, h1⟩
theorem Vws.two {x y : T} {vs : List V} (h : Vws W γ H [x, y] vs) : ∃ v u, vs = [v, u] ∧ Vw W γ H x v ∧ Vw W γ H y u := by
  obtain ⟨v, r, rfl, h1, h2⟩ := h
  obtain ⟨u, rfl, h3⟩ := Vws.one h2
  exact ⟨v, u, rfl, h1, h3⟩
theorem ty_ok {x : T} {v : V} {n : String} (h : Vw W γ H x v) (e : tyName x = some n) : TyX W.K H v (.type n) := by
  cases x with
  | non => cases e; cases h; exact .base .non
  | bl b => cases e; cases h; exact .base (.bl b)
  | int i => cases e; cases h; exact .base (.int i)
  | str z => cases e; cases h; exact .base (.str z)
  | tup ds =>
    cases e
    obtain ⟨a, vs, rfl, ht, _⟩ := h
    rcases ht with ⟨_, ht⟩ | ⟨o, its, n, h1, h2, _⟩
    · exact .base (.tup ht)
    · exact .kTuple h1 h2
  | lst ds =>
    cases e
    obtain ⟨a, vs, rfl, ht, _⟩ := h
    exact .base (.lst ht)
  | dk kvs =>
    cases e
    obtain ⟨a, ws, rfl, _, ht, _⟩ := h
    rcases ht with ht | ⟨o, ht⟩
    · exact .base (.dK ht)
    · exact .fDict ht
  | _ => cases e
end
theorem paired_ty {n k : String} {cs : List V} {us : List Value} (h : cs = [.ty n, .ty k]) (hu : us = [.type n, .type k]) : Paired ClsV cs us := by
  subst h hu
  exact .cons (.ty n) (.cons (.ty k) .nil)
theorem kit2 {K : PySem.W.Frag} {m n k : String} {b : Bool} (h : ((kitB m n).bind fun b => if b then some true else kitB m k) = some b) : PySem.W.kitAny K (.type m) [.type n, .type k] = some b := by
  cases e : kitB m n with
  | none => rw [e] at h; cases h
  | some c =>
    rw [e] at h
    cases c with
    | true =>
      cases h
      exact kitAny_cons (kit_ty e) (fun q => nomatch q) (fun _ => rfl)
    | false =>
      refine kitAny_cons (kit_ty e) (fun _ => ?_) (fun q => nomatch q)
      refine kitAny_cons (kit_ty h) (fun q => ?_) (fun q => q)
      rw [q]
      exact kitAny_nil
def rBi (W : Wd) (b : Bi) : List V → Hp → VK → Prop := fun xs H Q => ∃ γ s ts z, StOk W γ s H ∧ Vws W γ H ts xs ∧ biT b ts = some z ∧ Nw W γ s H z Q
def biVal : Bi → Value
  | .len => .builtin "len"
  | .int => .type "int"
  | .abs => .builtin "abs"
  | .list => .type "list"
  | .tuple => .type "tuple"
  | .gcd => .builtin "math.gcd"
  | .isi => .builtin "isinstance"
theorem vals_ty2 {n k : String} {its : List Value} (h : Vals [.ty n, .ty k] its) : its = [.type n, .type k] := by
  cases h with
  | cons r1 t =>
    cases t with
    | cons r2 t2 =>
      cases t2
      cases r1
      cases r2
      rfl
section
variable {W : Wd} {X : Cx}
theorem cr_bi (hK : X.K = W.K) (b : Bi) : CallR X (biVal b) (rBi W b) := by
  intro pins s0 σ H xs us Q I r h
  obtain ⟨γ, s, ts, z, st, vw, e, n⟩ := h
  unfold biT at e
  split at e
  · cases e
    obtain ⟨v, rfl, p, vs, rfl, h1, r1⟩ := vw.one
    refine call_len_seq pins s0 σ H _ us Q I r ⟨_, _, rfl, .inl (SqL.of h1), ?_⟩
    rw [r1.length]
    exact n.here st rfl
  · cases e
    obtain ⟨v, rfl, p, vs, rfl, h1, r1⟩ := vw.one
    refine call_len_seq pins s0 σ H _ us Q I r ⟨_, _, rfl, .inr (by rw [hK]; exact h1.sq), ?_⟩
    rw [r1.length]
    exact n.here st rfl
  · obtain ⟨hc, e⟩ := if_some e
    cases e
    obtain ⟨v, rfl, rfl⟩ := vw.one
    exact call_len_str pins s0 σ H _ us Q I r ⟨_, rfl, hc, n.here st rfl⟩
  · cases e
    obtain ⟨v, rfl, rfl⟩ := vw.one
    exact call_int1 pins s0 σ H _ us Q I r (.inl ⟨_, rfl, n.here st rfl⟩)
  · cases e
    obtain ⟨v, rfl, rfl⟩ := vw.one
    exact call_int1 pins s0 σ H _ us Q I r (.inr ⟨_, rfl, n.here st rfl⟩)
  · cases e
    obtain ⟨v, rfl, rfl⟩ := vw.one
    exact call_abs pins s0 σ H _ us Q I r ⟨_, rfl, n.here st rfl⟩
  · cases e
    obtain ⟨v, rfl, p, vs, rfl, h1, r1⟩ := vw.one
    exact call_list_of pins s0 σ H _ us Q I r ⟨_, _, rfl, .inl (SqL.of h1), n.lst st r1⟩
  · cases e
    obtain ⟨v, rfl, p, vs, rfl, h1, r1⟩ := vw.one
    exact call_list_of pins s0 σ H _ us Q I r ⟨_, _, rfl, .inr (by rw [hK]; exact h1.sq), n.lst st r1⟩
  · cases e
    obtain ⟨v, rfl, p, vs, rfl, h1, r1⟩ := vw.one
    exact call_tuple_of pins s0 σ H _ us Q I r ⟨_, _, rfl, .inl ⟨SqL.of h1, n.tup st r1⟩⟩
  · cases e
    obtain ⟨v, rfl, p, vs, rfl, h1, r1⟩ := vw.one
    exact call_tuple_of pins s0 σ H _ us Q I r ⟨_, _, rfl, .inr ⟨by rw [hK]; exact h1.sq, n.here st ⟨p, vs, rfl, h1, r1⟩⟩⟩
  · cases e
    obtain ⟨v, u, rfl, rfl, rfl⟩ := vw.two
    exact cr_gcd pins s0 σ H _ us Q I r ⟨_, _, rfl, n.here st rfl⟩
  · rename_i x c
    obtain ⟨k, e2, rfl⟩ := map_some' e
    clear e
    have e := e2
    clear e2
    obtain ⟨v, u, rfl, vx, vc⟩ := vw.two
    unfold isiT at e
    split at e
    · rename_i cn
      cases ty : tyName x with
      | none => rw [ty] at e; cases e
      | some m =>
        rw [ty] at e
        cases vc
        exact call_isi pins s0 σ H _ us Q I r ⟨_, _, _, _, _, rfl, .ty cn, by rw [hK]; exact ty_ok vx ty, kit_ty e, n.here st rfl⟩
    · rename_i cn ck
      cases ty : tyName x with
      | none => rw [ty] at e; cases e
      | some m =>
        rw [ty] at e
        obtain ⟨a, vs, rfl, ht, rs⟩ := vc
        obtain ⟨v1, q1, rfl, e1, v2, q2, rfl, e2, e3⟩ := rs
        cases e1; cases e2; cases e3
        rcases ht with ⟨_, ht⟩ | ⟨o, its, m', h1, h2, h3, h4, h5⟩
        · exact call_isiT pins s0 σ H _ us Q I r ⟨_, _, _, _, _, _, rfl, ht, paired_ty rfl rfl, by rw [hK]; exact ty_ok vx ty, kit2 e, n.here st rfl⟩
        · have e5 := vals_ty2 h5
          obtain ⟨oc, od, dt, sl⟩ := o
          simp only at h2 h3
          subst h2 h3
          refine call_isiK pins s0 σ H _ us Q I r ⟨_, _, od, [.type cn, .type ck], m', sl, _, _, rfl, ?_, by rw [hK]; exact ty_ok vx ty, by rw [hK]; exact kit2 e, n.here st rfl⟩
          rw [hK, h1]
          have : its = [Value.type cn, Value.type ck].toArray := by rw [← e5]
          rw [this]
    · cases e
  · cases e

/-! ### items, slices -/
def rSub (W : Wd) : R2 := fun x y H Q => ∃ γ s a b z, StOk W γ s H ∧ RepD W γ H a x ∧ RepD W γ H b y ∧ subD s a b = some z ∧ ∀ γ' H' v, Ext γ γ' H H' → StOk W γ' s H' → RepD W γ' H' z v → Q v H'
theorem atI_map {α β : Type} {xs : List α} {ys : List β} {i : Int} {z : α} {P : α → β → Prop} (hl : ys.length = xs.length) (h : ∀ (j : Nat) (d : α), xs[j]? = some d → ∃ v, ys[j]? = some v ∧ P d v) (e : atI xs i = some z) : ∃ v, atI ys i = some v ∧ P z v := by
  unfold atI at e ⊢
  rw [hl]
  cases q : ixN xs.length i with
  | none => rw [q] at e; cases e
  | some j =>
    rw [q] at e
    obtain ⟨v, h1, h2⟩ := h j z e
    exact ⟨v, h1, h2⟩
theorem ix_sub (hK : X.K = W.K) : IxR X (rSub W) := by
  intro ve se pins s0 σ H x y v u Q I rx ry h hs
  obtain ⟨γ, s, a, b, z, st, ra, rb, e, n⟩ := h
  unfold subD at e
  split at e
  · rename_i m i
    obtain ⟨p, rfl, hp⟩ := ra
    cases rb
    have key : ∀ (ds : List D) (k : Bool), (∃ b vs, γ[m]? = some (some (b, k)) ∧ H b = some (.lst vs) ∧ RepDs W γ H ds vs ∧ ∀ d ∈ ds, older m d = true) → atI ds i = some z → wpAny (model X.prog X.w) X.A (PyProof.Rows.subscriptTail ve se v u) (EP X pins σ Q) X.xe s0 := fun ds k h e => by
      obtain ⟨b, vs, h1, h2, h3, _⟩ := h
      have := hp.eq h1
      subst this
      obtain ⟨w, e2, r2⟩ := atI_map h3.length (fun j d q => h3.get q) e
      exact ix_list ve se pins s0 σ H _ _ v u Q I rx ry ⟨_, _, _, _, rfl, rfl, SqL.of h2, e2, n γ H _ Ext.refl st r2⟩ hs
    split at e
    · rename_i ds q
      exact key ds _ (st.ok m _ q) e
    · rename_i ds q
      exact key ds _ (st.ok m _ q) e
    · cases e
  · rename_i tx ty
    obtain ⟨t, e9, rfl⟩ := map_some' e
    clear e
    have e := e9
    clear e9
    unfold subT at e
    split at e
    · obtain ⟨p, vs, rfl, _, h1, r1⟩ := ra
      cases rb
      obtain ⟨w, e2, r2⟩ := atI_map r1.length (fun j d q => r1.get q) e
      exact ix_list ve se pins s0 σ H _ _ v u Q I rx ry ⟨_, _, _, _, rfl, rfl, SqL.of h1, e2, n γ H _ Ext.refl st r2⟩ hs
    · obtain ⟨p, vs, rfl, h1, r1⟩ := ra
      cases rb
      obtain ⟨w, e2, r2⟩ := atI_map r1.length (fun j d q => r1.get q) e
      exact ix_tup ve se pins s0 σ H _ _ v u Q I rx ry ⟨_, _, _, _, rfl, rfl, by rw [hK]; exact h1.sq, e2, n γ H _ Ext.refl st r2⟩ hs
    · obtain ⟨hc, e⟩ : _ ∧ _ := by
        by_cases hc : (‹Str›).length ≤ sizeLine
        · rw [if_pos hc] at e; exact ⟨hc, e⟩
        · rw [if_neg hc] at e; cases e
      obtain ⟨c, e2, rfl⟩ := map_some' e
      cases ra; cases rb
      exact ix_str ve se pins s0 σ H _ _ v u Q I rx ry ⟨_, _, _, rfl, rfl, hc, e2, n γ H _ Ext.refl st rfl⟩ hs
    · cases e
  · cases e
theorem cut_ok {γ : Ga} {H : Hp} {ds : List T} {vs : List V} (r : Reps W γ H ds vs) (lo hi : Option Int) : Reps W γ H (cutT ds lo hi) (cutV vs lo hi) := by
  unfold cutT cutV
  rw [r.length]
  exact (r.drop _).take _
def rSlc (W : Wd) : V → Option Int → Option Int → Hp → VK → Prop := fun x lo hi H Q => ∃ γ s a z, StOk W γ s H ∧ Vw W γ H a x ∧ slcT a lo hi = some z ∧ Nw W γ s H z Q
theorem whole {α : Type} (ds : List α) {a b : Nat} (h0 : a = 0) (h1 : b = ds.length) : (ds.drop a).take (b - a) = ds := by
  subst h0 h1
  simp
theorem sl_slc (hK : X.K = W.K) : SlR X (rSlc W) := by
  intro pins s0 σ H x v vl vu lo hi sl Q I rx hs pl pu h
  obtain ⟨γ, s, a, z, st, va, e, n⟩ := h
  unfold slcT at e
  split at e
  · cases e
    obtain ⟨p, vs, rfl, h1, r1⟩ := va
    exact sl_list pins s0 σ H _ v vl vu lo hi sl Q I rx hs pl pu ⟨_, _, rfl, SqL.of h1, n.lst st (cut_ok r1 lo hi)⟩
  · cases e
    obtain ⟨p, vs, rfl, h1, r1⟩ := va
    refine sl_tupA pins s0 σ H _ v vl vu lo hi sl Q I rx hs pl pu ⟨_, _, rfl, by rw [hK]; exact h1.sq, fun hw => ?_, fun _ => n.tup st (cut_ok r1 lo hi)⟩
    refine n.here st ?_
    have e1 : cutT _ lo hi = _ := whole (ds := ‹List T›) (by rw [← r1.length]; exact hw.1) (by rw [← r1.length]; exact hw.2)
    rw [e1]
    exact ⟨p, vs, rfl, h1, r1⟩
  · cases e
end
end Z
end
section
set_option Elab.async false
set_option linter.all false
set_option maxRecDepth 100000
set_option maxHeartbeats 1000000
set_option autoImplicit false
namespace Z
open PySem PySem.Spec L2

/-! ### no star, no super() -/
def plainE : Expr → Bool
  | .Starred _ _ => false
  | _ => true
theorem star_cons {e : Expr} {es : List Expr} {env : Env} (h : plainE e = true) : starEach (e :: es) env = (false, eval e env) :: starEach es env := by
  cases e <;> first | rfl | cases h
theorem star_any {pos : Pos} {env : Env} : ∀ {es : List Expr}, es.all plainE = true → (backTo pos (starEach es env)).any (·.1) = false
  | [], _ => rfl
  | e :: es, h => by
    rw [List.all_cons, Bool.and_eq_true] at h
    rw [star_cons h.1]
    show (false || (backTo pos (starEach es env)).any (·.1)) = false
    rw [star_any h.2]
    rfl
theorem star_all {pos : Pos} {env : Env} : ∀ {es : List Expr}, es.all plainE = true → (backTo pos (starEach es env)).all (fun x => !x.1) = true
  | [], _ => rfl
  | e :: es, h => by
    rw [List.all_cons, Bool.and_eq_true] at h
    rw [star_cons h.1]
    show (true && (backTo pos (starEach es env)).all (fun x => !x.1)) = true
    rw [star_all h.2]
    rfl
def noSuper : Expr → Bool
  | .Call (.Name _ _) [] [] _ => false
  | _ => true
theorem base_of {o : Expr} {m : Str} {env : Env} (h : noSuper o = true) : attributeBase o m env (eval o env) = eval o env := by
  unfold attributeBase
  split
  · cases h
  · rfl
theorem form_of {pos : Pos} {env : Env} {es : List Expr} (h : es.all plainE = true) (hl : es.length < 30) : methodCallForm (es.length + ([] : List Keyword).length) (backTo pos (starEach es env)) (backToKw pos (keywordEach [] env)) = true := by
  unfold methodCallForm
  rw [star_all h]
  show (true && true && decide (es.length + 0 + 0 < 30)) = true
  rw [decide_eq_true (by omega)]
  rfl
theorem meth_eval {o : Expr} {m : Str} {apos pos : Pos} {env : Env} {es : List Expr} (ho : noSuper o = true) (h : es.all plainE = true) (hl : es.length < 30) (hp : (apos.endLine == pos.line) = true) :
    eval (.Call (.Attribute o m apos) es [] pos) env = (do let ov ← eval o env; standAt apos.atName; let (f, first) ← holding [ov] (getMethod ov m (plainOf o env)); callWith pos f first (backTo pos (starEach es env)) (backToKw pos (keywordEach [] env))) := by
  show (do
    let ov ← attributeBase o m env (eval o env)
    standAt apos.atName
    methodCall o m apos pos env ov (es.length + ([] : List Keyword).length) (backTo pos (starEach es env)) (backToKw pos (keywordEach [] env))) = _
  rw [base_of ho]
  simp only [mcall_line (form_of h hl) hp]

/-! ### promises of defs -/
def spF (W : Wd) (n : Nat) (fn : List D → S → R D) : Sp := fun vs H Q E => vs.length = n ∧ ∃ γ s ds, RepDs W γ H ds vs ∧ StOk W γ s H ∧ post W (relT W) E γ H Q (fn ds s)
/-- a context of the world -/
structure CtxW (W : Wd) (X : Cx) : Prop where
  prog : X.prog = W.P
  w : X.w = W.w
  K : X.K = W.K
  mg : X.mg = W.mg
  base : X.base = W.base
/-- what is known of a def and of a way to call it (n values are written) -/
structure DefOk (W : Wd) (g : G) (lv f : Nat) : Prop where
  ok : FnOk W.P W.w W.K W.mg W.base (L2.CX W.P W.w) lv (W.fa f) (W.fd f) (W.fps f) (spF W (W.fps f).length (g.call f))
  keep : PySem.W.keepIn W.K (.ref (W.fa f)) = true
structure BndOk (W : Wd) (g : G) (f n : Nat) : Prop where
  bnd : ∃ dvs ds, Vals dvs ds ∧ Binds W.K (W.fd f) (W.fps f) ds ∧ ∀ γ H, Reps W γ H (g.dfl f n) dvs
  len : n + (g.dfl f n).length = (W.fps f).length
section
variable {W : Wd} {X : Cx} {g : G} {lv f : Nat} {wx : WX} {pins : List (Addr × Obj)} {σ : St} {H : Hp} {s0 : Shared} {Q : VK}
/-- the def runs -/
theorem run_def (hw : CtxW W X) (dk : DefOk W g lv f) (hr : Room lv X.A) (tk : Takes X wx) (I : Inv X pins σ H s0) {us : List Value} {vs : List V} (r : Vals vs us) {γ : Ga} {s : S} {ds : List D}
    (rd : RepDs W γ H ds vs) (B : BndOk W g f ds.length) (st : StOk W γ s H) (h : post W (relT W) (at_ wx σ) γ H Q (g.call f (ds ++ (g.dfl f ds.length).map D.t) s)) :
    wpAny (model X.prog X.w) X.A (call (.ref (W.fa f)) us) (EP X pins σ Q) X.xe s0 := by
  obtain ⟨dvs, dw, rv, hb, hd⟩ := B.bnd
  have F : FnOk X.prog X.w X.K X.mg X.base (L2.CX X.prog X.w) lv (W.fa f) (W.fd f) (W.fps f) (spF W (W.fps f).length (g.call f)) := by
    rw [hw.prog, hw.w, hw.K, hw.mg, hw.base]
    exact dk.ok
  refine run_fnSD (E := WE wx) F hr (by rw [hw.K]; exact hb) rv (passAt tk σ) I r ⟨?_, γ, s, _, rd.append (hd γ H).ds, st, h⟩
  have h1 := (hd γ H).length
  have h2 := rd.length
  rw [List.length_append, h1, h2]
  exact B.len
theorem DefOk.kp (dk : DefOk W g lv f) (hw : CtxW W X) : PySem.W.keepIn X.K (.ref (W.fa f)) = true := by
  rw [hw.K]
  exact dk.keep
/-- f() -/
theorem pe_callZ0 {x : Str} {p pos : Pos} (hw : CtxW W X) (dk : DefOk W g lv f) (hr : Room lv X.A) (tk : Takes X wx) (hg : Gl X x) (hm : W.mg x = some (.ref (W.fa f))) (hd : (x == ("__debug__" : Str)) = false) (B : BndOk W g f 0) :
    PE X (.Call (.Name x p) [] [] pos) (tE W wx fun _ s => g.call f ([] ++ (g.dfl f 0).map D.t) s) := by
  refine ⟨fun pins s0 σ H Q I h => ?_⟩
  obtain ⟨γ, σd, s, e, st, h⟩ := h
  refine wpAny_Call_Name_kw (ld_glob I hg (by rw [hw.mg]; exact hm) ?_ hd)
  exact PySem.W.callWith_K0 I.kIn (dk.kp hw) (run_def (ds := []) (vs := []) hw dk hr tk I .nil rfl B st h)
/-- f(e, ..) -/
theorem pe_callZ {x : Str} {p pos : Pos} {e1 : Expr} {es : List Expr} {fs : Sl → S → R (List D)} (hw : CtxW W X) (dk : DefOk W g lv f) (hr : Room lv X.A) (tk : Takes X wx) (hg : Gl X x) (hm : W.mg x = some (.ref (W.fa f))) (hd : (x == ("__debug__" : Str)) = false)
    (hp : (e1 :: es).all plainE = true) (ha : PA X (e1 :: es) (tA W wx fs)) (B : ∀ σd s ds s', fs σd s = .ok ds s' → BndOk W g f ds.length) :
    PE X (.Call (.Name x p) (e1 :: es) [] pos) (tE W wx fun σ s => (fs σ s).bind fun ds s => g.call f (ds ++ (g.dfl f ds.length).map D.t) s) := by
  refine ⟨fun pins s0 σ H Q I h => ?_⟩
  obtain ⟨γ, σd, s, e, st, h⟩ := h
  refine wpAny_Call_Name_kw (ld_glob I hg (by rw [hw.mg]; exact hm) ?_ hd)
  rw [List.all_cons, Bool.and_eq_true] at hp
  refine PySem.W.callWith_K (h₀ := X.base) I.ok.mod.kin (dk.kp hw) (thn (ha.run pos pins s0 σ H (fun vs H1 => ∃ γ1 s1 ds, RepDs W γ1 H1 ds vs ∧ StOk W γ1 s1 H1 ∧ BndOk W g f ds.length ∧ post W (relT W) (at_ wx σ) γ1 H1 Q (g.call f (ds ++ (g.dfl f ds.length).map D.t) s1)) I
    ⟨γ, σd, s, e, st, post_bind h fun ds s1 γ1 H1 vs q x1 st1 r1 p1 => ⟨γ1, s1, ds, r1, st1, B _ _ _ _ q, p1⟩⟩) fun us s1 hh => ?_) (star_cons hp.1) (star_any hp.2)
  obtain ⟨vs, H1, I1, r, γ1, s2, ds, rd, st1, Bd, p1⟩ := hh
  exact ⟨I1.kIn, run_def hw dk hr tk I1 r rd Bd st1 p1⟩
/-! ### o.m(..) of an own class -/
structure MthOk (W : Wd) (c f : Nat) (m : Str) : Prop where
  cls : Cls W.K (W.ca c)
  mth : Meth W.K (W.ca c) m (W.fa f)
theorem RepFs.lookup {γ : Ga} {H : Hp} {f : Str} : ∀ {fs : List (Str × T)} {gs : List (Str × V)}, RepFs W γ H fs gs → (∀ x, fs.lookup f = some x → ∃ v, gs.lookup f = some v ∧ Rep W γ H x v) ∧ (fs.lookup f = none → gs.lookup f = none)
  | [], _, h => by
    cases h
    exact ⟨fun x e => (by cases e), fun _ => rfl⟩
  | (k, d) :: fs, _, ⟨⟨k', v⟩, r, e, ⟨h1, h2⟩, h3⟩ => by
    subst e
    have h1 : k' = k := h1
    subst h1
    obtain ⟨i1, i2⟩ := RepFs.lookup (f := f) h3
    rw [List.lookup_cons, List.lookup_cons]
    cases f == k' with
    | true => exact ⟨fun x e => (by cases e; exact ⟨v, rfl, h2⟩), fun e => (by cases e)⟩
    | false => exact ⟨i1, i2⟩
/-- an instance of the class c without an attribute m -/
theorem cls_at {γ : Ga} {s : S} {H : Hp} {m : Str} {d : D} {v : V} {c : Nat} (st : StOk W γ s H) (r : RepD W γ H d v) (e : clsD s m d = some c) : ∃ a dx gs, v = .ref a ∧ H a = some (.ins (W.ca c) dx gs) ∧ gs.lookup m = none := by
  cases d with
  | t x =>
    cases x with
    | ins c' fs =>
      unfold clsD at e
      obtain ⟨h1, h2⟩ := if_some e
      subst h2
      obtain ⟨a, dx, gs, rfl, _, h3, h4⟩ := r
      exact ⟨a, dx, gs, rfl, h3, (RepFs.lookup h4).2 (Option.isNone_iff_eq_none.mp h1)⟩
    | _ => cases e
  | c n =>
    unfold clsD at e
    simp only at e
    split at e
    · rename_i c' fs q
      obtain ⟨h1, h2⟩ := if_some e
      subst h2
      obtain ⟨a, rfl, ha⟩ := r
      obtain ⟨b, dx, gs, h3, h4, h5⟩ := st.ok n _ q
      have := ha.eq h3
      subst this
      exact ⟨b, dx, gs, rfl, h4, (RepFs.lookup h5).2 (Option.isNone_iff_eq_none.mp h1)⟩
    · cases e
/-- what a method's call comes to -/
def methR (g : G) (m : Str) (x : D) (fs : S → R (List D)) (s : S) : R D := match (clsD s m x).bind fun c => g.mth c m with
  | some f => (fs s).bind fun ds s => g.call f (x :: (ds ++ (g.dfl f (ds.length + 1)).map D.t)) s
  | none => .no
theorem pe_methZ {m : Str} {o : Expr} {apos pos : Pos} {es : List Expr} {fo : Sl → S → R D} {fs : Sl → S → R (List D)} (hw : CtxW W X) (hr : Room lv X.A) (tk : Takes X wx) (ho : noSuper o = true) (hl : es.length < 30) (hp2 : (apos.endLine == pos.line) = true)
    (hp : es.all plainE = true) (he : PE X o (tE W wx fo)) (ha : PA X es (tA W wx fs)) (h0 : es = [] → ∀ σ s, fs σ s = .ok [] s)
    (M : ∀ c f, g.mth c m = some f → MthOk W c f m ∧ DefOk W g lv f) (B : ∀ c f σd s ds s', g.mth c m = some f → fs σd s = .ok ds s' → BndOk W g f (ds.length + 1)) :
    PE X (.Call (.Attribute o m apos) es [] pos) (tE W wx fun σ s => (fo σ s).bind fun x s => methR g m x (fs σ) s) := by
  refine ⟨fun pins s0 σ H Q I h => ?_⟩
  obtain ⟨γ, σd, s, e, st, h⟩ := h
  refine PySem.W.methodCall_KW (pl := plainOf o X.env) (thn (he.run pins s0 σ H (fun x H1 => ∃ γ1 s1 d, EnvOk W γ1 H1 σd σ ∧ RepD W γ1 H1 d x ∧ StOk W γ1 s1 H1 ∧ post W (relT W) (at_ wx σ) γ1 H1 Q (methR g m d (fs σd) s1)) I
    ⟨γ, σd, s, e, st, post_bind h fun d s1 γ1 H1 v q x1 st1 r1 p1 => ⟨γ1, s1, d, e.ext x1, r1, st1, p1⟩⟩) fun u s1 hh => ?_) (meth_eval ho hp hl hp2)
  obtain ⟨x, H1, I1, rx, γ1, s2, d, e1, r1, st1, p1⟩ := hh
  unfold methR at p1
  split at p1
  · rename_i f hf
    obtain ⟨c, hc, hf⟩ := Option.bind_eq_some_iff.mp hf
    obtain ⟨mk, dk⟩ := M c f hf
    obtain ⟨a, dx, gs, rfl, ea, la⟩ := cls_at st1 r1 hc
    obtain rfl : u = Value.ref a := rx
    have ck : Cls X.K (W.ca c) := by rw [hw.K]; exact mk.cls
    have mk2 : Meth X.K (W.ca c) m (W.fa f) := by rw [hw.K]; exact mk.mth
    refine getmeth_ok I1 ea ck mk2 la ?_
    cases es with
    | nil =>
      rw [h0 rfl] at p1
      exact PySem.W.callWith_K0 (first := [.ref a]) I1.kIn mk2.kp (run_def (us := [.ref a]) (vs := [.ref a]) (ds := [d]) hw dk hr tk I1 (.cons rfl .nil) ⟨_, _, rfl, r1, rfl⟩ (B c f _ _ _ _ hf (h0 rfl σd s2)) st1 p1)
    | cons e2 es =>
      rw [List.all_cons, Bool.and_eq_true] at hp
      refine PySem.W.callWith_K (first := [.ref a]) (h₀ := X.base) I1.ok.mod.kin mk2.kp (thn (ha.run pos pins s1 σ H1 (fun vs H2 => ∃ γ2 s3 ds, RepD W γ2 H2 d (.ref a) ∧ RepDs W γ2 H2 ds vs ∧ StOk W γ2 s3 H2 ∧ BndOk W g f (ds.length + 1) ∧
          post W (relT W) (at_ wx σ) γ2 H2 Q (g.call f (d :: (ds ++ (g.dfl f (ds.length + 1)).map D.t)) s3)) I1
        ⟨γ1, σd, s2, e1, st1, post_bind p1 fun ds s3 γ2 H2 vs q x2 st2 r2 p2 => ⟨γ2, s3, ds, r1.ext x2, r2, st2, B c f _ _ _ _ hf q, p2⟩⟩) fun us s4 hh => ?_) (star_cons hp.1) (star_any hp.2)
      obtain ⟨vs, H2, I2, rv, γ2, s5, ds, r2, r3, st2, Bd, p2⟩ := hh
      exact ⟨I2.kIn, run_def (us := .ref a :: us) (vs := .ref a :: vs) (ds := d :: ds) hw dk hr tk I2 (.cons rfl rv) ⟨_, _, rfl, r2, r3⟩ Bd st2 p2⟩
  · exact p1.elim
end
end Z
end
section
set_option Elab.async false
set_option linter.all false
set_option maxRecDepth 100000
set_option maxHeartbeats 1000000
set_option autoImplicit false
namespace Z
open PySem PySem.Spec L2

section
variable {W : Wd} {γ γ' : Ga} {H H' : Hp} {s s' : S}
theorem RepD.lt (st : StOk W γ s H) {m : Nat} {v : V} (r : RepD W γ H (.c m) v) : m < s.length := by
  obtain ⟨a, _, h⟩ := r
  rw [← st.len]
  exact h.lt
theorem RepDs.older (st : StOk W γ s H) : ∀ {ds : List D} {vs : List V}, RepDs W γ H ds vs → ∀ d ∈ ds, Z.older s.length d = true
  | [], _, _, _, h => by cases h
  | d :: ds, _, ⟨v, r, _, h1, h2⟩, x, hx => by
    rcases List.mem_cons.mp hx with rfl | hx
    · cases x with
      | t y => rfl
      | c m => exact decide_eq_true (RepD.lt st h1)
    · exact RepDs.older st h2 x hx
theorem last_get (st : StOk W γ s H) {o : Option (Addr × Bool)} : (γ ++ [o])[s.length]? = some o := by
  rw [← st.len, List.getElem?_append_right (Nat.le_refl _)]
  simp
theorem StOk.cell (st : StOk W γ s H) {p : Addr} {o : HO} {c : C} (hp : H p = none) (h : COk W (γ ++ [some (p, false)]) (upd H p o) s.length c) : StOk W (γ ++ [some (p, false)]) (s ++ [c]) (upd H p o) := by
  have hl := st.len
  have old : ∀ n a k, (γ ++ [some (p, false)])[n]? = some (some (a, k)) → (γ[n]? = some (some (a, k)) ∧ a ≠ p) ∨ (a = p ∧ n = γ.length) := fun n a k e => by
    by_cases hn : n < γ.length
    · rw [List.getElem?_append_left hn] at e
      exact .inl ⟨e, fun q => st.fresh hp (by rw [← q]; exact live_of e)⟩
    · have hn2 : n < (γ ++ [some (p, false)]).length := (List.getElem?_eq_some_iff.mp e).1
      rw [List.length_append, List.length_singleton] at hn2
      have : n = γ.length := by omega
      subst this
      rw [List.getElem?_append_right (Nat.le_refl _)] at e
      simp at e
      exact .inr ⟨e.1.symm, rfl⟩
  refine ⟨by rw [List.length_append, List.length_append, hl]; rfl, fun n m a b c h1 h2 => ?_, fun n d e => ?_⟩
  · rcases old _ _ _ h1 with ⟨h1, q1⟩ | ⟨q1, n1⟩
    · rcases old _ _ _ h2 with ⟨h2, q2⟩ | ⟨q2, n2⟩
      · exact st.inj n m a _ _ h1 h2
      · exact absurd q2 q1
    · rcases old _ _ _ h2 with ⟨h2, q2⟩ | ⟨q2, n2⟩
      · exact absurd q1 q2
      · rw [n1, n2]
  · by_cases hn : n < s.length
    · rw [List.getElem?_append_left hn] at e
      exact COk.ext (ext_cell (o := o) st hp) (List.getElem?_append_left (by rw [hl]; exact hn)) (fun a b q => upd_ne fun z => st.fresh hp (by rw [← z]; exact live_of q)) (st.ok n d e)
    · have hn2 : n < (s ++ [c]).length := (List.getElem?_eq_some_iff.mp e).1
      rw [List.length_append, List.length_singleton] at hn2
      have : n = s.length := by omega
      subst this
      rw [List.getElem?_append_right (Nat.le_refl _)] at e
      simp at e
      subst e
      exact h
/-! ### what was made since then is dropped -/
theorem take_get {α : Type} {l : List α} {n i : Nat} {a : α} (h : (l.take n)[i]? = some a) : l[i]? = some a ∧ i < n := by
  have hi : i < n := by
    have := (List.getElem?_eq_some_iff.mp h).1
    rw [List.length_take] at this
    omega
  rw [List.getElem?_take_of_lt hi] at h
  exact ⟨h, hi⟩
theorem live_take {n : Nat} {a : Addr} (h : Live (γ.take n) a) : Live γ a := by
  obtain ⟨k, h⟩ := h
  exact ⟨k, List.mem_of_mem_take h⟩
theorem Ext.len (x : Ext γ γ' H H') : γ.length ≤ γ'.length := by
  rcases Nat.lt_or_ge γ'.length γ.length with h | h
  · have e : γ[γ'.length]? = some γ[γ'.length] := List.getElem?_eq_getElem h
    generalize γ[γ'.length] = o at e
    cases o with
    | none => exact absurd (List.getElem?_eq_some_iff.mp (x.dead _ e)).1 (Nat.lt_irrefl _)
    | some p =>
      obtain ⟨a, k⟩ := p
      exact absurd (x.grow _ a (Pl.of e)).lt (Nat.lt_irrefl _)
  · exact h
theorem ext0_take {n : Nat} : Ext0 γ (γ.take n) H H := ⟨fun _ _ _ h _ => h, fun _ _ _ h => h, fun _ _ h => live_take h⟩
theorem ext_take {n : Nat} (x : Ext γ γ' H H') (hn : γ.length ≤ n) : Ext γ (γ'.take n) H H' where
  keep := x.keep
  read := x.read
  live := fun a h l => x.live a h (live_take l)
  grow := fun m a h => by
    have hm : m < n := Nat.lt_of_lt_of_le h.lt hn
    obtain ⟨o, h1, h2⟩ := x.grow m a h
    exact ⟨o, by rw [List.getElem?_take_of_lt hm]; exact h1, h2⟩
  dead := fun m h => by
    have hm : m < n := Nat.lt_of_lt_of_le (List.getElem?_eq_some_iff.mp h).1 hn
    rw [List.getElem?_take_of_lt hm]
    exact x.dead m h
  lock := fun m a h => by
    have hm : m < n := Nat.lt_of_lt_of_le (List.getElem?_eq_some_iff.mp h).1 hn
    rw [List.getElem?_take_of_lt hm]
    exact x.lock m a h
theorem RepD.take {n m : Nat} (hm : m ≤ n) : ∀ {d : D} {v : V}, RepD W γ H d v → Z.older m d = true → RepD W (γ.take n) H d v
  | .t x, _, h, _ => Rep.ext0 ext0_take x _ h
  | .c k, _, ⟨a, e, o', h1, h2⟩, o => by
    have hk : k < m := of_decide_eq_true o
    have hk2 : k < n := by omega
    exact ⟨a, e, o', by rw [List.getElem?_take_of_lt hk2]; exact h1, h2⟩
theorem RepDs.take {n m : Nat} (hm : m ≤ n) : ∀ {ds : List D} {vs : List V}, RepDs W γ H ds vs → (∀ d ∈ ds, Z.older m d = true) → RepDs W (γ.take n) H ds vs
  | [], _, h, _ => h
  | d :: ds, _, ⟨v, r, e, h1, h2⟩, o => ⟨v, r, e, RepD.take hm h1 (o d (List.mem_cons_self ..)), RepDs.take hm h2 fun x hx => o x (List.mem_cons_of_mem _ hx)⟩
theorem StOk.take (st : StOk W γ s H) (n : Nat) : StOk W (γ.take n) (s.take n) H := by
  refine ⟨by rw [List.length_take, List.length_take, st.len], fun i j a b c h1 h2 => st.inj i j a _ _ (take_get h1).1 (take_get h2).1, fun i c e => ?_⟩
  obtain ⟨e, hi⟩ := take_get e
  have q := st.ok i c e
  have hg : (γ.take n)[i]? = γ[i]? := List.getElem?_take_of_lt hi
  cases c with
  | x => exact hg.trans q
  | l ds =>
    obtain ⟨a, vs, h1, h2, h3, h4⟩ := q
    exact ⟨a, vs, hg.trans h1, h2, RepDs.take (Nat.le_of_lt hi) h3 h4, h4⟩
  | lk ds =>
    obtain ⟨a, vs, h1, h2, h3, h4⟩ := q
    exact ⟨a, vs, hg.trans h1, h2, RepDs.take (Nat.le_of_lt hi) h3 h4, h4⟩
  | i c fs =>
    obtain ⟨a, dx, vs, h1, h2, h3⟩ := q
    exact ⟨a, dx, vs, hg.trans h1, h2, RepFs.ext0 ext0_take _ _ h3⟩

/-! ### displays -/
theorem lst_new {wx : Value → Option Addr → Hp → Prop} {cell : Bool} {ds : List D} {vs : List V} {Q : VK} (st : StOk W γ s H) (r : RepDs W γ H ds vs) (h : post W (relT W) wx γ H Q (lstD cell s ds)) :
    vs.length ≤ sizeLine ∧ ∀ p, H p = none → Q (.ref p) (upd H p (.lst vs)) := by
  unfold lstD at h
  by_cases hl : ds.length ≤ sizeLine
  · rw [if_pos hl] at h
    refine ⟨by rw [r.length]; exact hl, fun p hp => ?_⟩
    cases cell with
    | true =>
      have h : post W (relT W) wx γ H Q (.ok (.c s.length) (s ++ [.l ds])) := h
      exact h (γ ++ [some (p, false)]) _ _ (ext_cell st hp) (st.cell hp ⟨p, vs, last_get st, upd_same, RepDs.ext (ext_cell st hp) r, r.older st⟩) ⟨p, rfl, Pl.of (last_get st)⟩
    | false =>
      have h : post W (relT W) wx γ H Q (R.of ((trees ds).map fun xs => .t (.lst xs)) s) := h
      cases e : trees ds with
      | none => rw [e] at h; exact h.elim
      | some xs =>
        rw [e] at h
        exact h γ _ _ (ext_new st hp) (st.new hp) (new_lst st hp (trees_ok e r))
  · rw [if_neg hl] at h
    exact h.elim
theorem tup_new {wx : Value → Option Addr → Hp → Prop} {ds : List D} {vs : List V} {Q : VK} (st : StOk W γ s H) (r : RepDs W γ H ds vs) (h : post W (relT W) wx γ H Q (tupD s ds)) :
    vs.length ≤ sizeLine ∧ ∀ p, H p = none → Q (.ref p) (upd H p (.tup vs)) := by
  unfold tupD at h
  by_cases hl : ds.length ≤ sizeLine
  · rw [if_pos hl] at h
    refine ⟨by rw [r.length]; exact hl, fun p hp => ?_⟩
    cases e : trees ds with
    | none => rw [e] at h; exact h.elim
    | some xs =>
      rw [e] at h
      exact h γ _ _ (ext_new st hp) (st.new hp) (new_tup st hp (trees_ok e r))
  · rw [if_neg hl] at h
    exact h.elim
end

/-! ### methods of a list that changes -/
def rMt (W : Wd) (wx : Value → Option Addr → Hp → Prop) (f : S → D → D → R D) : V → List V → Hp → VK → Prop := fun x xs H Q => ∃ γ s d e y, xs = [y] ∧ RepD W γ H d x ∧ RepD W γ H e y ∧ StOk W γ s H ∧ post W (relT W) wx γ H Q (f s d e)
theorem RepDs.erase {W : Wd} {γ : Ga} {H : Hp} : ∀ {ds : List D} {vs : List V} (k : Nat), RepDs W γ H ds vs → RepDs W γ H (ds.eraseIdx k) (vs.eraseIdx k)
  | [], _, _, h => by cases h; exact rfl
  | _ :: _, _, 0, ⟨v, r, e, _, h⟩ => by rw [e]; exact h
  | _ :: _, _, k + 1, ⟨v, r, e, h1, h⟩ => by rw [e]; exact ⟨v, _, rfl, h1, RepDs.erase k h⟩
section
variable {W : Wd} {X : Cx} {wx : Value → Option Addr → Hp → Prop}
theorem cell_at {γ : Ga} {s : S} {H : Hp} {n : Nat} {x : V} {ds : List D} (st : StOk W γ s H) (r : RepD W γ H (.c n) x) (e : s[n]? = some (.l ds)) :
    ∃ a vs, x = .ref a ∧ γ[n]? = some (some (a, false)) ∧ H a = some (.lst vs) ∧ RepDs W γ H ds vs ∧ ∀ d ∈ ds, older n d = true := by
  obtain ⟨a, rfl, ha⟩ := r
  obtain ⟨b, vs, h1, h2, h3, h4⟩ := st.ok n _ e
  have := ha.eq h1
  subst this
  exact ⟨b, vs, rfl, h1, h2, h3, h4⟩
theorem mt_app : MtR X "list.append" (rMt W wx appD) := by
  intro pins s0 σ H x xs v us Q I rx rs h
  obtain ⟨γ, s, d, e, y, rfl, rd, re, st, p⟩ := h
  unfold appD at p
  split at p
  · rename_i n
    split at p
    · rename_i ds q
      obtain ⟨a, vs, rfl, h1, h2, h3, h4⟩ := cell_at st rd q
      split at p
      · rename_i hc
        rw [Bool.and_eq_true] at hc
        have hl := of_decide_eq_true hc.2
        refine mt_append pins s0 σ H _ _ v us Q I rx rs ⟨_, _, _, rfl, rfl, h2, by rw [h3.length]; exact hl, ?_⟩
        have x := ext_write st (o := .lst (vs ++ [y])) h1
        refine p γ _ _ x (st.write h1 ⟨a, _, h1, upd_same, ?_, ?_⟩) rfl
        · exact RepDs.append (RepDs.ext x h3) ⟨y, [], rfl, re.ext x, rfl⟩
        · intro z hz
          rcases List.mem_append.mp hz with hz | hz
          · exact h4 z hz
          · rw [List.mem_singleton.mp hz]; exact hc.1
      · exact p.elim
    · exact p.elim
  · exact p.elim
theorem mt_ext : MtR X "list.extend" (rMt W wx extD) := by
  intro pins s0 σ H x xs v us Q I rx rs h
  obtain ⟨γ, s, d, e, y, rfl, rd, re, st, p⟩ := h
  unfold extD at p
  split at p
  · rename_i n zs
    split at p
    · rename_i ds q
      obtain ⟨a, vs, rfl, h1, h2, h3, h4⟩ := cell_at st rd q
      obtain ⟨b, ws, rfl, nb, h5, h6⟩ := re
      split at p
      · rename_i hc
        refine mt_extend pins s0 σ H _ _ v us Q I rx rs ⟨_, _, _, _, rfl, rfl, h2, h5, by rw [h3.length, h6.length]; exact hc, ?_⟩
        have x := ext_write st (o := .lst (vs ++ ws)) h1
        refine p γ _ _ x (st.write h1 ⟨a, _, h1, upd_same, ?_, ?_⟩) rfl
        · exact RepDs.append (RepDs.ext x h3) (Reps.ext x zs ws h6).ds
        · intro z hz
          rcases List.mem_append.mp hz with hz | hz
          · exact h4 z hz
          · obtain ⟨w, _, rfl⟩ := List.mem_map.mp hz
            rfl
      · exact p.elim
    · exact p.elim
  · exact p.elim
theorem mt_popZ : MtR X "list.pop" (rMt W wx popD) := by
  intro pins s0 σ H x xs v us Q I rx rs h
  obtain ⟨γ, s, d, e, y, rfl, rd, re, st, p⟩ := h
  unfold popD at p
  split at p
  · rename_i n i
    split at p
    · rename_i ds q
      obtain ⟨a, vs, rfl, h1, h2, h3, h4⟩ := cell_at st rd q
      cases re
      split at p
      · rename_i hc
        split at p
        · rename_i k hk
          split at p
          · rename_i z hz
            obtain ⟨w, hw, rw'⟩ := h3.get hz
            refine mt_popAt pins s0 σ H _ _ v us Q I rx rs ⟨_, _, _, k, w, rfl, rfl, h2, by omega, by omega, by rw [h3.length]; exact hk, hw, ?_⟩
            have x := ext_write st (o := .lst (vs.eraseIdx k)) h1
            refine p γ _ _ x (st.write h1 ⟨a, _, h1, upd_same, RepDs.erase k (RepDs.ext x h3), fun z hz => h4 z (List.mem_of_mem_eraseIdx hz)⟩) (rw'.ext x)
          · exact p.elim
        · exact p.elim
      · exact p.elim
    · exact p.elim
  · exact p.elim
end
end Z
end
section
set_option Elab.async false
set_option linter.all false
set_option maxRecDepth 100000
set_option maxHeartbeats 1000000
set_option autoImplicit false
namespace Z
open PySem PySem.Spec L2

theorem post_bind2 {α β δ ε : Type} {W : Wd} {rel : Ga → Hp → α → β → Prop} {rel' : Ga → Hp → δ → ε → Prop} {wx : Value → Option Addr → Hp → Prop} {γ γ1 : Ga} {H H1 : Hp} {Q : β → Hp → Prop} {Q' : ε → Hp → Prop} {r : R α} {k : α → S → R δ} (x0 : Ext γ γ1 H H1)
    (h : post W rel' wx γ H Q' (r.bind k)) (f : ∀ a s γ' H' b, r = .ok a s → Ext γ1 γ' H1 H' → StOk W γ' s H' → rel γ' H' a b → post W rel' wx γ H Q' (k a s) → Q b H') : post W rel wx γ1 H1 Q r := by
  cases r with
  | ok a s => exact fun γ' H' b x st q => f a s γ' H' b rfl x st q h
  | ex c fs s => exact fun γ' H' d x => h γ' H' d (x0.trans x)
  | no => exact h
section
variable {W : Wd} {X : Cx} {g : G} {lv : Nat} {wx : WX} {pins : List (Addr × Obj)} {σ : St} {H : Hp} {s0 : Shared} {Q : VK} {c : Nat}
/-- a class that is made, its __init__ among the defs -/
structure MkOk (W : Wd) (g : G) (lv c : Nat) : Prop where
  mkr : Mk W.K (W.ca c) (W.fa (g.ini c))
  dk : DefOk W g lv (g.ini c)
/-- a new instance: tracked as one that changes -/
theorem born {γ : Ga} {s : S} (st : StOk W γ s H) {x dx C : Addr} (hx : H x = none) (hd : H dx = none) (hne : dx ≠ x) (hC : C = W.ca c) :
    Ext γ (γ ++ [some (x, false)]) H (upd (upd H dx (.own x)) x (.ins C dx [])) ∧ StOk W (γ ++ [some (x, false)]) (s ++ [.i c []]) (upd (upd H dx (.own x)) x (.ins C dx [])) := by
  have st1 : StOk W γ s (upd H dx (.own x)) := st.new hd
  have hx1 : (upd H dx (.own x)) x = none := by rw [upd_ne (Ne.symm hne)]; exact hx
  exact ⟨(ext_new st hd).trans (ext_cell st1 hx1), st1.cell hx1 ⟨x, dx, [], last_get st, by rw [upd_same, hC], rfl⟩⟩
/-- what stands when __init__ has come to its end -/
theorem grown {γ γ' : Ga} {s s1 : S} {H1 H' : Hp} {Q' : V → Hp → Prop} {w' : Value → Option Addr → Hp → Prop} {x : Addr} {r : D} {v : V} (hl : γ.length = s.length) (x0 : Ext γ (γ ++ [some (x, false)]) H H1) (x1 : Ext (γ ++ [some (x, false)]) γ' H1 H') (st : StOk W γ' s1 H')
    (h : post W (relT W) w' γ H Q' (match r, s1[s.length]? with
      | .t .non, some (.i c' fs) => if c' = c then .ok (.t (.ins c fs)) (s1.take s.length) else .no
      | _, _ => .no)) (rr : RepD W γ' H' r v) : v = .non ∧ Q' (.ref x) H' := by
  split at h
  · rename_i c' fs q
    split at h
    · rename_i hc
      subst hc
      refine ⟨rr, ?_⟩
      obtain ⟨a, dx, gs, h1, h2, h3⟩ := st.ok _ _ q
      have e0 : Pl (γ ++ [some (x, false)]) s.length x := Pl.of (k := false) (by
        rw [← hl, List.getElem?_append_right (Nat.le_refl _)]
        simp)
      have ea : a = x := (x1.grow _ _ e0).eq h1
      subst ea
      have nl : ¬ Live (γ'.take s.length) a := fun ⟨k, l⟩ => by
        obtain ⟨m, hm, em⟩ := List.getElem_of_mem l
        have e1 : (γ'.take s.length)[m]? = some (some (a, k)) := by rw [List.getElem?_eq_getElem hm, em]
        obtain ⟨e2, hm2⟩ := take_get e1
        have := st.inj _ _ a _ _ e2 h1
        omega
      refine h (γ'.take s.length) H' _ (ext_take (x0.trans x1) (Nat.le_of_eq hl)) (st.take _) ⟨a, dx, gs, rfl, nl, h2, ?_⟩
      exact RepFs.ext0 ext0_take _ _ h3
    · exact h.elim
  · exact h.elim
theorem run_new (hw : CtxW W X) (M : MkOk W g lv c) (hr : Room (lv + 1) X.A) (tk : Takes X wx) (I : Inv X pins σ H s0) {us : List Value} {vs : List V} (r : Vals vs us) {γ : Ga} {s : S} {ds : List D}
    (rd : RepDs W γ H ds vs) (B : BndOk W g (g.ini c) (ds.length + 1)) (st : StOk W γ s H) (h : post W (relT W) (at_ wx σ) γ H Q (makeD g c (ds ++ (g.dfl (g.ini c) (ds.length + 1)).map D.t) s)) :
    wpAny (model X.prog X.w) X.A (call (.ref (W.ca c)) us) (EP X pins σ Q) X.xe s0 := by
  obtain ⟨dvs, dw, rv, hb, hd⟩ := B.bnd
  have F : FnOk X.prog X.w X.K X.mg X.base (L2.CX X.prog X.w) lv (W.fa (g.ini c)) (W.fd (g.ini c)) (W.fps (g.ini c)) (spF W (W.fps (g.ini c)).length (g.call (g.ini c))) := by
    rw [hw.prog, hw.w, hw.K, hw.mg, hw.base]
    exact M.dk.ok
  have mk : Mk X.K (W.ca c) (W.fa (g.ini c)) := by rw [hw.K]; exact M.mkr
  have hb2 : Binds X.K (W.fd (g.ini c)) (W.fps (g.ini c)) dw := by rw [hw.K]; exact hb
  have f0 := I.hok.fresh (a := s0.heap.objs.size) (Nat.le_refl _)
  have f1 := I.hok.fresh (a := s0.heap.objs.size + 1) (Nat.le_succ _)
  obtain ⟨x0, st0⟩ := born (c := c) st f1 f0 (Nat.ne_of_lt (Nat.lt_succ_self _)) rfl
  have I2 := Inv.made (C := W.ca c) I
  have r2 : Vals (V.ref (s0.heap.objs.size + 1) :: (vs ++ dvs)) (Value.ref (s0.heap.objs.size + 1) :: (us ++ dw)) := .cons rfl (r.append rv)
  have h1 := (hd γ H).length
  have h2 := rd.length
  have hlen : (V.ref (s0.heap.objs.size + 1) :: (vs ++ dvs)).length = (W.fps (g.ini c)).length := by
    rw [List.length_cons, List.length_append, h1, h2]
    have := B.len
    omega
  have hq : spF W (W.fps (g.ini c)).length (g.call (g.ini c)) (V.ref (s0.heap.objs.size + 1) :: (vs ++ dvs)) (upd (upd H s0.heap.objs.size (.own (s0.heap.objs.size + 1))) (s0.heap.objs.size + 1) (.ins (W.ca c) s0.heap.objs.size []))
      (fun v H2 => v = .non ∧ Q (.ref (s0.heap.objs.size + 1)) H2) (WE wx σ) := by
    refine ⟨hlen, _, s ++ [.i c []], .c s.length :: (ds ++ (g.dfl (g.ini c) (ds.length + 1)).map D.t), ⟨_, _, rfl, ?_, ?_⟩, st0, ?_⟩
    · exact ⟨_, rfl, Pl.of (last_get st)⟩
    · exact RepDs.append (RepDs.ext x0 rd) (hd _ _).ds
    · exact post_bind2 x0 h fun a s1 γ' H' v q x1 st1 rr p1 => grown (c := c) st.len x0 x1 st1 p1 rr
  refine wpAny_call (make_map (f := W.fa (g.ini c)) I.kIn mk.makes mk.init (beq_iff_eq.mp mk.fn) (codeAny_mono (F.run _ X.stack _ _ ⟨Value.ref (s0.heap.objs.size + 1) :: us, []⟩ _ _ _ (WE wx σ) (hr.make (W.ca c) us [])
    (I2.env0.make (W.ca c) us []) (hb2 _ (Value.ref (s0.heap.objs.size + 1) :: us) I2.kIn (by rw [← hlen]; exact r2.length.symm)) r2 hq) fun r s' z => ?_))
  cases r with
  | error e => exact passAt tk σ pins _ _ e s' I2 z
  | ok fl =>
    cases fl with
    | ret u =>
      obtain ⟨v, H', I3, rv, ev, q3⟩ := I2.after z
      subst ev
      exact ⟨rv, ⟨V.ref (s0.heap.objs.size + 1), H', I3, rfl, q3⟩⟩
    | next => exact z.elim
    | brk => exact z.elim
    | cont => exact z.elim
end
end Z
end
section
set_option Elab.async false
set_option linter.all false
set_option maxRecDepth 100000
set_option maxHeartbeats 1000000
set_option autoImplicit false
namespace Z
open PySem PySem.Spec L2

/-! ### what is walked -/
/-- the walk J gives the values ds, as long as what stands stays -/
def Feeds (W : Wd) (J : L2.It) (ds : List D) (γ : Ga) (H : Hp) : Prop := ∀ (i : Nat) (γ' : Ga) (H' : Hp), Ext γ γ' H H' →
  (∀ d, ds[i]? = some d → J.go i H' ∧ ∀ x H'', J.yld i H' x H'' → (∀ s, StOk W γ' s H' → StOk W γ' s H'') ∧ Ext γ' γ' H' H'' ∧ RepD W γ' H'' d x) ∧ (i = ds.length → J.stop i H')
/-- a walk stands ready: what it holds is held, and can be let go -/
def Wk (W : Wd) (γ : Ga) (s : S) (H : Hp) (ds : List D) (u : Option Nat) (J : L2.It) : Prop := ∃ γ2, Ext γ γ2 H H ∧ StOk W γ2 (lock s u) H ∧ Feeds W J ds γ2 H ∧
  ∀ γ' s' H', Ext γ2 γ' H H' → StOk W γ' s' H' → ∃ γ'', Ext γ γ'' H H' ∧ StOk W γ'' (unlock s' u) H' ∧ Ext0 γ' γ'' H' H' ∧ (∀ m b, Pl γ' m b → Pl γ'' m b) ∧ γ''.length = γ'.length
def postI (W : Wd) (wx : Value → Option Addr → Hp → Prop) (γ : Ga) (H : Hp) (R' : L2.It → Hp → Prop) : R (List D × Option Nat) → Prop
  | .ok p s => ∀ γ1 H1 J, Ext γ γ1 H H1 → StOk W γ1 s H1 → Wk W γ1 s H1 p.1 p.2 J → R' J H1
  | .ex c fs s => post W (fun _ _ (_ : Unit) (_ : Unit) => False) wx γ H (fun _ _ => False) (.ex c fs s)
  | .no => False
def tI (W : Wd) (wx : WX) (f : Sl → S → R (List D × Option Nat)) : TI := fun σ H R' => ∃ γ σd s, EnvOk W γ H σd σ ∧ StOk W γ s H ∧ postI W (at_ wx σ) γ H R' (f σd s)
section
variable {W : Wd} {X : Cx} {γ : Ga} {H : Hp} {s : S}
theorem wk_plain {ds : List D} {J : L2.It} (st : StOk W γ s H) (f : Feeds W J ds γ H) : Wk W γ s H ds none J :=
  ⟨γ, Ext.refl, st, f, fun γ' s' H' x st' => ⟨γ', x, st', ⟨fun _ _ _ h _ => h, fun _ _ _ h => h, fun _ _ h => h⟩, fun _ _ h => h, rfl⟩⟩
theorem get_map_t {xs : List T} {i : Nat} {d : D} (h : (xs.map D.t)[i]? = some d) : ∃ x, xs[i]? = some x ∧ d = .t x := by
  rw [List.getElem?_map] at h
  obtain ⟨x, h1, h2⟩ := map_some' h
  exact ⟨x, h1, h2.symm⟩
/-- a list that stays -/
theorem feeds_list {ds : List D} {a : Addr} {vs : List V} (hq : ∀ γ' H', Ext γ γ' H H' → SqL W.K H' a vs ∧ RepDs W γ' H' ds vs) (hl : vs.length = ds.length) : Feeds W (Itl W.K a) ds γ H := by
  refine fun i γ' H' x => ⟨fun d hd => ?_, fun e => ?_⟩
  · obtain ⟨h1, h2⟩ := hq γ' H' x
    obtain ⟨v, hv, rv⟩ := h2.get hd
    refine ⟨⟨vs, v, h1, hv⟩, fun y H'' hy => ?_⟩
    obtain ⟨e1, e2⟩ := hy
    subst e1
    have := e2 vs h1
    rw [hv] at this
    cases this
    exact ⟨fun _ h => h, Ext.refl, rv⟩
  · obtain ⟨h1, _⟩ := hq γ' H' x
    exact ⟨vs, h1, by omega⟩
theorem feeds_tup {ds : List D} {a : Addr} {vs : List V} (hq : ∀ γ' H', Ext γ γ' H H' → SqT W.K H' a vs ∧ RepDs W γ' H' ds vs) (hl : vs.length = ds.length) : Feeds W (Itt W.K a) ds γ H := by
  refine fun i γ' H' x => ⟨fun d hd => ?_, fun e => ?_⟩
  · obtain ⟨h1, h2⟩ := hq γ' H' x
    obtain ⟨v, hv, rv⟩ := h2.get hd
    refine ⟨⟨vs, v, h1, hv⟩, fun y H'' hy => ?_⟩
    obtain ⟨e1, e2⟩ := hy
    subst e1
    have := e2 vs h1
    rw [hv] at this
    cases this
    exact ⟨fun _ h => h, Ext.refl, rv⟩
  · obtain ⟨h1, _⟩ := hq γ' H' x
    exact ⟨vs, h1, by omega⟩
theorem upI_get : ∀ {n i : Nat} {lo : Int} {d : D}, (upI lo n)[i]? = some d → d = .t (.int (lo + i)) ∧ i < n
  | 0, _, _, _, h => by cases h
  | n + 1, 0, lo, d, h => by
    have : D.t (.int lo) = d := Option.some.inj h
    subst this
    exact ⟨by simp, Nat.succ_pos _⟩
  | n + 1, i + 1, lo, d, h => by
    obtain ⟨h1, h2⟩ := upI_get (n := n) (i := i) (lo := lo + 1) (d := d) h
    refine ⟨?_, by omega⟩
    rw [h1]
    have : lo + 1 + (i : Int) = lo + ((i + 1 : Nat) : Int) := by omega
    rw [this]
theorem upI_len : ∀ (n : Nat) (lo : Int), (upI lo n).length = n
  | 0, _ => rfl
  | n + 1, lo => by
    show (upI (lo + 1) n).length + 1 = n + 1
    rw [upI_len n]
theorem feeds_rng {lo : Int} {n : Nat} : Feeds W (Itr lo n) (upI lo n) γ H := by
  refine fun i γ' H' x => ⟨fun d hd => ?_, fun e => ?_⟩
  · obtain ⟨rfl, h2⟩ := upI_get hd
    refine ⟨h2, fun y H'' hy => ?_⟩
    obtain ⟨e1, e2⟩ := hy
    subst e1 e2
    exact ⟨fun _ h => h, Ext.refl, rfl⟩
  · rw [upI_len] at e
    exact Nat.le_of_eq e.symm
theorem feeds_str {z : Str} : Feeds W (Its z) (z.cps.toList.map fun c => D.t (.str ⟨#[c]⟩)) γ H := by
  refine fun i γ' H' x => ⟨fun d hd => ?_, fun e => ?_⟩
  · rw [List.getElem?_map] at hd
    obtain ⟨c, h1, rfl⟩ := map_some' hd
    have h1 : z.cps[i]? = some c := by simpa using h1
    refine ⟨(Array.getElem?_eq_some_iff.mp h1).1, fun y H'' hy => ?_⟩
    obtain ⟨e1, c', e2, rfl⟩ := hy
    subst e1
    rw [h1] at e2
    cases e2
    exact ⟨fun _ h => h, Ext.refl, rfl⟩
  · rw [List.length_map] at e
    show z.cps.size ≤ i
    rw [e]
    simp
/-- a list that changes is held -/
theorem wk_cell {n : Nat} {ds : List D} {a : Addr} {vs : List V} (st : StOk W γ s H) (hs : s[n]? = some (.l ds)) (h1 : γ[n]? = some (some (a, false))) (h2 : H a = some (.lst vs)) (h3 : RepDs W γ H ds vs) (h4 : ∀ d ∈ ds, older n d = true) :
    Wk W γ s H ds (some n) (Itl W.K a) := by
  have hn : n < γ.length := (List.getElem?_eq_some_iff.mp h1).1
  have x2 : Ext γ (γ.set n (some (a, true))) H H := ext_flag h1 rfl
  have e2 : (γ.set n (some (a, true)))[n]? = some (some (a, true)) := by rw [get_set hn, if_pos rfl]
  have el : lock s (some n) = s.set n (.lk ds) := by
    unfold lock
    simp only [hs]
  refine ⟨_, x2, ?_, feeds_list (vs := vs) (fun γ' H' x => ?_) h3.length, fun γ' s' H' x st' => ?_⟩
  · rw [el]
    exact st.flag h1 x2.toExt0 x2.grow ⟨a, vs, e2, h2, RepDs.ext x2 h3, h4⟩
  · exact ⟨SqL.of ((x.lock n a e2).2.trans h2), RepDs.ext (x2.trans x) h3⟩
  · obtain ⟨l1, l2⟩ := x.lock n a e2
    have hn' : n < γ'.length := (List.getElem?_eq_some_iff.mp l1).1
    have hn2 : n < s'.length := by rw [← st'.len]; exact hn'
    have q := st'.ok n s'[n] (List.getElem?_eq_getElem hn2)
    have q0 : s'[n]? = some s'[n] := List.getElem?_eq_getElem hn2
    generalize s'[n] = c at q q0
    cases c with
    | lk ds' =>
      obtain ⟨b, ws, k1, k2, k3, k4⟩ := q
      rw [l1] at k1
      cases k1
      have eu : unlock s' (some n) = s'.set n (.l ds') := by
        unfold unlock
        simp only [q0]
      have g0 : (γ'.set n (some (a, false)))[n]? = some (some (a, false)) := by rw [get_set hn', if_pos rfl]
      have z0 : Ext0 γ' (γ'.set n (some (a, false))) H' H' := ⟨fun _ _ _ h _ => h, fun _ _ _ h => h, fun b _ l => by
        rcases live_set l with l | ⟨j, e⟩
        · exact l
        · cases e; exact live_of l1⟩
      have gr : ∀ m b, Pl γ' m b → Pl (γ'.set n (some (a, false))) m b := fun m b h => by
        by_cases e : n = m
        · subst e
          have := h.eq l1
          subst this
          exact Pl.of g0
        · obtain ⟨o, h1, h2⟩ := h
          exact ⟨o, by rw [get_set hn', if_neg e]; exact h1, h2⟩
      have x3 := x2.trans x
      refine ⟨γ'.set n (some (a, false)), ⟨⟨x3.keep, x3.read, fun b hb l => ?_⟩, fun m b h => gr m b (x3.grow m b h), fun m h => ?_, fun m b h => ?_⟩, ?_, z0, gr, List.length_set ..⟩
      · rcases live_set l with l | ⟨j, e⟩
        · exact x3.live b hb l
        · cases e; exact live_of h1
      · rw [get_set hn', if_neg fun e => ?_]
        · exact x3.dead m h
        · subst e; rw [h1] at h; cases h
      · have ne : n ≠ m := fun e => by subst e; rw [h1] at h; cases h
        have g1 : (γ.set n (some (a, true)))[m]? = some (some (b, true)) := by rw [get_set hn, if_neg ne]; exact h
        obtain ⟨g2, g3⟩ := x.lock m b g1
        exact ⟨by rw [get_set hn', if_neg ne]; exact g2, g3⟩
      · rw [eu]
        refine st'.flag l1 z0 gr ⟨a, ws, g0, k2, ?_, k4⟩
        have rd : ∀ {ds : List D} {vs : List V}, RepDs W γ' H' ds vs → RepDs W (γ'.set n (some (a, false))) H' ds vs := fun {ds vs} r => by
          induction ds generalizing vs with
          | nil => exact r
          | cons d ds ih =>
            obtain ⟨v, r', e, h1, h2⟩ := r
            refine ⟨v, r', e, ?_, ih h2⟩
            cases d with
            | t y => exact Rep.ext0 z0 y v h1
            | c i => obtain ⟨b, e, h⟩ := h1; exact ⟨b, e, gr _ _ h⟩
        exact rd k3
    | x => rw [show γ'[n]? = some none from q] at l1; cases l1
    | l ds' => obtain ⟨b, ws, k1, _⟩ := q; rw [l1] at k1; cases k1
    | i c fs => obtain ⟨b, dx, ws, k1, _⟩ := q; rw [l1] at k1; cases k1
end
end Z
end
section
set_option Elab.async false
set_option linter.all false
set_option maxRecDepth 100000
set_option maxHeartbeats 1000000
set_option autoImplicit false
namespace Z
open PySem PySem.Spec L2

/-! ### slots -/
theorem wipe_get : ∀ (vs : List Nat) (σ : St) (j : Nat), (wipe σ vs)[j]? = if j ∈ vs ∧ j < σ.length then some none else σ[j]?
  | [], σ, j => by
    rw [if_neg (fun h => by cases h.1)]
    rfl
  | v :: vs, σ, j => by
    show ((wipe σ vs).set v none)[j]? = _
    rw [List.getElem?_set, wipe_length, wipe_get vs σ j]
    by_cases h : v = j
    · subst h
      rw [if_pos rfl]
      by_cases hl : v < σ.length
      · rw [if_pos hl, if_pos ⟨List.mem_cons_self .., hl⟩]
      · rw [if_neg hl, if_neg (fun h => hl h.2), List.getElem?_eq_none (by omega)]
    · rw [if_neg h]
      have : (j ∈ v :: vs ∧ j < σ.length) ↔ (j ∈ vs ∧ j < σ.length) := by
        rw [List.mem_cons]
        exact ⟨fun ⟨a, b⟩ => ⟨a.resolve_left (fun e => h e.symm), b⟩, fun ⟨a, b⟩ => ⟨.inr a, b⟩⟩
      by_cases q : j ∈ vs ∧ j < σ.length
      · rw [if_pos q, if_pos (this.mpr q)]
      · rw [if_neg q, if_neg (fun z => q (this.mp z))]
theorem wipe_set {σ : St} {vs : List Nat} {i : Nat} {o : Option V} (h : i ∈ vs) : wipe (σ.set i o) vs = wipe σ vs := by
  refine List.ext_getElem? fun j => ?_
  rw [wipe_get, wipe_get, List.length_set]
  by_cases q : j ∈ vs ∧ j < σ.length
  · rw [if_pos q, if_pos q]
  · rw [if_neg q, if_neg q]
    by_cases e : i = j
    · subst e
      have : ¬ i < σ.length := fun z => q ⟨h, z⟩
      rw [List.getElem?_eq_none (by rw [List.length_set]; omega), List.getElem?_eq_none (by omega)]
    · rw [List.getElem?_set_ne e]
section
variable {W : Wd} {γ : Ga} {H : Hp} {σd : Sl} {σ : St}
theorem EnvOk.set (e : EnvOk W γ H σd σ) {d : D} {v : V} (i : Nat) (r : RepD W γ H d v) : EnvOk W γ H (σd.set i (some d)) (σ.set i (some v)) := by
  refine ⟨by rw [List.length_set, List.length_set, e.1], fun j d' h => ?_⟩
  by_cases q : i = j
  · subst q
    by_cases hl : i < σd.length
    · rw [List.getElem?_set_self hl] at h
      cases h
      exact ⟨v, List.getElem?_set_self (by rw [← e.1]; exact hl), r⟩
    · rw [List.getElem?_eq_none (by rw [List.length_set]; omega)] at h
      cases h
  · rw [List.getElem?_set_ne q] at h
    rw [List.getElem?_set_ne q]
    exact e.2 j d' h
theorem EnvOk.clear (e : EnvOk W γ H σd σ) (i : Nat) : EnvOk W γ H (σd.set i none) (σ.set i none) := by
  refine ⟨by rw [List.length_set, List.length_set, e.1], fun j d' h => ?_⟩
  by_cases q : i = j
  · subst q
    by_cases hl : i < σd.length
    · rw [List.getElem?_set_self hl] at h
      cases h
    · rw [List.getElem?_eq_none (by rw [List.length_set]; omega)] at h
      cases h
  · rw [List.getElem?_set_ne q] at h
    rw [List.getElem?_set_ne q]
    exact e.2 j d' h
theorem EnvOk.wipe (e : EnvOk W γ H σd σ) : ∀ vs : List Nat, EnvOk W γ H (wipeD σd vs) (L2.wipe σ vs)
  | [] => e
  | v :: vs => (EnvOk.wipe e vs).clear v
end

/-! ### targets -/
mutual
def gT (K : PySem.W.Frag) : Tg → TG
  | .name i => gName i
  | .tup ts => fun v σ H Q => gTup K (lenTs ts) (gTs K ts) v σ H Q ∨ gLst K (lenTs ts) (gTs K ts) v σ H Q
termination_by structural x => x
def gTs (K : PySem.W.Frag) : Tgs → TGs
  | .nil => gNil
  | .cons t ts => gCons (gT K t) (gTs K ts)
termination_by structural x => x
def lenTs : Tgs → Nat
  | .nil => 0
  | .cons _ ts => lenTs ts + 1
termination_by structural x => x
end
mutual
/-- all its names among these slots -/
def inT' (vs : List Nat) : Tg → Bool
  | .name i => vs.contains i
  | .tup ts => inTs vs ts
termination_by structural x => x
def inTs (vs : List Nat) : Tgs → Bool
  | .nil => true
  | .cons t ts => inT' vs t && inTs vs ts
termination_by structural x => x
end
section
variable {W : Wd} {γ : Ga} {H : Hp}
mutual
theorem tg_ok {K : PySem.W.Frag} (hK : K = W.K) : ∀ (t : Tg) {d : D} {v : V} {σd σd' : Sl} {σ : St} {Q : St → Hp → Prop}, setTg t d σd = some σd' → EnvOk W γ H σd σ → RepD W γ H d v →
    (∀ σ', EnvOk W γ H σd' σ' → (∀ vs, inT' vs t = true → wipe σ' vs = wipe σ vs) → Q σ' H) → gT K t v σ H Q
  | .name i, d, v, σd, σd', σ, Q, e, en, r, k => by
    have e : (if i < σd.length then some (σd.set i (some d)) else none) = some σd' := e
    by_cases hi : i < σd.length
    · rw [if_pos hi] at e
      cases e
      exact k _ (en.set i r) fun vs h => wipe_set (by simpa [inT'] using h)
    · rw [if_neg hi] at e; cases e
  | .tup ts, d, v, σd, σd', σ, Q, e, en, r, k => by
    cases d with
    | c n => cases e
    | t x =>
      cases x with
      | tup xs =>
        obtain ⟨a, vs, rfl, h1, h2⟩ := r
        have e : setTgs ts xs σd = some σd' := e
        refine .inl ⟨a, vs, rfl, by rw [hK]; exact h1.sq, ?_, tgs_ok hK ts e en h2 k⟩
        rw [h2.length]
        exact tgs_len ts e
      | lst xs =>
        obtain ⟨a, vs, rfl, h1, h3, h2⟩ := r
        have e : setTgs ts xs σd = some σd' := e
        refine .inr ⟨a, vs, rfl, SqL.of h3, ?_, tgs_ok hK ts e en h2 k⟩
        rw [h2.length]
        exact tgs_len ts e
      | _ => cases e
theorem tgs_ok {K : PySem.W.Frag} (hK : K = W.K) : ∀ (ts : Tgs) {xs : List T} {vs : List V} {σd σd' : Sl} {σ : St} {Q : St → Hp → Prop}, setTgs ts xs σd = some σd' → EnvOk W γ H σd σ → Reps W γ H xs vs →
    (∀ σ', EnvOk W γ H σd' σ' → (∀ ws, inTs ws ts = true → wipe σ' ws = wipe σ ws) → Q σ' H) → gTs K ts vs σ H Q
  | .nil, xs, vs, σd, σd', σ, Q, e, en, r, k => by
    cases xs with
    | nil =>
      cases e
      cases r
      exact ⟨rfl, k σ en fun _ _ => rfl⟩
    | cons x xs => cases e
  | .cons t ts, xs, vs, σd, σd', σ, Q, e, en, r, k => by
    cases xs with
    | nil => cases e
    | cons x xs =>
      obtain ⟨v, r', rfl, h1, h2⟩ := r
      have e : (setTg t (.t x) σd).bind (fun σ1 => setTgs ts xs σ1) = some σd' := e
      obtain ⟨σ1, e1, e2⟩ := Option.bind_eq_some_iff.mp e
      refine ⟨v, r', rfl, tg_ok hK t e1 en h1 fun σ' en' w1 => tgs_ok hK ts e2 en' h2 fun σ'' en'' w2 => k σ'' en'' fun ws h => ?_⟩
      have h : (inT' ws t && inTs ws ts) = true := h
      rw [Bool.and_eq_true] at h
      exact (w2 ws h.2).trans (w1 ws h.1)
theorem tgs_len : ∀ (ts : Tgs) {xs : List T} {σd σd' : Sl}, setTgs ts xs σd = some σd' → xs.length = lenTs ts
  | .nil, xs, σd, σd', e => by
    cases xs with
    | nil => rfl
    | cons x xs => cases e
  | .cons t ts, xs, σd, σd', e => by
    cases xs with
    | nil => cases e
    | cons x xs =>
      have e : (setTg t (.t x) σd).bind (fun σ1 => setTgs ts xs σ1) = some σd' := e
      obtain ⟨σ1, e1, e2⟩ := Option.bind_eq_some_iff.mp e
      show xs.length + 1 = lenTs ts + 1
      rw [tgs_len ts e2]
end
end

theorem pg_or {X : Cx} {e : Expr} {g h : TG} (p : PG X e g) (q : PG X e h) : PG X e (fun v σ H Q => g v σ H Q ∨ h v σ H Q) :=
  ⟨fun pins s σ H v u Q I r hw => hw.elim (fun z => p.run pins s σ H v u Q I r z) (fun z => q.run pins s σ H v u Q I r z)⟩
/-! ### comprehensions -/
abbrev wxF : WX := fun _ _ _ _ => False
/-- one turn of a comprehension -/
def turn1 (tg : Tg) (σ0 : Sl) (fc : Sl → S → R Bool) (fe : Sl → S → R D) (d : D) (s : S) : R (Option D) := match setTg tg d σ0 with
  | some σ1 => (fc σ1 s).hold.bind fun k s => if k then (fe σ1 s).hold.bind fun x s => .ok (some x) s else .ok none s
  | none => .no
theorem hold_ok {α : Type} {r : R α} {a : α} {s : S} (h : r.hold = .ok a s) : r = .ok a s := by
  cases r with
  | ok b t => exact h
  | ex _ _ _ => cases h
  | no => cases h
theorem bind_ok {α β : Type} {r : R α} {k : α → S → R β} {b : β} {s : S} (h : r.bind k = .ok b s) : ∃ a s1, r = .ok a s1 ∧ k a s1 = .ok b s := by
  cases r with
  | ok a t => exact ⟨a, t, rfl, h⟩
  | ex _ _ _ => cases h
  | no => cases h
theorem turn1_ok {tg : Tg} {σ0 : Sl} {fc : Sl → S → R Bool} {fe : Sl → S → R D} {d : D} {s s' : S} {o : Option D} (h : turn1 tg σ0 fc fe d s = .ok o s') :
    ∃ σ1, setTg tg d σ0 = some σ1 ∧ ((fc σ1 s = .ok false s' ∧ o = none) ∨ ∃ s1 x, fc σ1 s = .ok true s1 ∧ fe σ1 s1 = .ok x s' ∧ o = some x) := by
  unfold turn1 at h
  split at h
  · rename_i σ1 e
    refine ⟨σ1, e, ?_⟩
    obtain ⟨k, s1, h1, h2⟩ := bind_ok h
    have h1 := hold_ok h1
    cases k with
    | true =>
      obtain ⟨x, s2, h3, h4⟩ := bind_ok h2
      cases h4
      exact .inr ⟨s1, x, h1, hold_ok h3, rfl⟩
    | false =>
      cases h2
      exact .inl ⟨h1, rfl⟩
  · cases h
theorem turn1_ex {tg : Tg} {σ0 : Sl} {fc : Sl → S → R Bool} {fe : Sl → S → R D} {d : D} {s s' : S} {c : Nat} {fs : List (Str × T)} : turn1 tg σ0 fc fe d s ≠ .ex c fs s' := by
  intro h
  unfold turn1 at h
  split at h
  · rename_i σ1 e
    cases h1 : fc σ1 s with
    | ok k s1 =>
      rw [h1] at h
      cases k with
      | true =>
        have h : (fe σ1 s1).hold.bind (fun x s => R.ok (some x) s) = .ex c fs s' := h
        cases h2 : fe σ1 s1 with
        | ok x s2 => rw [h2] at h; cases h
        | ex _ _ _ => rw [h2] at h; cases h
        | no => rw [h2] at h; cases h
      | false => cases h
    | ex _ _ _ => rw [h1] at h; cases h
    | no => rw [h1] at h; cases h
  · cases h
theorem turns_ex {n0 : Nat} {f : D → S → R (Option D)} (hf : ∀ d s c fs s', f d s ≠ .ex c fs s') : ∀ (ds : List D) (s : S) (c : Nat) (fs : List (Str × T)) (s' : S), turns n0 f ds s ≠ .ex c fs s'
  | [], _, _, _, _, h => by cases h
  | d :: ds, s, c, fs, s', h => by
    unfold turns at h
    cases h1 : f d s with
    | ok o s1 =>
      rw [h1] at h
      cases o with
      | none => exact turns_ex hf ds _ _ _ _ h
      | some y =>
        simp only [R.bind] at h
        split at h
        · split at h
          · exact turns_ex hf ds _ _ _ _ h
          · cases h
        · cases h
    | ex c' fs' s2 => exact hf _ _ _ _ _ h1
    | no => rw [h1] at h; cases h
theorem lock_len (s : S) (u : Option Nat) : (lock s u).length = s.length := by
  unfold lock
  split
  · rfl
  · split
    · rw [List.length_set]
    · rfl
section
variable {W : Wd} {X : Cx} {wx : WX}
/-- the reading of a comprehension -/
theorem lc_read {own : List (Str × Nat)} {cell : Bool} {t : Tg} {fI : Sl → S → R (List D × Option Nat)} {fc : Sl → S → R Bool} {fe : Sl → S → R D} (ho : inT' (own.map (·.2)) t = true) {σ : St} {H : Hp} {Q : VK}
    (h : tE W wx (fun σ s => (fI σ s).bind fun p s => (turns s.length (turn1 t (wipeD σ (own.map (·.2))) fc fe) p.1 (lock s p.2 ++ [.l []])).bind fun _ s2 => lcEnd cell s.length (unlock s2 p.2)) σ H Q) :
    tLc (tI W wx fI) (gT W.K t) (tT W wxF fc) (tE W wxF fe) (own.map (·.2)) σ H Q := by
  obtain ⟨γ, σd, s, en, st, h⟩ := h
  refine ⟨γ, σd, s, en, st, ?_⟩
  dsimp only at h
  cases e : fI σd s with
  | no => rw [e] at h; exact h.elim
  | ex c fs s1 => rw [e] at h; exact h
  | ok p s1 =>
    rw [e] at h
    obtain ⟨ds, u⟩ := p
    intro γ1 H1 J x1 st1 wk Da hDa
    obtain ⟨γ2, x2, st2, fd, ul⟩ := wk
    have h : post W (relT W) (at_ wx σ) γ H Q ((turns s1.length (turn1 t (wipeD σd (own.map (·.2))) fc fe) ds (lock s1 u ++ [.l []])).bind fun _ s2 => lcEnd cell s1.length (unlock s2 u)) := h
    have hl : (lock s1 u).length = s1.length := lock_len s1 u
    have x3 := ext_cell (o := .lst []) st2 hDa
    have st3 : StOk W (γ2 ++ [some (Da, false)]) (lock s1 u ++ [.l []]) (upd H1 Da (.lst [])) := st2.cell hDa ⟨Da, [], last_get st2, upd_same, rfl, fun d hd => by cases hd⟩
    have pl3 : Pl (γ2 ++ [some (Da, false)]) s1.length Da := by rw [← hl]; exact Pl.of (last_get st2)
    cases et : turns s1.length (turn1 t (wipeD σd (own.map (·.2))) fc fe) ds (lock s1 u ++ [.l []]) with
    | no => rw [et] at h; exact h.elim
    | ex c fs s2 => exact absurd et (turns_ex (fun _ _ _ _ _ => turn1_ex) _ _ _ _ _)
    | ok _ sE =>
      rw [et] at h
      have h : post W (relT W) (at_ wx σ) γ H Q (lcEnd cell s1.length (unlock sE u)) := h
      refine ⟨fun i m H' => ∃ γ' s', Ext (γ2 ++ [some (Da, false)]) γ' (upd H1 Da (.lst [])) H' ∧ StOk W γ' s' H' ∧ m = ds.length - i ∧ i ≤ ds.length ∧ turns s1.length (turn1 t (wipeD σd (own.map (·.2))) fc fe) (ds.drop i) s' = .ok () sE,
        ⟨_, _, _, Ext.refl, st3, rfl, Nat.zero_le _, et⟩, ?_⟩
      rintro i m H' ⟨γ', s', x', st', rfl, hi', ht'⟩
      obtain ⟨f1, f2⟩ := fd i γ' H' (x3.trans x')
      by_cases hlt : i < ds.length
      · have hd : ds[i]? = some ds[i] := List.getElem?_eq_getElem hlt
        obtain ⟨go, yl⟩ := f1 _ hd
        refine .inr ⟨go, fun H'' => ∃ γ' s', Ext (γ2 ++ [some (Da, false)]) γ' (upd H1 Da (.lst [])) H'' ∧ StOk W γ' s' H'' ∧ ds.length - (i + 1) = ds.length - (i + 1) ∧ i + 1 ≤ ds.length ∧ turns s1.length (turn1 t (wipeD σd (own.map (·.2))) fc fe) (ds.drop (i + 1)) s' = .ok () sE,
          fun H'' hN => ⟨ds.length - (i + 1), by omega, hN⟩, fun x H'' hy => ?_⟩
        obtain ⟨y1, y2, y3⟩ := yl x H'' hy
        have st4 := y1 _ st'
        have x4 := x'.trans y2
        rw [List.drop_eq_getElem_cons hlt] at ht'
        unfold turns at ht'
        obtain ⟨o, s4, e1, e2⟩ := bind_ok ht'
        obtain ⟨σ1, e3, e4⟩ := turn1_ok e1
        have en4 : EnvOk W γ' H'' (wipeD σd (own.map (·.2))) (wipe σ (own.map (·.2))) := (en.ext (((x1.trans x2).trans x3).trans x4)).wipe _
        refine tg_ok rfl t e3 en4 y3 fun σ2 en5 wp => ?_
        refine ⟨(wp _ ho).trans ?_, γ', σ1, s', en5, st4, ?_⟩
        · refine List.ext_getElem? fun j => ?_
          rw [wipe_get, wipe_get, wipe_length]
          by_cases q : j ∈ own.map (·.2) ∧ j < σ.length
          · rw [if_pos q, if_pos q]
          · rw [if_neg q, if_neg q]
        · rcases e4 with ⟨e4, rfl⟩ | ⟨s5, y, e4, e5, rfl⟩
          · rw [e4]
            intro γ5 H5 b x5 st5 hb
            subst hb
            rw [if_neg Bool.false_ne_true]
            exact ⟨γ5, s4, x4.trans x5, st5, rfl, hlt, e2⟩
          · rw [e4]
            intro γ5 H5 b x5 st5 hb
            subst hb
            rw [if_pos rfl]
            refine ⟨γ5, σ1, s5, en5.ext x5, st5, ?_⟩
            rw [e5]
            intro γ6 H6 v x6 st6 rv
            dsimp only at e2
            split at e2
            · rename_i acc q
              split at e2
              · rename_i hcnd
                rw [Bool.and_eq_true] at hcnd
                have hlen : acc.length < sizeLine := of_decide_eq_true hcnd.2
                have xx := (x4.trans x5).trans x6
                obtain ⟨a, vs, ea, h1, h2, h3, h4⟩ := cell_at (x := .ref Da) st6 ⟨Da, rfl, xx.grow _ _ pl3⟩ q
                cases ea
                refine ⟨vs, h2, by rw [h3.length]; exact hlen, γ6, s4.set s1.length (.l (acc ++ [y])), xx.trans (ext_write st6 h1), st6.write h1 ⟨Da, _, h1, upd_same, ?_, ?_⟩, rfl, hlt, e2⟩
                · have xw := ext_write st6 (o := .lst (vs ++ [v])) h1
                  exact RepDs.append (RepDs.ext xw h3) ⟨v, [], rfl, rv.ext xw, rfl⟩
                · intro z hz
                  rcases List.mem_append.mp hz with hz | hz
                  · exact h4 z hz
                  · rw [List.mem_singleton.mp hz]; exact hcnd.1
              · cases e2
            · cases e2
      · have ei : i = ds.length := by omega
        refine .inl ⟨f2 ei, ?_⟩
        subst ei
        rw [List.drop_length] at ht'
        have hE : s' = sE := by
          cases ht'
          rfl
        subst hE
        obtain ⟨γ'', z1, z2, z3, z4, z5⟩ := ul γ' s' H' (x3.trans x') st'
        have pl : Pl γ'' s1.length Da := z4 _ _ (x'.grow _ _ pl3)
        have xg := x1.trans z1
        have hle : γ.length ≤ s1.length := by rw [← st1.len]; exact x1.len
        unfold lcEnd at h
        split at h
        · refine h (γ''.take (s1.length + 1)) H' _ (ext_take xg (by omega)) (z2.take _) ⟨Da, rfl, ?_⟩
          obtain ⟨o, p1, p2⟩ := pl
          exact ⟨o, by rw [List.getElem?_take_of_lt (Nat.lt_succ_self _)]; exact p1, p2⟩
        · split at h
          · rename_i acc q
            cases et2 : trees acc with
            | none => rw [et2] at h; exact h.elim
            | some xs =>
              rw [et2] at h
              obtain ⟨a, vs, ea, h1, h2, h3, h4⟩ := cell_at (x := .ref Da) z2 ⟨Da, rfl, pl⟩ q
              cases ea
              have nl : ¬ Live (γ''.take s1.length) Da := fun ⟨k, l⟩ => by
                obtain ⟨j, hj, ej⟩ := List.getElem_of_mem l
                have e9 : (γ''.take s1.length)[j]? = some (some (Da, k)) := by rw [List.getElem?_eq_getElem hj, ej]
                obtain ⟨e10, hj2⟩ := take_get e9
                have := z2.inj _ _ Da _ _ e10 h1
                omega
              exact h (γ''.take s1.length) H' _ (ext_take xg hle) (z2.take _) ⟨Da, vs, rfl, nl, h2, Reps.ext0 ext0_take _ _ (trees_ok et2 h3)⟩
          · exact h.elim
theorem pe_lcZ {elt tg iter : Expr} {ifs : List Expr} {scope : Scope} {own : List (Str × Nat)} {pos : Pos} {cell : Bool} {t : Tg} {fI : Sl → S → R (List D × Option Nat)} {fc : Sl → S → R Bool} {fe : Sl → S → R D} (hw : CtxW W X) (hc : X.calm = true) (hN : X.N.Nodup)
    (hi : PI X tg iter (tI W wx fI)) (ok : BlkOk X.N X.env.scope scope own) (ho : inT' (own.map (·.2)) t = true)
    (hg : ∀ (s : Shared) (H : Hp) (C : Addr) (cl : List (Str × Addr)) (fp : List Addr), PG (X.blk s H scope (compEnvC scope cl C X.env) fp) tg (gT W.K t))
    (ht : ∀ (s : Shared) (H : Hp) (C : Addr) (cl : List (Str × Addr)) (fp : List Addr), PTs (X.blk s H scope (compEnvC scope cl C X.env) fp) ifs (tT W wxF fc))
    (he : ∀ (s : Shared) (H : Hp) (C : Addr) (cl : List (Str × Addr)) (fp : List Addr), PE (X.blk s H scope (compEnvC scope cl C X.env) fp) elt (tE W wxF fe)) (hs : ∀ x, foldedSetIterable iter X.env x = pure x) :
    PE X (.ListComp elt [⟨tg, iter, ifs, 0⟩] scope pos) (tE W wx fun σ s => (fI σ s).bind fun p s =>
      (turns s.length (turn1 t (wipeD σ (own.map (·.2))) fc fe) p.1 (lock s p.2 ++ [.l []])).bind fun _ s2 => lcEnd cell s.length (unlock s2 p.2)) :=
  ⟨fun pins s0 σ H Q I h => (pe_lc hc hN hi ok hg ht he hs).run pins s0 σ H Q I (lc_read ho h)⟩
/-- name = [..] -/
theorem ps_lcZ {i : Nat} {y : Str} {py spos : Pos} {elt tg iter : Expr} {ifs : List Expr} {scope : Scope} {own : List (Str × Nat)} {pos : Pos} {cell : Bool} {t : Tg} {fI : Sl → S → R (List D × Option Nat)} {fc : Sl → S → R Bool} {fe : Sl → S → R D} (hc : X.calm = true) (hN : X.N.Nodup)
    (hy : X.N[i]? = some y) (hyl : X.env.scope.names.lookup y = some .local) (hl : (py.line == pos.line) = true) (ha : (scope.names.any fun (n, k) => n == y && (k == .local || k == .cell)) = false)
    (hi : PI X tg iter (tI W wx fI)) (ok : BlkOk X.N X.env.scope scope own) (ho : inT' (own.map (·.2)) t = true)
    (hg : ∀ (s : Shared) (H : Hp) (C : Addr) (cl : List (Str × Addr)) (fp : List Addr), PG (X.blk s H scope (compEnvC scope cl C X.env) fp) tg (gT W.K t))
    (ht : ∀ (s : Shared) (H : Hp) (C : Addr) (cl : List (Str × Addr)) (fp : List Addr), PTs (X.blk s H scope (compEnvC scope cl C X.env) fp) ifs (tT W wxF fc))
    (he : ∀ (s : Shared) (H : Hp) (C : Addr) (cl : List (Str × Addr)) (fp : List Addr), PE (X.blk s H scope (compEnvC scope cl C X.env) fp) elt (tE W wxF fe)) (hs : ∀ x, foldedSetIterable iter X.env x = pure x)
    {E : Ends} {pins : List (Addr × Obj)} {s0 : Shared} {σ : St} {H : Hp} (I : L2.Inv X pins σ H s0)
    (h : tE W wx (fun σ s => (fI σ s).bind fun p s => (turns s.length (turn1 t (wipeD σ (own.map (·.2))) fc fe) p.1 (lock s p.2 ++ [.l []])).bind fun _ s2 => lcEnd cell s.length (unlock s2 p.2)) σ H fun x H1 => E.nx (σ.set i (some x)) H1) :
    wpAny (model X.prog X.w) X.A (exec (.Assign [.Name y py] (.ListComp elt [⟨tg, iter, ifs, 0⟩] scope pos) spos) X.env) (SP X pins E) X.xe s0 :=
  (ps_setLc hc hN hy hyl (sw_true I.ok.kind hyl hl ha) hi ok hg ht he hs).run pins s0 σ H E I (lc_read ho h)
end
end Z
end
section
set_option Elab.async false
set_option linter.all false
set_option maxRecDepth 100000
set_option maxHeartbeats 1000000
set_option autoImplicit false
namespace Z
open PySem PySem.Spec L2

/-- how an exception's own dict stands for its fields -/
def XRep (W : Wd) (γ : Ga) (H : Hp) (fs : List (Str × T)) : Option Addr → Prop
  | none => fs = []
  | some a => ∃ gs, ¬ Live γ a ∧ H a = some (.xd gs) ∧ RepFs W γ H fs gs
theorem post_ex {α β : Type} {W : Wd} {rel : Ga → Hp → α → β → Prop} {wx : Value → Option Addr → Hp → Prop} {γ : Ga} {H : Hp} {Q : β → Hp → Prop} {c : Nat} {fs : List (Str × T)} {s : S}
    (h : ∀ γ' H' d, Ext γ γ' H H' → StOk W γ' s H' → XRep W γ' H' fs d → wx (.ref (W.ca c)) d H') : post W rel wx γ H Q (.ex c fs s) := fun γ' H' d x st z => h γ' H' d x st (by
  cases d with
  | none => exact z
  | some a => exact z)
theorem ex_post {α β : Type} {W : Wd} {rel : Ga → Hp → α → β → Prop} {wx : Value → Option Addr → Hp → Prop} {γ : Ga} {H : Hp} {Q : β → Hp → Prop} {c : Nat} {fs : List (Str × T)} {s : S}
    (h : post W rel wx γ H Q (.ex c fs s)) {γ' : Ga} {H' : Hp} {d : Option Addr} (x : Ext γ γ' H H') (st : StOk W γ' s H') (z : XRep W γ' H' fs d) : wx (.ref (W.ca c)) d H' := h γ' H' d x st (by
  cases d with
  | none => exact z
  | some a => exact z)
def postS (W : Wd) (wx : WX) (γ : Ga) (H : Hp) (E : Ends) : O → Prop
  | .nx σd s => ∀ γ' H' σ, Ext γ γ' H H' → StOk W γ' s H' → EnvOk W γ' H' σd σ → E.nx σ H'
  | .rt d s => ∀ γ' H' v, Ext γ γ' H H' → StOk W γ' s H' → RepD W γ' H' d v → E.rt v H'
  | .bk σd s => ∀ γ' H' σ, Ext γ γ' H H' → StOk W γ' s H' → EnvOk W γ' H' σd σ → E.bk σ H'
  | .ct σd s => ∀ γ' H' σ, Ext γ γ' H H' → StOk W γ' s H' → EnvOk W γ' H' σd σ → E.ct σ H'
  | .ex c fs σd s => ∀ γ' H' σ d, Ext γ γ' H H' → StOk W γ' s H' → EnvOk W γ' H' σd σ → XRep W γ' H' fs d → wx (.ref (W.ca c)) d σ H'
  | .no => False
def tS (W : Wd) (wx : WX) (f : Sl → S → O) : TS := fun E σ H => ∃ γ σd s, EnvOk W γ H σd σ ∧ StOk W γ s H ∧ postS W wx γ H E (f σd s)
section
variable {W : Wd} {X : Cx} {wx : WX} {γ γ' : Ga} {H H' : Hp} {E : Ends} {σ : St} {σd : Sl}
theorem postS_mono (x : Ext γ γ' H H') {o : O} (h : postS W wx γ H E o) : postS W wx γ' H' E o := by
  cases o with
  | nx σd s => exact fun γ2 H2 b x2 => h γ2 H2 b (x.trans x2)
  | rt d s => exact fun γ2 H2 b x2 => h γ2 H2 b (x.trans x2)
  | bk σd s => exact fun γ2 H2 b x2 => h γ2 H2 b (x.trans x2)
  | ct σd s => exact fun γ2 H2 b x2 => h γ2 H2 b (x.trans x2)
  | ex c fs σd s => exact fun γ2 H2 σ d x2 => h γ2 H2 σ d (x.trans x2)
  | no => exact h
theorem post_then {α β : Type} {rel : Ga → Hp → α → β → Prop} {Q : β → Hp → Prop} {r : R α} {k : α → S → O} (en : EnvOk W γ H σd σ) (h : postS W wx γ H E (r.then σd k))
    (f : ∀ a s γ1 H1 b, r = .ok a s → Ext γ γ1 H H1 → StOk W γ1 s H1 → rel γ1 H1 a b → postS W wx γ1 H1 E (k a s) → Q b H1) : post W rel (at_ wx σ) γ H Q r := by
  cases r with
  | ok a s => exact fun γ1 H1 b x st q => f a s γ1 H1 b rfl x st q (postS_mono x h)
  | ex c fs s => exact post_ex fun γ' H' d x st z => h γ' H' σ d x st (en.ext x) z
  | no => exact h
/-- the environment stays where nothing but a held list is let go -/
theorem EnvOk.ext0 (x : Ext0 γ γ' H H') (g : ∀ m b, Pl γ m b → Pl γ' m b) (e : EnvOk W γ H σd σ) : EnvOk W γ' H' σd σ := ⟨e.1, fun i d h => by
  obtain ⟨v, h1, h2⟩ := e.2 i d h
  refine ⟨v, h1, ?_⟩
  cases d with
  | t y => exact Rep.ext0 x y v h2
  | c n => obtain ⟨a, e, h⟩ := h2; exact ⟨a, e, g _ _ h⟩⟩
theorem RepD.ext0 (x : Ext0 γ γ' H H') (g : ∀ m b, Pl γ m b → Pl γ' m b) {d : D} {v : V} (h : RepD W γ H d v) : RepD W γ' H' d v := by
  cases d with
  | t y => exact Rep.ext0 x y v h
  | c n => obtain ⟨a, e, h⟩ := h; exact ⟨a, e, g _ _ h⟩
theorem XRep.ext0 (x : Ext0 γ γ' H H') {fs : List (Str × T)} {d : Option Addr} (h : XRep W γ H fs d) : XRep W γ' H' fs d := by
  cases d with
  | none => exact h
  | some a =>
    obtain ⟨gs, h1, h2, h3⟩ := h
    exact ⟨gs, x.nl h1 (by rw [h2]; simp), x.keep _ _ h1 h2 rfl, RepFs.ext0 x _ _ h3⟩
/-- one turn of a for -/
def turnF (tg : Tg) (fb : Sl → S → O) (d : D) (σ : Sl) (s : S) : O := match setTg tg d σ with
  | some σ1 => fb σ1 s
  | none => .no
theorem ps_forZ {tg iter : Expr} {body : List Stmt} {pos : Pos} {t : Tg} {fI : Sl → S → R (List D × Option Nat)} {fb : Sl → S → O} (hp : PassesOwn (model X.prog X.w) X.A X.env X.xe) (hc : X.calm = true)
    (hi : PI X tg iter (tI W wx fI)) (hg : PG X tg (gT W.K t)) (hb : PSs X body (tS W wx fb)) (hs : ∀ x, foldedSetIterable iter X.env x = pure x) :
    PS X (.For tg iter body [] pos) (tS W wx fun σ s => (fI σ s).then σ fun p s => forL p.2 (turnF t fb) p.1 σ (lock s p.2)) := by
  refine ⟨fun pins s0 σ H E I h => (ps_for hp hc hi hg hb hs).run pins s0 σ H E I ?_⟩
  obtain ⟨γ, σd, s, en, st, h⟩ := h
  refine ⟨γ, σd, s, en, st, ?_⟩
  dsimp only at h
  cases e : fI σd s with
  | no => rw [e] at h; exact h.elim
  | ex c fs s1 =>
    rw [e] at h
    exact post_ex (rel := fun _ _ (_ : Unit) (_ : Unit) => False) (Q := fun _ _ => False) fun γ' H' d x st z => h γ' H' σ d x st (en.ext x) z
  | ok p s1 =>
    rw [e] at h
    obtain ⟨ds, u⟩ := p
    intro γ1 H1 J x1 st1 wk
    obtain ⟨γ2, x2, st2, fd, ul⟩ := wk
    have h : postS W wx γ H E (forL u (turnF t fb) ds σd (lock s1 u)) := h
    generalize eo : forL u (turnF t fb) ds σd (lock s1 u) = oE at h
    refine ⟨fun i m σ' H' => ∃ γ' σd' s', Ext γ2 γ' H1 H' ∧ StOk W γ' s' H' ∧ EnvOk W γ' H' σd' σ' ∧ m = ds.length - i ∧ i ≤ ds.length ∧ forL u (turnF t fb) (ds.drop i) σd' s' = oE,
      ⟨_, γ2, σd, _, Ext.refl, st2, en.ext (x1.trans x2), rfl, Nat.zero_le _, eo⟩, ?_⟩
    rintro i m σ' H' ⟨γ', σd', s', x', st', en', rfl, hi', ef⟩
    obtain ⟨f1, f2⟩ := fd i γ' H' x'
    -- the end, by a break or by the last item
    have fin : ∀ {γ5 : Ga} {s5 : S} {H5 : Hp} {σ5 : St} {σ6 : Sl}, Ext γ2 γ5 H1 H5 → StOk W γ5 s5 H5 → EnvOk W γ5 H5 σ6 σ5 → .nx σ6 (unlock s5 u) = oE → E.nx σ5 H5 := fun {γ5 s5 H5 σ5 σ6} x5 st5 en5 e5 => by
      obtain ⟨γ'', z1, z2, z3, z4, z5⟩ := ul γ5 s5 H5 x5 st5
      rw [← e5] at h
      exact h γ'' H5 σ5 (x1.trans z1) z2 (en5.ext0 z3 z4)
    by_cases hlt : i < ds.length
    · have hd : ds[i]? = some ds[i] := List.getElem?_eq_getElem hlt
      obtain ⟨go, yl⟩ := f1 _ hd
      refine .inr ⟨go, fun σ' H'' => ∃ γ' σd' s', Ext γ2 γ' H1 H'' ∧ StOk W γ' s' H'' ∧ EnvOk W γ' H'' σd' σ' ∧ ds.length - (i + 1) = ds.length - (i + 1) ∧ i + 1 ≤ ds.length ∧ forL u (turnF t fb) (ds.drop (i + 1)) σd' s' = oE,
        fun σ' H'' hN => ⟨ds.length - (i + 1), by omega, hN⟩, fun x H'' hy => ?_⟩
      obtain ⟨y1, y2, y3⟩ := yl x H'' hy
      have st4 := y1 _ st'
      have x4 := x'.trans y2
      rw [List.drop_eq_getElem_cons hlt] at ef
      unfold forL at ef
      cases e3 : setTg t ds[i] σd' with
      | none =>
        have : turnF t fb ds[i] σd' s' = .no := by
          unfold turnF
          rw [e3]
        rw [this] at ef
        rw [← ef] at h
        exact h.elim
      | some σ1 =>
        have et : turnF t fb ds[i] σd' s' = fb σ1 s' := by
          unfold turnF
          rw [e3]
        rw [et] at ef
        refine tg_ok rfl t e3 (en'.ext y2) y3 fun σ2 en5 _ => ⟨γ', σ1, s', en5, st4, ?_⟩
        cases eb : fb σ1 s' with
        | nx σ3 s3 =>
          rw [eb] at ef
          exact fun γ5 H5 σ5 x5 st5 en5 => ⟨γ5, σ3, s3, x4.trans x5, st5, en5, rfl, hlt, ef⟩
        | ct σ3 s3 =>
          rw [eb] at ef
          exact fun γ5 H5 σ5 x5 st5 en5 => ⟨γ5, σ3, s3, x4.trans x5, st5, en5, rfl, hlt, ef⟩
        | bk σ3 s3 =>
          rw [eb] at ef
          exact fun γ5 H5 σ5 x5 st5 en5 => fin (x4.trans x5) st5 en5 ef
        | rt d s3 =>
          rw [eb] at ef
          intro γ5 H5 v x5 st5 rv
          obtain ⟨γ'', z1, z2, z3, z4, z5⟩ := ul γ5 s3 H5 (x4.trans x5) st5
          rw [← ef] at h
          exact h γ'' H5 v (x1.trans z1) z2 (rv.ext0 z3 z4)
        | ex c fs σ3 s3 =>
          rw [eb] at ef
          intro γ5 H5 σ5 d x5 st5 en5 z
          obtain ⟨γ'', z1, z2, z3, z4, z5⟩ := ul γ5 s3 H5 (x4.trans x5) st5
          rw [← ef] at h
          exact h γ'' H5 σ5 d (x1.trans z1) z2 (en5.ext0 z3 z4) (z.ext0 z3)
        | no =>
          rw [eb] at ef
          rw [← ef] at h
          exact h.elim
    · have ei : i = ds.length := by omega
      refine .inl ⟨f2 ei, ?_⟩
      subst ei
      rw [List.drop_length] at ef
      exact fin x' st' en' ef
theorem ps_whileZ {c : Expr} {body : List Stmt} {pos : Pos} {n : Nat} {fc : Sl → S → R Bool} {fb : Sl → S → O} (hp : PassesOwn (model X.prog X.w) X.A X.env X.xe) (hc : PT X c (tT W wx fc)) (hb : PSs X body (tS W wx fb)) :
    PS X (.While c body [] pos) (tS W wx (whlL fc fb n)) := by
  refine ⟨fun pins s0 σ H E I h => (ps_while hp hc hb).run pins s0 σ H E I ?_⟩
  obtain ⟨γ, σd, s, en, st, h⟩ := h
  generalize eo : whlL fc fb n σd s = oE at h
  refine ⟨fun m σ' H' => ∃ γ' σd' s', Ext γ γ' H H' ∧ StOk W γ' s' H' ∧ EnvOk W γ' H' σd' σ' ∧ whlL fc fb m σd' s' = oE, ⟨n, γ, σd, s, Ext.refl, st, en, eo⟩, ?_⟩
  rintro m σ' H' ⟨γ', σd', s', x', st', en', ef⟩
  cases m with
  | zero =>
    have ef : O.no = oE := ef
    rw [← ef] at h
    exact h.elim
  | succ m =>
    unfold whlL at ef
    rw [← ef] at h
    refine ⟨γ', σd', s', en', st', post_then en' (postS_mono x' h) fun k s1 γ1 H1 b q x1 st1 hb p1 => ?_⟩
    subst hb
    rw [q] at ef
    have x2 := x'.trans x1
    cases k with
    | true =>
      rw [if_pos rfl]
      refine ⟨fun σ' H' => ∃ γ' σd' s', Ext γ γ' H H' ∧ StOk W γ' s' H' ∧ EnvOk W γ' H' σd' σ' ∧ whlL fc fb m σd' s' = oE, fun σ' H' hN => ⟨m, Nat.lt_succ_self _, hN⟩, γ1, σd', s1, en'.ext x1, st1, ?_⟩
      have ef : (match fb σd' s1 with
        | .nx σ s => whlL fc fb m σ s
        | .ct σ s => whlL fc fb m σ s
        | .bk σ s => .nx σ s
        | o => o) = oE := ef
      have h2 : postS W wx γ1 H1 E oE := by rw [← ef]; exact p1
      cases eb : fb σd' s1 with
      | nx σ3 s3 =>
        rw [eb] at ef
        exact fun γ5 H5 σ5 x5 st5 en5 => ⟨γ5, σ3, s3, x2.trans x5, st5, en5, ef⟩
      | ct σ3 s3 =>
        rw [eb] at ef
        exact fun γ5 H5 σ5 x5 st5 en5 => ⟨γ5, σ3, s3, x2.trans x5, st5, en5, ef⟩
      | bk σ3 s3 =>
        rw [eb] at ef
        rw [← ef] at h2
        exact h2
      | rt d s3 =>
        rw [eb] at ef
        rw [← ef] at h2
        exact h2
      | ex c fs σ3 s3 =>
        rw [eb] at ef
        rw [← ef] at h2
        exact h2
      | no =>
        rw [eb] at ef
        rw [← ef] at h2
        exact h2.elim
    | false =>
      rw [if_neg Bool.false_ne_true]
      exact p1 γ1 H1 σ' Ext.refl st1 (en'.ext x1)
end
end Z
end
section
set_option Elab.async false
set_option linter.all false
set_option maxRecDepth 100000
set_option maxHeartbeats 1000000
set_option autoImplicit false
namespace Z
open PySem PySem.Spec L2

/-! ### the text held against the terms -/
/-- where a text stands: its names by slots, its scope, the names it may store -/
structure Kn where
  N : List Str
  sc : Scope
  wr : Str → Bool
/-- the module's names -/
structure Tb where
  fname : Nat → Option Str
  cname : Nat → Option Str
  ini : Nat → Nat
  made : Nat → Bool
  bnd : Nat → Nat → Bool
  mths : List (Nat × Str × Nat)
  consts : List (Str × T)
  frees : List Str
  gcd : Bool
def nm (x : Str) : Bool := !(x == ("__debug__" : Str)) && !(x == ("__classdict__" : Str))
def visB (sc : Scope) (x : Str) : Bool := match sc.names.lookup x with
  | some .local => true
  | some .cell => true
  | some .free => true
  | _ => false
def glB (sc : Scope) (x : Str) : Bool := decide (sc.names.lookup x = some .globalImplicit) && nm x
def notSet : Expr → Bool
  | .Set _ _ _ => false
  | _ => true
def notSlice : Expr → Bool
  | .Slice _ _ _ _ => false
  | _ => true
def conB : T → Const → Bool
  | .non, .none => true
  | .bl b, .bool c => decide (b = c)
  | .int i, .int j => decide (i = j)
  | .str x, .str y => decide (x = y)
  | _, _ => false
def tyNames : List (String × Str) := [("int", "int"), ("bool", "bool"), ("str", "str"), ("list", "list"), ("tuple", "tuple"), ("dict", "dict")]
def biName : Bi → Str
  | .len => "len"
  | .int => "int"
  | .abs => "abs"
  | .list => "list"
  | .tuple => "tuple"
  | .gcd => "gcd"
  | .isi => "isinstance"
def biFree (tb : Tb) (b : Bi) (x : Str) : Bool := match b with
  | .gcd => tb.gcd
  | _ => decide (x ∈ tb.frees)
def lenEs : Es → Nat
  | .nil => 0
  | .cons _ es => lenEs es + 1
/-- within a comprehension -/
def Kn.blk (q : Kn) (scope : Scope) : Kn := ⟨q.N, relS scope q.sc, fun x => match scope.names.lookup x with
  | some .local => true
  | some .cell => true
  | _ => false⟩
mutual
def chkG : Tg → Kn → Expr → Bool
  | .name i, q, .Name x _ => decide (q.N[i]? = some x) && q.wr x
  | .tup ts, q, .Tuple es _ _ => es.all plainE && chkGs ts q es
  | _, _, _ => false
termination_by structural x => x
def chkGs : Tgs → Kn → List Expr → Bool
  | .nil, _, [] => true
  | .cons t ts, q, e :: es => chkG t q e && chkGs ts q es
  | _, _, _ => false
termination_by structural x => x
end
mutual
/-- b: as a test -/
def chk (tb : Tb) : E → Bool → Kn → Expr → Bool
  | .var i, _, q, .Name x _ => decide (q.N[i]? = some x) && visB q.sc x && nm x
  | .con t, _, _, .Constant c _ _ => conB t c
  | .glob i, _, q, .Name x _ => decide ((tb.consts[i]?).map Prod.fst = some x) && glB q.sc x
  | .ty n, _, q, .Name x _ => decide ((n, x) ∈ tyNames) && decide (x ∈ tb.frees) && glB q.sc x
  | .cls c, _, q, .Name x _ => decide (tb.cname c = some x) && glB q.sc x
  | .bin op a b, _, q, .BinOp l o r _ => decide (op = o) && chk tb a false q l && chk tb b false q r
  | .neg a, _, q, .UnaryOp .USub x _ => chk tb a false q x
  | .cmp op a b, _, q, .Compare l [o] [r] _ => decide (op = o) && notSet r && chk tb a false q l && chk tb b false q r
  | .chain op op' a b c, _, q, .Compare l [o, o'] [m, r] _ => decide (op = o) && decide (op' = o') && notSet r && chk tb a false q l && chk tb b false q m && chk tb c false q r
  | .and a b, k, q, .BoolOp .And (x :: y :: rest) pos => chk tb a k q x && chk tb b k q (.BoolOp .And (y :: rest) pos)
  | .or a b, k, q, .BoolOp .Or (x :: y :: rest) pos => chk tb a k q x && chk tb b k q (.BoolOp .Or (y :: rest) pos)
  | .one a, k, q, .BoolOp _ [x] _ => chk tb a k q x
  | .not a, k, q, .UnaryOp .Not x _ => chk tb a k q x
  | .ite c a b, k, q, .IfExp t x y _ => !k && chk tb c true q t && chk tb a false q x && chk tb b false q y
  | .lst _ es, _, q, .List xs _ => xs.all plainE && chks tb es q xs
  | .tup es, _, q, .Tuple xs _ _ => xs.all plainE && chks tb es q xs
  | .sub a i, _, q, .Subscript x y _ => notSlice y && chk tb a false q x && chk tb i false q y
  | .slc a lo hi, _, q, .Subscript x (.Slice l h none _) _ => chk tb a false q x && chko tb lo q l && chko tb hi q h
  | .call f es, _, q, .Call (.Name x _) xs [] _ => decide (tb.fname f = some x) && glB q.sc x && xs.all plainE && chks tb es q xs && tb.bnd f (lenEs es)
  | .meth m o es, _, q, .Call (.Attribute x m' ap) xs [] pos => decide (m = m') && noSuper x && xs.all plainE && decide (xs.length < 30) && (ap.endLine == pos.line) && chk tb o false q x && chks tb es q xs && tb.mths.all fun z => decide (z.2.1 ≠ m) || tb.bnd z.2.2 (lenEs es + 1)
  | .make c es, _, q, .Call (.Name x _) xs [] _ => decide (tb.cname c = some x) && tb.made c && glB q.sc x && xs.all plainE && chks tb es q xs && tb.bnd (tb.ini c) (lenEs es + 1)
  | .bi b es, _, q, .Call (.Name x _) (y :: xs) [] _ => decide (x = biName b) && biFree tb b x && glB q.sc x && (y :: xs).all plainE && chks tb es q (y :: xs)
  | .app o e, _, q, .Call (.Attribute x m ap) [y] [] pos => decide (m = "append") && noSuper x && plainE y && (ap.endLine == pos.line) && chk tb o false q x && chk tb e false q y
  | .ext o e, _, q, .Call (.Attribute x m ap) [y] [] pos => decide (m = "extend") && noSuper x && plainE y && (ap.endLine == pos.line) && chk tb o false q x && chk tb e false q y
  | .pop o e, _, q, .Call (.Attribute x m ap) [y] [] pos => decide (m = "pop") && noSuper x && plainE y && (ap.endLine == pos.line) && chk tb o false q x && chk tb e false q y
  | .fld f o, _, q, .Attribute x f' _ => decide (f = f') && noSuper x && chk tb o false q x
  | .lc _ own elt tg it cond, _, q, .ListComp el [⟨tx, ix, ifs, asy⟩] scope _ => decide (asy = 0) && blkC q.N q.sc scope own && inT' (own.map Prod.snd) tg && notSet ix && chkI tb it q ix && chkG tg (q.blk scope) tx && chk tb elt false (q.blk scope) el && chkC tb cond (q.blk scope) ifs
  | .frz e, k, q, x => !k && chk tb e false q x
  | .dk0, _, _, .Dict [] [] _ => true
  | .hole, _, _, _ => true
  | _, _, _, _ => false
termination_by structural x => x
def chks (tb : Tb) : Es → Kn → List Expr → Bool
  | .nil, _, [] => true
  | .cons e es, q, x :: xs => chk tb e false q x && chks tb es q xs
  | _, _, _ => false
termination_by structural x => x
def chko (tb : Tb) : Eo → Kn → Option Expr → Bool
  | .no, _, none => true
  | .yes e, q, some x => chk tb e false q x
  | _, _, _ => false
termination_by structural x => x
def chkC (tb : Tb) : Eo → Kn → List Expr → Bool
  | .no, _, [] => true
  | .yes e, q, [x] => chk tb e true q x
  | _, _, _ => false
termination_by structural x => x
def chkI (tb : Tb) : It → Kn → Expr → Bool
  | .val e, q, x => chk tb e false q x
  | .rng1 e, q, .Call (.Name x _) [a] [] _ => decide (x = "range") && decide (("range" : Str) ∈ tb.frees) && glB q.sc "range" && plainE a && chk tb e false q a
  | .rng2 e e', q, .Call (.Name x _) [a, b] [] _ => decide (x = "range") && decide (("range" : Str) ∈ tb.frees) && glB q.sc "range" && plainE a && plainE b && chk tb e false q a && chk tb e' false q b
  | _, _, _ => false
termination_by structural x => x
end
end Z
end
section
set_option Elab.async false
set_option linter.all false
set_option maxRecDepth 100000
set_option maxHeartbeats 1000000
set_option autoImplicit false
namespace Z
open PySem PySem.Spec L2

theorem rof_ok {α : Type} {o : Option α} {s s' : S} {a : α} (h : R.of o s = .ok a s') : o = some a ∧ s = s' := by
  cases o with
  | none => cases h
  | some b => cases h; exact ⟨rfl, rfl⟩
section
variable {W : Wd} {X : Cx} {wx : WX} {pos : Pos} {γ : Ga} {H : Hp} {s : S}
/-- from one part to the next -/
theorem tE_step {σ : St} {Q Q1 : VK} {fa : Sl → S → R D} {k : Sl → D → S → R D} (h : tE W wx (fun σ s => (fa σ s).bind fun x s => k σ x s) σ H Q)
    (f : ∀ σd d s1 γ1 H1 v, EnvOk W γ1 H1 σd σ → StOk W γ1 s1 H1 → RepD W γ1 H1 d v → post W (relT W) (at_ wx σ) γ1 H1 Q (k σd d s1) → Q1 v H1) : tE W wx fa σ H Q1 := by
  obtain ⟨γ, σd, s, en, st, h⟩ := h
  exact ⟨γ, σd, s, en, st, post_bind h fun d s1 γ1 H1 v _ x st1 r p => f σd d s1 γ1 H1 v (en.ext x) st1 r p⟩
theorem post_of {α β : Type} {rel : Ga → Hp → α → β → Prop} {w' : Value → Option Addr → Hp → Prop} {Q : β → Hp → Prop} {o : Option α} (h : post W rel w' γ H Q (R.of o s)) : ∃ a, o = some a ∧ post W rel w' γ H Q (.ok a s) := by
  cases o with
  | none => exact h.elim
  | some a => exact ⟨a, rfl, h⟩
theorem lift2_some {f : T → T → Option T} {a b z : D} (e : lift2 s f a b = some z) : ∃ ta tb t, view s a = some ta ∧ view s b = some tb ∧ f ta tb = some t ∧ z = .t t := by
  unfold lift2 at e
  obtain ⟨ta, ea, e1⟩ := Option.bind_eq_some_iff.mp e
  obtain ⟨tb, eb, e2⟩ := Option.bind_eq_some_iff.mp e1
  obtain ⟨t, e3, e4⟩ := map_some' e2
  exact ⟨ta, tb, t, ea, eb, e3, e4.symm⟩
theorem bin_post {w' : Value → Option Addr → Hp → Prop} {Q : VK} {f : T → T → Option T} {a b : D} {x y : V} (st : StOk W γ s H) (ra : RepD W γ H a x) (rb : RepD W γ H b y) (h : post W (relT W) w' γ H Q (R.of (lift2 s f a b) s)) : rBin W f x y H Q := by
  obtain ⟨z, e, p⟩ := post_of h
  obtain ⟨ta, tb, t, ea, eb, e2, rfl⟩ := lift2_some e
  exact ⟨γ, s, ta, tb, t, st, view_ok st ra ea, view_ok st rb eb, e2, p⟩
theorem cmp_post {w' : Value → Option Addr → Hp → Prop} {Q : VK} {f : T → T → Option Bool} {a b : D} {x y : V} (st : StOk W γ s H) (ra : RepD W γ H a x) (rb : RepD W γ H b y) (h : post W (relT W) w' γ H Q (R.of (lift2 s (fun x y => (f x y).map T.bl) a b) s)) : rCmp W f x y H Q := by
  obtain ⟨γ, s, ta, tb, z, st, va, vb, e, n⟩ := bin_post st ra rb h
  obtain ⟨k, e2, rfl⟩ := map_some' e
  exact ⟨γ, ta, tb, k, va, vb, e2, n.here st rfl⟩
theorem pe_binZ {l r : Expr} {op : Operator} {fa fb : Sl → S → R D} (hw : CtxW W X) (ha : PE X l (tE W wx fa)) (hb : PE X r (tE W wx fb)) :
    PE X (.BinOp l op r pos) (tE W wx fun σ s => (fa σ s).bind fun x s => (fb σ s).bind fun y s => R.of (lift2 s (binT op) x y) s) := by
  refine ⟨fun pins s0 σ H Q I h => (pe_op (op_bin hw.K op) ha hb).run pins s0 σ H Q I ?_⟩
  exact tE_step h fun σd d s1 γ1 H1 v en st r p => ⟨γ1, σd, s1, en, st, post_bind p fun d2 s2 γ2 H2 v2 _ x2 st2 r2 p2 => bin_post st2 (r.ext x2) r2 p2⟩
theorem pe_negZ {a : Expr} {fa : Sl → S → R D} (ha : PE X a (tE W wx fa)) : PE X (.UnaryOp .USub a pos) (tE W wx fun σ s => (fa σ s).bind fun x s => match x with
    | .t (.int i) => .ok (.t (.int (-i))) s
    | _ => .no) := by
  refine ⟨fun pins s0 σ H Q I h => (pe_un un_neg ha).run pins s0 σ H Q I ?_⟩
  refine tE_step h fun σd d s1 γ1 H1 v en st r p => ?_
  split at p
  · cases r
    exact ⟨_, rfl, p γ1 H1 _ Ext.refl st rfl⟩
  · exact p.elim
theorem units_of {lv : Nat} {A : Around} (r : Room lv A) : A.units + 65 < cLine := by
  have := r.un
  omega
theorem mark_of {op : CmpOp} {e : Expr} (h : notSet e = true) : behindInMarks op e = false := by
  cases e <;> first | rfl | cases h
theorem pe_cmpZ {l r : Expr} {op : CmpOp} {lv : Nat} {fa fb : Sl → S → R D} (hw : CtxW W X) (hr : Room lv X.A) (hn : notSet r = true) (ha : PE X l (tE W wx fa)) (hb : PE X r (tE W wx fb)) :
    PE X (.Compare l [op] [r] pos) (tE W wx fun σ s => (fa σ s).bind fun x s => (fb σ s).bind fun y s => R.of (lift2 s (fun x y => (cmpT op x y).map T.bl) x y) s) := by
  refine ⟨fun pins s0 σ H Q I h => (pe_cmpR (op_cmp hw.K (units_of hr) op) ha hb (mark_of hn)).run pins s0 σ H Q I ?_⟩
  exact tE_step h fun σd d s1 γ1 H1 v en st r p => ⟨γ1, σd, s1, en, st, post_bind p fun d2 s2 γ2 H2 v2 _ x2 st2 r2 p2 => cmp_post st2 (r.ext x2) r2 p2⟩
theorem marks_of {op op' : CmpOp} {m e : Expr} (h : notSet e = true) : lastMarks [op, op'] [m, e] = false := by
  show behindInMarks op' e = false
  exact mark_of h
theorem pe_chainZ {l m r : Expr} {op op' : CmpOp} {lv : Nat} {fa fb fc : Sl → S → R D} (hw : CtxW W X) (hr : Room lv X.A) (hn : notSet r = true) (ha : PE X l (tE W wx fa)) (hb : PE X m (tE W wx fb)) (hc : PE X r (tE W wx fc)) :
    PE X (.Compare l [op, op'] [m, r] pos) (tE W wx fun σ s => (fa σ s).bind fun x s => (fb σ s).bind fun y s =>
      (R.of ((view s x).bind fun x => (view s y).bind fun y => cmpT op x y) s).bind fun k s => match k with
        | true => (fc σ s).bind fun z s => R.of (lift2 s (fun x y => (cmpT op' x y).map T.bl) y z) s
        | false => .ok (.t (.bl false)) s) := by
  refine ⟨fun pins s0 σ H Q I h => (pe_chain (op_cmp hw.K (units_of hr) op) (op_cmp hw.K (units_of hr) op') ha hb hc (marks_of hn)).run pins s0 σ H Q I ?_⟩
  refine tE_step h fun σd d s1 γ1 H1 v en st r p => ⟨γ1, σd, s1, en, st, post_bind p fun d2 s2 γ2 H2 v2 _ x2 st2 r2 p2 => ?_⟩
  cases e : (view s2 d).bind fun x => (view s2 d2).bind fun y => cmpT op x y with
  | none => rw [e] at p2; exact p2.elim
  | some k =>
    rw [e] at p2
    obtain ⟨ta, ea, e⟩ := Option.bind_eq_some_iff.mp e
    obtain ⟨tb, eb, e⟩ := Option.bind_eq_some_iff.mp e
    refine ⟨γ2, ta, tb, k, view_ok st2 (r.ext x2) ea, view_ok st2 r2 eb, e, k, rfl, ?_⟩
    cases k with
    | true =>
      rw [if_pos rfl]
      have p2 : post W (relT W) (at_ wx σ) γ2 H2 Q ((fc σd s2).bind fun z s => R.of (lift2 s (fun x y => (cmpT op' x y).map T.bl) d2 z) s) := p2
      exact ⟨γ2, σd, s2, en.ext x2, st2, post_bind p2 fun d3 s3 γ3 H3 v3 _ x3 st3 r3 p3 => cmp_post st3 (r2.ext x3) r3 p3⟩
    | false =>
      rw [if_neg Bool.false_ne_true]
      exact p2 γ2 H2 _ Ext.refl st2 rfl
/-! ### truth -/
/-- a value's truth -/
def trF (f : Sl → S → R D) (σ : Sl) (s : S) : R Bool := (f σ s).bind fun x s => R.of (truD s x) s
theorem tru_post (hw : CtxW W X) {w' : Value → Option Addr → Hp → Prop} {Q : Bool → Hp → Prop} {d : D} {v : V} (st : StOk W γ s H) (r : RepD W γ H d v) (h : post W relB w' γ H Q (R.of (truD s d) s)) : ∃ k, TruV X.K v H k ∧ Q k H := by
  obtain ⟨k, e, p⟩ := post_of h
  unfold truD at e
  obtain ⟨t, et, e⟩ := Option.bind_eq_some_iff.mp e
  exact ⟨k, tru_vw hw.K (view_ok st r et) e, p γ H k Ext.refl st rfl⟩
theorem tru_post2 (hw : CtxW W X) {δ ε : Type} {rel' : Ga → Hp → δ → ε → Prop} {w' : Value → Option Addr → Hp → Prop} {Q : ε → Hp → Prop} {d : D} {v : V} {k : Bool → S → R δ} (st : StOk W γ s H) (r : RepD W γ H d v) (h : post W rel' w' γ H Q ((R.of (truD s d) s).bind k)) :
    ∃ b, TruV X.K v H b ∧ post W rel' w' γ H Q (k b s) := by
  cases e : truD s d with
  | none => rw [e] at h; exact h.elim
  | some b =>
    rw [e] at h
    unfold truD at e
    obtain ⟨t, et, e⟩ := Option.bind_eq_some_iff.mp e
    exact ⟨b, tru_vw hw.K (view_ok st r et) e, h⟩
theorem pe_andZ {a b : Expr} {rest : List Expr} {fa fb : Sl → S → R D} (hw : CtxW W X) (ha : PE X a (tE W wx fa)) (hb : PE X (.BoolOp .And (b :: rest) pos) (tE W wx fb)) :
    PE X (.BoolOp .And (a :: b :: rest) pos) (tE W wx fun σ s => (fa σ s).bind fun x s => (R.of (truD s x) s).bind fun k s => if k then fb σ s else .ok x s) := by
  refine ⟨fun pins s0 σ H Q I h => (pe_andT ha hb).run pins s0 σ H Q I ?_⟩
  refine tE_step h fun σd d s1 γ1 H1 v en st r p => ?_
  obtain ⟨k, t, p⟩ := tru_post2 hw st r p
  refine ⟨k, t, ?_⟩
  cases k with
  | true => rw [if_pos rfl]; exact ⟨γ1, σd, s1, en, st, p⟩
  | false => rw [if_neg Bool.false_ne_true]; exact p γ1 H1 v Ext.refl st r
theorem pe_orZ {a b : Expr} {rest : List Expr} {fa fb : Sl → S → R D} (hw : CtxW W X) (ha : PE X a (tE W wx fa)) (hb : PE X (.BoolOp .Or (b :: rest) pos) (tE W wx fb)) :
    PE X (.BoolOp .Or (a :: b :: rest) pos) (tE W wx fun σ s => (fa σ s).bind fun x s => (R.of (truD s x) s).bind fun k s => if k then .ok x s else fb σ s) := by
  refine ⟨fun pins s0 σ H Q I h => (pe_orT ha hb).run pins s0 σ H Q I ?_⟩
  refine tE_step h fun σd d s1 γ1 H1 v en st r p => ?_
  obtain ⟨k, t, p⟩ := tru_post2 hw st r p
  refine ⟨k, t, ?_⟩
  cases k with
  | true => rw [if_pos rfl]; exact p γ1 H1 v Ext.refl st r
  | false => rw [if_neg Bool.false_ne_true]; exact ⟨γ1, σd, s1, en, st, p⟩
theorem pe_notZ {a : Expr} {fa : Sl → S → R D} (hw : CtxW W X) (ha : PE X a (tE W wx fa)) :
    PE X (.UnaryOp .Not a pos) (tE W wx fun σ s => (fa σ s).bind fun x s => (R.of (truD s x) s).bind fun k s => .ok (.t (.bl (!k))) s) := by
  refine ⟨fun pins s0 σ H Q I h => (pe_notT ha).run pins s0 σ H Q I ?_⟩
  refine tE_step h fun σd d s1 γ1 H1 v en st r p => ?_
  obtain ⟨k, t, p⟩ := tru_post2 hw st r p
  exact ⟨k, t, p γ1 H1 _ Ext.refl st rfl⟩
theorem tT_bind {σ : St} {δ ε : Type} {rel' : Ga → Hp → δ → ε → Prop} {Q : ε → Hp → Prop} {Q1 : Bool → Hp → Prop} {fa : Sl → S → R D} {k : Bool → S → R δ} {σd : Sl} (en : EnvOk W γ H σd σ) (st : StOk W γ s H)
    (h : post W rel' (at_ wx σ) γ H Q ((fa σd s).bind fun x s => (R.of (truD s x) s).bind fun b s => k b s)) (f : ∀ b s1 γ1 H1, EnvOk W γ1 H1 σd σ → StOk W γ1 s1 H1 → post W rel' (at_ wx σ) γ1 H1 Q (k b s1) → Q1 b H1) : tT W wx (trF fa) σ H Q1 := by
  refine ⟨γ, σd, s, en, st, ?_⟩
  have : ((fa σd s).bind fun x s => (R.of (truD s x) s).bind fun b s => k b s) = (trF fa σd s).bind k := by
    unfold trF
    cases fa σd s with
    | ok x s1 => rfl
    | ex _ _ _ => rfl
    | no => rfl
  rw [this] at h
  exact post_bind h fun b s1 γ1 H1 b' _ x st1 hb p => by
    cases hb
    exact f b s1 γ1 H1 (en.ext x) st1 p
theorem pe_iteZ {c a b : Expr} {fc fa fb : Sl → S → R D} (hc : PT X c (tT W wx (trF fc))) (ha : PE X a (tE W wx fa)) (hb : PE X b (tE W wx fb)) :
    PE X (.IfExp c a b pos) (tE W wx fun σ s => (fc σ s).bind fun x s => (R.of (truD s x) s).bind fun k s => if k then fa σ s else fb σ s) := by
  refine ⟨fun pins s0 σ H Q I h => (pe_ifExp hc ha hb).run pins s0 σ H Q I ?_⟩
  obtain ⟨γ, σd, s, en, st, h⟩ := h
  refine tT_bind en st h fun k s1 γ1 H1 en1 st1 p => ?_
  cases k with
  | true => rw [if_pos rfl]; exact ⟨γ1, σd, s1, en1, st1, p⟩
  | false => rw [if_neg Bool.false_ne_true]; exact ⟨γ1, σd, s1, en1, st1, p⟩
/-! tests -/
theorem pt_of {e : Expr} {f : Sl → S → R D} (hw : CtxW W X) (h : PE X e (tE W wx f)) (he : ∀ whole, isTrue e X.env whole = (do let v ← whole; standAt e.pos; holding [v] (truthy v))) : PT X e (tT W wx (trF f)) := by
  refine ⟨fun pins s0 σ H Q I hh => (pt_truth h he).run pins s0 σ H Q I ?_⟩
  obtain ⟨γ, σd, s, en, st, hh⟩ := hh
  exact ⟨γ, σd, s, en, st, post_bind hh fun d s1 γ1 H1 v _ x st1 r p => tru_post hw st1 r p⟩
theorem bl_post {w' : Value → Option Addr → Hp → Prop} {Q : Bool → Hp → Prop} {o : Option D} (k : Bool) (ho : o = some (.t (.bl k))) (st : StOk W γ s H) (h : post W relB w' γ H Q ((R.of o s).bind fun x s => R.of (truD s x) s)) : Q k H := by
  rw [ho] at h
  exact h γ H k Ext.refl st rfl
theorem cmp_postT {w' : Value → Option Addr → Hp → Prop} {Q : Bool → Hp → Prop} {f : T → T → Option Bool} {a b : D} {x y : V} (st : StOk W γ s H) (ra : RepD W γ H a x) (rb : RepD W γ H b y) (h : post W relB w' γ H Q ((R.of (lift2 s (fun x y => (f x y).map T.bl) a b) s).bind fun x s => R.of (truD s x) s)) :
    rCmp W f x y H fun z H' => ∃ k, z = .bl k ∧ Q k H' := by
  cases e : lift2 s (fun x y => (f x y).map T.bl) a b with
  | none => rw [e] at h; exact h.elim
  | some z =>
    rw [e] at h
    obtain ⟨ta, tb, t, ea, eb, e2, rfl⟩ := lift2_some e
    obtain ⟨k, e3, rfl⟩ := map_some' e2
    exact ⟨γ, ta, tb, k, view_ok st ra ea, view_ok st rb eb, e3, k, rfl, h γ H k Ext.refl st rfl⟩
theorem bind_assoc' {α β δ : Type} (r : R α) (f : α → S → R β) (k : β → S → R δ) : (r.bind f).bind k = r.bind fun a s => (f a s).bind k := by
  cases r <;> rfl
theorem pt_cmpZ {l r : Expr} {op : CmpOp} {lv : Nat} {fa fb : Sl → S → R D} (hw : CtxW W X) (hr : Room lv X.A) (hn : notSet r = true) (ha : PE X l (tE W wx fa)) (hb : PE X r (tE W wx fb)) :
    PT X (.Compare l [op] [r] pos) (tT W wx (trF fun σ s => (fa σ s).bind fun x s => (fb σ s).bind fun y s => R.of (lift2 s (fun x y => (cmpT op x y).map T.bl) x y) s)) := by
  refine ⟨fun pins s0 σ H Q I h => (pt_cmpR (op_cmp hw.K (units_of hr) op) ha hb (mark_of hn)).run pins s0 σ H Q I ?_⟩
  obtain ⟨γ, σd, s, en, st, h⟩ := h
  unfold trF at h
  simp only [bind_assoc'] at h
  exact ⟨γ, σd, s, en, st, post_bind h fun d s1 γ1 H1 v _ x1 st1 r1 p1 => ⟨γ1, σd, s1, en.ext x1, st1, post_bind p1 fun d2 s2 γ2 H2 v2 _ x2 st2 r2 p2 => cmp_postT st2 (r1.ext x2) r2 p2⟩⟩
theorem pt_chainZ {l m r : Expr} {op op' : CmpOp} {lv : Nat} {fa fb fc : Sl → S → R D} (hw : CtxW W X) (hr : Room lv X.A) (hn : notSet r = true) (ha : PE X l (tE W wx fa)) (hb : PE X m (tE W wx fb)) (hc : PE X r (tE W wx fc)) :
    PT X (.Compare l [op, op'] [m, r] pos) (tT W wx (trF fun σ s => (fa σ s).bind fun x s => (fb σ s).bind fun y s =>
      (R.of ((view s x).bind fun x => (view s y).bind fun y => cmpT op x y) s).bind fun k s => match k with
        | true => (fc σ s).bind fun z s => R.of (lift2 s (fun x y => (cmpT op' x y).map T.bl) y z) s
        | false => .ok (.t (.bl false)) s)) := by
  refine ⟨fun pins s0 σ H Q I h => (pt_chain (op_cmp hw.K (units_of hr) op) (op_cmp hw.K (units_of hr) op') ha hb hc (marks_of hn)).run pins s0 σ H Q I ?_⟩
  obtain ⟨γ, σd, s, en, st, h⟩ := h
  unfold trF at h
  simp only [bind_assoc'] at h
  refine ⟨γ, σd, s, en, st, post_bind h fun d s1 γ1 H1 v _ x1 st1 r1 p1 => ⟨γ1, σd, s1, en.ext x1, st1, post_bind p1 fun d2 s2 γ2 H2 v2 _ x2 st2 r2 p2 => ?_⟩⟩
  cases e : (view s2 d).bind fun x => (view s2 d2).bind fun y => cmpT op x y with
  | none => rw [e] at p2; exact p2.elim
  | some k =>
    rw [e] at p2
    obtain ⟨ta, ea, e⟩ := Option.bind_eq_some_iff.mp e
    obtain ⟨tb, eb, e⟩ := Option.bind_eq_some_iff.mp e
    refine ⟨γ2, ta, tb, k, view_ok st2 (r1.ext x2) ea, view_ok st2 r2 eb, e, k, rfl, ?_⟩
    cases k with
    | true =>
      rw [if_pos rfl]
      have p2 : post W relB (at_ wx σ) γ2 H2 Q (((fc σd s2).bind fun z s => R.of (lift2 s (fun x y => (cmpT op' x y).map T.bl) d2 z) s).bind fun x s => R.of (truD s x) s) := p2
      rw [bind_assoc'] at p2
      exact ⟨γ2, σd, s2, (en.ext x1).ext x2, st2, post_bind p2 fun d3 s3 γ3 H3 v3 _ x3 st3 r3 p3 => cmp_postT st3 (r2.ext x3) r3 p3⟩
    | false =>
      rw [if_neg Bool.false_ne_true]
      exact ⟨false, rfl, p2 γ2 H2 _ Ext.refl st2 rfl⟩
theorem pt_notZ {a : Expr} {fa : Sl → S → R D} (ha : PT X a (tT W wx (trF fa))) :
    PT X (.UnaryOp .Not a pos) (tT W wx (trF fun σ s => (fa σ s).bind fun x s => (R.of (truD s x) s).bind fun k s => .ok (.t (.bl (!k))) s)) := by
  refine ⟨fun pins s0 σ H Q I h => (pt_not ha).run pins s0 σ H Q I ?_⟩
  obtain ⟨γ, σd, s, en, st, h⟩ := h
  unfold trF at h
  simp only [bind_assoc'] at h
  exact tT_bind en st h fun k s1 γ1 H1 en1 st1 p => p γ1 H1 _ Ext.refl st1 rfl
/-- a part's truth rules what follows -/
theorem tT_two {σ : St} {Q : Bool → Hp → Prop} {Q1 : Bool → Hp → Prop} {fa fb : Sl → S → R D} {σd : Sl} {b : Bool} (en : EnvOk W γ H σd σ) (st : StOk W γ s H)
    (h : post W relB (at_ wx σ) γ H Q (((fa σd s).bind fun x s => (R.of (truD s x) s).bind fun k s => if k = b then fb σd s else .ok x s).bind fun x s => R.of (truD s x) s))
    (f1 : ∀ s1 γ1 H1, EnvOk W γ1 H1 σd σ → StOk W γ1 s1 H1 → post W relB (at_ wx σ) γ1 H1 Q (trF fb σd s1) → Q1 b H1) (f2 : ∀ H1, Q (!b) H1 → Q1 (!b) H1) : tT W wx (trF fa) σ H Q1 := by
  refine ⟨γ, σd, s, en, st, ?_⟩
  unfold trF
  cases e : fa σd s with
  | no => rw [e] at h; exact h.elim
  | ex c fs s1 => rw [e] at h; exact h
  | ok x s1 =>
    rw [e] at h
    cases t : truD s1 x with
    | none =>
      have h : post W relB (at_ wx σ) γ H Q (((R.of (truD s1 x) s1).bind fun k s => if k = b then fb σd s else .ok x s).bind fun x s => R.of (truD s x) s) := h
      rw [t] at h
      exact h.elim
    | some k =>
      have h : post W relB (at_ wx σ) γ H Q (((R.of (truD s1 x) s1).bind fun k s => if k = b then fb σd s else .ok x s).bind fun x s => R.of (truD s x) s) := h
      rw [t] at h
      have h : post W relB (at_ wx σ) γ H Q ((if k = b then fb σd s1 else .ok x s1).bind fun x s => R.of (truD s x) s) := h
      show post W relB (at_ wx σ) γ H Q1 (R.of (truD s1 x) s1)
      rw [t]
      intro γ1 H1 k' x1 st1 hk
      subst hk
      by_cases hb : k = b
      · subst hb
        rw [if_pos rfl] at h
        exact f1 s1 γ1 H1 (en.ext x1) st1 (post_mono x1 h)
      · rw [if_neg hb] at h
        have h : post W relB (at_ wx σ) γ H Q (R.of (truD s1 x) s1) := h
        rw [t] at h
        have ek : k = !b := by cases k <;> cases b <;> first | rfl | exact absurd rfl hb
        subst ek
        exact f2 H1 (h γ1 H1 _ x1 st1 rfl)
theorem pw_andZ {a b : Expr} {rest : List Expr} {fa fb : Sl → S → R D} (ha : PT X a (tT W wx (trF fa))) (hb : PW X (.BoolOp .And (b :: rest) pos) (tT W wx (trF fb))) :
    PW X (.BoolOp .And (a :: b :: rest) pos) (tT W wx (trF fun σ s => (fa σ s).bind fun x s => (R.of (truD s x) s).bind fun k s => if k then fb σ s else .ok x s)) := by
  refine ⟨fun whole pins s0 σ H Q I h => (pw_and ha hb).run whole pins s0 σ H Q I ?_⟩
  obtain ⟨γ, σd, s, en, st, h⟩ := h
  refine tT_two (b := true) en st h (fun s1 γ1 H1 en1 st1 p => ?_) fun H1 q => ?_
  · rw [if_pos rfl]
    exact ⟨γ1, σd, s1, en1, st1, p⟩
  · show (if (!true) = true then _ else Q false H1)
    rw [if_neg (by decide)]
    exact q
theorem pw_orZ {a b : Expr} {rest : List Expr} {fa fb : Sl → S → R D} (ha : PT X a (tT W wx (trF fa))) (hb : PW X (.BoolOp .Or (b :: rest) pos) (tT W wx (trF fb))) :
    PW X (.BoolOp .Or (a :: b :: rest) pos) (tT W wx (trF fun σ s => (fa σ s).bind fun x s => (R.of (truD s x) s).bind fun k s => if k then .ok x s else fb σ s)) := by
  refine ⟨fun whole pins s0 σ H Q I h => (pw_or ha hb).run whole pins s0 σ H Q I ?_⟩
  obtain ⟨γ, σd, s, en, st, h⟩ := h
  have h : post W relB (at_ wx σ) γ H Q (((fa σd s).bind fun x s => (R.of (truD s x) s).bind fun k s => if k = false then fb σd s else .ok x s).bind fun x s => R.of (truD s x) s) := by
    have e : (fun (k : Bool) (s1 : S) (x : D) => if k = true then R.ok x s1 else fb σd s1) = fun k s1 x => if k = false then fb σd s1 else R.ok x s1 := by
      funext k s1 x
      cases k <;> rfl
    have e2 : ∀ (x : D), (fun (k : Bool) (s1 : S) => if k = true then R.ok x s1 else fb σd s1) = fun k s1 => if k = false then fb σd s1 else R.ok x s1 := fun x => by
      funext k s1
      cases k <;> rfl
    simp only [← e2]
    exact h
  refine tT_two (b := false) en st h (fun s1 γ1 H1 en1 st1 p => ?_) fun H1 q => ?_
  · rw [if_neg Bool.false_ne_true]
    exact ⟨γ1, σd, s1, en1, st1, p⟩
  · show (if (!false) = true then Q true H1 else _)
    rw [if_pos (by decide)]
    exact q
end
end Z
end
section
set_option Elab.async false
set_option linter.all false
set_option maxRecDepth 100000
set_option maxHeartbeats 1000000
set_option autoImplicit false
namespace Z
open PySem PySem.Spec L2

/-- what the module's names stand for -/
structure Fct (W : Wd) (tb : Tb) (g : G) (lv : Nat) : Prop where
  fn : ∀ f x, tb.fname f = some x → W.mg x = some (.ref (W.fa f)) ∧ DefOk W g lv f
  bnd : ∀ f n, tb.bnd f n = true → BndOk W g f n
  cl : ∀ c x, tb.cname c = some x → W.mg x = some (.ref (W.ca c))
  made : ∀ c, tb.made c = true → MkOk W g lv c
  ini : ∀ c, g.ini c = tb.ini c
  att : ∀ c f, g.att c f = true → Cls W.K (W.ca c) ∧ NoAttr W.K (W.ca c) f
  mth : ∀ c m f, g.mth c m = some f → (c, m, f) ∈ tb.mths ∧ MthOk W c f m ∧ DefOk W g lv f
  free : ∀ x ∈ tb.frees, W.mg x = none
  const : ∀ (i : Nat) (x : Str) (t : T), tb.consts[i]? = some (x, t) → g.consts[i]? = some t ∧ ∃ u v, W.mg x = some u ∧ RelV v u ∧ ∀ γ H, Rep W γ H t v
  gcd : tb.gcd = true → W.mg "gcd" = some (.builtin "math.gcd")
/-- a context and what is known of it -/
structure CtxOk (W : Wd) (X : Cx) (q : Kn) (lv : Nat) : Prop extends CtxW W X where
  N : X.N = q.N
  sc : X.env.scope = q.sc
  nd : X.N.Nodup
  calm : X.calm = true
  room : Room (lv + 1) X.A
  wr : ∀ x, q.wr x = true → Loc X.env.scope x ∧ (X.fn x = true ∨ X.env.scope.names.lookup x = some .local)
section
variable {W : Wd} {X : Cx} {q : Kn} {lv : Nat} {tb : Tb} {g : G} {wx : WX} {pos : Pos}
theorem nm_d {x : Str} (h : nm x = true) : (x == ("__debug__" : Str)) = false ∧ (x == ("__classdict__" : Str)) = false := by
  unfold nm at h
  rw [Bool.and_eq_true] at h
  obtain ⟨h1, h2⟩ := h
  constructor
  · cases e : x == ("__debug__" : Str) with
    | false => rfl
    | true => rw [e] at h1; cases h1
  · cases e : x == ("__classdict__" : Str) with
    | false => rfl
    | true => rw [e] at h2; cases h2
theorem CtxOk.gl (c : CtxOk W X q lv) {x : Str} (h : glB q.sc x = true) : Gl X x ∧ (x == ("__debug__" : Str)) = false := by
  unfold glB at h
  rw [Bool.and_eq_true] at h
  refine ⟨?_, (nm_d h.2).1⟩
  show X.env.scope.names.lookup x = some .globalImplicit
  rw [c.sc]
  exact of_decide_eq_true h.1
theorem CtxOk.vis (c : CtxOk W X q lv) {x : Str} (h : visB q.sc x = true) : Vis X.env.scope x := by
  unfold visB at h
  unfold Vis
  rw [c.sc]
  split at h
  · exact .inl (by assumption)
  · exact .inr (.inl (by assumption))
  · exact .inr (.inr (by assumption))
  · cases h
theorem pe_varZ (c : CtxOk W X q lv) {i : Nat} {x : Str} (h1 : q.N[i]? = some x) (h2 : visB q.sc x = true) (h3 : nm x = true) : PE X (.Name x pos) (tE W wx fun σ s => match σ[i]? with
    | some (some d) => .ok d s
    | _ => .no) := by
  have hN : X.N[i]? = some x := by rw [c.N]; exact h1
  refine ⟨fun pins s0 σ H Q I h => (pe_var hN (c.vis h2) (nm_d h3).1 (nm_d h3).2).run pins s0 σ H Q I ?_⟩
  obtain ⟨γ, σd, s, en, st, h⟩ := h
  dsimp only at h
  split at h
  · rename_i d e
    obtain ⟨v, e1, r1⟩ := en.2 i d e
    exact ⟨v, e1, h γ H v Ext.refl st r1⟩
  · exact h.elim
/-- a value that is known whatever stands -/
theorem pe_known {e : Expr} {t : T} {v : V} (h : PE X e (tC v)) (r : ∀ γ H, Rep W γ H t v) : PE X e (tE W wx fun _ s => .ok (.t t) s) := by
  refine ⟨fun pins s0 σ H Q I hh => h.run pins s0 σ H Q I ?_⟩
  obtain ⟨γ, σd, s, en, st, hh⟩ := hh
  exact hh γ H v Ext.refl st (r γ H)
theorem pe_conZ {t : T} {c : Const} {j : Nat} (h : conB t c = true) : PE X (.Constant c j pos) (tE W wx fun _ s => .ok (.t t) s) := by
  cases t with
  | non => cases c with
    | none => exact pe_known pe_non fun _ _ => rfl
    | _ => cases h
  | bl b => cases c with
    | bool d =>
      have e : b = d := of_decide_eq_true h
      subst e
      exact pe_known pe_bl fun _ _ => rfl
    | _ => cases h
  | int b => cases c with
    | int d =>
      have e : b = d := of_decide_eq_true h
      subst e
      exact pe_known pe_int fun _ _ => rfl
    | _ => cases h
  | str b => cases c with
    | str d =>
      have e : b = d := of_decide_eq_true h
      subst e
      exact pe_known pe_str fun _ _ => rfl
    | _ => cases h
  | _ => cases h
theorem pe_globZ (F : Fct W tb g lv) (c : CtxOk W X q lv) {i : Nat} {x : Str} (h1 : (tb.consts[i]?).map Prod.fst = some x) (h2 : glB q.sc x = true) : PE X (.Name x pos) (tE W wx fun _ s => R.of (g.consts[i]?.map D.t) s) := by
  obtain ⟨⟨y, t⟩, e, ey⟩ := map_some' h1
  have ey : y = x := ey
  subst ey
  obtain ⟨hg, u, v, hm, r, rp⟩ := F.const i _ t e
  rw [hg]
  exact pe_known (pe_glob (c.gl h2).1 (by rw [c.mg]; exact hm) r (c.gl h2).2) rp
theorem ty_boot {n : String} {x : Str} (h : (n, x) ∈ tyNames) : bootBuiltins x = some (.type n) ∧ x ≠ "__name__" := by
  simp only [tyNames, List.mem_cons, Prod.mk.injEq, List.not_mem_nil, or_false] at h
  rcases h with ⟨rfl, rfl⟩ | ⟨rfl, rfl⟩ | ⟨rfl, rfl⟩ | ⟨rfl, rfl⟩ | ⟨rfl, rfl⟩ | ⟨rfl, rfl⟩ <;> exact ⟨by decide +kernel, by decide +kernel⟩
theorem pe_tyZ (F : Fct W tb g lv) (c : CtxOk W X q lv) {n : String} {x : Str} (h1 : (n, x) ∈ tyNames) (h2 : x ∈ tb.frees) (h3 : glB q.sc x = true) : PE X (.Name x pos) (tE W wx fun _ s => .ok (.t (.ty n)) s) := by
  obtain ⟨b1, b2⟩ := ty_boot h1
  exact pe_known (t := .ty n) (pe_bltn (v := .ty n) (c.gl h3).1 (by rw [c.mg]; exact F.free x h2) b1 rfl b2 (c.gl h3).2) fun _ _ => rfl
theorem pe_clsZ (F : Fct W tb g lv) (c : CtxOk W X q lv) {n : Nat} {x : Str} (h1 : tb.cname n = some x) (h2 : glB q.sc x = true) : PE X (.Name x pos) (tE W wx fun _ s => .ok (.t (.cls n)) s) :=
  pe_known (t := .cls n) (pe_glob (v := .ref (W.ca n)) (c.gl h2).1 (by rw [c.mg]; exact F.cl n x h1) rfl (c.gl h2).2) fun _ _ => rfl
/-! ### displays, items, slices -/
theorem pe_lstZ {es : List Expr} {cell : Bool} {fs : Sl → S → R (List D)} (ha : PA X es (tA W wx fs)) : PE X (.List es pos) (tE W wx fun σ s => (fs σ s).bind fun ds s => lstD cell s ds) := by
  refine ⟨fun pins s0 σ H Q I h => (pe_lst ha).run pins s0 σ H Q I ?_⟩
  obtain ⟨γ, σd, s, en, st, h⟩ := h
  exact ⟨γ, σd, s, en, st, post_bind h fun ds s1 γ1 H1 vs _ x1 st1 r1 p1 => lst_new st1 r1 p1⟩
theorem pe_tupZ {es : List Expr} {k : Nat} {fs : Sl → S → R (List D)} (ha : PA X es (tA W wx fs)) : PE X (.Tuple es k pos) (tE W wx fun σ s => (fs σ s).bind fun ds s => tupD s ds) := by
  refine ⟨fun pins s0 σ H Q I h => (pe_tup ha).run pins s0 σ H Q I ?_⟩
  obtain ⟨γ, σd, s, en, st, h⟩ := h
  exact ⟨γ, σd, s, en, st, post_bind h fun ds s1 γ1 H1 vs _ x1 st1 r1 p1 => tup_new st1 r1 p1⟩
theorem plain_ix {e : Expr} (h : notSlice e = true) : PlainIx e := fun o i => by
  unfold subscripted
  split
  · cases h
  · rename_i h1
    exact absurd h1 (by decide)
  · rfl
theorem pe_subZ {a i : Expr} {fa fi : Sl → S → R D} (hw : CtxW W X) (hn : notSlice i = true) (ha : PE X a (tE W wx fa)) (hi : PE X i (tE W wx fi)) : PE X (.Subscript a i pos) (tE W wx fun σ s => (fa σ s).bind fun x s => (fi σ s).bind fun y s => R.of (subD s x y) s) := by
  refine ⟨fun pins s0 σ H Q I h => (pe_ix (ix_sub hw.K) ha hi (plain_ix hn)).run pins s0 σ H Q I ?_⟩
  refine tE_step h fun σd d s1 γ1 H1 v en st r p => ⟨γ1, σd, s1, en, st, post_bind p fun d2 s2 γ2 H2 v2 _ x2 st2 r2 p2 => ?_⟩
  obtain ⟨z, e, p3⟩ := post_of p2
  exact ⟨γ2, s2, d, d2, z, st2, r.ext x2, r2, e, p3⟩
theorem po_yes {e : Expr} {f : Sl → S → R D} (h : PE X e (tE W wx f)) : PO X (some e) (tO W wx fun σ s => (f σ s).bind fun x s => match x with
    | .t (.int i) => .ok (some i) s
    | _ => .no) := by
  refine ⟨fun pins s0 σ H Q I hh => (po_some h).run pins s0 σ H Q I ?_⟩
  obtain ⟨γ, σd, s, en, st, hh⟩ := hh
  refine ⟨γ, σd, s, en, st, post_bind hh fun d s1 γ1 H1 v _ x1 st1 r1 p1 => ?_⟩
  split at p1
  · cases r1
    exact ⟨_, rfl, p1 γ1 H1 _ Ext.refl st1 rfl⟩
  · exact p1.elim
theorem po_no : PO X none (tO W wx fun _ s => .ok none s) := by
  refine ⟨fun pins s0 σ H Q I h => po_none.run pins s0 σ H Q I ?_⟩
  obtain ⟨γ, σd, s, en, st, h⟩ := h
  exact h γ H none Ext.refl st rfl
theorem pe_slcZ {a : Expr} {l h : Option Expr} {p2 : Pos} {fa : Sl → S → R D} {fl fh : Sl → S → R (Option Int)} (hw : CtxW W X) (ha : PE X a (tE W wx fa)) (hl : PO X l (tO W wx fl)) (hh : PO X h (tO W wx fh)) :
    PE X (.Subscript a (.Slice l h none p2) pos) (tE W wx fun σ s => (fa σ s).bind fun x s => (fl σ s).bind fun l s => (fh σ s).bind fun h s => R.of ((view s x).bind fun x => (slcT x l h).map D.t) s) := by
  refine ⟨fun pins s0 σ H Q I hx => (pe_slice (sl_slc hw.K) ha hl hh).run pins s0 σ H Q I ?_⟩
  refine tE_step hx fun σd d s1 γ1 H1 v en st r p => ⟨γ1, σd, s1, en, st, post_bind p fun d2 s2 γ2 H2 v2 _ x2 st2 r2 p2 => ⟨γ2, σd, s2, en.ext x2, st2, post_bind p2 fun d3 s3 γ3 H3 v3 _ x3 st3 r3 p3 => ?_⟩⟩
  cases r2
  cases r3
  obtain ⟨z, e, p4⟩ := post_of p3
  obtain ⟨t, e1, e2⟩ := Option.bind_eq_some_iff.mp e
  obtain ⟨z', e3, e4⟩ := map_some' e2
  subst e4
  exact ⟨γ3, s3, t, z', st3, view_ok st3 ((r.ext x2).ext x3) e1, e3, p4⟩
/-! ### built-ins, methods of lists, attributes -/
theorem bi_post {w' : Value → Option Addr → Hp → Prop} {Q : VK} {b : Bi} {γ : Ga} {H : Hp} {s : S} {ds : List D} {vs : List V} (st : StOk W γ s H) (r : RepDs W γ H ds vs) (h : post W (relT W) w' γ H Q (R.of ((ds.mapM (view s)).bind fun xs => (biT b xs).map D.t) s)) : rBi W b vs H Q := by
  obtain ⟨z, e, p⟩ := post_of h
  obtain ⟨ts, e1, e2⟩ := Option.bind_eq_some_iff.mp e
  obtain ⟨z', e3, e4⟩ := map_some' e2
  subst e4
  exact ⟨γ, s, ts, z', st, views_ok st e1 r, e3, p⟩
theorem pe_biZ (F : Fct W tb g lv) (c : CtxOk W X q lv) {b : Bi} {x : Str} {p : Pos} {y : Expr} {xs : List Expr} {fs : Sl → S → R (List D)} (hx : x = biName b) (hf : biFree tb b x = true) (hg : glB q.sc x = true) (hp : (y :: xs).all plainE = true)
    (ha : PA X (y :: xs) (tA W wx fs)) : PE X (.Call (.Name x p) (y :: xs) [] pos) (tE W wx fun σ s => (fs σ s).bind fun ds s => R.of ((ds.mapM (view s)).bind fun xs => (biT b xs).map D.t) s) := by
  rw [List.all_cons, Bool.and_eq_true] at hp
  have he : starEach (y :: xs) X.env = (false, eval y X.env) :: starEach xs X.env := star_cons hp.1
  have hpl : (backTo pos (starEach xs X.env)).any (·.1) = false := star_any hp.2
  obtain ⟨g1, g2⟩ := c.gl hg
  subst hx
  have go : ∀ {r : List V → Hp → VK → Prop}, r = rBi W b → PE X (.Call (.Name (biName b) p) (y :: xs) [] pos) (tCB r (tA W wx fs)) → PE X (.Call (.Name (biName b) p) (y :: xs) [] pos) (tE W wx fun σ s => (fs σ s).bind fun ds s => R.of ((ds.mapM (view s)).bind fun xs => (biT b xs).map D.t) s) := fun hr hpe => by
    subst hr
    refine ⟨fun pins s0 σ H Q I h => hpe.run pins s0 σ H Q I ?_⟩
    obtain ⟨γ, σd, s, en, st, h⟩ := h
    exact ⟨γ, σd, s, en, st, post_bind h fun ds s1 γ1 H1 vs _ x1 st1 r1 p1 => bi_post st1 r1 p1⟩
  have fr : b ≠ .gcd → X.mg (biName b) = none := fun hb => by
    rw [c.mg]
    refine F.free _ ?_
    cases b <;> first | exact of_decide_eq_true hf | exact absurd rfl hb
  refine go rfl ?_
  cases b with
  | len => exact pe_callB (cr_bi c.K .len) g1 (fr (fun h => nomatch h)) (by decide +kernel) ha (by decide +kernel) g2 he hpl
  | int => exact pe_callTy (cr_bi c.K .int) g1 (fr (fun h => nomatch h)) (by decide +kernel) ha (by decide +kernel) g2 he hpl
  | abs => exact pe_callB (cr_bi c.K .abs) g1 (fr (fun h => nomatch h)) (by decide +kernel) ha (by decide +kernel) g2 he hpl
  | list => exact pe_callTy (cr_bi c.K .list) g1 (fr (fun h => nomatch h)) (by decide +kernel) ha (by decide +kernel) g2 he hpl
  | tuple => exact pe_callTy (cr_bi c.K .tuple) g1 (fr (fun h => nomatch h)) (by decide +kernel) ha (by decide +kernel) g2 he hpl
  | gcd => exact pe_callBfun (cr_bi c.K .gcd) g1 (by rw [c.mg]; exact F.gcd hf) ha g2 he hpl
  | isi => exact pe_callB (cr_bi c.K .isi) g1 (fr (fun h => nomatch h)) (by decide +kernel) ha (by decide +kernel) g2 he hpl
theorem isL_get {s : S} {d : D} (h : isL s d = true) : ∃ n ds, d = .c n ∧ s[n]? = some (.l ds) := by
  unfold isL at h
  split at h
  · rename_i n
    split at h
    · rename_i ds e
      exact ⟨n, ds, rfl, e⟩
    · cases h
  · cases h
theorem mt_post {w' : Value → Option Addr → Hp → Prop} {K : PySem.W.Frag} {d : D} {γ : Ga} {H : Hp} {s : S} {v : V} (hK : K = W.K) (st : StOk W γ s H) (r : RepD W γ H d v) (h : isL s d = true) : tyV K "list" v H := by
  obtain ⟨n, ds, rfl, e⟩ := isL_get h
  obtain ⟨a, vs, rfl, h1, h2, h3, h4⟩ := cell_at st r e
  exact .inl ⟨rfl, vs, SqL.of h2⟩
theorem pe_mtZ (c : CtxOk W X q lv) {o y : Expr} {m : Str} {id : String} {apos : Pos} {fo fe : Sl → S → R D} {f : S → D → D → R D} (slot : Slot "list" m id) (hty : typeOf (.builtin id) = pure (.type "method_descriptor"))
    (hm : ∀ w', MtR X id (rMt W w' f)) (ho : noSuper o = true) (hy : plainE y = true) (hl : (apos.endLine == pos.line) = true) (h1 : PE X o (tE W wx fo)) (h2 : PE X y (tE W wx fe)) :
    PE X (.Call (.Attribute o m apos) [y] [] pos) (tE W wx fun σ s => (fo σ s).bind fun x s => if isL s x then (fe σ s).bind fun y s => f s x y else .no) := by
  refine ⟨fun pins s0 σ H Q I h => (pe_bm PySem.F.plainAttrs_list slot hty (hm (at_ wx σ)) h1 (pa_cons h2 pa_nil (star_cons hy)) (base_of ho) ?_ hl (star_cons hy) rfl).run pins s0 σ H Q I ?_⟩
  · rw [star_cons hy]
    rfl
  · refine tE_step h fun σd d s1 γ1 H1 v en st r p => ?_
    by_cases hc : isL s1 d = true
    · rw [if_pos hc] at p
      refine ⟨mt_post (w' := at_ wx σ) c.K st r hc, ⟨γ1, σd, s1, en, st, post_bind p fun d2 s2 γ2 H2 v2 _ x2 st2 r2 p2 => ?_⟩⟩
      exact ⟨γ2, s2, d, d2, v2, rfl, r.ext x2, r2, st2, p2⟩
    · rw [if_neg hc] at p
      exact p.elim
theorem pe_fldZ (F : Fct W tb g lv) (c : CtxOk W X q lv) {o : Expr} {f : Str} {fo : Sl → S → R D} (ho : noSuper o = true) (h1 : PE X o (tE W wx fo)) : PE X (.Attribute o f pos) (tE W wx fun σ s => (fo σ s).bind fun x s => R.of (fldD g s f x) s) := by
  refine ⟨fun pins s0 σ H Q I h => (pe_fld h1 (base_of ho)).run pins s0 σ H Q I ?_⟩
  refine tE_step h fun σd d s1 γ1 H1 v en st r p => ?_
  obtain ⟨z, e, p2⟩ := post_of p
  have key : ∀ {cn : Nat} {fs : List (Str × T)} {a dx : Addr} {gs : List (Str × V)}, v = .ref a → H1 a = some (.ins (W.ca cn) dx gs) → RepFs W γ1 H1 fs gs → (if g.att cn f then (fs.lookup f).map D.t else none) = some z →
      ∃ a C dx fs v', v = .ref a ∧ H1 a = some (.ins C dx fs) ∧ Cls X.K C ∧ NoAttr X.K C f ∧ fs.lookup f = some v' ∧ Q v' H1 := fun {cn fs a dx gs} ev h2 h3 e => by
    by_cases ha : g.att cn f = true
    · rw [if_pos ha] at e
      obtain ⟨t, e1, rfl⟩ := map_some' e
      obtain ⟨u, e2, r2⟩ := (RepFs.lookup h3).1 t e1
      obtain ⟨a1, a2⟩ := F.att cn f ha
      exact ⟨a, _, dx, gs, u, ev, h2, by rw [c.K]; exact a1, by rw [c.K]; exact a2, e2, p2 γ1 H1 u Ext.refl st r2⟩
    · rw [if_neg ha] at e; cases e
  unfold fldD at e
  split at e
  · obtain ⟨a, dx, gs, ev, _, h2, h3⟩ := r
    exact key ev h2 h3 e
  · rename_i n
    split at e
    · rename_i cn fs q
      obtain ⟨a, ev, pl⟩ := r
      obtain ⟨b, dx, gs, h2, h3, h4⟩ := st.ok n _ q
      have := pl.eq h2
      subst this
      exact key ev h3 h4 e
    · cases e
  · cases e
theorem pe_frzZ {e : Expr} {f : Sl → S → R D} (h : PE X e (tE W wx f)) : PE X e (tE W wx fun σ s => (f σ s).bind fun x s => frzD s x) := by
  refine ⟨fun pins s0 σ H Q I hh => h.run pins s0 σ H Q I ?_⟩
  refine tE_step hh fun σd d s1 γ1 H1 v en st r p => ?_
  unfold frzD at p
  split at p
  · exact p γ1 H1 v Ext.refl st r
  · rename_i n
    split at p
    · rename_i ds q
      obtain ⟨a, vs, rfl, h1, h2, h3, h4⟩ := cell_at st r q
      cases et : trees ds with
      | none => rw [et] at p; exact p.elim
      | some xs =>
        rw [et] at p
        obtain ⟨st2, nl⟩ := st.die h1
        exact p _ H1 _ (ext_die h1) st2 ⟨a, vs, rfl, nl, h2, Reps.ext (ext_die h1) xs vs (trees_ok et h3)⟩
    · rename_i cn fs q
      obtain ⟨a, rfl, pl⟩ := r
      obtain ⟨b, dx, gs, h2, h3, h4⟩ := st.ok n _ q
      have := pl.eq h2
      subst this
      obtain ⟨st2, nl⟩ := st.die h2
      exact p _ H1 _ (ext_die h2) st2 ⟨b, dx, gs, rfl, nl, h3, RepFs.ext (ext_die h2) fs gs h4⟩
    · exact p.elim
theorem pe_dk0Z : PE X (.Dict [] [] pos) (tE W wx fun _ s => .ok (.t (.dk [])) s) := by
  refine ⟨fun pins s0 σ H Q I h => pe_dnewK.run pins s0 σ H Q I ?_⟩
  obtain ⟨γ, σd, s, en, st, h⟩ := h
  exact fun p hp => h γ _ _ (ext_new st hp) (st.new hp) ⟨p, [], rfl, st.fresh hp, .inl upd_same, rfl⟩
/-! ### what is walked -/
theorem postI_of {γ : Ga} {H : Hp} {R' : L2.It → Hp → Prop} {σ : St} {f : Sl → S → R D} {k : D → S → R (List D × Option Nat)} {Q : VK} {σd : Sl} {s : S} (h : postI W (at_ wx σ) γ H R' ((f σd s).bind k))
    (hf : ∀ d s1 γ1 H1 v, f σd s = .ok d s1 → Ext γ γ1 H H1 → StOk W γ1 s1 H1 → RepD W γ1 H1 d v → postI W (at_ wx σ) γ1 H1 R' (k d s1) → Q v H1) : post W (relT W) (at_ wx σ) γ H Q (f σd s) := by
  cases e : f σd s with
  | ok d s1 =>
    rw [e] at h
    refine fun γ1 H1 v x st r => hf d s1 γ1 H1 v e x st r ?_
    have h : postI W (at_ wx σ) γ H R' (k d s1) := h
    cases e2 : k d s1 with
    | ok p s2 => rw [e2] at h; exact fun γ2 H2 J x2 => h γ2 H2 J (x.trans x2)
    | ex c fs s2 => rw [e2] at h; exact fun γ2 H2 d x2 => h γ2 H2 d (x.trans x2)
    | no => rw [e2] at h; exact h
  | ex c fs s1 => rw [e] at h; exact h
  | no => rw [e] at h; exact h
theorem scr_reps {γ : Ga} {H : Hp} : ∀ ns : List Int, RepDs W γ H (ns.map fun n => D.t (.int n)) (ns.map V.int)
  | [] => rfl
  | n :: ns => ⟨_, _, rfl, rfl, scr_reps ns⟩
theorem pi_valZ {tg e : Expr} {f : Sl → S → R D} (hw : CtxW W X) (h : PE X e (tE W wx f)) : PI X tg e (tI W wx fun σ s => (f σ s).bind fun x s => R.of (walk s x) s) := by
  refine ⟨fun pins s0 σ H R' I hh => ?_⟩
  obtain ⟨γ, σd, s, en, st, hh⟩ := hh
  -- the value decides which rule is taken
  cases ef : f σd s with
  | no => dsimp only at hh; rw [ef] at hh; exact hh.elim
  | ex c fs s1 =>
    refine (pi_list h).run pins s0 σ H R' I ⟨γ, σd, s, en, st, ?_⟩
    dsimp only at hh
    rw [ef] at hh
    rw [ef]
    exact hh
  | ok d s1 =>
    have base : ∀ {Q : VK}, (∀ γ1 H1 v, Ext γ γ1 H H1 → StOk W γ1 s1 H1 → RepD W γ1 H1 d v → postI W (at_ wx σ) γ1 H1 R' (R.of (walk s1 d) s1) → Q v H1) → tE W wx f σ H Q := fun {Q} k =>
      ⟨γ, σd, s, en, st, postI_of hh fun d' s' γ1 H1 v q x1 st1 r1 p1 => by
        rw [ef] at q
        cases q
        exact k γ1 H1 v x1 st1 r1 p1⟩
    cases ew : walk s1 d with
    | none =>
      refine (pi_list h).run pins s0 σ H R' I (base fun γ1 H1 v x1 st1 r1 p1 => ?_)
      rw [ew] at p1
      exact p1.elim
    | some p =>
      rw [ew] at base
      unfold walk at ew
      split at ew
      · cases ew
        refine (pi_list h).run pins s0 σ H R' I (base fun γ1 H1 v x1 st1 r1 p1 => ?_)
        obtain ⟨a, vs, rfl, h1, h2, h3⟩ := r1
        refine ⟨a, rfl, ⟨vs, SqL.of h2⟩, p1 γ1 H1 _ Ext.refl st1 (wk_plain st1 ?_)⟩
        rw [hw.K]
        exact feeds_list (fun γ' H' x => ⟨SqL.of (x.keep _ _ h1 h2 rfl), (Reps.ext x _ _ h3).ds⟩) (by rw [List.length_map]; exact h3.length)
      · cases ew
        refine (pi_tup h).run pins s0 σ H R' I (base fun γ1 H1 v x1 st1 r1 p1 => ?_)
        obtain ⟨a, vs, rfl, h1, h3⟩ := r1
        refine ⟨a, rfl, ⟨vs, by rw [hw.K]; exact h1.sq⟩, p1 γ1 H1 _ Ext.refl st1 (wk_plain st1 ?_)⟩
        rw [hw.K]
        exact feeds_tup (fun γ' H' x => ⟨(x.tup h1).sq, (Reps.ext x _ _ h3).ds⟩) (by rw [List.length_map]; exact h3.length)
      · rename_i ns
        cases ew
        refine (pi_list h).run pins s0 σ H R' I (base fun γ1 H1 v x1 st1 r1 p1 => ?_)
        obtain ⟨a, rfl, h1⟩ := r1
        refine ⟨a, rfl, ⟨_, by rw [hw.K]; exact h1.sq⟩, p1 γ1 H1 _ Ext.refl st1 (wk_plain st1 ?_)⟩
        rw [hw.K]
        refine feeds_list (vs := ns.map V.int) (fun γ' H' x => ⟨(x.scr h1).sq, ?_⟩) (by rw [List.length_map, List.length_map])
        exact scr_reps ns
      · cases ew
        refine (pi_str h).run pins s0 σ H R' I (base fun γ1 H1 v x1 st1 r1 p1 => ?_)
        cases r1
        exact ⟨_, rfl, p1 γ1 H1 _ Ext.refl st1 (wk_plain st1 feeds_str)⟩
      · rename_i n
        split at ew
        · rename_i ds q
          cases ew
          refine (pi_list h).run pins s0 σ H R' I (base fun γ1 H1 v x1 st1 r1 p1 => ?_)
          obtain ⟨a, vs, rfl, h1, h2, h3, h4⟩ := cell_at st1 r1 q
          refine ⟨a, rfl, ⟨vs, SqL.of h2⟩, p1 γ1 H1 _ Ext.refl st1 ?_⟩
          rw [hw.K]
          exact wk_cell st1 q h1 h2 h3 h4
        · cases ew
      · cases ew
theorem small_of {i : Int} (h : smallI i = true) : -(2 ^ 62) ≤ i ∧ i < 2 ^ 62 := by
  unfold smallI at h
  rw [Bool.and_eq_true] at h
  have a := of_decide_eq_true h.1
  have b := of_decide_eq_true h.2
  omega
theorem pi_rng1Z (F : Fct W tb g lv) (c : CtxOk W X q lv) {tg a : Expr} {p : Pos} {f : Sl → S → R D} (hf : ("range" : Str) ∈ tb.frees) (hg : glB q.sc "range" = true) (hp : plainE a = true) (h : PE X a (tE W wx f)) :
    PI X tg (.Call (.Name "range" p) [a] [] pos) (tI W wx fun σ s => (f σ s).bind fun x s => match x with
      | .t (.int j) => if smallI j then .ok (upI 0 j.toNat, none) s else .no
      | _ => .no) := by
  have hm : X.mg "range" = none := by rw [c.mg]; exact F.free _ hf
  refine ⟨fun pins s0 σ H R' I hh => (pi_range1 (c.gl hg).1 hm (pa_cons h pa_nil (star_cons hp)) (star_cons hp)).run pins s0 σ H R' I ?_⟩
  obtain ⟨γ, σd, s, en, st, hh⟩ := hh
  refine ⟨γ, σd, s, en, st, postI_of hh fun d s1 γ1 H1 v qa x1 st1 r1 p1 => ?_⟩
  split at p1
  · rename_i j
    cases r1
    split at p1
    · rename_i hs
      obtain ⟨h1, h2⟩ := small_of hs
      exact ⟨j, rfl, h1, h2, p1 γ1 H1 _ Ext.refl st1 (wk_plain st1 feeds_rng)⟩
    · exact p1.elim
  · exact p1.elim
theorem pi_rng2Z (F : Fct W tb g lv) (c : CtxOk W X q lv) {tg a b : Expr} {p : Pos} {fa fb : Sl → S → R D} (hf : ("range" : Str) ∈ tb.frees) (hg : glB q.sc "range" = true) (hp : plainE a = true) (hp2 : plainE b = true) (ha : PE X a (tE W wx fa)) (hb : PE X b (tE W wx fb)) :
    PI X tg (.Call (.Name "range" p) [a, b] [] pos) (tI W wx fun σ s => (fa σ s).bind fun x s => (fb σ s).bind fun y s => match x, y with
      | .t (.int i), .t (.int j) => if smallI i && smallI j then .ok (upI i (j - i).toNat, none) s else .no
      | _, _ => .no) := by
  have hm : X.mg "range" = none := by rw [c.mg]; exact F.free _ hf
  have hs2 : starEach [b] X.env = [(false, eval b X.env)] := star_cons hp2
  have hs1 : starEach [a, b] X.env = [(false, eval a X.env), (false, eval b X.env)] := by rw [star_cons hp, hs2]
  refine ⟨fun pins s0 σ H R' I hh => (pi_range2 (c.gl hg).1 hm (pa_cons ha (pa_cons hb pa_nil (star_cons hp2)) (star_cons hp)) hs1 hs2).run pins s0 σ H R' I ?_⟩
  obtain ⟨γ, σd, s, en, st, hh⟩ := hh
  refine ⟨γ, σd, s, en, st, postI_of hh fun d s1 γ1 H1 v qa x1 st1 r1 p1 => ⟨γ1, σd, s1, en.ext x1, st1, postI_of p1 fun d2 s2 γ2 H2 v2 qb x2 st2 r2 p2 => ?_⟩⟩
  split at p2
  · rename_i i j
    cases r1
    cases r2
    split at p2
    · rename_i hs
      rw [Bool.and_eq_true] at hs
      obtain ⟨h1, h2⟩ := small_of hs.1
      obtain ⟨h3, h4⟩ := small_of hs.2
      exact ⟨i, j, rfl, ⟨h1, h2, h3, h4⟩, p2 γ2 H2 _ Ext.refl st2 (wk_plain st2 feeds_rng)⟩
    · exact p2.elim
  · exact p2.elim
theorem fold_no {e : Expr} {env : Env} {x : Value} (h : notSet e = true) : foldedSetIterable e env x = pure x := by
  cases e <;> first | rfl | cases h
/-- C(..) -/
theorem pe_makeZ {n : Nat} {x : Str} {p pos : Pos} {es : List Expr} {fs : Sl → S → R (List D)} (hw : CtxW W X) (M : MkOk W g lv n) (hr : Room (lv + 1) X.A) (tk : Takes X wx) (hg : Gl X x) (hm : W.mg x = some (.ref (W.ca n))) (hd : (x == ("__debug__" : Str)) = false)
    (hp : es.all plainE = true) (ha : PA X es (tA W wx fs)) (h0 : es = [] → ∀ σ s, fs σ s = .ok [] s) (B : ∀ σd s ds s', fs σd s = .ok ds s' → BndOk W g (g.ini n) (ds.length + 1)) :
    PE X (.Call (.Name x p) es [] pos) (tE W wx fun σ s => (fs σ s).bind fun ds s => makeD g n (ds ++ (g.dfl (g.ini n) (ds.length + 1)).map D.t) s) := by
  refine ⟨fun pins s0 σ H Q I h => ?_⟩
  obtain ⟨γ, σd, s, e, st, h⟩ := h
  refine wpAny_Call_Name_kw (ld_glob I hg (by rw [hw.mg]; exact hm) ?_ hd)
  have kp : PySem.W.keepIn X.K (.ref (W.ca n)) = true := by rw [hw.K]; exact M.mkr.kp
  cases es with
  | nil =>
    dsimp only at h
    rw [h0 rfl] at h
    exact PySem.W.callWith_K0 I.kIn kp (run_new (ds := []) (vs := []) hw M hr tk I .nil rfl (B σd s [] s (h0 rfl σd s)) st h)
  | cons e1 es =>
    rw [List.all_cons, Bool.and_eq_true] at hp
    refine PySem.W.callWith_K (h₀ := X.base) I.ok.mod.kin kp (thn (ha.run pos pins s0 σ H (fun vs H1 => ∃ γ1 s1 ds, RepDs W γ1 H1 ds vs ∧ StOk W γ1 s1 H1 ∧ BndOk W g (g.ini n) (ds.length + 1) ∧ post W (relT W) (at_ wx σ) γ1 H1 Q (makeD g n (ds ++ (g.dfl (g.ini n) (ds.length + 1)).map D.t) s1)) I
      ⟨γ, σd, s, e, st, post_bind h fun ds s1 γ1 H1 vs q x1 st1 r1 p1 => ⟨γ1, s1, ds, r1, st1, B _ _ _ _ q, p1⟩⟩) fun us s1 hh => ?_) (star_cons hp.1) (star_any hp.2)
    obtain ⟨vs, H1, I1, r, γ1, s2, ds, rd, st1, Bd, p1⟩ := hh
    exact ⟨I1.kIn, run_new hw M hr tk I1 r rd Bd st1 p1⟩
end
end Z
end
section
set_option Elab.async false
set_option linter.all false
set_option maxRecDepth 100000
set_option maxHeartbeats 4000000
set_option autoImplicit false
namespace Z
open PySem PySem.Spec L2

section
variable {W : Wd} {X : Cx} {q : Kn} {lv : Nat} {tb : Tb} {g : G} {wx : WX} {pos : Pos}
theorem pa_nilZ : PA X [] (tA W wx fun _ s => .ok [] s) := by
  refine ⟨fun pos pins s0 σ H Q I h => pa_nil.run pos pins s0 σ H Q I ?_⟩
  obtain ⟨γ, σd, s, en, st, h⟩ := h
  exact h γ H [] Ext.refl st rfl
theorem pa_consZ {e : Expr} {es : List Expr} {fe : Sl → S → R D} {fs : Sl → S → R (List D)} (hp : plainE e = true) (ha : PE X e (tE W wx fe)) (hr : PA X es (tA W wx fs)) :
    PA X (e :: es) (tA W wx fun σ s => (fe σ s).bind fun x s => (fs σ s).bind fun xs s => .ok (x :: xs) s) := by
  refine ⟨fun pos pins s0 σ H Q I h => (pa_cons ha hr (star_cons hp)).run pos pins s0 σ H Q I ?_⟩
  obtain ⟨γ, σd, s, en, st, h⟩ := h
  refine ⟨γ, σd, s, en, st, post_bind h fun d s1 γ1 H1 v _ x1 st1 r1 p1 => ⟨γ1, σd, s1, en.ext x1, st1, post_bind p1 fun ds s2 γ2 H2 vs _ x2 st2 r2 p2 => ?_⟩⟩
  exact p2 γ2 H2 _ Ext.refl st2 ⟨v, vs, rfl, r1.ext x2, r2⟩
theorem hole_E {e : Expr} : PE X e (tE W wx fun _ _ => .no) := ⟨fun pins s0 σ H Q I ⟨γ, σd, s, en, st, h⟩ => h.elim⟩
theorem hole_W {e : Expr} : PW X e (tT W wx (trF fun _ _ => .no)) := ⟨fun whole pins s0 σ H Q I ⟨γ, σd, s, en, st, h⟩ => h.elim⟩
/-! ### targets -/
theorem each_len {env : Env} : ∀ {es : List Expr}, es.all plainE = true → (assignEach es env).length = es.length ∧ (assignEach es env).findIdx? (·.1) = none
  | [], _ => ⟨rfl, rfl⟩
  | e :: es, h => by
    rw [List.all_cons, Bool.and_eq_true] at h
    obtain ⟨h1, h2⟩ := each_len (env := env) h.2
    have hc : assignEach (e :: es) env = (false, assign e env) :: assignEach es env := by
      cases e <;> first | rfl | (exact Bool.noConfusion h.1)
    rw [hc]
    refine ⟨by rw [List.length_cons, List.length_cons, h1], ?_⟩
    rw [List.findIdx?_cons]
    simp [h2]
theorem each_cons {env : Env} {e : Expr} {es : List Expr} (h : plainE e = true) : (assignEach (e :: es) env).map (·.2) = assign e env :: (assignEach es env).map (·.2) := by
  cases e <;> first | rfl | cases h
theorem and2 {a b : Bool} (h : (a && b) = true) : a = true ∧ b = true := Bool.and_eq_true_iff.mp h
mutual
theorem sG (c : CtxOk W X q lv) : ∀ (t : Tg) (e : Expr), chkG t q e = true → PG X e (gT W.K t)
  | .name i, e, h => by
    cases e with
    | Name x pos =>
      obtain ⟨h1, h2⟩ := and2 h
      obtain ⟨h3, h4⟩ := c.wr x h2
      exact pg_name c.nd (by rw [c.N]; exact of_decide_eq_true h1) h3 h4
    | _ => exact Bool.noConfusion h
  | .tup ts, e, h => by
    cases e with
    | Tuple es k pos =>
      obtain ⟨h1, h2⟩ := and2 h
      obtain ⟨l1, l2⟩ := each_len (env := X.env) h1
      obtain ⟨p, hl⟩ := sGs c ts es h2 h1
      rw [← c.K]
      exact pg_or (pg_tup c.calm (by rw [c.K]; exact p) (l1.trans hl) l2) (pg_lst c.calm (by rw [c.K]; exact p) (l1.trans hl) l2)
    | _ => exact Bool.noConfusion h
theorem sGs (c : CtxOk W X q lv) : ∀ (ts : Tgs) (es : List Expr), chkGs ts q es = true → es.all plainE = true → PGs X es (gTs W.K ts) ∧ es.length = lenTs ts
  | .nil, es, h, _ => by
    cases es with
    | nil => exact ⟨pgs_nil, rfl⟩
    | cons e es => exact Bool.noConfusion h
  | .cons t ts, es, h, hp => by
    cases es with
    | nil => exact Bool.noConfusion h
    | cons e es =>
      obtain ⟨h1, h2⟩ := and2 h
      rw [List.all_cons, Bool.and_eq_true] at hp
      obtain ⟨p, hl⟩ := sGs c ts es h2 hp.2
      exact ⟨pgs_cons (sG c t e h1) p (each_cons hp.1), congrArg Nat.succ hl⟩
end
/-! ### a comprehension's block -/
theorem CtxOk.blk (c : CtxOk W X q lv) (scope : Scope) (s : Shared) (H : Hp) (C : Addr) (cl : List (Str × Addr)) (fp : List Addr) : CtxOk W (X.blk s H scope (compEnvC scope cl C X.env) fp) (q.blk scope) lv where
  prog := c.prog
  w := c.w
  K := c.K
  mg := c.mg
  base := c.base
  N := c.N
  sc := by
    show relS scope X.env.scope = relS scope q.sc
    rw [c.sc]
  nd := c.nd
  calm := c.calm
  room := c.room
  wr := fun x h => by
    have h : (match scope.names.lookup x with
      | some .local => true
      | some .cell => true
      | _ => false) = true := h
    show Loc (relS scope X.env.scope) x ∧ ((scope.names.lookup x == some NameKind.cell) = true ∨ (relS scope X.env.scope).names.lookup x = some .local)
    split at h
    · rename_i e
      have k := lookup_relS_keep (sc := X.env.scope) (by decide) e
      exact ⟨.inl k, .inr k⟩
    · rename_i e
      have k := lookup_relS_keep (sc := X.env.scope) (by decide) e
      refine ⟨.inr k, .inl ?_⟩
      rw [e]
      rfl
    · cases h
theorem evs_len {g : G} : ∀ (es : Es) (σ : Sl) (s : S) (ds : List D) (s' : S), evs g es σ s = .ok ds s' → ds.length = lenEs es
  | .nil, σ, s, ds, s', h => by
    cases h
    rfl
  | .cons e es, σ, s, ds, s', h => by
    obtain ⟨x, s1, h1, h2⟩ := bind_ok (show (ev g e σ s).bind (fun x s => (evs g es σ s).bind fun xs s => .ok (x :: xs) s) = .ok ds s' from h)
    obtain ⟨xs, s2, h3, h4⟩ := bind_ok h2
    cases h4
    show xs.length + 1 = lenEs es + 1
    rw [evs_len es _ _ _ _ h3]
theorem chks_nil {es : Es} (h : chks tb es q [] = true) : es = .nil := by
  cases es with
  | nil => rfl
  | cons e es => exact Bool.noConfusion h
end
/-- what is said of a term -/
structure Snd (W : Wd) (tb : Tb) (g : G) (X : Cx) (wx : WX) (q : Kn) (t : E) (e : Expr) : Prop where
  val : chk tb t false q e = true → PE X e (tE W wx (ev g t))
  test : chk tb t true q e = true → PT X e (tT W wx (trF (ev g t)))
  word : chk tb t true q e = true → ∀ op vs pos, e = .BoolOp op vs pos → PW X e (tT W wx (trF (ev g t)))
section
variable {W : Wd} {lv : Nat} {tb : Tb} {g : G}
/-- a form whose test is its value's truth -/
theorem Snd.plain {X : Cx} {wx : WX} {q : Kn} {t : E} {e : Expr} (hw : CtxW W X) (hb : chk tb t true q e = chk tb t false q e) (h : chk tb t false q e = true → PE X e (tE W wx (ev g t)))
    (he : ∀ whole, isTrue e X.env whole = (do let v ← whole; standAt e.pos; holding [v] (truthy v))) (hn : ∀ op vs pos, e ≠ .BoolOp op vs pos) : Snd W tb g X wx q t e :=
  ⟨h, fun z => pt_of hw (h (hb ▸ z)) he, fun _ op vs pos k => absurd k (hn op vs pos)⟩
theorem Snd.never {X : Cx} {wx : WX} {q : Kn} {t : E} {e : Expr} (h : ∀ b, chk tb t b q e = false) : Snd W tb g X wx q t e :=
  ⟨fun z => (by rw [h] at z; cases z), fun z => (by rw [h] at z; cases z), fun z => (by rw [h] at z; cases z)⟩
mutual
theorem sE (F : Fct W tb g lv) : ∀ (t : E) (q : Kn) (X : Cx) (wx : WX) (e : Expr), CtxOk W X q lv → Takes X wx → Snd W tb g X wx q t e
  | .var i, q, X, wx, e, c, tk => by
    cases e with
    | Name x pos =>
      refine Snd.plain c.toCtxW rfl (fun h => ?_) (fun _ => rfl) (fun _ _ _ k => nomatch k)
      obtain ⟨h, h3⟩ := and2 h
      obtain ⟨h1, h2⟩ := and2 h
      exact pe_varZ c (of_decide_eq_true h1) h2 h3
    | _ => exact Snd.never fun _ => rfl
  | .con t, q, X, wx, e, c, tk => by
    cases e with
    | Constant k j pos => exact Snd.plain c.toCtxW rfl (fun h => pe_conZ h) (fun _ => rfl) (fun _ _ _ k => nomatch k)
    | _ => exact Snd.never fun _ => rfl
  | .glob i, q, X, wx, e, c, tk => by
    cases e with
    | Name x pos =>
      refine Snd.plain c.toCtxW rfl (fun h => ?_) (fun _ => rfl) (fun _ _ _ k => nomatch k)
      obtain ⟨h1, h2⟩ := and2 h
      exact pe_globZ F c (of_decide_eq_true h1) h2
    | _ => exact Snd.never fun _ => rfl
  | .ty n, q, X, wx, e, c, tk => by
    cases e with
    | Name x pos =>
      refine Snd.plain c.toCtxW rfl (fun h => ?_) (fun _ => rfl) (fun _ _ _ k => nomatch k)
      obtain ⟨h, h3⟩ := and2 h
      obtain ⟨h1, h2⟩ := and2 h
      exact pe_tyZ F c (of_decide_eq_true h1) (of_decide_eq_true h2) h3
    | _ => exact Snd.never fun _ => rfl
  | .cls n, q, X, wx, e, c, tk => by
    cases e with
    | Name x pos =>
      refine Snd.plain c.toCtxW rfl (fun h => ?_) (fun _ => rfl) (fun _ _ _ k => nomatch k)
      obtain ⟨h1, h2⟩ := and2 h
      exact pe_clsZ F c (of_decide_eq_true h1) h2
    | _ => exact Snd.never fun _ => rfl
  | .bin op a b, q, X, wx, e, c, tk => by
    cases e with
    | BinOp l o r pos =>
      refine Snd.plain c.toCtxW rfl (fun h => ?_) (fun _ => rfl) (fun _ _ _ k => nomatch k)
      obtain ⟨h, h3⟩ := and2 h
      obtain ⟨h1, h2⟩ := and2 h
      have e1 : op = o := of_decide_eq_true h1
      subst e1
      exact pe_binZ c.toCtxW ((sE F a q X wx l c tk).val h2) ((sE F b q X wx r c tk).val h3)
    | _ => exact Snd.never fun _ => rfl
  | .neg a, q, X, wx, e, c, tk => by
    cases e with
    | UnaryOp o x pos =>
      cases o with
      | USub => exact Snd.plain c.toCtxW rfl (fun h => pe_negZ ((sE F a q X wx x c tk).val h)) (fun _ => rfl) (fun _ _ _ k => nomatch k)
      | _ => exact Snd.never fun _ => rfl
    | _ => exact Snd.never fun _ => rfl
  | .cmp op a b, q, X, wx, e, c, tk => by
    cases e with
    | Compare l os rs pos =>
      cases os with
      | nil => exact Snd.never fun _ => rfl
      | cons o os =>
        cases os with
        | cons _ _ => exact Snd.never fun _ => rfl
        | nil =>
          cases rs with
          | nil => exact Snd.never fun _ => rfl
          | cons r rs =>
            cases rs with
            | cons _ _ => exact Snd.never fun _ => rfl
            | nil =>
              have go : ∀ {k : Bool}, chk tb (.cmp op a b) k q (.Compare l [o] [r] pos) = true → op = o ∧ notSet r = true ∧ PE X l (tE W wx (ev g a)) ∧ PE X r (tE W wx (ev g b)) := fun {k} h => by
                obtain ⟨h, h4⟩ := and2 h
                obtain ⟨h, h3⟩ := and2 h
                obtain ⟨h1, h2⟩ := and2 h
                exact ⟨of_decide_eq_true h1, h2, (sE F a q X wx l c tk).val h3, (sE F b q X wx r c tk).val h4⟩
              refine ⟨fun h => ?_, fun h => ?_, fun _ _ _ _ k => nomatch k⟩
              · obtain ⟨e1, h2, h3, h4⟩ := go h
                subst e1
                exact pe_cmpZ c.toCtxW c.room h2 h3 h4
              · obtain ⟨e1, h2, h3, h4⟩ := go h
                subst e1
                exact pt_cmpZ c.toCtxW c.room h2 h3 h4
    | _ => exact Snd.never fun _ => rfl
  | .chain op op' a b d, q, X, wx, e, c, tk => by
    cases e with
    | Compare l os rs pos =>
      match os, rs with
      | [o, o'], [m, r] =>
        have go : ∀ {k : Bool}, chk tb (.chain op op' a b d) k q (.Compare l [o, o'] [m, r] pos) = true → op = o ∧ op' = o' ∧ notSet r = true ∧ PE X l (tE W wx (ev g a)) ∧ PE X m (tE W wx (ev g b)) ∧ PE X r (tE W wx (ev g d)) := fun {k} h => by
          obtain ⟨h, h6⟩ := and2 h
          obtain ⟨h, h5⟩ := and2 h
          obtain ⟨h, h4⟩ := and2 h
          obtain ⟨h, h3⟩ := and2 h
          obtain ⟨h1, h2⟩ := and2 h
          exact ⟨of_decide_eq_true h1, of_decide_eq_true h2, h3, (sE F a q X wx l c tk).val h4, (sE F b q X wx m c tk).val h5, (sE F d q X wx r c tk).val h6⟩
        refine ⟨fun h => ?_, fun h => ?_, fun _ _ _ _ k => nomatch k⟩
        · obtain ⟨e1, e2, h2, h3, h4, h5⟩ := go h
          subst e1 e2
          exact pe_chainZ c.toCtxW c.room h2 h3 h4 h5
        · obtain ⟨e1, e2, h2, h3, h4, h5⟩ := go h
          subst e1 e2
          exact pt_chainZ c.toCtxW c.room h2 h3 h4 h5
      | [], _ => exact Snd.never fun _ => rfl
      | [_], _ => exact Snd.never fun _ => rfl
      | [_, _], [] => exact Snd.never fun _ => rfl
      | [_, _], [_] => exact Snd.never fun _ => rfl
      | [_, _], _ :: _ :: _ :: _ => exact Snd.never fun _ => rfl
      | _ :: _ :: _ :: _, _ => exact Snd.never fun _ => rfl
    | _ => exact Snd.never fun _ => rfl
  | .and a b, q, X, wx, e, c, tk => by
    cases e with
    | BoolOp o vs pos =>
      match o, vs with
      | .And, x :: y :: rest =>
        have w : chk tb (.and a b) true q (.BoolOp .And (x :: y :: rest) pos) = true → PW X (.BoolOp .And (x :: y :: rest) pos) (tT W wx (trF (ev g (.and a b)))) := fun h => by
          obtain ⟨h1, h2⟩ := and2 h
          exact pw_andZ ((sE F a q X wx x c tk).test h1) ((sE F b q X wx _ c tk).word h2 _ _ _ rfl)
        refine ⟨fun h => ?_, fun h => (w h).pt, fun h _ _ _ _ => w h⟩
        obtain ⟨h1, h2⟩ := and2 h
        exact pe_andZ c.toCtxW ((sE F a q X wx x c tk).val h1) ((sE F b q X wx _ c tk).val h2)
      | .And, [] => exact Snd.never fun _ => rfl
      | .And, [_] => exact Snd.never fun _ => rfl
      | .Or, _ => exact Snd.never fun _ => rfl
    | _ => exact Snd.never fun _ => rfl
  | .or a b, q, X, wx, e, c, tk => by
    cases e with
    | BoolOp o vs pos =>
      match o, vs with
      | .Or, x :: y :: rest =>
        have w : chk tb (.or a b) true q (.BoolOp .Or (x :: y :: rest) pos) = true → PW X (.BoolOp .Or (x :: y :: rest) pos) (tT W wx (trF (ev g (.or a b)))) := fun h => by
          obtain ⟨h1, h2⟩ := and2 h
          exact pw_orZ ((sE F a q X wx x c tk).test h1) ((sE F b q X wx _ c tk).word h2 _ _ _ rfl)
        refine ⟨fun h => ?_, fun h => (w h).pt, fun h _ _ _ _ => w h⟩
        obtain ⟨h1, h2⟩ := and2 h
        exact pe_orZ c.toCtxW ((sE F a q X wx x c tk).val h1) ((sE F b q X wx _ c tk).val h2)
      | .Or, [] => exact Snd.never fun _ => rfl
      | .Or, [_] => exact Snd.never fun _ => rfl
      | .And, _ => exact Snd.never fun _ => rfl
    | _ => exact Snd.never fun _ => rfl
  | .one a, q, X, wx, e, c, tk => by
    cases e with
    | BoolOp o vs pos =>
      match vs with
      | [x] =>
        have w : chk tb (.one a) true q (.BoolOp o [x] pos) = true → PW X (.BoolOp o [x] pos) (tT W wx (trF (ev g (.one a)))) := fun h => by
          cases o with
          | And => exact pw_and1 ((sE F a q X wx x c tk).test h)
          | Or => exact pw_or1 ((sE F a q X wx x c tk).test h)
        exact ⟨fun h => pe_one ((sE F a q X wx x c tk).val h), fun h => (w h).pt, fun h _ _ _ _ => w h⟩
      | [] => exact Snd.never fun _ => rfl
      | _ :: _ :: _ => exact Snd.never fun _ => rfl
    | _ => exact Snd.never fun _ => rfl
  | .not a, q, X, wx, e, c, tk => by
    cases e with
    | UnaryOp o x pos =>
      cases o with
      | Not => exact ⟨fun h => pe_notZ c.toCtxW ((sE F a q X wx x c tk).val h), fun h => pt_notZ ((sE F a q X wx x c tk).test h), fun _ _ _ _ k => nomatch k⟩
      | _ => exact Snd.never fun _ => rfl
    | _ => exact Snd.never fun _ => rfl
  | .ite d a b, q, X, wx, e, c, tk => by
    cases e with
    | IfExp t x y pos =>
      refine ⟨fun h => ?_, fun h => Bool.noConfusion h, fun h => Bool.noConfusion h⟩
      obtain ⟨h, h3⟩ := and2 h
      obtain ⟨h1, h2⟩ := and2 h
      exact pe_iteZ ((sE F d q X wx t c tk).test h1) ((sE F a q X wx x c tk).val h2) ((sE F b q X wx y c tk).val h3)
    | _ => exact Snd.never fun b => by cases b <;> rfl
  | .lst cell es, q, X, wx, e, c, tk => by
    cases e with
    | List xs pos =>
      refine Snd.plain c.toCtxW rfl (fun h => ?_) (fun _ => rfl) (fun _ _ _ k => nomatch k)
      obtain ⟨h1, h2⟩ := and2 h
      exact pe_lstZ (sEs F es q X wx xs c tk h2 h1)
    | _ => exact Snd.never fun _ => rfl
  | .tup es, q, X, wx, e, c, tk => by
    cases e with
    | Tuple xs k pos =>
      refine Snd.plain c.toCtxW rfl (fun h => ?_) (fun _ => rfl) (fun _ _ _ k => nomatch k)
      obtain ⟨h1, h2⟩ := and2 h
      exact pe_tupZ (sEs F es q X wx xs c tk h2 h1)
    | _ => exact Snd.never fun _ => rfl
  | .sub a i, q, X, wx, e, c, tk => by
    cases e with
    | Subscript x y pos =>
      refine Snd.plain c.toCtxW rfl (fun h => ?_) (fun _ => rfl) (fun _ _ _ k => nomatch k)
      obtain ⟨h, h3⟩ := and2 h
      obtain ⟨h1, h2⟩ := and2 h
      exact pe_subZ c.toCtxW h1 ((sE F a q X wx x c tk).val h2) ((sE F i q X wx y c tk).val h3)
    | _ => exact Snd.never fun _ => rfl
  | .slc a lo hi, q, X, wx, e, c, tk => by
    cases e with
    | Subscript x y pos =>
      cases y with
      | Slice l h st p2 =>
        cases st with
        | none =>
          refine Snd.plain c.toCtxW rfl (fun h => ?_) (fun _ => rfl) (fun _ _ _ k => nomatch k)
          obtain ⟨h, h3⟩ := and2 h
          obtain ⟨h1, h2⟩ := and2 h
          exact pe_slcZ c.toCtxW ((sE F a q X wx x c tk).val h1) (sO F lo q X wx l c tk h2) (sO F hi q X wx _ c tk h3)
        | some _ => exact Snd.never fun _ => rfl
      | _ => exact Snd.never fun _ => rfl
    | _ => exact Snd.never fun _ => rfl
  | .call f es, q, X, wx, e, c, tk => by
    cases e with
    | Call fn xs kws pos =>
      cases fn with
      | Name x p =>
        cases kws with
        | cons _ _ => exact Snd.never fun _ => rfl
        | nil =>
          refine Snd.plain c.toCtxW rfl (fun h => ?_) (fun _ => rfl) (fun _ _ _ k => nomatch k)
          obtain ⟨h, h5⟩ := and2 h
          obtain ⟨h, h4⟩ := and2 h
          obtain ⟨h, h3⟩ := and2 h
          obtain ⟨h1, h2⟩ := and2 h
          obtain ⟨hm, dk⟩ := F.fn f x (of_decide_eq_true h1)
          obtain ⟨g1, g2⟩ := c.gl h2
          have r : Room lv X.A := c.room.mono (Nat.le_succ _)
          cases xs with
          | nil =>
            have en := chks_nil h4
            subst en
            exact pe_callZ0 c.toCtxW dk r tk g1 hm g2 (F.bnd f 0 h5)
          | cons y xs =>
            refine pe_callZ c.toCtxW dk r tk g1 hm g2 h3 (sEs F es q X wx _ c tk h4 h3) fun σd s ds s' hh => ?_
            rw [evs_len es _ _ _ _ hh]
            exact F.bnd f _ h5
      | _ => exact Snd.never fun _ => rfl
    | _ => exact Snd.never fun _ => rfl
  | .meth m o es, q, X, wx, e, c, tk => by
    cases e with
    | Call fn xs kws pos =>
      cases fn with
      | Attribute x m' ap =>
        cases kws with
        | cons _ _ => exact Snd.never fun _ => rfl
        | nil =>
          refine Snd.plain c.toCtxW rfl (fun h => ?_) (fun _ => rfl) (fun _ _ _ k => nomatch k)
          obtain ⟨h, h8⟩ := and2 h
          obtain ⟨h, h7⟩ := and2 h
          obtain ⟨h, h6⟩ := and2 h
          obtain ⟨h, h5⟩ := and2 h
          obtain ⟨h, h4⟩ := and2 h
          obtain ⟨h, h3⟩ := and2 h
          obtain ⟨h1, h2⟩ := and2 h
          have em : m = m' := of_decide_eq_true h1
          subst em
          refine pe_methZ c.toCtxW (c.room.mono (Nat.le_succ _)) tk h2 (of_decide_eq_true h4) h5 h3 ((sE F o q X wx x c tk).val h6) (sEs F es q X wx xs c tk h7 h3) (fun hx σ s => ?_) (fun cn f hf => (F.mth cn m f hf).2) fun cn f σd s ds s' hf hh => ?_
          · subst hx
            rw [chks_nil h7]
            rfl
          · rw [evs_len es _ _ _ _ hh]
            have z := List.all_eq_true.mp h8 _ (F.mth cn m f hf).1
            rw [Bool.or_eq_true] at z
            rcases z with z | z
            · exact absurd rfl (of_decide_eq_true z)
            · exact F.bnd f _ z
      | _ => exact Snd.never fun _ => rfl
    | _ => exact Snd.never fun _ => rfl
  | .make n es, q, X, wx, e, c, tk => by
    cases e with
    | Call fn xs kws pos =>
      cases fn with
      | Name x p =>
        cases kws with
        | cons _ _ => exact Snd.never fun _ => rfl
        | nil =>
          refine Snd.plain c.toCtxW rfl (fun h => ?_) (fun _ => rfl) (fun _ _ _ k => nomatch k)
          obtain ⟨h, h6⟩ := and2 h
          obtain ⟨h, h5⟩ := and2 h
          obtain ⟨h, h4⟩ := and2 h
          obtain ⟨h, h3⟩ := and2 h
          obtain ⟨h1, h2⟩ := and2 h
          obtain ⟨g1, g2⟩ := c.gl h3
          refine pe_makeZ c.toCtxW (F.made n h2) c.room tk g1 (F.cl n x (of_decide_eq_true h1)) g2 h4 (sEs F es q X wx xs c tk h5 h4) (fun hx σ s => ?_) fun σd s ds s' hh => ?_
          · subst hx
            rw [chks_nil h5]
            rfl
          · rw [evs_len es _ _ _ _ hh, F.ini]
            exact F.bnd _ _ h6
      | _ => exact Snd.never fun _ => rfl
    | _ => exact Snd.never fun _ => rfl
  | .bi b es, q, X, wx, e, c, tk => by
    cases e with
    | Call fn xs kws pos =>
      cases fn with
      | Name x p =>
        cases xs with
        | nil => exact Snd.never fun _ => by cases kws <;> rfl
        | cons y xs =>
          cases kws with
          | cons _ _ => exact Snd.never fun _ => rfl
          | nil =>
            refine Snd.plain c.toCtxW rfl (fun h => ?_) (fun _ => rfl) (fun _ _ _ k => nomatch k)
            obtain ⟨h, h5⟩ := and2 h
            obtain ⟨h, h4⟩ := and2 h
            obtain ⟨h, h3⟩ := and2 h
            obtain ⟨h1, h2⟩ := and2 h
            exact pe_biZ F c (of_decide_eq_true h1) h2 h3 h4 (sEs F es q X wx _ c tk h5 h4)
      | _ => exact Snd.never fun _ => rfl
    | _ => exact Snd.never fun _ => rfl
  | .app o d, q, X, wx, e, c, tk => by
    cases e with
    | Call fn xs kws pos =>
      cases fn with
      | Attribute x m ap =>
        match xs, kws with
        | [y], [] =>
          refine Snd.plain c.toCtxW rfl (fun h => ?_) (fun _ => rfl) (fun _ _ _ k => nomatch k)
          obtain ⟨h, h6⟩ := and2 h
          obtain ⟨h, h5⟩ := and2 h
          obtain ⟨h, h4⟩ := and2 h
          obtain ⟨h, h3⟩ := and2 h
          obtain ⟨h1, h2⟩ := and2 h
          have em : m = "append" := of_decide_eq_true h1
          subst em
          exact pe_mtZ c PySem.F.slot_list_append PySem.F.type_list_append (fun _ => mt_app) h2 h3 h4 ((sE F o q X wx x c tk).val h5) ((sE F d q X wx y c tk).val h6)
        | [], _ => exact Snd.never fun _ => rfl
        | _ :: _ :: _, _ => exact Snd.never fun _ => rfl
        | [_], _ :: _ => exact Snd.never fun _ => rfl
      | _ => exact Snd.never fun _ => rfl
    | _ => exact Snd.never fun _ => rfl
  | .ext o d, q, X, wx, e, c, tk => by
    cases e with
    | Call fn xs kws pos =>
      cases fn with
      | Attribute x m ap =>
        match xs, kws with
        | [y], [] =>
          refine Snd.plain c.toCtxW rfl (fun h => ?_) (fun _ => rfl) (fun _ _ _ k => nomatch k)
          obtain ⟨h, h6⟩ := and2 h
          obtain ⟨h, h5⟩ := and2 h
          obtain ⟨h, h4⟩ := and2 h
          obtain ⟨h, h3⟩ := and2 h
          obtain ⟨h1, h2⟩ := and2 h
          have em : m = "extend" := of_decide_eq_true h1
          subst em
          exact pe_mtZ c PySem.F.slot_list_extend PySem.F.type_list_extend (fun _ => mt_ext) h2 h3 h4 ((sE F o q X wx x c tk).val h5) ((sE F d q X wx y c tk).val h6)
        | [], _ => exact Snd.never fun _ => rfl
        | _ :: _ :: _, _ => exact Snd.never fun _ => rfl
        | [_], _ :: _ => exact Snd.never fun _ => rfl
      | _ => exact Snd.never fun _ => rfl
    | _ => exact Snd.never fun _ => rfl
  | .pop o d, q, X, wx, e, c, tk => by
    cases e with
    | Call fn xs kws pos =>
      cases fn with
      | Attribute x m ap =>
        match xs, kws with
        | [y], [] =>
          refine Snd.plain c.toCtxW rfl (fun h => ?_) (fun _ => rfl) (fun _ _ _ k => nomatch k)
          obtain ⟨h, h6⟩ := and2 h
          obtain ⟨h, h5⟩ := and2 h
          obtain ⟨h, h4⟩ := and2 h
          obtain ⟨h, h3⟩ := and2 h
          obtain ⟨h1, h2⟩ := and2 h
          have em : m = "pop" := of_decide_eq_true h1
          subst em
          exact pe_mtZ c PySem.F.slot_list_pop PySem.F.type_list_pop (fun _ => mt_popZ) h2 h3 h4 ((sE F o q X wx x c tk).val h5) ((sE F d q X wx y c tk).val h6)
        | [], _ => exact Snd.never fun _ => rfl
        | _ :: _ :: _, _ => exact Snd.never fun _ => rfl
        | [_], _ :: _ => exact Snd.never fun _ => rfl
      | _ => exact Snd.never fun _ => rfl
    | _ => exact Snd.never fun _ => rfl
  | .fld f o, q, X, wx, e, c, tk => by
    cases e with
    | Attribute x f' pos =>
      refine Snd.plain c.toCtxW rfl (fun h => ?_) (fun _ => rfl) (fun _ _ _ k => nomatch k)
      obtain ⟨h, h3⟩ := and2 h
      obtain ⟨h1, h2⟩ := and2 h
      have em : f = f' := of_decide_eq_true h1
      subst em
      exact pe_fldZ F c h2 ((sE F o q X wx x c tk).val h3)
    | _ => exact Snd.never fun _ => rfl
  | .lc cell own elt tg it cond, q, X, wx, e, c, tk => by
    cases e with
    | ListComp el gs scope pos =>
      match gs with
      | [⟨tx, ix, ifs, asy⟩] =>
        refine Snd.plain c.toCtxW rfl (fun h => ?_) (fun _ => rfl) (fun _ _ _ k => nomatch k)
        obtain ⟨h, h8⟩ := and2 h
        obtain ⟨h, h7⟩ := and2 h
        obtain ⟨h, h6⟩ := and2 h
        obtain ⟨h, h5⟩ := and2 h
        obtain ⟨h, h4⟩ := and2 h
        obtain ⟨h, h3⟩ := and2 h
        obtain ⟨h1, h2⟩ := and2 h
        have ea : asy = 0 := of_decide_eq_true h1
        subst ea
        have ok : BlkOk X.N X.env.scope scope own := by rw [c.N, c.sc]; exact blkOk_by h2
        exact pe_lcZ c.toCtxW c.calm c.nd (sI F it q X wx tx ix c tk h5) ok h3 (fun s H C cl fp => sG (c.blk scope s H C cl fp) tg tx h6)
          (fun s H C cl fp => sC F cond _ _ wxF ifs (c.blk scope s H C cl fp) takes0 h8) (fun s H C cl fp => (sE F elt _ _ wxF el (c.blk scope s H C cl fp) takes0).val h7) (fun x => fold_no h4)
      | [] => exact Snd.never fun _ => rfl
      | ⟨_, _, _, _⟩ :: _ :: _ => exact Snd.never fun _ => rfl
    | _ => exact Snd.never fun _ => rfl
  | .frz d, q, X, wx, e, c, tk => by
    refine ⟨fun h => ?_, fun h => Bool.noConfusion h, fun h => Bool.noConfusion h⟩
    exact pe_frzZ ((sE F d q X wx e c tk).val h)
  | .dk0, q, X, wx, e, c, tk => by
    cases e with
    | Dict ks vs pos =>
      cases ks with
      | cons _ _ => exact Snd.never fun _ => rfl
      | nil =>
        cases vs with
        | cons _ _ => exact Snd.never fun _ => rfl
        | nil => exact Snd.plain c.toCtxW rfl (fun _ => pe_dk0Z) (fun _ => rfl) (fun _ _ _ k => nomatch k)
    | _ => exact Snd.never fun _ => rfl
  | .hole, q, X, wx, e, c, tk => ⟨fun _ => hole_E, fun _ => hole_W.pt, fun _ _ _ _ _ => hole_W⟩
theorem sEs (F : Fct W tb g lv) : ∀ (ts : Es) (q : Kn) (X : Cx) (wx : WX) (es : List Expr), CtxOk W X q lv → Takes X wx → chks tb ts q es = true → es.all plainE = true → PA X es (tA W wx (evs g ts))
  | .nil, q, X, wx, es, c, tk, h, hp => by
    cases es with
    | nil => exact pa_nilZ
    | cons e es => exact Bool.noConfusion h
  | .cons t ts, q, X, wx, es, c, tk, h, hp => by
    cases es with
    | nil => exact Bool.noConfusion h
    | cons e es =>
      obtain ⟨h1, h2⟩ := and2 h
      rw [List.all_cons, Bool.and_eq_true] at hp
      exact pa_consZ hp.1 ((sE F t q X wx e c tk).val h1) (sEs F ts q X wx es c tk h2 hp.2)
theorem sO (F : Fct W tb g lv) : ∀ (t : Eo) (q : Kn) (X : Cx) (wx : WX) (o : Option Expr), CtxOk W X q lv → Takes X wx → chko tb t q o = true → PO X o (tO W wx (evo g t))
  | .no, q, X, wx, o, c, tk, h => by
    cases o with
    | none => exact po_no
    | some e => exact Bool.noConfusion h
  | .yes t, q, X, wx, o, c, tk, h => by
    cases o with
    | none => exact Bool.noConfusion h
    | some e => exact po_yes ((sE F t q X wx e c tk).val h)
theorem sC (F : Fct W tb g lv) : ∀ (t : Eo) (q : Kn) (X : Cx) (wx : WX) (es : List Expr), CtxOk W X q lv → Takes X wx → chkC tb t q es = true → PTs X es (tT W wx (evC g t))
  | .no, q, X, wx, es, c, tk, h => by
    cases es with
    | nil =>
      refine ⟨fun pins s0 σ H Q I hh => pts_nil.run pins s0 σ H Q I ?_⟩
      obtain ⟨γ, σd, s, en, st, hh⟩ := hh
      exact hh γ H true Ext.refl st rfl
    | cons e es => exact Bool.noConfusion h
  | .yes t, q, X, wx, es, c, tk, h => by
    match es with
    | [e] => exact pts_one ((sE F t q X wx e c tk).test h)
    | [] => exact Bool.noConfusion h
    | _ :: _ :: _ => exact Bool.noConfusion h
theorem sI (F : Fct W tb g lv) : ∀ (t : It) (q : Kn) (X : Cx) (wx : WX) (tg e : Expr), CtxOk W X q lv → Takes X wx → chkI tb t q e = true → PI X tg e (tI W wx (evI g t))
  | .val t, q, X, wx, tg, e, c, tk, h => pi_valZ c.toCtxW ((sE F t q X wx e c tk).val h)
  | .rng1 t, q, X, wx, tg, e, c, tk, h => by
    cases e with
    | Call fn xs kws pos =>
      cases fn with
      | Name x p =>
        match xs, kws with
        | [a], [] =>
          obtain ⟨h, h5⟩ := and2 h
          obtain ⟨h, h4⟩ := and2 h
          obtain ⟨h, h3⟩ := and2 h
          obtain ⟨h1, h2⟩ := and2 h
          have ex : x = "range" := of_decide_eq_true h1
          subst ex
          exact pi_rng1Z F c (of_decide_eq_true h2) h3 h4 ((sE F t q X wx a c tk).val h5)
        | [], _ => exact Bool.noConfusion h
        | _ :: _ :: _, _ => exact Bool.noConfusion h
        | [_], _ :: _ => exact Bool.noConfusion h
      | _ => exact Bool.noConfusion h
    | _ => exact Bool.noConfusion h
  | .rng2 t u, q, X, wx, tg, e, c, tk, h => by
    cases e with
    | Call fn xs kws pos =>
      cases fn with
      | Name x p =>
        match xs, kws with
        | [a, b], [] =>
          obtain ⟨h, h7⟩ := and2 h
          obtain ⟨h, h6⟩ := and2 h
          obtain ⟨h, h5⟩ := and2 h
          obtain ⟨h, h4⟩ := and2 h
          obtain ⟨h, h3⟩ := and2 h
          obtain ⟨h1, h2⟩ := and2 h
          have ex : x = "range" := of_decide_eq_true h1
          subst ex
          exact pi_rng2Z F c (of_decide_eq_true h2) h3 h4 h5 ((sE F t q X wx a c tk).val h6) ((sE F u q X wx b c tk).val h7)
        | [], _ => exact Bool.noConfusion h
        | [_], _ => exact Bool.noConfusion h
        | _ :: _ :: _ :: _, _ => exact Bool.noConfusion h
        | [_, _], _ :: _ => exact Bool.noConfusion h
      | _ => exact Bool.noConfusion h
    | _ => exact Bool.noConfusion h
  | .enum t, q, X, wx, tg, e, c, tk, h => Bool.noConfusion h
  | .zip t u, q, X, wx, tg, e, c, tk, h => Bool.noConfusion h
  | .revRng1 t, q, X, wx, tg, e, c, tk, h => Bool.noConfusion h
end
end
end Z
end
section
set_option Elab.async false
set_option linter.all false
set_option maxRecDepth 100000
set_option maxHeartbeats 4000000
set_option autoImplicit false
namespace Z
open PySem PySem.Spec L2

/-! ### statements: what is stored how -/
def noComp : Expr → Bool
  | .ListComp _ _ _ _ => false
  | .SetComp _ _ _ _ => false
  | .DictComp _ _ _ _ _ => false
  | _ => true
theorem sw_no {e : Expr} {t : Option Expr} {l : Nat} {env : Env} (h : noComp e = true) : swapsWith e t l env = pure false := by
  cases e <;> first | rfl | cases h
/-- a target that is no name takes nothing over -/
def noName : Expr → Bool
  | .Name _ _ => false
  | _ => true
theorem sw_target {e t : Expr} {l : Nat} {env : Env} (h : noName t = true) : swapsWith e (some t) l env = pure false := by
  cases e <;> first | rfl | (cases t <;> first | rfl | cases h)
theorem sw_cell {e : Expr} {x : Str} {p : Pos} {l : Nat} {env : Env} (h : env.kindOf x ≠ some .local) : swapsWith e (some (.Name x p)) l env = pure false := by
  have hk : (env.kindOf x == some NameKind.local) = false := beq_eq_false_iff_ne.mpr h
  cases e <;> first | rfl | (unfold swapsWith; simp only [hk, Bool.and_false, Bool.false_and])
/-- the tuple of a display is laid before it is unpacked -/
def noSwap : Expr → Expr → Bool
  | .Tuple ts _ _, .Tuple vs _ _ => !(ts.length == 2 || ts.length == 3) || vs.all (foldedForSure 8)
  | .List _ _, .Tuple _ _ _ => false
  | _, _ => true
theorem swap_none {t e : Expr} {env : Env} (h : noSwap t e = true) : swappedStores [t] e env = pure none := by
  unfold swappedStores
  cases t with
  | Tuple ts k p =>
    cases e with
    | Tuple vs k2 p2 =>
      have h : (!(ts.length == 2 || ts.length == 3) || vs.all (foldedForSure 8)) = true := h
      simp only
      split
      · rfl
      · split
        · rfl
        · split
          · rfl
          · split
            · rfl
            · rename_i h1 h2 h3 h4
              rw [Bool.or_eq_true] at h
              rcases h with h | h
              · rw [h] at h1
                simp at h1
              · exact absurd h h4
    | _ => rfl
  | List ts p =>
    cases e with
    | Tuple vs k2 p2 => cases h
    | _ => rfl
  | _ => cases e <;> rfl
/-- two plain local names, stored from the right -/
def swapB (sc : Scope) (x : Str) (px : Pos) (y : Str) (py : Pos) (a b : Expr) : Bool :=
  decide (sc.names.lookup x = some .local) && decide (sc.names.lookup y = some .local) && (py.line == px.line) && decide (x ≠ y) && plainE a && plainE b && !([a, b].all (foldedForSure 8)) && !([a, b].all (constantsAlone 8))
theorem swap_two {x y : Str} {px py p p2 : Pos} {k k2 : Nat} {a b : Expr} {env : Env} (hk : env.scope.kind = .function) (h : swapB env.scope x px y py a b = true) :
    swappedStores [.Tuple [.Name x px, .Name y py] k p] (.Tuple [a, b] k2 p2) env = pure (some [x, y]) := by
  unfold swapB at h
  obtain ⟨h, h8⟩ := and2 h
  obtain ⟨h, h7⟩ := and2 h
  obtain ⟨h, h6⟩ := and2 h
  obtain ⟨h, h5⟩ := and2 h
  obtain ⟨h, h4⟩ := and2 h
  obtain ⟨h, h3⟩ := and2 h
  obtain ⟨h1, h2⟩ := and2 h
  have kx : env.kindOf x = some .local := of_decide_eq_true h1
  have ky : env.kindOf y = some .local := of_decide_eq_true h2
  have ne : x ≠ y := of_decide_eq_true h4
  have hb : env.blockKind = .function := by
    unfold Env.blockKind
    rw [hk]
    rfl
  have st : ([a, b].any fun | .Starred .. => true | _ => false) = false := by
    cases a <;> first | (cases h5; done) | (cases b <;> first | (cases h6; done) | rfl)
  have f8 : [a, b].all (foldedForSure 8) = false := by
    cases e : [a, b].all (foldedForSure 8) with
    | false => rfl
    | true => rw [e] at h7; cases h7
  have c8 : [a, b].all (constantsAlone 8) = false := by
    cases e : [a, b].all (constantsAlone 8) with
    | false => rfl
    | true => rw [e] at h8; cases h8
  have ed : [x, y].eraseDups = [x, y] := by
    have : (y == x) = false := beq_eq_false_iff_ne.mpr (Ne.symm ne)
    rw [List.eraseDups_cons, List.filter_cons]
    simp only [this, Bool.not_false, if_true, List.filter_nil]
    rw [List.eraseDups_cons]
    rfl
  have h3' : py.line = px.line := eq_of_beq h3
  unfold swappedStores
  simp only [List.length_cons, List.length_nil, hb, st, f8, c8, List.filterMap_cons, List.filterMap_nil, kx, ky, List.head?_cons, Option.map_some, Option.getD_some, Expr.pos, h3', beq_self_eq_true, Bool.and_self, if_true, ed]
  rw [if_neg (by decide)]
  split
  · rename_i hh
    exact Bool.noConfusion (st.symm.trans hh)
  · rw [if_neg (by decide), if_neg (by decide), if_neg (by decide)]
end Z
end
section
set_option Elab.async false
set_option linter.all false
set_option maxRecDepth 100000
set_option maxHeartbeats 4000000
set_option autoImplicit false
namespace Z
open PySem PySem.Spec L2

/-! ### statements held against their text -/
/-- name = value: is the value a comprehension that is stored within its frame -/
def takesOver (q : Kn) (x : Str) (p : Pos) : Expr → Bool
  | .ListComp _ _ scope pos => decide (q.sc.names.lookup x = some .local) && (p.line == pos.line) && !(scope.names.any fun (n, k) => n == x && (k == .local || k == .cell))
  | _ => false
def localB (q : Kn) (x : Str) : Bool := decide (q.sc.names.lookup x = some .local)
def parOf : List Expr → Expr → Option (Str × Pos × Str × Pos × Expr × Expr)
  | [.Tuple [.Name x px, .Name y py] _ _], .Tuple [a, b] _ _ => some (x, px, y, py, a, b)
  | _, _ => none
theorem parOf_some {xs : List Expr} {v : Expr} {x y : Str} {px py : Pos} {a b : Expr} (h : parOf xs v = some (x, px, y, py, a, b)) : ∃ kt pt k2 pt2, xs = [.Tuple [.Name x px, .Name y py] kt pt] ∧ v = .Tuple [a, b] k2 pt2 := by
  unfold parOf at h
  split at h
  · cases h
    exact ⟨_, _, _, _, rfl, rfl⟩
  · cases h
mutual
def chkS (tb : Tb) : Stm → Kn → Stmt → Bool
  | .set (.name i) e, q, .Assign [.Name x p] v _ => decide (q.N[i]? = some x) && q.wr x && chk tb e false q v && (noComp v || !localB q x || (takesOver q x p v && (match e with | .lc _ _ _ _ _ _ => true | _ => false)))
  | .set (.tup ts) e, q, .Assign [.Tuple xs k p] v _ => chkG (.tup ts) q (.Tuple xs k p) && chk tb e false q v && noSwap (.Tuple xs k p) v
  | .par i j a b, q, .Assign xs v _ => match parOf xs v with
    | some (x, px, y, py, a', b') => decide (q.N[i]? = some x) && decide (q.N[j]? = some y) && swapB q.sc x px y py a' b' && chk tb a false q a' && chk tb b false q b'
    | none => false
  | .setSub o i e, q, .Assign [.Subscript x y _] v _ => notSlice y && chk tb e false q v && chk tb o false q x && chk tb i false q y
  | .setFld f o e, q, .Assign [.Attribute x f' _] v _ => decide (f = f') && chk tb e false q v && chk tb o false q x
  | .aug i op e, q, .AugAssign (.Name x _) op' v _ => decide (q.N[i]? = some x) && q.wr x && decide (op = op') && (decide (op = .Add) || decide (op = .Sub)) && chk tb e false q v
  | .expr e, q, .Expr v _ => noComp v && chk tb e false q v
  | .ret e, q, .Return (some v) _ => chk tb e false q v
  | .retN, _, .Return none _ => true
  | .ife c a b, q, .If t x y _ => chk tb c true q t && chkSs tb a q x && chkSs tb b q y
  | .for tg it b, q, .For tx ix body [] _ => notSet ix && chkG tg q tx && chkI tb it q ix && chkSs tb b q body
  | .whl _ c b, q, .While t body [] _ => chk tb c true q t && chkSs tb b q body
  | .pass, _, .Pass _ => true
  | .brk, _, .Break _ => true
  | .cont, _, .Continue _ => true
  | .hole, _, _ => true
  | _, _, _ => false
termination_by structural x => x
def chkSs (tb : Tb) : Ss → Kn → List Stmt → Bool
  | .nil, _, [] => true
  | .cons s ss, q, x :: xs => chkS tb s q x && chkSs tb ss q xs
  | _, _, _ => false
termination_by structural x => x
end
section
variable {W : Wd} {X : Cx} {q : Kn} {lv : Nat} {tb : Tb} {g : G} {wx : WX} {pos : Pos}
theorem tS_bind {E : Ends} {σ : St} {H : Hp} {Q : VK} {fa : Sl → S → R D} {k : Sl → D → S → O} (h : tS W wx (fun σ s => (fa σ s).then σ fun x s => k σ x s) E σ H)
    (f : ∀ σd d s1 γ1 H1 v, EnvOk W γ1 H1 σd σ → StOk W γ1 s1 H1 → RepD W γ1 H1 d v → postS W wx γ1 H1 E (k σd d s1) → Q v H1) : tE W wx fa σ H Q := by
  obtain ⟨γ, σd, s, en, st, h⟩ := h
  exact ⟨γ, σd, s, en, st, post_then en h fun d s1 γ1 H1 v _ x st1 r p => f σd d s1 γ1 H1 v (en.ext x) st1 r p⟩
theorem hole_S {st : Stmt} : PS X st (tS W wx fun _ _ => .no) := ⟨fun pins s0 σ H E I ⟨γ, σd, s, en, st, h⟩ => h.elim⟩
theorem ps_setZ {tg v : Expr} {t : Tg} {f : Sl → S → R D} (hv : PE X v (tE W wx f)) (hg : PG X tg (gT W.K t)) (hs : swapsWithSole [tg] v pos.line X.env = pure false) (hw : swappedStores [tg] v X.env = pure none) (h1 : (assignEach [tg] X.env).map (·.2) = [assign tg X.env]) :
    PS X (.Assign [tg] v pos) (tS W wx fun σ s => (f σ s).then σ fun x s => match setTg t x σ with
      | some σ1 => .nx σ1 s
      | none => .no) := by
  refine ⟨fun pins s0 σ H E I h => (ps_asg hv hg hs hw h1).run pins s0 σ H E I ?_⟩
  refine tS_bind h fun σd d s1 γ1 H1 v en st r p => ?_
  split at p
  · rename_i σ1 e
    exact tg_ok rfl t e en r fun σ' en' _ => p γ1 H1 σ' Ext.refl st en'
  · exact p.elim
theorem ps_nameZ (c : CtxOk W X q lv) {i : Nat} {x : Str} {p : Pos} {v : Expr} {f : Sl → S → R D} (h1 : q.N[i]? = some x) (h2 : q.wr x = true) (hv : PE X v (tE W wx f)) (hs : swapsWith v (some (.Name x p)) pos.line X.env = pure false) :
    PS X (.Assign [.Name x p] v pos) (tS W wx fun σ s => (f σ s).then σ fun d s => match setTg (.name i) d σ with
      | some σ1 => .nx σ1 s
      | none => .no) := by
  obtain ⟨h3, h4⟩ := c.wr x h2
  refine ⟨fun pins s0 σ H E I h => (ps_set c.nd (by rw [c.N]; exact h1) h3 hv hs h4).run pins s0 σ H E I ?_⟩
  refine tS_bind h fun σd d s1 γ1 H1 v en st r p => ?_
  split at p
  · rename_i σ1 e
    exact tg_ok (K := W.K) rfl (.name i) e en r fun σ' en' _ => p γ1 H1 σ' Ext.refl st en'
  · exact p.elim
theorem ps_parZ (c : CtxOk W X q lv) {i j : Nat} {x y : Str} {a b : Expr} {px py pt pt2 : Pos} {kt k2 : Nat} {fa fb : Sl → S → R D} (h1 : q.N[i]? = some x) (h2 : q.N[j]? = some y) (h3 : swapB q.sc x px y py a b = true) (ha : PE X a (tE W wx fa)) (hb : PE X b (tE W wx fb)) :
    PS X (.Assign [.Tuple [.Name x px, .Name y py] kt pt] (.Tuple [a, b] k2 pt2) pos) (tS W wx fun σ s => (fa σ s).then σ fun x s => (fb σ s).then σ fun y s => if i < σ.length ∧ j < σ.length then .nx ((σ.set i (some x)).set j (some y)) s else .no) := by
  have hN1 : X.N[i]? = some x := by rw [c.N]; exact h1
  have hN2 : X.N[j]? = some y := by rw [c.N]; exact h2
  have h3' : swapB X.env.scope x px y py a b = true := by rw [c.sc]; exact h3
  have h3'' := h3'
  unfold swapB at h3''
  obtain ⟨z, _⟩ := and2 h3''
  obtain ⟨z, _⟩ := and2 z
  obtain ⟨z, pb⟩ := and2 z
  obtain ⟨z, pa⟩ := and2 z
  obtain ⟨z, n4⟩ := and2 z
  obtain ⟨z, _⟩ := and2 z
  obtain ⟨n1, n2⟩ := and2 z
  have ne : i ≠ j := fun e => by
    subst e
    rw [hN1] at hN2
    cases hN2
    exact (of_decide_eq_true n4) rfl
  refine ⟨fun pins s0 σ H E I h => (ps_par c.calm c.nd hN1 hN2 ne (of_decide_eq_true n1) (of_decide_eq_true n2) (pa_consZ pa ha (pa_consZ pb hb pa_nilZ)) (swap_two I.ok.kind h3') rfl).run pins s0 σ H E I ?_⟩
  obtain ⟨γ, σd, s, en, st, h⟩ := h
  refine ⟨γ, σd, s, en, st, ?_⟩
  have : ∀ s2, ((fa σd s2).bind fun x s => ((fb σd s).bind fun x s => (R.ok [] s).bind fun xs s => R.ok (x :: xs) s).bind fun xs s => R.ok (x :: xs) s) = ((fa σd s2).bind fun x s => (fb σd s).bind fun y s => R.ok [x, y] s) := fun s2 => by
    simp only [bind_assoc']
    rfl
  dsimp only
  rw [this]
  dsimp only at h
  cases e1 : fa σd s with
  | no => rw [e1] at h; exact h.elim
  | ex cn fs s1 => rw [e1] at h; exact post_ex fun γ' H' d x st z => h γ' H' σ d x st (en.ext x) z
  | ok d1 s1 =>
    rw [e1] at h
    show post W (relTs W) (at_ wx σ) γ H _ ((fb σd s1).bind fun y s => R.ok [d1, y] s)
    have h : postS W wx γ H E ((fb σd s1).then σd fun y s => if i < σd.length ∧ j < σd.length then .nx ((σd.set i (some d1)).set j (some y)) s else .no) := h
    cases e2 : fb σd s1 with
    | no => rw [e2] at h; exact h.elim
    | ex cn fs s2 => rw [e2] at h; exact post_ex fun γ' H' d x st z => h γ' H' σ d x st (en.ext x) z
    | ok d2 s2 =>
      rw [e2] at h
      have h : postS W wx γ H E (if i < σd.length ∧ j < σd.length then .nx ((σd.set i (some d1)).set j (some d2)) s2 else .no) := h
      split at h
      · intro γ1 H1 vs x1 st1 r1
        obtain ⟨v, r, rfl, r2, w, r', rfl, r3, r4⟩ := r1
        cases r4
        exact ⟨v, w, rfl, h γ1 H1 _ x1 st1 (((en.ext x1).set i r2).set j r3)⟩
      · exact h.elim
def rStL (W : Wd) (wx : WX) (E : Ends) (σ : St) (σd : Sl) : TSet := fun o i v H Q => ∃ γ s d e x, RepD W γ H d o ∧ RepD W γ H e i ∧ RepD W γ H x v ∧ StOk W γ s H ∧ EnvOk W γ H σd σ ∧ postS W wx γ H E (match setSubD s d e x with
    | some s => .nx σd s
    | none => .no) ∧ ∀ H', E.nx σ H' → Q H'
theorem RepDs.setAt {γ : Ga} {H : Hp} {x : D} {v : V} (r : RepD W γ H x v) : ∀ {ds : List D} {vs : List V} (k : Nat), RepDs W γ H ds vs → RepDs W γ H (ds.set k x) (vs.set k v)
  | [], _, _, h => by cases h; exact rfl
  | _ :: _, _, 0, ⟨u, q, e, h1, h2⟩ => by rw [e]; exact ⟨v, q, rfl, r, h2⟩
  | _ :: _, _, k + 1, ⟨u, q, e, h1, h2⟩ => by rw [e]; exact ⟨u, _, rfl, h1, RepDs.setAt r k h2⟩
theorem pset_list {E : Ends} {σ : St} {σd : Sl} : PSet X (rStL W wx E σ σd) := by
  intro pins s0 σ' H o i v ov iv u Q I ro ri rv h
  obtain ⟨γ, s, d, e, x, r1, r2, r3, st, en, p, k⟩ := h
  unfold setSubD at p
  split at p
  · rename_i sE hS
    split at hS
    · rename_i n j
      split at hS
      · rename_i ds q
        split at hS
        · rename_i ho
          obtain ⟨m, hm, rfl⟩ := map_some' hS
          obtain ⟨a, vs, rfl, h1, h2, h3, h4⟩ := cell_at st r1 q
          cases r2
          refine set_list pins s0 σ' H _ _ v ov iv u Q I ro ri rv ⟨_, _, _, m, rfl, rfl, h2, by rw [h3.length]; exact hm, k _ ?_⟩
          have xw := ext_write st (o := .lst (vs.set m v)) h1
          refine p γ _ σ xw (st.write h1 ⟨a, _, h1, upd_same, RepDs.setAt (r3.ext xw) m (RepDs.ext xw h3), fun z hz => ?_⟩) (en.ext xw)
          rcases List.mem_or_eq_of_mem_set hz with hz | rfl
          · exact h4 z hz
          · exact ho
        · cases hS
      · cases hS
    · cases hS
  · exact p.elim
theorem sub_assign {o i : Expr} {pos : Pos} {env : Env} (v : Value) (h : notSlice i = true) : assign (.Subscript o i pos) env v = (do let ov ← holding [v] (eval o env); let iv ← holding [v, ov] (eval i env); standAt pos; holding [v, ov, iv] (setItem ov iv v); release [v, ov, iv] []) := by
  cases i <;> first | rfl | cases h
theorem ps_setSubZ {o i v : Expr} {p : Pos} {fo fi fv : Sl → S → R D} (hn : notSlice i = true) (hv : PE X v (tE W wx fv)) (ho : PE X o (tE W wx fo)) (hi : PE X i (tE W wx fi)) :
    PS X (.Assign [.Subscript o i p] v pos) (tS W wx fun σ s => (fv σ s).then σ fun x s => (fo σ s).then σ fun o s => (fi σ s).then σ fun i s => match setSubD s o i x with
      | some s => .nx σ s
      | none => .no) := by
  refine ⟨fun pins s0 σ H E I h => ?_⟩
  obtain ⟨γ, σd, s, en, st, h⟩ := h
  refine (ps_asg hv (pg_sub ho hi (pset_list (W := W) (wx := wx) (E := E) (σ := σ) (σd := σd)) (fun v => sub_assign v hn)) (show swapsWithSole [.Subscript o i p] v pos.line X.env = pure false from sw_target (t := .Subscript o i p) (l := pos.line) (env := X.env) rfl) (swap_none (by cases v <;> rfl)) rfl).run pins s0 σ H E I ?_
  refine ⟨γ, σd, s, en, st, post_then en h fun d s1 γ1 H1 v1 _ x1 st1 r1 p1 => ?_⟩
  refine ⟨γ1, σd, s1, en.ext x1, st1, post_then (en.ext x1) p1 fun d2 s2 γ2 H2 v2 _ x2 st2 r2 p2 => ?_⟩
  refine ⟨γ2, σd, s2, (en.ext x1).ext x2, st2, post_then ((en.ext x1).ext x2) p2 fun d3 s3 γ3 H3 v3 _ x3 st3 r3 p3 => ?_⟩
  exact ⟨γ3, s3, d2, d3, d, r2.ext x3, r3, (r1.ext x2).ext x3, st3, ((en.ext x1).ext x2).ext x3, p3, fun H' z => z⟩
theorem putF_ok {γ : Ga} {H : Hp} {f : Str} {x : T} {v : V} (r : Rep W γ H x v) : ∀ {fs : List (Str × T)} {gs : List (Str × V)}, RepFs W γ H fs gs → RepFs W γ H (putT f x fs) (putF f v gs)
  | [], _, h => by
    cases h
    exact ⟨(f, v), [], rfl, ⟨rfl, r⟩, rfl⟩
  | (k, d) :: fs, _, ⟨(k', u), q, e, h1, h2⟩ => by
    subst e
    obtain ⟨h3, h4⟩ := h1
    have h3 : k' = k := h3
    subst h3
    show RepFs W γ H (if k' = f then (k', x) :: fs else (k', d) :: putT f x fs) (if k' = f then (k', v) :: q else (k', u) :: putF f v q)
    by_cases e : k' = f
    · rw [if_pos e, if_pos e]
      exact ⟨(k', v), q, rfl, ⟨rfl, r⟩, h2⟩
    · rw [if_neg e, if_neg e]
      exact ⟨(k', u), _, rfl, ⟨rfl, h4⟩, putF_ok r h2⟩
theorem RepFs.length {γ : Ga} {H : Hp} : ∀ {fs : List (Str × T)} {gs : List (Str × V)}, RepFs W γ H fs gs → gs.length = fs.length
  | [], _, h => by cases h; rfl
  | _ :: _, _, ⟨p, q, e, _, h⟩ => by rw [e, List.length_cons, List.length_cons, RepFs.length h]
theorem ps_setFldZ (F : Fct W tb g lv) (c : CtxOk W X q lv) {o v : Expr} {f : Str} {p : Pos} {fo fv : Sl → S → R D} (hv : PE X v (tE W wx fv)) (ho : PE X o (tE W wx fo)) :
    PS X (.Assign [.Attribute o f p] v pos) (tS W wx fun σ s => (fv σ s).then σ fun x s => (fo σ s).then σ fun o s => match setFldD g s f o x with
      | some s => .nx σ s
      | none => .no) := by
  refine ⟨fun pins s0 σ H E I h => (ps_fld ho hv (sw_target rfl)).run pins s0 σ H E I ?_⟩
  obtain ⟨γ, σd, s, en, st, h⟩ := h
  refine ⟨γ, σd, s, en, st, post_then en h fun d s1 γ1 H1 v1 qa x1 st1 r1 p1 => ?_⟩
  refine ⟨γ1, σd, s1, en.ext x1, st1, post_then (en.ext x1) p1 fun d2 s2 γ2 H2 v2 qb x2 st2 r2 p2 => ?_⟩
  split at p2
  · rename_i sE hS
    unfold setFldD at hS
    split at hS
    · rename_i n x
      split at hS
      · rename_i cn fs q
        obtain ⟨hc, rfl⟩ := if_some hS
        obtain ⟨h1, h2⟩ := and2 hc
        have h2 : fs.length < 1000 := of_decide_eq_true h2
        obtain ⟨a, rfl, pl⟩ := r2
        obtain ⟨b, dx, gs, h3, h4, h5⟩ := st2.ok n _ q
        have := pl.eq h3
        subst this
        obtain ⟨a1, a2⟩ := F.att cn f h1
        refine ⟨b, _, dx, gs, rfl, h4, by rw [c.K]; exact a1, by rw [c.K]; exact a2, by rw [h5.length]; exact h2, ?_⟩
        have xw := ext_write st2 (o := .ins (W.ca cn) dx (putF f v1 gs)) h3
        exact p2 γ2 _ σ xw (st2.write h3 ⟨b, dx, _, h3, upd_same, putF_ok (Rep.ext xw _ _ (Rep.ext x2 _ _ r1)) (RepFs.ext xw _ _ h5)⟩) (((en.ext x1).ext x2).ext xw)
      · cases hS
    · cases hS
  · exact p2.elim
theorem ps_augZ (c : CtxOk W X q lv) {i : Nat} {x : Str} {p : Pos} {op : Operator} {v : Expr} {f : Sl → S → R D} (h1 : q.N[i]? = some x) (h2 : q.wr x = true) (ho : op = .Add ∨ op = .Sub) (hv : PE X v (tE W wx f)) :
    PS X (.AugAssign (.Name x p) op v pos) (tS W wx fun σ s => match σ[i]? with
      | some (some x) => (f σ s).then σ fun y s => match augD op x y with
        | some z => .nx (σ.set i (some z)) s
        | none => .no
      | _ => .no) := by
  obtain ⟨h3, h4⟩ := c.wr x h2
  have hN : X.N[i]? = some x := by rw [c.N]; exact h1
  refine ⟨fun pins s0 σ H E I h => ?_⟩
  obtain ⟨γ, σd, s, en, st, h⟩ := h
  dsimp only at h
  split at h
  · rename_i d e
    obtain ⟨u, e1, r1⟩ := en.2 i d e
    have go : ∀ {d2 : D} {s2 : S} {γ2 : Ga} {H2 : Hp} {v2 : V}, Ext γ γ2 H H2 → StOk W γ2 s2 H2 → RepD W γ2 H2 d2 v2 → postS W wx γ2 H2 E (match augD op d d2 with
        | some z => .nx (σd.set i (some z)) s2
        | none => .no) → ∃ a b, u = .int a ∧ v2 = .int b ∧ ((op = .Add ∧ E.nx (σ.set i (some (.int (a + b)))) H2) ∨ (op = .Sub ∧ E.nx (σ.set i (some (.int (a - b)))) H2)) := fun {d2 s2 γ2 H2 v2} x2 st2 r2 p2 => by
      split at p2
      · rename_i z ez
        unfold augD at ez
        split at ez
        · cases ez
          cases r1
          cases r2
          exact ⟨_, _, rfl, rfl, .inl ⟨rfl, p2 γ2 H2 _ Ext.refl st2 ((en.ext x2).set i rfl)⟩⟩
        · cases ez
          cases r1
          cases r2
          exact ⟨_, _, rfl, rfl, .inr ⟨rfl, p2 γ2 H2 _ Ext.refl st2 ((en.ext x2).set i rfl)⟩⟩
        · cases ez
      · exact p2.elim
    rcases ho with rfl | rfl
    · refine (ps_aug c.nd hN h3 hv ip_add h4).run pins s0 σ H E I ⟨u, e1, γ, σd, s, en, st, post_then en h fun d2 s2 γ2 H2 v2 _ x2 st2 r2 p2 => ?_⟩
      obtain ⟨a, b, ea, eb, ⟨_, z⟩ | ⟨z, _⟩⟩ := go x2 st2 r2 p2
      · exact ⟨a, b, ea, eb, z⟩
      · cases z
    · refine (ps_aug c.nd hN h3 hv ip_sub h4).run pins s0 σ H E I ⟨u, e1, γ, σd, s, en, st, post_then en h fun d2 s2 γ2 H2 v2 _ x2 st2 r2 p2 => ?_⟩
      obtain ⟨a, b, ea, eb, ⟨z, _⟩ | ⟨_, z⟩⟩ := go x2 st2 r2 p2
      · cases z
      · exact ⟨a, b, ea, eb, z⟩
  · exact h.elim
theorem ps_exprZ {v : Expr} {f : Sl → S → R D} (hn : noComp v = true) (hv : PE X v (tE W wx f)) : PS X (.Expr v pos) (tS W wx fun σ s => (f σ s).then σ fun _ s => .nx σ s) := by
  refine ⟨fun pins s0 σ H E I h => (ps_expr hv (sw_no hn)).run pins s0 σ H E I ?_⟩
  obtain ⟨γ, σd, s, en, st, h⟩ := h
  exact ⟨γ, σd, s, en, st, post_then en h fun d s1 γ1 H1 v1 _ x1 st1 r1 p1 => p1 γ1 H1 σ Ext.refl st1 (en.ext x1)⟩
theorem ps_retZ {v : Expr} {f : Sl → S → R D} (hv : PE X v (tE W wx f)) : PS X (.Return (some v) pos) (tS W wx fun σ s => (f σ s).then σ fun x s => .rt x s) := by
  refine ⟨fun pins s0 σ H E I h => (ps_ret hv).run pins s0 σ H E I ?_⟩
  obtain ⟨γ, σd, s, en, st, h⟩ := h
  exact ⟨γ, σd, s, en, st, post_then en h fun d s1 γ1 H1 v1 _ x1 st1 r1 p1 => p1 γ1 H1 v1 Ext.refl st1 r1⟩
theorem ps_ifeZ {t : Expr} {x y : List Stmt} {fc : Sl → S → R D} {fa fb : Sl → S → O} (hc : PT X t (tT W wx (trF fc))) (ha : PSs X x (tS W wx fa)) (hb : PSs X y (tS W wx fb)) :
    PS X (.If t x y pos) (tS W wx fun σ s => ((fc σ s).bind fun x s => R.of (truD s x) s).then σ fun k s => if k then fa σ s else fb σ s) := by
  refine ⟨fun pins s0 σ H E I h => (ps_if hc ha hb).run pins s0 σ H E I ?_⟩
  obtain ⟨γ, σd, s, en, st, h⟩ := h
  refine ⟨γ, σd, s, en, st, post_then en h fun k s1 γ1 H1 k' _ x1 st1 hk p1 => ?_⟩
  subst hk
  cases k with
  | true => rw [if_pos rfl]; exact ⟨γ1, σd, s1, en.ext x1, st1, p1⟩
  | false => rw [if_neg Bool.false_ne_true]; exact ⟨γ1, σd, s1, en.ext x1, st1, p1⟩
theorem pss_consZ {st : Stmt} {r : List Stmt} {fa fb : Sl → S → O} (ha : PS X st (tS W wx fa)) (hb : PSs X r (tS W wx fb)) : PSs X (st :: r) (tS W wx fun σ s => match fa σ s with
    | .nx σ s => fb σ s
    | o => o) := by
  refine ⟨fun pins s0 σ H E I h => (pss_cons ha hb).run pins s0 σ H E I ?_⟩
  obtain ⟨γ, σd, s, en, st, h⟩ := h
  refine ⟨γ, σd, s, en, st, ?_⟩
  dsimp only at h
  cases e : fa σd s with
  | nx σ1 s1 =>
    rw [e] at h
    exact fun γ1 H1 σ' x1 st1 en1 => ⟨γ1, σ1, s1, en1, st1, postS_mono x1 h⟩
  | rt d s1 => rw [e] at h; exact h
  | bk σ1 s1 => rw [e] at h; exact h
  | ct σ1 s1 => rw [e] at h; exact h
  | ex cn fs σ1 s1 => rw [e] at h; exact h
  | no => rw [e] at h; exact h
theorem one_plain {t : Expr} {env : Env} (h : plainE t = true) : (assignEach [t] env).map (·.2) = [assign t env] := by
  cases t <;> first | rfl | cases h
mutual
theorem sS (F : Fct W tb g lv) (c : CtxOk W X q lv) (tk : Takes X wx) (hp : PassesOwn (model X.prog X.w) X.A X.env X.xe) : ∀ (t : Stm) (st : Stmt), chkS tb t q st = true → PS X st (tS W wx (ex g t))
  | .set tg e, st, h => by
    cases tg with
    | name i =>
      cases st with
      | Assign ts v pos =>
        cases ts with
        | nil => exact Bool.noConfusion h
        | cons t0 ts =>
          cases ts with
          | cons _ _ => cases t0 <;> exact Bool.noConfusion h
          | nil =>
            cases t0 with
            | Name x p =>
                obtain ⟨h, h4⟩ := and2 h
                obtain ⟨h, h3⟩ := and2 h
                obtain ⟨h1, h2⟩ := and2 h
                have h1 : q.N[i]? = some x := of_decide_eq_true h1
                have hv := (sE F e q X wx v c tk).val h3
                rw [Bool.or_eq_true, Bool.or_eq_true] at h4
                rcases h4 with (h4 | h4) | h4
                · exact ps_nameZ c h1 h2 hv (sw_no h4)
                · refine ps_nameZ c h1 h2 hv (sw_cell fun z => ?_)
                  have z : X.env.scope.names.lookup x = some .local := z
                  rw [c.sc] at z
                  unfold localB at h4
                  rw [decide_eq_true z] at h4
                  cases h4
                · obtain ⟨h5, h6⟩ := and2 h4
                  cases e with
                  | lc cell own elt tg it cond =>
                    cases v with
                    | ListComp el gs scope lp =>
                      obtain ⟨h5, h9⟩ := and2 h5
                      obtain ⟨h7, h8⟩ := and2 h5
                      match gs with
                      | [⟨tx, ix, ifs, asy⟩] =>
                        have hb := h3
                        obtain ⟨h3, k8⟩ := and2 h3
                        obtain ⟨h3, k7⟩ := and2 h3
                        obtain ⟨h3, k6⟩ := and2 h3
                        obtain ⟨h3, k5⟩ := and2 h3
                        obtain ⟨h3, k4⟩ := and2 h3
                        obtain ⟨h3, k3⟩ := and2 h3
                        obtain ⟨k1, k2⟩ := and2 h3
                        have ea : asy = 0 := of_decide_eq_true k1
                        subst ea
                        have ok : BlkOk X.N X.env.scope scope own := by rw [c.N, c.sc]; exact blkOk_by k2
                        have n9 : (scope.names.any fun (n, k) => n == x && (k == .local || k == .cell)) = false := by
                          cases z : (scope.names.any fun (n, k) => n == x && (k == .local || k == .cell)) with
                          | false => rfl
                          | true => rw [z] at h9; cases h9
                        refine ⟨fun pins s0 σ H E I hh => ?_⟩
                        refine ps_lcZ (W := W) (wx := wx) (cell := cell) (t := tg) (fI := evI g it) (fc := evC g cond) (fe := ev g elt) c.calm c.nd (by rw [c.N]; exact h1) (by rw [c.sc]; exact of_decide_eq_true h7) h8 n9 (sI F it q X wx tx ix c tk k5) ok k3 (fun s H C cl fp => sG (c.blk scope s H C cl fp) tg tx k6)
                          (fun s H C cl fp => sC F cond _ _ wxF ifs (c.blk scope s H C cl fp) takes0 k8) (fun s H C cl fp => (sE F elt _ _ wxF el (c.blk scope s H C cl fp) takes0).val k7) (fun x => fold_no k4) I ?_
                        have hh : tS W wx (fun σ s => (ev g (.lc cell own elt tg it cond) σ s).then σ fun x s => match setTg (.name i) x σ with
                          | some σ1 => .nx σ1 s
                          | none => .no) E σ H := hh
                        refine tS_bind hh fun σd d s1 γ1 H1 v en st r p => ?_
                        split at p
                        · rename_i σ1 e
                          exact tg_ok (K := W.K) rfl (.name i) e en r fun σ' en' _ => p γ1 H1 σ' Ext.refl st en'
                        · exact p.elim
                      | [] => exact Bool.noConfusion h3
                      | ⟨_, _, _, _⟩ :: _ :: _ => exact Bool.noConfusion h3
                    | _ => exact Bool.noConfusion h5
                  | _ => exact Bool.noConfusion h6
            | _ => exact Bool.noConfusion h
      | _ => exact Bool.noConfusion h
    | tup ts =>
      cases st with
      | Assign xs v pos =>
        cases xs with
        | nil => exact Bool.noConfusion h
        | cons t0 xs =>
          cases xs with
          | cons _ _ => cases t0 <;> exact Bool.noConfusion h
          | nil =>
            cases t0 with
            | Tuple es k p =>
              obtain ⟨h, h3⟩ := and2 h
              obtain ⟨h1, h2⟩ := and2 h
              exact ps_setZ ((sE F e q X wx v c tk).val h2) (sG c (.tup ts) _ h1) (show swapsWithSole [.Tuple es k p] v pos.line X.env = pure false from sw_target (t := .Tuple es k p) (l := pos.line) (env := X.env) rfl) (swap_none h3) (one_plain rfl)
            | _ => exact Bool.noConfusion h
      | _ => exact Bool.noConfusion h
  | .par i j a b, st, h => by
    cases st with
    | Assign xs v pos =>
      have h : (match parOf xs v with
        | some (x, px, y, py, a', b') => decide (q.N[i]? = some x) && decide (q.N[j]? = some y) && swapB q.sc x px y py a' b' && chk tb a false q a' && chk tb b false q b'
        | none => false) = true := h
      cases e : parOf xs v with
      | none => rw [e] at h; cases h
      | some z =>
        obtain ⟨x, px, y, py, a', b'⟩ := z
        rw [e] at h
        obtain ⟨kt, pt, k2, pt2, rfl, rfl⟩ := parOf_some e
        obtain ⟨h, h5⟩ := and2 h
        obtain ⟨h, h4⟩ := and2 h
        obtain ⟨h, h3⟩ := and2 h
        obtain ⟨h1, h2⟩ := and2 h
        exact ps_parZ c (of_decide_eq_true h1) (of_decide_eq_true h2) h3 ((sE F a q X wx a' c tk).val h4) ((sE F b q X wx b' c tk).val h5)
    | _ => exact Bool.noConfusion h
  | .setSub o i e, st, h => by
    cases st with
    | Assign xs v pos =>
      cases xs with
      | nil => exact Bool.noConfusion h
      | cons t0 xs =>
        cases xs with
        | cons _ _ => cases t0 <;> exact Bool.noConfusion h
        | nil =>
          cases t0 with
          | Subscript x y p =>
            obtain ⟨h, h4⟩ := and2 h
            obtain ⟨h, h3⟩ := and2 h
            obtain ⟨h1, h2⟩ := and2 h
            exact ps_setSubZ h1 ((sE F e q X wx v c tk).val h2) ((sE F o q X wx x c tk).val h3) ((sE F i q X wx y c tk).val h4)
          | _ => exact Bool.noConfusion h
    | _ => exact Bool.noConfusion h
  | .setFld f o e, st, h => by
    cases st with
    | Assign xs v pos =>
      cases xs with
      | nil => exact Bool.noConfusion h
      | cons t0 xs =>
        cases xs with
        | cons _ _ => cases t0 <;> exact Bool.noConfusion h
        | nil =>
          cases t0 with
          | Attribute x f' p =>
            obtain ⟨h, h3⟩ := and2 h
            obtain ⟨h1, h2⟩ := and2 h
            have ef : f = f' := of_decide_eq_true h1
            subst ef
            exact ps_setFldZ F c ((sE F e q X wx v c tk).val h2) ((sE F o q X wx x c tk).val h3)
          | _ => exact Bool.noConfusion h
    | _ => exact Bool.noConfusion h
  | .aug i op e, st, h => by
    cases st with
    | AugAssign t0 op' v pos =>
      cases t0 with
      | Name x p =>
        obtain ⟨h, h5⟩ := and2 h
        obtain ⟨h, h4⟩ := and2 h
        obtain ⟨h, h3⟩ := and2 h
        obtain ⟨h1, h2⟩ := and2 h
        have eo : op = op' := of_decide_eq_true h3
        subst eo
        rw [Bool.or_eq_true] at h4
        exact ps_augZ c (of_decide_eq_true h1) h2 (h4.imp of_decide_eq_true of_decide_eq_true) ((sE F e q X wx v c tk).val h5)
      | _ => exact Bool.noConfusion h
    | _ => exact Bool.noConfusion h
  | .expr e, st, h => by
    cases st with
    | Expr v pos =>
      obtain ⟨h1, h2⟩ := and2 h
      exact ps_exprZ h1 ((sE F e q X wx v c tk).val h2)
    | _ => exact Bool.noConfusion h
  | .ret e, st, h => by
    cases st with
    | Return o pos =>
      cases o with
      | none => exact Bool.noConfusion h
      | some v => exact ps_retZ ((sE F e q X wx v c tk).val h)
    | _ => exact Bool.noConfusion h
  | .retN, st, h => by
    cases st with
    | Return o pos =>
      cases o with
      | some v => exact Bool.noConfusion h
      | none =>
        refine ⟨fun pins s0 σ H E I h => ps_retN.run pins s0 σ H E I ?_⟩
        obtain ⟨γ, σd, s, en, st, h⟩ := h
        exact h γ H _ Ext.refl st rfl
    | _ => exact Bool.noConfusion h
  | .ife t a b, st, h => by
    cases st with
    | If t' x y pos =>
      obtain ⟨h, h3⟩ := and2 h
      obtain ⟨h1, h2⟩ := and2 h
      exact ps_ifeZ ((sE F t q X wx t' c tk).test h1) (sSs F c tk hp a x h2) (sSs F c tk hp b y h3)
    | _ => exact Bool.noConfusion h
  | .for tg it b, st, h => by
    cases st with
    | For tx ix body oe pos =>
      cases oe with
      | cons _ _ => exact Bool.noConfusion h
      | nil =>
        obtain ⟨h, h4⟩ := and2 h
        obtain ⟨h, h3⟩ := and2 h
        obtain ⟨h1, h2⟩ := and2 h
        exact ps_forZ hp c.calm (sI F it q X wx tx ix c tk h3) (sG c tg tx h2) (sSs F c tk hp b body h4) (fun x => fold_no h1)
    | _ => exact Bool.noConfusion h
  | .whl n t b, st, h => by
    cases st with
    | While t' body oe pos =>
      cases oe with
      | cons _ _ => exact Bool.noConfusion h
      | nil =>
        obtain ⟨h1, h2⟩ := and2 h
        exact ps_whileZ hp ((sE F t q X wx t' c tk).test h1) (sSs F c tk hp b body h2)
    | _ => exact Bool.noConfusion h
  | .pass, st, h => by
    cases st with
    | Pass pos =>
      refine ⟨fun pins s0 σ H E I h => ps_pass.run pins s0 σ H E I ?_⟩
      obtain ⟨γ, σd, s, en, st, h⟩ := h
      exact h γ H σ Ext.refl st en
    | _ => exact Bool.noConfusion h
  | .brk, st, h => by
    cases st with
    | Break pos =>
      refine ⟨fun pins s0 σ H E I h => ps_break.run pins s0 σ H E I ?_⟩
      obtain ⟨γ, σd, s, en, st, h⟩ := h
      exact h γ H σ Ext.refl st en
    | _ => exact Bool.noConfusion h
  | .cont, st, h => by
    cases st with
    | Continue pos =>
      refine ⟨fun pins s0 σ H E I h => ps_continue.run pins s0 σ H E I ?_⟩
      obtain ⟨γ, σd, s, en, st, h⟩ := h
      exact h γ H σ Ext.refl st en
    | _ => exact Bool.noConfusion h
  | .hole, st, h => hole_S
theorem sSs (F : Fct W tb g lv) (c : CtxOk W X q lv) (tk : Takes X wx) (hp : PassesOwn (model X.prog X.w) X.A X.env X.xe) : ∀ (ts : Ss) (sts : List Stmt), chkSs tb ts q sts = true → PSs X sts (tS W wx (exs g ts))
  | .nil, sts, h => by
    cases sts with
    | nil =>
      refine ⟨fun pins s0 σ H E I h => pss_nil.run pins s0 σ H E I ?_⟩
      obtain ⟨γ, σd, s, en, st, h⟩ := h
      exact h γ H σ Ext.refl st en
    | cons _ _ => exact Bool.noConfusion h
  | .cons t ts, sts, h => by
    cases sts with
    | nil => exact Bool.noConfusion h
    | cons st sts =>
      obtain ⟨h1, h2⟩ := and2 h
      exact pss_consZ (sS F c tk hp t st h1) (sSs F c tk hp ts sts h2)
end
end
end Z
end
section
set_option Elab.async false
set_option linter.all false
set_option maxRecDepth 100000
set_option maxHeartbeats 4000000
set_option autoImplicit false
namespace Z
open PySem PySem.Spec L2

def wrOf (sc : Scope) (x : Str) : Bool := match sc.names.lookup x with
  | some .local => true
  | some .cell => true
  | _ => false
/-- what stands behind the top: the defs, the classes -/
structure FS (W : Wd) (tb : Tb) (g0 : G) (ft : Nat → Option Fn) : Prop where
  def_ : ∀ f F, ft f = some F → ∃ (name qual : Str) (params : Arguments) (body : List Stmt) (scope : Scope) (dvs : List V) (kws : List (Str × V)) (N : List Str), FunD W.K name qual params body scope dvs kws (W.fa f) (W.fd f) ∧
    FnScope N (W.fps f) scope ∧ chkSs tb F.body ⟨N, scope, wrOf scope⟩ body = true ∧ F.np = (W.fps f).length ∧ F.nn = N.length
  fn : ∀ f x, tb.fname f = some x → W.mg x = some (.ref (W.fa f)) ∧ PySem.W.keepIn W.K (.ref (W.fa f)) = true
  bnd : ∀ f n, tb.bnd f n = true → BndOk W g0 f n
  cl : ∀ c x, tb.cname c = some x → W.mg x = some (.ref (W.ca c))
  made : ∀ c, tb.made c = true → Mk W.K (W.ca c) (W.fa (g0.ini c)) ∧ PySem.W.keepIn W.K (.ref (W.fa (g0.ini c))) = true
  ini : ∀ c, g0.ini c = tb.ini c
  att : ∀ c f, g0.att c f = true → Cls W.K (W.ca c) ∧ NoAttr W.K (W.ca c) f
  mth : ∀ c m f, g0.mth c m = some f → (c, m, f) ∈ tb.mths ∧ MthOk W c f m
  free : ∀ x ∈ tb.frees, W.mg x = none
  const : ∀ (i : Nat) (x : Str) (t : T), tb.consts[i]? = some (x, t) → g0.consts[i]? = some t ∧ ∃ u v, W.mg x = some u ∧ RelV v u ∧ ∀ γ H, Rep W γ H t v
  gcd : tb.gcd = true → W.mg "gcd" = some (.builtin "math.gcd")
section
variable {W : Wd} {tb : Tb} {g0 : G} {ft : Nat → Option Fn}
/-- the slots at a def's start -/
theorem env_start {γ : Ga} {H : Hp} {N : List Str} {np : Nat} {ds : List D} {vs : List V} (r : RepDs W γ H ds vs) (hn : ds.length = np) : EnvOk W γ H (ds.map some ++ List.replicate (N.length - np) none) (L2.start N vs) := by
  have hl : vs.length = ds.length := r.length
  subst hn
  unfold L2.start
  refine ⟨by simp [hl], fun i d h => ?_⟩
  by_cases hi : i < ds.length
  · rw [List.getElem?_append_left (by simpa using hi), List.getElem?_map] at h
    obtain ⟨d', h1, h2⟩ := map_some' h
    cases h2
    obtain ⟨v, h3, h4⟩ := r.get h1
    refine ⟨v, ?_, h4⟩
    rw [List.getElem?_append_left (by rw [List.length_map, hl]; exact hi), List.getElem?_map, h3]
    rfl
  · rw [List.getElem?_append_right (by simpa using hi), List.getElem?_replicate] at h
    split at h <;> cases h
/-- the end of a body -/
theorem fin_ok {γ : Ga} {H : Hp} {s : S} {F : Fn} {Q : VK} {E : XK} {o : O} {wx : WX} (hE : ∀ c d σ H, wx c d σ H ↔ E c d H) (hl : γ.length = s.length) (h : post W (relT W) (fun c d H => E c d H) γ H Q (fin F s.length o)) :
    postS W wx γ H { nx := fun _ H' => Q .non H', rt := Q } o := by
  cases o with
  | nx σd s1 =>
    intro γ' H' σ x st en
    have h : post W (relT W) (fun c d H => E c d H) γ H Q (.ok (.t .non) (if F.keep then s1 else s1.take s.length)) := h
    by_cases hk : F.keep = true
    · rw [if_pos hk] at h
      exact h γ' H' .non x st rfl
    · rw [if_neg hk] at h
      exact h (γ'.take s.length) H' .non (ext_take x (Nat.le_of_eq hl)) (st.take _) rfl
  | rt d s1 =>
    intro γ' H' v x st r
    unfold fin at h
    dsimp only at h
    by_cases hk : F.keep = true
    · rw [if_pos hk] at h
      exact h γ' H' v x st r
    · rw [if_neg hk] at h
      cases d with
      | t y => exact h (γ'.take s.length) H' v (ext_take x (Nat.le_of_eq hl)) (st.take _) (Rep.ext0 ext0_take y v r)
      | c n =>
        have h : post W (relT W) (fun c d H => E c d H) γ H Q (if n < s.length then .ok (.c n) (s1.take s.length) else .no) := h
        split at h
        · rename_i hn
          exact h (γ'.take s.length) H' v (ext_take x (Nat.le_of_eq hl)) (st.take _) (RepD.take (Nat.le_refl _) r (decide_eq_true hn))
        · exact h.elim
  | ex c fs σd s1 =>
    intro γ' H' σ d x st en z
    have h : post W (relT W) (fun c d H => E c d H) γ H Q (.ex c fs (s1.take s.length)) := h
    exact (hE _ _ _ _).mpr (ex_post h (ext_take x (Nat.le_of_eq hl)) (st.take _) (z.ext0 ext0_take))
  | bk σd s1 => exact h.elim
  | ct σd s1 => exact h.elim
  | no => exact h.elim
theorem fct_of (S0 : FS W tb g0 ft) {k : Nat} (h : ∀ f, FnOk W.P W.w W.K W.mg W.base (L2.CX W.P W.w) (2 * k) (W.fa f) (W.fd f) (W.fps f) (spF W (W.fps f).length (callN ft g0 k f))) : Fct W tb { g0 with call := callN ft g0 k } (2 * k) where
  fn := fun f x e => ⟨(S0.fn f x e).1, h f, (S0.fn f x e).2⟩
  bnd := fun f n e => ⟨(S0.bnd f n e).bnd, (S0.bnd f n e).len⟩
  cl := S0.cl
  made := fun c e => ⟨(S0.made c e).1, h _, (S0.made c e).2⟩
  ini := S0.ini
  att := S0.att
  mth := fun c m f e => ⟨(S0.mth c m f e).1, (S0.mth c m f e).2, h f, (S0.mth c m f e).2.mth.kp⟩
  free := S0.free
  const := S0.const
  gcd := S0.gcd
/-- every def keeps its promise, as deep as there is room -/
theorem fn_all (S0 : FS W tb g0 ft) : ∀ k f, FnOk W.P W.w W.K W.mg W.base (L2.CX W.P W.w) (2 * k) (W.fa f) (W.fd f) (W.fps f) (spF W (W.fps f).length (callN ft g0 k f))
  | 0, f => ⟨fun vs H Q E h => h.1, fun A outer s H args us vs Q E hr e0 hb r h => by
      obtain ⟨_, γ, s1, ds, _, _, h⟩ := h
      exact h.elim⟩
  | k + 1, f => by
    cases ef : ft f with
    | none =>
      refine ⟨fun vs H Q E h => h.1, fun A outer s H args us vs Q E hr e0 hb r h => ?_⟩
      obtain ⟨_, γ, s1, ds, _, _, h⟩ := h
      unfold callN at h
      rw [ef] at h
      exact h.elim
    | some F =>
      obtain ⟨name, qual, params, body, scope, dvs, kws, N, D, sc, ck, hnp, hnn⟩ := S0.def_ f F ef
      have FC := fct_of S0 (fn_all S0 k)
      refine D.ok (k := 2 * k + 1) sc (fun vs H Q E h => h.1) fun cdv A outer s H vs Q E hr h => ?_
      obtain ⟨hl, γ, s1, ds, rd, st, h⟩ := h
      unfold callN at h
      rw [ef] at h
      have h : post W (relT W) E γ H Q (callF { g0 with call := callN ft g0 k } F ds s1) := h
      unfold callF at h
      have hd : ds.length = F.np := by rw [← rd.length, hl, hnp]
      rw [if_pos hd] at h
      have hst : (cxOf (L2.CX W.P W.w) W.P W.w W.K W.mg W.base N qual scope (W.fa f) cdv A outer s H E).stack = (cxOf (L2.CX W.P W.w) W.P W.w W.K W.mg W.base N qual scope (W.fa f) cdv A outer s H E).env :: (cxOf (L2.CX W.P W.w) W.P W.w W.K W.mg W.base N qual scope (W.fa f) cdv A outer s H E).outer := rfl
      have c : CtxOk W (cxOf (L2.CX W.P W.w) W.P W.w W.K W.mg W.base N qual scope (W.fa f) cdv A outer s H E) ⟨N, scope, wrOf scope⟩ (2 * k) := by
        refine { prog := rfl, w := rfl, K := rfl, mg := rfl, base := rfl, N := rfl, sc := rfl, nd := sc.nd, calm := rfl, room := hr, wr := fun x hx => ?_ }
        have hx : (match scope.names.lookup x with
          | some .local => true
          | some .cell => true
          | _ => false) = true := hx
        split at hx
        · rename_i e
          exact ⟨.inl e, .inr e⟩
        · rename_i e
          exact ⟨.inr e, .inl rfl⟩
        · cases hx
      refine ⟨_, sSs FC c (takes_of rfl rfl rfl rfl) (passes_of rfl) F.body body ck, γ, _, s1, ?_, st, fin_ok (fun _ _ _ _ => Iff.rfl) st.len h⟩
      rw [hnn]
      exact env_start rd hd
end
end Z
end
section
set_option Elab.async false
set_option linter.all false
set_option maxRecDepth 100000
set_option maxHeartbeats 4000000
set_option autoImplicit false
namespace Z
open PySem PySem.Spec L2

/-- a def of the text, its names by slots, its parameters, its term, the global that it stands under -/
structure Df where
  d : He.DefD
  N : List Str
  ps : List Str
  fn : Fn
  gname : Option Str := none
/-- a class: its name, the place of its __init__, is it made, is it a plain one -/
structure Cl where
  name : Str
  ini : Nat := 0
  made : Bool := false
  plain : Bool := false
/-- all that a text holds -/
structure Lib where
  dfs : List Df
  cls : List Cl := []
  atts : List (Nat × Str) := []
  mths : List (Nat × Str × Nat) := []
  consts : List (Str × T) := []
  frees : List Str := []
  gcd : Bool := false
  bnds : List (Nat × Nat) := []
  dfl : Nat → Nat → List T := fun _ _ => []
namespace Lib
variable (L : Lib)
def at_ (f : Nat) : Str × Option Str := match L.dfs[f]? with
  | some d => d.d.at_
  | none => ("", none)
def ps (f : Nat) : List Str := match L.dfs[f]? with
  | some d => d.ps
  | none => []
def cn (c : Nat) : Str := match L.cls[c]? with
  | some z => z.name
  | none => ""
def ft (f : Nat) : Option Fn := match L.dfs[f]? with
  | some d => some d.fn
  | none => none
def ini (c : Nat) : Nat := match L.cls[c]? with
  | some z => z.ini
  | none => 0
def mth (c : Nat) (m : Str) : Option Nat := (L.mths.find? fun z => decide (z.1 = c) && decide (z.2.1 = m)).map (·.2.2)
def g0 : G := ⟨fun _ _ _ => .no, L.dfl, L.consts.map (·.2), L.ini, L.mth, fun c f => decide ((c, f) ∈ L.atts)⟩
def tb : Tb where
  fname := fun f => match L.dfs[f]? with
    | some d => d.gname
    | none => none
  cname := fun c => match L.cls[c]? with
    | some z => some z.name
    | none => none
  ini := L.ini
  made := fun c => match L.cls[c]? with
    | some z => z.made
    | none => false
  bnd := fun f n => decide ((f, n) ∈ L.bnds)
  mths := L.mths
  consts := L.consts
  frees := L.frees
  gcd := L.gcd
def fns : List He.DefD := L.dfs.map (·.d)
def conF : Str × T → Option He.Fa
  | (x, .int i) => some (.int x i)
  | (x, .str z) => some (.str x z)
  | _ => none
def fa : List He.Fa := L.dfs.filterMap (fun d => d.gname.map He.Fa.glo) ++ (L.cls.map (fun c => He.Fa.glo c.name) ++ ((L.cls.filter (·.made)).map (fun c => He.Fa.mkr c.name) ++ ((L.cls.filter (·.plain)).map (fun c => He.Fa.cls c.name) ++
  (L.atts.map (fun z => He.Fa.noat (L.cn z.1) z.2) ++ (L.mths.map (fun z => He.Fa.meth (L.cn z.1) z.2.1) ++ (L.frees.map He.Fa.free ++ L.consts.filterMap conF))))))
/-- what is looked at besides -/
def ex (K : PySem.W.Frag) : Bool := !L.gcd || He.eqO (PySem.W.nsIn K mainGlobals "gcd") (some (some (.builtin "math.gcd")))
def scB (N ps : List Str) (sc : Scope) : Bool := (match sc.kind with | .function => true | _ => false) && !sc.isCoroutine && !sc.isGenerator && decide N.Nodup && decide (N.take ps.length = ps) &&
  (ps.all fun x => decide (sc.names.lookup x = some .local) || decide (sc.names.lookup x = some .cell)) && sc.names.all fun y => decide (y.2 ≠ .free)
/-- one def's text against its term -/
def okD (d : Df) : Bool := scB d.N d.ps d.d.scope && chkSs L.tb d.fn.body ⟨d.N, d.d.scope, wrOf d.d.scope⟩ d.d.body && decide (d.fn.np = d.ps.length) && decide (d.fn.nn = d.N.length)
/-- the tables agree -/
def okT : Bool := (L.dfs.all fun d => match d.gname with | some x => decide (d.d.at_ = (x, none)) | none => true) && (L.cls.all fun c => !c.made || decide (L.at_ c.ini = (c.name, some ("__init__" : Str)))) &&
  (L.atts.all fun z => match L.cls[z.1]? with | some c => c.plain | none => false) && (L.mths.all fun z => (match L.cls[z.1]? with | some c => c.plain | none => false) && decide (L.at_ z.2.2 = (L.cn z.1, some z.2.1))) &&
  L.consts.all fun z => (conF z).isSome
def fdAt (K : PySem.W.Frag) (a : Addr) : FuncData := match K.lookup a with
  | some ⟨_, _, .func fd, _⟩ => fd
  | _ => default
def W (P : Program) (w : World) (K : PySem.W.Frag) (mg : Str → Option Value) (base : Heap) : Wd := ⟨P, w, K, mg, base, fun c => He.ga K (L.cn c), fun f => He.fAd K (L.at_ f), fun f => fdAt K (He.fAd K (L.at_ f)), L.ps⟩
end Lib
theorem says_fact {fa : List He.Fa} {fn : List He.DefD} {K : PySem.W.Frag} (c : He.SaysD fa fn K) {f : He.Fa} (h : f ∈ fa) : f.ok K = true := by
  obtain ⟨i, hi, e⟩ := List.getElem_of_mem h
  exact c.fact i (by rw [List.getElem?_eq_getElem hi, e])
theorem says_def {fa : List He.Fa} {fn : List He.DefD} {K : PySem.W.Frag} (c : He.SaysD fa fn K) {d : He.DefD} (h : d ∈ fn) : FunD K d.name d.qual d.params d.body d.scope (d.dvs K) (d.kws K) (He.fAd K d.at_) (Lib.fdAt K (He.fAd K d.at_)) := by
  obtain ⟨i, hi, e⟩ := List.getElem_of_mem h
  obtain ⟨fd, F⟩ := c.def_ i (d := d) (by rw [List.getElem?_eq_getElem hi, e])
  have : Lib.fdAt K (He.fAd K d.at_) = fd := by
    obtain ⟨oc, od, dV, kV, doc, pm, an, cdv, ct, osl, h1, h2, _⟩ := F.ex
    unfold Lib.fdAt
    rw [h2]
  rw [this]
  exact F
theorem scB_ok {N ps : List Str} {sc : Scope} (h : Lib.scB N ps sc = true) : FnScope N ps sc := by
  unfold Lib.scB at h
  obtain ⟨h, h7⟩ := and2 h
  obtain ⟨h, h6⟩ := and2 h
  obtain ⟨h, h5⟩ := and2 h
  obtain ⟨h, h4⟩ := and2 h
  obtain ⟨h, h3⟩ := and2 h
  obtain ⟨h1, h2⟩ := and2 h
  refine ⟨?_, by simpa using h2, by simpa using h3, of_decide_eq_true h4, of_decide_eq_true h5, fun x hx => ?_, fun y hy => of_decide_eq_true (List.all_eq_true.mp h7 y hy)⟩
  · split at h1
    · assumption
    · cases h1
  · have z := List.all_eq_true.mp h6 x hx
    rw [Bool.or_eq_true] at z
    exact z.imp of_decide_eq_true of_decide_eq_true
section
variable {L : Lib} {P : Program} {w : World} {K : PySem.W.Frag} {mg : Str → Option Value} {base h : Heap}
/-- all that the defs lean on -/
theorem fs_of (X : K.In h) (G : h.Ns mainGlobals mg) (c : He.SaysD L.fa L.fns K) (ce : L.ex K = true) (ht : L.okT = true) (hd : (L.dfs.all fun d => L.okD d) = true) (hb : ∀ f n, (f, n) ∈ L.bnds → BndOk (L.W P w K mg base) L.g0 f n) : FS (L.W P w K mg base) L.tb L.g0 L.ft := by
  unfold Lib.okT at ht
  obtain ⟨ht, t5⟩ := and2 ht
  obtain ⟨ht, t4⟩ := and2 ht
  obtain ⟨ht, t3⟩ := and2 ht
  obtain ⟨t1, t2⟩ := and2 ht
  have fact : ∀ {f : He.Fa}, f ∈ L.fa → f.ok K = true := fun hf => says_fact c hf
  have dfget : ∀ {f : Nat} {d : Df}, L.dfs[f]? = some d → d.d ∈ L.fns ∧ d ∈ L.dfs := fun {f d} e => ⟨List.mem_map_of_mem (List.mem_of_getElem? e), List.mem_of_getElem? e⟩
  have clget : ∀ {n : Nat} {z : Cl}, L.cls[n]? = some z → L.cn n = z.name := fun {n z} e => by
    unfold Lib.cn
    rw [e]
  have kp : ∀ {f : Nat} {d : Df}, L.dfs[f]? = some d → PySem.W.keepIn K (.ref (He.fAd K d.d.at_)) = true := fun {f d} e => (says_def c (dfget e).1).kp
  refine { def_ := fun f F e => ?_, fn := fun f x e => ?_, bnd := fun f n e => hb f n (of_decide_eq_true e), cl := fun n x e => ?_, made := fun n e => ?_, ini := fun _ => rfl, att := fun n f e => ?_, mth := fun n m f e => ?_, free := fun x hx => ?_, const := fun i x t e => ?_, gcd := fun e => ?_ }
  · have e : (match L.dfs[f]? with
      | some d => some d.fn
      | none => none) = some F := e
    cases q : L.dfs[f]? with
    | none => rw [q] at e; cases e
    | some d =>
      rw [q] at e
      cases e
      have od := List.all_eq_true.mp hd d (dfget q).2
      unfold Lib.okD at od
      obtain ⟨od, o4⟩ := and2 od
      obtain ⟨od, o3⟩ := and2 od
      obtain ⟨o1, o2⟩ := and2 od
      have ea : L.at_ f = d.d.at_ := by
        unfold Lib.at_
        rw [q]
      have ep : L.ps f = d.ps := by
        unfold Lib.ps
        rw [q]
      refine ⟨d.d.name, d.d.qual, d.d.params, d.d.body, d.d.scope, d.d.dvs K, d.d.kws K, d.N, ?_, ?_, o2, ?_, of_decide_eq_true o4⟩
      · show FunD K _ _ _ _ _ _ _ (He.fAd K (L.at_ f)) (Lib.fdAt K (He.fAd K (L.at_ f)))
        rw [ea]
        exact says_def c (dfget q).1
      · show FnScope d.N (L.ps f) d.d.scope
        rw [ep]
        exact scB_ok o1
      · show d.fn.np = (L.ps f).length
        rw [ep]
        exact of_decide_eq_true o3
  · have e : (match L.dfs[f]? with
      | some d => d.gname
      | none => none) = some x := e
    cases q : L.dfs[f]? with
    | none => rw [q] at e; cases e
    | some d =>
      rw [q] at e
      have e : d.gname = some x := e
      have ea : L.at_ f = d.d.at_ := by
        unfold Lib.at_
        rw [q]
      have z := List.all_eq_true.mp t1 d (dfget q).2
      rw [e] at z
      have z : d.d.at_ = (x, none) := of_decide_eq_true z
      have m1 : He.Fa.glo x ∈ L.fa := List.mem_append_left _ (List.mem_filterMap.mpr ⟨d, (dfget q).2, by rw [e]; rfl⟩)
      have ef : (L.W P w K mg base).fa f = He.ga K x := by
        show He.fAd K (L.at_ f) = _
        rw [ea, z]
        rfl
      rw [ef]
      refine ⟨He.glo_ok X G (fact m1), ?_⟩
      have := kp q
      rw [z] at this
      exact this
  · have e : (match L.cls[n]? with
      | some z => some z.name
      | none => none) = some x := e
    cases q : L.cls[n]? with
    | none => rw [q] at e; cases e
    | some z =>
      rw [q] at e
      cases e
      have m1 : He.Fa.glo z.name ∈ L.fa := List.mem_append_right _ (List.mem_append_left _ (List.mem_map.mpr ⟨z, List.mem_of_getElem? q, rfl⟩))
      show mg z.name = some (.ref (He.ga K (L.cn n)))
      rw [clget q]
      exact He.glo_ok X G (fact m1)
  · have e : (match L.cls[n]? with
      | some z => z.made
      | none => false) = true := e
    cases q : L.cls[n]? with
    | none => rw [q] at e; cases e
    | some z =>
      rw [q] at e
      have e : z.made = true := e
      have m1 : He.Fa.mkr z.name ∈ L.fa := List.mem_append_right _ (List.mem_append_right _ (List.mem_append_left _ (List.mem_map.mpr ⟨z, List.mem_filter.mpr ⟨List.mem_of_getElem? q, e⟩, rfl⟩)))
      have z1 := List.all_eq_true.mp t2 z (List.mem_of_getElem? q)
      rw [e] at z1
      have z1 : L.at_ z.ini = (z.name, some ("__init__" : Str)) := of_decide_eq_true (by simpa using z1)
      have ei : L.ini n = z.ini := by
        unfold Lib.ini
        rw [q]
      have ef : (L.W P w K mg base).fa (L.g0.ini n) = He.ma K (He.ga K z.name) "__init__" := by
        show He.fAd K (L.at_ (L.ini n)) = _
        rw [ei, z1]
        rfl
      rw [ef]
      have mk := He.mkr_ok (fact m1)
      refine ⟨?_, ?_⟩
      · show Mk K (He.ga K (L.cn n)) _
        rw [clget q]
        exact mk
      · cases qd : L.dfs[z.ini]? with
        | none =>
          unfold Lib.at_ at z1
          rw [qd] at z1
          have z2 := congrArg Prod.snd z1
          cases z2
        | some d =>
          have ea : L.at_ z.ini = d.d.at_ := by
            unfold Lib.at_
            rw [qd]
          have := kp qd
          rw [← ea, z1] at this
          exact this
  · have e : (n, f) ∈ L.atts := of_decide_eq_true e
    have z := List.all_eq_true.mp t3 _ e
    cases q : L.cls[n]? with
    | none => simp [q] at z
    | some c' =>
      simp only [q] at z
      have m1 : He.Fa.cls c'.name ∈ L.fa := List.mem_append_right _ (List.mem_append_right _ (List.mem_append_right _ (List.mem_append_left _ (List.mem_map.mpr ⟨c', List.mem_filter.mpr ⟨List.mem_of_getElem? q, z⟩, rfl⟩))))
      have m2 : He.Fa.noat (L.cn n) f ∈ L.fa := List.mem_append_right _ (List.mem_append_right _ (List.mem_append_right _ (List.mem_append_right _ (List.mem_append_left _ (List.mem_map.mpr ⟨(n, f), e, rfl⟩)))))
      refine ⟨?_, He.noat_ok (fact m2)⟩
      show Cls K (He.ga K (L.cn n))
      rw [clget q]
      exact He.cls_ok (fact m1)
  · have e : (L.mths.find? fun z => decide (z.1 = n) && decide (z.2.1 = m)).map (·.2.2) = some f := e
    obtain ⟨z, e1, e2⟩ := map_some' e
    have em := List.mem_of_find?_eq_some e1
    have ep := List.find?_some e1
    obtain ⟨p1, p2⟩ := and2 ep
    have p1 : z.1 = n := of_decide_eq_true p1
    have p2 : z.2.1 = m := of_decide_eq_true p2
    obtain ⟨a, b, d⟩ := z
    have p1 : a = n := p1
    have p2 : b = m := p2
    have e2 : d = f := e2
    subst p1 p2 e2
    have zz := List.all_eq_true.mp t4 _ em
    obtain ⟨z1, z2⟩ := and2 zz
    have z2 : L.at_ d = (L.cn a, some b) := of_decide_eq_true z2
    cases q : L.cls[a]? with
    | none => simp [q] at z1
    | some c' =>
      simp only [q] at z1
      have m1 : He.Fa.cls c'.name ∈ L.fa := List.mem_append_right _ (List.mem_append_right _ (List.mem_append_right _ (List.mem_append_left _ (List.mem_map.mpr ⟨c', List.mem_filter.mpr ⟨List.mem_of_getElem? q, z1⟩, rfl⟩))))
      have m2 : He.Fa.meth (L.cn a) b ∈ L.fa := List.mem_append_right _ (List.mem_append_right _ (List.mem_append_right _ (List.mem_append_right _ (List.mem_append_right _ (List.mem_append_left _ (List.mem_map.mpr ⟨(a, b, d), em, rfl⟩))))))
      refine ⟨em, ⟨?_, ?_⟩⟩
      · show Cls K (He.ga K (L.cn a))
        rw [clget q]
        exact He.cls_ok (fact m1)
      · have := He.meth_ok (fact m2)
        show Meth K (He.ga K (L.cn a)) b (He.fAd K (L.at_ d))
        rw [z2]
        exact this
  · have m1 : He.Fa.free x ∈ L.fa := List.mem_append_right _ (List.mem_append_right _ (List.mem_append_right _ (List.mem_append_right _ (List.mem_append_right _ (List.mem_append_right _ (List.mem_append_left _ (List.mem_map.mpr ⟨x, hx, rfl⟩)))))))
    exact He.free_ok X G (fact m1)
  · have e : L.consts[i]? = some (x, t) := e
    refine ⟨?_, ?_⟩
    · show (L.consts.map (·.2))[i]? = some t
      rw [List.getElem?_map, e]
      rfl
    · have z := List.all_eq_true.mp t5 _ (List.mem_of_getElem? e)
      obtain ⟨fa, hf⟩ := Option.isSome_iff_exists.mp z
      have m1 : fa ∈ L.fa := List.mem_append_right _ (List.mem_append_right _ (List.mem_append_right _ (List.mem_append_right _ (List.mem_append_right _ (List.mem_append_right _ (List.mem_append_right _ (List.mem_filterMap.mpr ⟨_, List.mem_of_getElem? e, hf⟩)))))))
      unfold Lib.conF at hf
      split at hf
      · rename_i q
        cases q
        cases hf
        obtain ⟨tk, hm⟩ := He.int_ok X G (fact m1)
        exact ⟨_, .int _, hm, ⟨_, rfl⟩, fun _ _ => rfl⟩
      · rename_i q
        cases q
        cases hf
        obtain ⟨tk, hm⟩ := He.str_ok X G (fact m1)
        exact ⟨_, .str _, hm, ⟨_, rfl⟩, fun _ _ => rfl⟩
      · cases hf
  · have e : L.gcd = true := e
    unfold Lib.ex at ce
    rw [e] at ce
    exact PySem.W.mg_of X G (He.eqO_ok (by simpa using ce))
end
/-! ### the head's look -/
abbrev AlZ : Type := He.AlD × Bool
def obsZ (n : Nat) (fa : List He.Fa) (fn : List He.DefD) (ex : PySem.W.Frag → Bool) (g : Addr → Option Obj) : AlZ := (He.obsDG n fa fn g, ex (He.frG g (He.asD g n)))
def hookZ (n : Nat) (fa : List He.Fa) (fn : List He.DefD) (ex : PySem.W.Frag → Bool) : PySem.W.Hook where
  α := AlZ
  obs := fun s => obsZ n fa fn ex s.heap.get?
  val := fun _ => (He.valD fn, true)
  says := fun _ h => ∃ K : PySem.W.Frag, K.In h ∧ He.SaysD fa fn K ∧ ex K = true
  of := fun w s e => ⟨He.frG s.heap.get? (He.asD s.heap.get? n), He.frG_in, (congrArg Prod.fst e : _), (congrArg Prod.snd e : _)⟩
  keeps := fun _ _ _ ⟨K, hK, c, d⟩ k => ⟨K, PySem.W.Frag.In.keeps hK k, c, d⟩
theorem obsZ_eq {n : Nat} {fa : List He.Fa} {fn : List He.DefD} {ex : PySem.W.Frag → Bool} {g : Addr → Option Obj} {s : Shared} (h : ∀ a, g a = s.heap.get? a) : obsZ n fa fn ex g = (hookZ n fa fn ex).obs s := by
  have e : g = s.heap.get? := funext h
  rw [e]
  rfl
/-- the law's own promise -/
theorem law_sp {W : Wd} {fn : List D → S → R D} {ns : List Int} {H : Hp} {a : Addr} {s : S} (hS : SqL W.K H a (ns.map V.int)) (h : fn [.t (.scr ns)] [] = .ok (.t (.bl true)) s) : spF W 1 fn [.ref a] H (fun v _ => v = .bl true) fun _ _ _ => False := by
  refine ⟨rfl, [], [], [.t (.scr ns)], ⟨_, _, rfl, ⟨a, rfl, ?_⟩, rfl⟩, ⟨rfl, fun n m a b c h => (by cases h), fun n c h => (by cases h)⟩, ?_⟩
  · rcases hS with hS | hS
    · exact .inl ⟨fun ⟨k, l⟩ => (by cases l), hS⟩
    · exact .inr hS
  · rw [h]
    exact fun γ' H' v x st r => r
end Z
end
section
set_option Elab.async false
set_option linter.all false
set_option maxRecDepth 100000
set_option maxHeartbeats 4000000
set_option autoImplicit false
namespace Z
open PySem PySem.Spec L2

/-- a law's promise: True for each script -/
def spT (K : PySem.W.Frag) : Sp := fun vs H Q _ => ∃ (a : Addr) (ns : List Int), vs = [.ref a] ∧ SqL K H a (ns.map V.int) ∧ ns.length ≤ 63 ∧ ∀ H', Q (.bl true) H'
theorem FnOk.calm {P : Program} {w : World} {K : PySem.W.Frag} {mg : Str → Option Value} {base : Heap} {k : Nat} {f : Addr} {fd : FuncData} {ps : List Str} {sp sp' : Sp} (F : FnOk P w K mg base (L2.CX P w) k f fd ps sp) (hi : ∀ vs H Q E, sp' vs H Q E → sp vs H Q E0) : FnOk P w K mg base CX0 k f fd ps sp' := by
  refine ⟨fun vs H Q E h => F.len vs H Q E0 (hi _ _ _ _ h), fun A outer s H args us vs Q E hr e0 hb rv h => codeAny_mono (F.run A outer s H args us vs Q E0 hr e0 hb rv (hi _ _ _ _ h)) fun r s' z => ?_⟩
  cases r with
  | ok fl => cases fl <;> exact z
  | error e =>
    rcases z with ⟨_, _, _, _, _, _, _, _, _, _, _, _, u⟩
    exact u
theorem law_walk {l : PySem.W.OpenLaw} {q : Program} {loose : List Str} {XP : (Str → Option Value) → Heap → Prop} {d : DefRec} {L : Lib} {n f k : Nat} {D : Df} {x : Str} (hn : l.most = some 63) (hdf : d.params.defaults = []) (hr : Room (2 * k) callerA) (hD : L.dfs[f]? = some D) (hg : D.gname = some d.name) (hps : D.ps = [x])
    (ht : L.okT = true) (hd : (L.dfs.all fun d => L.okD d) = true) (hdf2 : D.d.dfl = []) (hb1 : ∀ (kV doc pm : Value) (an : Option Addr) (cdv ct : Value) (us : List Value), us.length = D.ps.length → bindArgs (PySem.W.fnOf D.d.name D.d.qual D.d.params D.d.body D.d.scope .none kV doc pm an cdv ct) ⟨us, []⟩ = pure (D.ps.zip us))
    (hb : ∀ (P : Program) (w : World) (K : PySem.W.Frag) (mg : Str → Option Value) (base : Heap), He.SaysD L.fa L.fns K → ∀ f n, (f, n) ∈ L.bnds → BndOk (L.W P w K mg base) L.g0 f n)
    (main : ∀ ns : List Int, ns.length ≤ 63 → ∃ s, callN L.ft L.g0 k f [.t (.scr ns)] [] = .ok (.t (.bl true)) s) :
    PySem.W.WalkO q loose XP (hookZ n L.fa L.fns L.ex).says l.row.toRowW d [] (fun f vs => PySem.call f vs) := by
  refine L2.walk_ofE (l := l) (n := 63) (k := 2 * k) (x := x) (CX := CX0) hn (by decide) hdf hr ?_ fun _ _ _ _ z => z
  intro w mg fa h Y G hmg
  obtain ⟨K, KX, c, ce⟩ := Y
  have hmem : D.d ∈ L.fns := List.mem_map_of_mem (List.mem_of_getElem? hD)
  have FD := says_def c hmem
  have ta : D.d.at_ = (d.name, none) := by
    unfold Lib.okT at ht
    obtain ⟨ht, _⟩ := and2 ht
    obtain ⟨ht, _⟩ := and2 ht
    obtain ⟨ht, _⟩ := and2 ht
    obtain ⟨t1, _⟩ := and2 ht
    have z := List.all_eq_true.mp t1 D (List.mem_of_getElem? hD)
    rw [hg] at z
    exact of_decide_eq_true z
  have efa : fa = He.fAd K D.d.at_ := by
    have m1 : He.Fa.glo d.name ∈ L.fa := List.mem_append_left _ (List.mem_filterMap.mpr ⟨D, List.mem_of_getElem? hD, by rw [hg]; rfl⟩)
    have := hmg.symm.trans (He.glo_ok KX G (says_fact c m1))
    cases this
    rw [ta]
    rfl
  subst efa
  have dv0 : D.d.dvs K = [] := by
    unfold He.DefD.dvs
    rw [hdf2]
    rfl
  rw [dv0] at FD
  refine ⟨K, Lib.fdAt K (He.fAd K D.d.at_), spT K, KX, fun s u => ?_, fun H a ns hl _ hS => ⟨a, ns, rfl, hS, hl, fun _ => rfl⟩, fun base KB GB => ?_⟩
  · have := FunD.bindsA (ps := [x]) FD (fun kV doc pm an cdv ct us hl => by have z := hb1 kV doc pm an cdv ct us (by rw [hps]; exact hl); rw [hps] at z; exact z) s [u] rfl
    exact this
  · have S0 := fs_of (P := l.prog) (w := w) (base := base) KB GB c ce ht hd (hb _ _ _ _ _ c)
    have F := fn_all S0 k f
    have ea : L.at_ f = D.d.at_ := by
      unfold Lib.at_
      rw [hD]
    have ep : L.ps f = [x] := by
      unfold Lib.ps
      rw [hD]
      exact hps
    have F2 : FnOk l.prog w K mg base (L2.CX l.prog w) (2 * k) (He.fAd K (L.at_ f)) (Lib.fdAt K (He.fAd K (L.at_ f))) (L.ps f) (spF (L.W l.prog w K mg base) (L.ps f).length (callN L.ft L.g0 k f)) := F
    rw [ea, ep] at F2
    refine FnOk.calm F2 fun vs H Q E h => ?_
    obtain ⟨a, ns, rfl, hS, hl, hQ⟩ := h
    obtain ⟨s, hm⟩ := main ns hl
    refine ⟨rfl, [], [], [.t (.scr ns)], ⟨_, _, rfl, ⟨a, rfl, ?_⟩, rfl⟩, ⟨rfl, fun n m a b c h => (by cases h), fun n c h => (by cases h)⟩, ?_⟩
    · rcases hS with hS | hS
      · exact .inl ⟨fun ⟨k, l⟩ => (by cases l), hS⟩
      · exact .inr hS
    · rw [hm]
      intro γ' H' v x st r
      have r : v = .bl true := r
      subst r
      exact hQ H'
end Z
end
section
set_option Elab.async false
set_option linter.all false
set_option maxRecDepth 100000
set_option maxHeartbeats 4000000
set_option autoImplicit false
/-! runs of the evaluator, row by row -/
namespace Zr
open Z
open PySem L2

abbrev I (i : Int) : T := .int i
abbrev fr (p : Int × Int) : T := .tup [.int p.1, .int p.2]
def Bd (k : Nat) (i : Int) : Prop := i.natAbs < 2 ^ k
theorem Bd.mono {k l : Nat} {i : Int} (h : Bd k i) (hl : k ≤ l) : Bd l i := Nat.lt_of_lt_of_le h (Nat.pow_le_pow_right (by decide) hl)
theorem Bd.log {k : Nat} {i : Int} (h : Bd k i) : i.natAbs.log2 ≤ k := by
  by_cases e : i.natAbs = 0
  · rw [e]; exact Nat.zero_le _
  · exact Nat.le_of_lt ((Nat.log2_lt e).mpr h)
theorem Bd.mul {k l : Nat} {i j : Int} (h : Bd k i) (h' : Bd l j) : Bd (k + l) (i * j) := by
  unfold Bd
  rw [Int.natAbs_mul, Nat.pow_add]
  rcases Nat.eq_zero_or_pos i.natAbs with e | e
  · rw [e, Nat.zero_mul]; exact Nat.mul_pos (Nat.pow_pos (by decide)) (Nat.pow_pos (by decide))
  · exact Nat.mul_lt_mul_of_lt_of_le h (Nat.le_of_lt h') (Nat.pow_pos (by decide))
theorem Bd.add {k l : Nat} {i j : Int} (h : Bd k i) (h' : Bd k j) (hl : k + 1 ≤ l) : Bd l (i + j) := by
  refine Bd.mono ?_ hl
  unfold Bd at *
  rw [Nat.pow_succ]
  omega
theorem Bd.sub {k l : Nat} {i j : Int} (h : Bd k i) (h' : Bd k j) (hl : k + 1 ≤ l) : Bd l (i - j) := by
  refine Bd.mono ?_ hl
  unfold Bd at *
  rw [Nat.pow_succ]
  omega
theorem Bd.neg {k : Nat} {i : Int} (h : Bd k i) : Bd k (-i) := by
  unfold Bd at *
  omega
theorem mulT {k l : Nat} {i j : Int} (h : Bd k i) (h' : Bd l j) (hl : k + l < 1000000) : binT .Mult (I i) (I j) = some (I (i * j)) := if_pos (Nat.lt_of_le_of_lt (Nat.add_le_add h.log h'.log) hl)
theorem divT {k : Nat} {i j : Int} (h : 0 < j) (h' : Bd k j) (hl : k < 9000) : binT .FloorDiv (I i) (I j) = some (I (i / j)) := if_pos ⟨h, Nat.lt_of_le_of_lt h'.log hl⟩
theorem modT {i j : Int} (h : 0 < j) : binT .Mod (I i) (I j) = some (I (i % j)) := if_pos h
theorem addT {i j : Int} : binT .Add (I i) (I j) = some (I (i + j)) := (rfl)
theorem subTT {i j : Int} : binT .Sub (I i) (I j) = some (I (i - j)) := (rfl)
theorem callN_succ {ft : Nat → Option Fn} {g : G} {k f : Nat} {F : Fn} {ds : List D} {s : S} (h : ft f = some F) : callN ft g (k + 1) f ds s = callF { g with call := callN ft g k } F ds s := by
  show (match ft f with
    | some F => callF { g with call := callN ft g k } F ds s
    | none => .no) = _
  rw [h]
theorem callF_eq {g : G} {F : Fn} {ds : List D} {s : S} (h : ds.length = F.np) : callF g F ds s = fin F s.length (exs g F.body (ds.map some ++ List.replicate (F.nn - F.np) none) s) := if_pos h
theorem fin_rt {F : Fn} {n0 : Nat} {x : T} {s : S} (h : F.keep = false) : fin F n0 (.rt (.t x) s) = .ok (.t x) (s.take n0) := by
  unfold fin
  rw [h]
  rfl
theorem fin_nx {F : Fn} {n0 : Nat} {σ : Sl} {s : S} (h : F.keep = false) : fin F n0 (.nx σ s) = .ok (.t .non) (s.take n0) := by
  unfold fin
  rw [h]
  rfl
theorem cast0 : ((0 : Nat) : Int) = 0 := (rfl)
theorem cast1 : ((1 : Nat) : Int) = 1 := (rfl)
theorem cast2 : ((2 : Nat) : Int) = 2 := (rfl)
theorem cast3 : ((3 : Nat) : Int) = 3 := (rfl)
theorem cast4 : ((4 : Nat) : Int) = 4 := (rfl)
theorem cast5 : ((5 : Nat) : Int) = 5 := (rfl)
theorem take_all (s : S) : s.take s.length = s := List.take_length
theorem if_tt {α : Type} (a b : α) : (if true = true then a else b) = a := (rfl)
theorem if_ff {α : Type} (a b : α) : (if false = true then a else b) = b := (rfl)
theorem rb_ok {α β : Type} (a : α) (s : S) (k : α → S → R β) : (R.ok a s).bind k = k a s := (rfl)
theorem rt_ok {α : Type} (σ : Sl) (a : α) (s : S) (k : α → S → O) : (R.ok a s).then σ k = k a s := (rfl)
theorem of_some {α : Type} (a : α) (s : S) : R.of (some a) s = .ok a s := (rfl)
theorem lift2_t (s : S) (f : T → T → Option T) (a b : T) : lift2 s f (.t a) (.t b) = (f a b).map D.t := (rfl)
theorem view_t (s : S) (a : T) : view s (.t a) = some a := (rfl)
theorem subD_tup (s : S) (ds : List T) (i : Int) : subD s (.t (.tup ds)) (.t (.int i)) = (atI ds i).map D.t := (rfl)
theorem subD_lst (s : S) (ds : List T) (i : Int) : subD s (.t (.lst ds)) (.t (.int i)) = (atI ds i).map D.t := (rfl)
theorem ixN_lt {n : Nat} {i : Int} (h0 : 0 ≤ i) (h : i < n) : ixN n i = some i.toNat := by
  unfold ixN
  rw [if_pos h0, if_pos h]
theorem at0 {α : Type} (a : α) (l : List α) : atI (a :: l) 0 = some a := by
  unfold atI
  rw [ixN_lt (by decide) (by rw [List.length_cons]; omega)]
  rfl
theorem at1 {α : Type} (a b : α) (l : List α) : atI (a :: b :: l) 1 = some b := by
  unfold atI
  rw [ixN_lt (by decide) (by rw [List.length_cons, List.length_cons]; omega)]
  rfl
theorem at2 {α : Type} (a b c : α) (l : List α) : atI (a :: b :: c :: l) 2 = some c := by
  unfold atI
  rw [ixN_lt (by decide) (by rw [List.length_cons, List.length_cons, List.length_cons]; omega)]
  rfl
theorem at3 {α : Type} (a b c d : α) (l : List α) : atI (a :: b :: c :: d :: l) 3 = some d := by
  unfold atI
  rw [ixN_lt (by decide) (by rw [List.length_cons, List.length_cons, List.length_cons, List.length_cons]; omega)]
  rfl
theorem tupD2 (s : S) (a b : T) : tupD s [.t a, .t b] = .ok (.t (.tup [a, b])) s := (rfl)
theorem map_some {α β : Type} (f : α → β) (a : α) : Option.map f (some a) = some (f a) := (rfl)
theorem gE_0 {α : Type} (a : α) (l : List α) : (a :: l)[0]? = some a := (rfl)
theorem gE_s {α : Type} (a : α) (l : List α) (n : Nat) : (a :: l)[n + 1]? = l[n]? := (rfl)
theorem cmp_lt (i j : Int) : cmpT .Lt (I i) (I j) = some (decide (i < j)) := (rfl)
theorem cmp_le (i j : Int) : cmpT .LtE (I i) (I j) = some (decide (i ≤ j)) := (rfl)
theorem cmp_gt (i j : Int) : cmpT .Gt (I i) (I j) = some (decide (j < i)) := (rfl)
theorem cmp_ge (i j : Int) : cmpT .GtE (I i) (I j) = some (decide (j ≤ i)) := (rfl)
theorem eqT_int (i j : Int) : eqT (I i) (I j) = some (decide (i = j)) := by
  show some (PyData.eqv (.int i) (.int j)) = _
  rw [PyData.eqv.eq_5]
  congr 1
theorem cmp_eq (i j : Int) : cmpT .Eq (I i) (I j) = some (decide (i = j)) := eqT_int i j
theorem cmp_ne (i j : Int) : cmpT .NotEq (I i) (I j) = some (!decide (i = j)) := by
  show (eqT (I i) (I j)).map (!·) = _
  rw [eqT_int]
  rfl
theorem tru_bl (s : S) (b : Bool) : truD s (.t (.bl b)) = some b := (rfl)
theorem bl_not (s : S) (b : Bool) : (R.ok (D.t (.bl (!b))) s) = .ok (.t (.bl (!b))) s := (rfl)
theorem is_non (x : T) : cmpT .Is x .non = some (Z.isNon x) := by
  show isT x .non = _
  cases x <;> rfl
theorem isnt_non (x : T) : cmpT .IsNot x .non = some (!Z.isNon x) := by
  show (isT x .non).map (!·) = _
  cases x <;> rfl
theorem cmpIs_tup (l : List T) : Z.isNon (.tup l) = false := (rfl)
theorem cmpIsN_tup : Z.isNon .non = true := (rfl)
theorem tru_int (s : S) (i : Int) : truD s (.t (.int i)) = some (i != 0) := (rfl)
theorem mm1 (s : S) (x : T) : (view s (.t x)).bind tru = tru x := (rfl)
theorem mm2 (s : S) (a b c : T) : tupD s [.t a, .t b, .t c] = .ok (.t (.tup [a, b, c])) s := (rfl)
theorem mm3 (s : S) (a b c d : T) : tupD s [.t a, .t b, .t c, .t d] = .ok (.t (.tup [a, b, c, d])) s := (rfl)
/-! isinstance -/
theorem kit_NoneType_int : L2.kitB "NoneType" "int" = some false := by decide +kernel
theorem kit_NoneType_bool : L2.kitB "NoneType" "bool" = some false := by decide +kernel
theorem kit_NoneType_list : L2.kitB "NoneType" "list" = some false := by decide +kernel
theorem kit_NoneType_tuple : L2.kitB "NoneType" "tuple" = some false := by decide +kernel
theorem kit_NoneType_dict : L2.kitB "NoneType" "dict" = some false := by decide +kernel
theorem kit_bool_int : L2.kitB "bool" "int" = some true := by decide +kernel
theorem kit_bool_bool : L2.kitB "bool" "bool" = some true := by decide +kernel
theorem kit_bool_list : L2.kitB "bool" "list" = some false := by decide +kernel
theorem kit_bool_tuple : L2.kitB "bool" "tuple" = some false := by decide +kernel
theorem kit_bool_dict : L2.kitB "bool" "dict" = some false := by decide +kernel
theorem kit_int_int : L2.kitB "int" "int" = some true := by decide +kernel
theorem kit_int_bool : L2.kitB "int" "bool" = some false := by decide +kernel
theorem kit_int_list : L2.kitB "int" "list" = some false := by decide +kernel
theorem kit_int_tuple : L2.kitB "int" "tuple" = some false := by decide +kernel
theorem kit_int_dict : L2.kitB "int" "dict" = some false := by decide +kernel
theorem kit_str_int : L2.kitB "str" "int" = some false := by decide +kernel
theorem kit_str_bool : L2.kitB "str" "bool" = some false := by decide +kernel
theorem kit_str_list : L2.kitB "str" "list" = some false := by decide +kernel
theorem kit_str_tuple : L2.kitB "str" "tuple" = some false := by decide +kernel
theorem kit_str_dict : L2.kitB "str" "dict" = some false := by decide +kernel
theorem kit_tuple_int : L2.kitB "tuple" "int" = some false := by decide +kernel
theorem kit_tuple_bool : L2.kitB "tuple" "bool" = some false := by decide +kernel
theorem kit_tuple_list : L2.kitB "tuple" "list" = some false := by decide +kernel
theorem kit_tuple_tuple : L2.kitB "tuple" "tuple" = some true := by decide +kernel
theorem kit_tuple_dict : L2.kitB "tuple" "dict" = some false := by decide +kernel
theorem kit_list_int : L2.kitB "list" "int" = some false := by decide +kernel
theorem kit_list_bool : L2.kitB "list" "bool" = some false := by decide +kernel
theorem kit_list_list : L2.kitB "list" "list" = some true := by decide +kernel
theorem kit_list_tuple : L2.kitB "list" "tuple" = some false := by decide +kernel
theorem kit_list_dict : L2.kitB "list" "dict" = some false := by decide +kernel
theorem kit_dict_int : L2.kitB "dict" "int" = some false := by decide +kernel
theorem kit_dict_bool : L2.kitB "dict" "bool" = some false := by decide +kernel
theorem kit_dict_list : L2.kitB "dict" "list" = some false := by decide +kernel
theorem kit_dict_tuple : L2.kitB "dict" "tuple" = some false := by decide +kernel
theorem kit_dict_dict : L2.kitB "dict" "dict" = some true := by decide +kernel
/-- data whose kind isinstance tells -/
def Kd : T → Bool
  | .non => true | .bl _ => true | .int _ => true | .str _ => true | .tup _ => true | .lst _ => true | .dk _ => true
  | _ => false
def isIn : T → Bool
  | .int _ => true | .bl _ => true
  | _ => false
def isBl : T → Bool
  | .bl _ => true
  | _ => false
def isTup : T → Bool
  | .tup _ => true
  | _ => false
def isLst : T → Bool
  | .lst _ => true
  | _ => false
def isDk : T → Bool
  | .dk _ => true
  | _ => false
theorem isiT_int {x : T} (h : Kd x = true) : isiT x (.ty "int") = some (isIn x) := by
  cases x with
  | non => exact kit_NoneType_int
  | bl a => exact kit_bool_int
  | int a => exact kit_int_int
  | str a => exact kit_str_int
  | tup a => exact kit_tuple_int
  | lst a => exact kit_list_int
  | dk a => exact kit_dict_int
  | _ => cases h
theorem isi_int {x : T} (h : Kd x = true) : biT .isi [x, .ty "int"] = some (.bl (isIn x)) := by
  show (isiT x (.ty "int")).map T.bl = _
  rw [isiT_int h]
  rfl
theorem isiT_bool {x : T} (h : Kd x = true) : isiT x (.ty "bool") = some (isBl x) := by
  cases x with
  | non => exact kit_NoneType_bool
  | bl a => exact kit_bool_bool
  | int a => exact kit_int_bool
  | str a => exact kit_str_bool
  | tup a => exact kit_tuple_bool
  | lst a => exact kit_list_bool
  | dk a => exact kit_dict_bool
  | _ => cases h
theorem isi_bool {x : T} (h : Kd x = true) : biT .isi [x, .ty "bool"] = some (.bl (isBl x)) := by
  show (isiT x (.ty "bool")).map T.bl = _
  rw [isiT_bool h]
  rfl
theorem isiT_tuple {x : T} (h : Kd x = true) : isiT x (.ty "tuple") = some (isTup x) := by
  cases x with
  | non => exact kit_NoneType_tuple
  | bl a => exact kit_bool_tuple
  | int a => exact kit_int_tuple
  | str a => exact kit_str_tuple
  | tup a => exact kit_tuple_tuple
  | lst a => exact kit_list_tuple
  | dk a => exact kit_dict_tuple
  | _ => cases h
theorem isi_tuple {x : T} (h : Kd x = true) : biT .isi [x, .ty "tuple"] = some (.bl (isTup x)) := by
  show (isiT x (.ty "tuple")).map T.bl = _
  rw [isiT_tuple h]
  rfl
theorem isiT_list {x : T} (h : Kd x = true) : isiT x (.ty "list") = some (isLst x) := by
  cases x with
  | non => exact kit_NoneType_list
  | bl a => exact kit_bool_list
  | int a => exact kit_int_list
  | str a => exact kit_str_list
  | tup a => exact kit_tuple_list
  | lst a => exact kit_list_list
  | dk a => exact kit_dict_list
  | _ => cases h
theorem isi_list {x : T} (h : Kd x = true) : biT .isi [x, .ty "list"] = some (.bl (isLst x)) := by
  show (isiT x (.ty "list")).map T.bl = _
  rw [isiT_list h]
  rfl
theorem isiT_dict {x : T} (h : Kd x = true) : isiT x (.ty "dict") = some (isDk x) := by
  cases x with
  | non => exact kit_NoneType_dict
  | bl a => exact kit_bool_dict
  | int a => exact kit_int_dict
  | str a => exact kit_str_dict
  | tup a => exact kit_tuple_dict
  | lst a => exact kit_list_dict
  | dk a => exact kit_dict_dict
  | _ => cases h
theorem isi_dict {x : T} (h : Kd x = true) : biT .isi [x, .ty "dict"] = some (.bl (isDk x)) := by
  show (isiT x (.ty "dict")).map T.bl = _
  rw [isiT_dict h]
  rfl
theorem isi_lt {x : T} (h : Kd x = true) : biT .isi [x, .tup [.ty "list", .ty "tuple"]] = some (.bl (isLst x || isTup x)) := by
  show (isiT x (.tup [.ty "list", .ty "tuple"])).map T.bl = _
  cases x with
  | non => show (((L2.kitB "NoneType" "list").bind fun b => if b then some true else L2.kitB "NoneType" "tuple").map T.bl) = _; rw [kit_NoneType_list, kit_NoneType_tuple]; rfl
  | bl a => show (((L2.kitB "bool" "list").bind fun b => if b then some true else L2.kitB "bool" "tuple").map T.bl) = _; rw [kit_bool_list, kit_bool_tuple]; rfl
  | int a => show (((L2.kitB "int" "list").bind fun b => if b then some true else L2.kitB "int" "tuple").map T.bl) = _; rw [kit_int_list, kit_int_tuple]; rfl
  | str a => show (((L2.kitB "str" "list").bind fun b => if b then some true else L2.kitB "str" "tuple").map T.bl) = _; rw [kit_str_list, kit_str_tuple]; rfl
  | tup a => show (((L2.kitB "tuple" "list").bind fun b => if b then some true else L2.kitB "tuple" "tuple").map T.bl) = _; rw [kit_tuple_list, kit_tuple_tuple]; rfl
  | lst a => show (((L2.kitB "list" "list").bind fun b => if b then some true else L2.kitB "list" "tuple").map T.bl) = _; rw [kit_list_list]; rfl
  | dk a => show (((L2.kitB "dict" "list").bind fun b => if b then some true else L2.kitB "dict" "tuple").map T.bl) = _; rw [kit_dict_list, kit_dict_tuple]; rfl
  | _ => cases h
theorem isi_int_non : biT .isi [.non, .ty "int"] = some (.bl false) := isi_int (x := .non) rfl
theorem isi_bool_non : biT .isi [.non, .ty "bool"] = some (.bl false) := isi_bool (x := .non) rfl
theorem isi_tuple_non : biT .isi [.non, .ty "tuple"] = some (.bl false) := isi_tuple (x := .non) rfl
theorem isi_list_non : biT .isi [.non, .ty "list"] = some (.bl false) := isi_list (x := .non) rfl
theorem isi_dict_non : biT .isi [.non, .ty "dict"] = some (.bl false) := isi_dict (x := .non) rfl
theorem isi_lt_non : biT .isi [.non, .tup [.ty "list", .ty "tuple"]] = some (.bl false) := isi_lt (x := .non) rfl
theorem isi_int_bl (a : Bool) : biT .isi [(.bl a), .ty "int"] = some (.bl true) := isi_int (x := (.bl a)) rfl
theorem isi_bool_bl (a : Bool) : biT .isi [(.bl a), .ty "bool"] = some (.bl true) := isi_bool (x := (.bl a)) rfl
theorem isi_tuple_bl (a : Bool) : biT .isi [(.bl a), .ty "tuple"] = some (.bl false) := isi_tuple (x := (.bl a)) rfl
theorem isi_list_bl (a : Bool) : biT .isi [(.bl a), .ty "list"] = some (.bl false) := isi_list (x := (.bl a)) rfl
theorem isi_dict_bl (a : Bool) : biT .isi [(.bl a), .ty "dict"] = some (.bl false) := isi_dict (x := (.bl a)) rfl
theorem isi_lt_bl (a : Bool) : biT .isi [(.bl a), .tup [.ty "list", .ty "tuple"]] = some (.bl false) := isi_lt (x := (.bl a)) rfl
theorem isi_int_int (a : Int) : biT .isi [(.int a), .ty "int"] = some (.bl true) := isi_int (x := (.int a)) rfl
theorem isi_bool_int (a : Int) : biT .isi [(.int a), .ty "bool"] = some (.bl false) := isi_bool (x := (.int a)) rfl
theorem isi_tuple_int (a : Int) : biT .isi [(.int a), .ty "tuple"] = some (.bl false) := isi_tuple (x := (.int a)) rfl
theorem isi_list_int (a : Int) : biT .isi [(.int a), .ty "list"] = some (.bl false) := isi_list (x := (.int a)) rfl
theorem isi_dict_int (a : Int) : biT .isi [(.int a), .ty "dict"] = some (.bl false) := isi_dict (x := (.int a)) rfl
theorem isi_lt_int (a : Int) : biT .isi [(.int a), .tup [.ty "list", .ty "tuple"]] = some (.bl false) := isi_lt (x := (.int a)) rfl
theorem isi_int_str (a : Str) : biT .isi [(.str a), .ty "int"] = some (.bl false) := isi_int (x := (.str a)) rfl
theorem isi_bool_str (a : Str) : biT .isi [(.str a), .ty "bool"] = some (.bl false) := isi_bool (x := (.str a)) rfl
theorem isi_tuple_str (a : Str) : biT .isi [(.str a), .ty "tuple"] = some (.bl false) := isi_tuple (x := (.str a)) rfl
theorem isi_list_str (a : Str) : biT .isi [(.str a), .ty "list"] = some (.bl false) := isi_list (x := (.str a)) rfl
theorem isi_dict_str (a : Str) : biT .isi [(.str a), .ty "dict"] = some (.bl false) := isi_dict (x := (.str a)) rfl
theorem isi_lt_str (a : Str) : biT .isi [(.str a), .tup [.ty "list", .ty "tuple"]] = some (.bl false) := isi_lt (x := (.str a)) rfl
theorem isi_int_tup (a : List T) : biT .isi [(.tup a), .ty "int"] = some (.bl false) := isi_int (x := (.tup a)) rfl
theorem isi_bool_tup (a : List T) : biT .isi [(.tup a), .ty "bool"] = some (.bl false) := isi_bool (x := (.tup a)) rfl
theorem isi_tuple_tup (a : List T) : biT .isi [(.tup a), .ty "tuple"] = some (.bl true) := isi_tuple (x := (.tup a)) rfl
theorem isi_list_tup (a : List T) : biT .isi [(.tup a), .ty "list"] = some (.bl false) := isi_list (x := (.tup a)) rfl
theorem isi_dict_tup (a : List T) : biT .isi [(.tup a), .ty "dict"] = some (.bl false) := isi_dict (x := (.tup a)) rfl
theorem isi_lt_tup (a : List T) : biT .isi [(.tup a), .tup [.ty "list", .ty "tuple"]] = some (.bl true) := isi_lt (x := (.tup a)) rfl
theorem isi_int_lst (a : List T) : biT .isi [(.lst a), .ty "int"] = some (.bl false) := isi_int (x := (.lst a)) rfl
theorem isi_bool_lst (a : List T) : biT .isi [(.lst a), .ty "bool"] = some (.bl false) := isi_bool (x := (.lst a)) rfl
theorem isi_tuple_lst (a : List T) : biT .isi [(.lst a), .ty "tuple"] = some (.bl false) := isi_tuple (x := (.lst a)) rfl
theorem isi_list_lst (a : List T) : biT .isi [(.lst a), .ty "list"] = some (.bl true) := isi_list (x := (.lst a)) rfl
theorem isi_dict_lst (a : List T) : biT .isi [(.lst a), .ty "dict"] = some (.bl false) := isi_dict (x := (.lst a)) rfl
theorem isi_lt_lst (a : List T) : biT .isi [(.lst a), .tup [.ty "list", .ty "tuple"]] = some (.bl true) := isi_lt (x := (.lst a)) rfl
theorem isi_int_dk (a : List (Key × T)) : biT .isi [(.dk a), .ty "int"] = some (.bl false) := isi_int (x := (.dk a)) rfl
theorem isi_bool_dk (a : List (Key × T)) : biT .isi [(.dk a), .ty "bool"] = some (.bl false) := isi_bool (x := (.dk a)) rfl
theorem isi_tuple_dk (a : List (Key × T)) : biT .isi [(.dk a), .ty "tuple"] = some (.bl false) := isi_tuple (x := (.dk a)) rfl
theorem isi_list_dk (a : List (Key × T)) : biT .isi [(.dk a), .ty "list"] = some (.bl false) := isi_list (x := (.dk a)) rfl
theorem isi_dict_dk (a : List (Key × T)) : biT .isi [(.dk a), .ty "dict"] = some (.bl true) := isi_dict (x := (.dk a)) rfl
theorem isi_lt_dk (a : List (Key × T)) : biT .isi [(.dk a), .tup [.ty "list", .ty "tuple"]] = some (.bl false) := isi_lt (x := (.dk a)) rfl
theorem bi1 {s : S} {b : Bi} {x y : T} (h : biT b [x] = some y) : R.of ((([D.t x] : List D).mapM (view s)).bind fun xs => (biT b xs).map D.t) s = .ok (.t y) s := by
  show R.of ((biT b [x]).map D.t) s = _
  rw [h]
  rfl
theorem bi2 {s : S} {b : Bi} {x x' y : T} (h : biT b [x, x'] = some y) : R.of ((([D.t x, D.t x'] : List D).mapM (view s)).bind fun xs => (biT b xs).map D.t) s = .ok (.t y) s := by
  show R.of ((biT b [x, x']).map D.t) s = _
  rw [h]
  rfl
theorem mapM1 (s : S) (x : T) : ([D.t x] : List D).mapM (view s) = some [x] := (rfl)
theorem mapM2 (s : S) (x y : T) : ([D.t x, D.t y] : List D).mapM (view s) = some [x, y] := (rfl)
theorem gcdT (i j : Int) : biT .gcd [I i, I j] = some (I (Int.gcd i j : Nat)) := (rfl)
theorem lenT_lst (l : List T) : biT .len [.lst l] = some (I l.length) := (rfl)
theorem lenT_tup (l : List T) : biT .len [.tup l] = some (I l.length) := (rfl)
theorem intT (i : Int) : biT .int [I i] = some (I i) := (rfl)
theorem absT (i : Int) : biT .abs [I i] = some (I (if i < 0 then -i else i)) := (rfl)
theorem kd_fr (l : List T) : Kd (.tup l) = true := (rfl)
theorem kd_int (i : Int) : Kd (.int i) = true := (rfl)
theorem kd_lst (l : List T) : Kd (.lst l) = true := (rfl)
theorem kd_bl (b : Bool) : Kd (.bl b) = true := (rfl)
theorem kd_non : Kd .non = true := (rfl)
theorem kd_str (s : Str) : Kd (.str s) = true := (rfl)
theorem kd_dk (l : List (Key × T)) : Kd (.dk l) = true := (rfl)
theorem tup_ty (s : S) : tupD s [.t (.ty "list"), .t (.ty "tuple")] = .ok (.t (.tup [.ty "list", .ty "tuple"])) s := (rfl)
/-! ### walking through a body -/
theorem fin_eq {F : Fn} {n0 : Nat} {o o' : O} {r : R D} (h : o = o') (h2 : fin F n0 o' = r) : fin F n0 o = r := h ▸ h2
theorem exs_nx {g : G} {st : Stm} {r : Ss} {σ σ1 : Sl} {s s1 : S} {Q : O → Prop} (h : ex g st σ s = .nx σ1 s1) (h2 : Q (exs g r σ1 s1)) : Q (exs g (.cons st r) σ s) := by
  show Q (match ex g st σ s with
    | .nx σ s => exs g r σ s
    | o => o)
  rw [h]
  exact h2
theorem exs_rt {g : G} {st : Stm} {r : Ss} {σ : Sl} {s s1 : S} {d : D} {Q : O → Prop} (h : ex g st σ s = .rt d s1) (h2 : Q (.rt d s1)) : Q (exs g (.cons st r) σ s) := by
  show Q (match ex g st σ s with
    | .nx σ s => exs g r σ s
    | o => o)
  rw [h]
  exact h2
def turnX (g : G) (tg : Tg) (b : Ss) (d : D) (σ : Sl) (s : S) : O := match setTg tg d σ with
  | some σ1 => exs g b σ1 s
  | none => .no
theorem turnX_nx {g : G} {tg : Tg} {b : Ss} {d : D} {σ σ1 : Sl} {s : S} (h : setTg tg d σ = some σ1) : turnX g tg b d σ s = exs g b σ1 s := by
  unfold turnX
  rw [h]
theorem forL_q {u : Option Nat} {f : D → Sl → S → O} {Q : O → Prop} (I : Nat → Sl → S → Prop) : ∀ (ds : List D) (i : Nat) (σ : Sl) (s : S), I i σ s →
    (∀ j d σ s, ds[j]? = some d → I (i + j) σ s → (∃ σ' s', (f d σ s = .nx σ' s' ∨ f d σ s = .ct σ' s') ∧ I (i + j + 1) σ' s') ∨ (∃ x s', f d σ s = .rt x s' ∧ Q (.rt x (unlock s' u)))) →
    (∀ x s', Q (.rt x s') → True) → (∃ σ' s', forL u f ds σ s = .nx σ' (unlock s' u) ∧ I (i + ds.length) σ' s') ∨ (∃ x s', forL u f ds σ s = .rt x s' ∧ Q (.rt x s'))
  | [], i, σ, s, h0, _, _ => .inl ⟨σ, s, rfl, h0⟩
  | d :: ds, i, σ, s, h0, step, t => by
    rcases step 0 d σ s rfl h0 with ⟨σ', s', h1, h2⟩ | ⟨x, s', h1, h2⟩
    · have ih := forL_q I ds (i + 1) σ' s' h2 (fun j d σ s hd hi => by
        have e : i + (j + 1) = i + 1 + j := by omega
        have := step (j + 1) d σ s hd (by rw [e]; exact hi)
        rw [e] at this
        exact this) t
      have e : i + (d :: ds).length = i + 1 + ds.length := by rw [List.length_cons]; omega
      rw [e]
      have e2 : forL u f (d :: ds) σ s = forL u f ds σ' s' := by
        show (match f d σ s with
          | .nx σ s => forL u f ds σ s
          | .ct σ s => forL u f ds σ s
          | .bk σ s => .nx σ (unlock s u)
          | .rt d s => .rt d (unlock s u)
          | .ex c fs σ s => .ex c fs σ (unlock s u)
          | .no => .no) = _
        rcases h1 with h1 | h1 <;> rw [h1]
      rw [e2]
      exact ih
    · refine .inr ⟨x, unlock s' u, ?_, h2⟩
      show (match f d σ s with
          | .nx σ s => forL u f ds σ s
          | .ct σ s => forL u f ds σ s
          | .bk σ s => .nx σ (unlock s u)
          | .rt d s => .rt d (unlock s u)
          | .ex c fs σ s => .ex c fs σ (unlock s u)
          | .no => .no) = _
      rw [h1]
theorem exs_for {g : G} {tg : Tg} {it : Z.It} {b r : Ss} {σ : Sl} {s s1 : S} {ds : List D} {u : Option Nat} {Q : O → Prop} (I : Nat → Sl → S → Prop) (hit : evI g it σ s = .ok (ds, u) s1) (h0 : I 0 σ (lock s1 u))
    (step : ∀ j d σ s, ds[j]? = some d → I j σ s → (∃ σ' s', (turnX g tg b d σ s = .nx σ' s' ∨ turnX g tg b d σ s = .ct σ' s') ∧ I (j + 1) σ' s') ∨ (∃ x s', turnX g tg b d σ s = .rt x s' ∧ Q (.rt x (unlock s' u))))
    (rest : ∀ σ s, I ds.length σ s → Q (exs g r σ (unlock s u))) : Q (exs g (.cons (.for tg it b) r) σ s) := by
  have e : exs g (.cons (.for tg it b) r) σ s = (match forL u (turnX g tg b) ds σ (lock s1 u) with
    | .nx σ s => exs g r σ s
    | o => o) := by
    show (match (evI g it σ s).then σ (fun p s => forL p.2 (turnX g tg b) p.1 σ (lock s p.2)) with
      | .nx σ s => exs g r σ s
      | o => o) = _
    rw [hit]
    rfl
  rw [e]
  rcases forL_q (Q := Q) I ds 0 σ (lock s1 u) h0 (fun j d σ s hd hi => by
    rw [Nat.zero_add] at hi ⊢
    exact step j d σ s hd hi) (fun _ _ _ => trivial) with ⟨σ', s', h1, h2⟩ | ⟨x, s', h1, h2⟩
  · rw [h1]
    exact rest σ' s' (by rw [Nat.zero_add] at h2; exact h2)
  · rw [h1]
    exact h2
def condX (g : G) (c : E) (σ : Sl) (s : S) : R Bool := (ev g c σ s).bind fun x s => R.of (truD s x) s
theorem whlL_q {c : Sl → S → R Bool} {f : Sl → S → O} (I : Nat → Sl → S → Prop) : ∀ (n m : Nat) (σ : Sl) (s : S), m < n → I m σ s →
    (∀ m σ s, I m σ s → (∃ s1, c σ s = .ok false s1 ∧ I 0 σ s1) ∨ (∃ s1 σ' s' m', c σ s = .ok true s1 ∧ f σ s1 = .nx σ' s' ∧ I m' σ' s' ∧ m' < m)) →
    ∃ σ' s' s1, whlL c f n σ s = .nx σ' s1 ∧ c σ' s' = .ok false s1 ∧ I 0 σ' s1
  | 0, m, _, _, hm, _, _ => absurd hm (Nat.not_lt_zero _)
  | n + 1, m, σ, s, hm, hi, step => by
    have e : whlL c f (n + 1) σ s = (c σ s).then σ fun k s => if k then (match f σ s with
      | .nx σ s => whlL c f n σ s
      | .ct σ s => whlL c f n σ s
      | .bk σ s => .nx σ s
      | o => o) else .nx σ s := (rfl)
    rcases step m σ s hi with ⟨s1, h1, h2⟩ | ⟨s1, σ', s', m', h1, h2, h3, h4⟩
    · refine ⟨σ, s, s1, ?_, h1, h2⟩
      rw [e, h1]
      rfl
    · obtain ⟨σ'', s'', s2, k1, k2, k3⟩ := whlL_q I n m' σ' s' (by omega) h3 step
      refine ⟨σ'', s'', s2, ?_, k2, k3⟩
      rw [e, h1]
      show (match f σ s1 with
        | .nx σ s => whlL c f n σ s
        | .ct σ s => whlL c f n σ s
        | .bk σ s => .nx σ s
        | o => o) = _
      rw [h2]
      exact k1
theorem exs_whl {g : G} {n : Nat} {c : E} {b r : Ss} {σ : Sl} {s : S} {Q : O → Prop} (I : Nat → Sl → S → Prop) (m : Nat) (hm : m < n) (h0 : I m σ s)
    (step : ∀ m σ s, I m σ s → (∃ s1, condX g c σ s = .ok false s1 ∧ I 0 σ s1) ∨ (∃ s1 σ' s' m', condX g c σ s = .ok true s1 ∧ exs g b σ s1 = .nx σ' s' ∧ I m' σ' s' ∧ m' < m))
    (rest : ∀ σ s' s, condX g c σ s' = .ok false s → I 0 σ s → Q (exs g r σ s)) : Q (exs g (.cons (.whl n c b) r) σ s) := by
  obtain ⟨σ', s', s1, h1, h2, h3⟩ := whlL_q I n m σ s hm h0 step
  show Q (match whlL (condX g c) (exs g b) n σ s with
    | .nx σ s => exs g r σ s
    | o => o)
  rw [h1]
  exact rest σ' s' s1 h2 h3
/-! ### the newest object -/
theorem get_last (s : S) (c : C) : (s ++ [c])[s.length]? = some c := List.getElem?_concat_length
theorem set_last (s : S) (c c' : C) : (s ++ [c]).set s.length c' = s ++ [c'] := by
  rw [List.set_append]
  rw [if_neg (Nat.lt_irrefl _), Nat.sub_self]
  rfl
theorem take_last (s : S) (l : S) : (s ++ l).take s.length = s := List.take_left
theorem isL_last (s : S) (ds : List D) : isL (s ++ [.l ds]) (.c s.length) = true := by
  show (match (s ++ [C.l ds])[s.length]? with
    | some (.l _) => true
    | _ => false) = true
  rw [get_last]
theorem app_last {s : S} {ds : List D} {x : T} (h : ds.length < sizeLine) : appD (s ++ [.l ds]) (.c s.length) (.t x) = .ok (.t .non) (s ++ [.l (ds ++ [D.t x])]) := by
  simp only [appD, get_last, older, Bool.true_and, decide_eq_true h, ↓reduceIte, set_last]
theorem trees_map (xs : List T) : trees (xs.map D.t) = some xs := by
  induction xs with
  | nil => rfl
  | cons x r ih =>
    show (trees (r.map D.t)).map (x :: ·) = _
    rw [ih]
    rfl
theorem frz_last (s : S) (xs : List T) : frzD (s ++ [.l (xs.map D.t)]) (.c s.length) = .ok (.t (.lst xs)) (s ++ [.x]) := by
  simp only [frzD, get_last, trees_map, set_last]
theorem new_l (s : S) (ds : List D) : newL s ds = .ok (.c s.length) (s ++ [.l ds]) := (rfl)
theorem lstD_c {s : S} {ds : List D} (h : ds.length ≤ sizeLine) : lstD true s ds = .ok (.c s.length) (s ++ [.l ds]) := by
  unfold lstD
  rw [if_pos h]
  rfl
theorem lstD_c0 (s : S) : lstD true s [] = .ok (.c s.length) (s ++ [.l []]) := lstD_c (by decide)
theorem lstD_t0 (s : S) : lstD false s [] = .ok (.t (.lst [])) s := (rfl)
theorem lstD_t1 (s : S) (a : T) : lstD false s [.t a] = .ok (.t (.lst [a])) s := (rfl)
theorem lstD_t2 (s : S) (a b : T) : lstD false s [.t a, .t b] = .ok (.t (.lst [a, b])) s := (rfl)
theorem lstD_t3 (s : S) (a b c : T) : lstD false s [.t a, .t b, .t c] = .ok (.t (.lst [a, b, c])) s := (rfl)
/-! ### fractions in lists -/
abbrev fd (p : Int × Int) : PyData := .tuple [.int p.1, .int p.2]
theorem pys_fr (A : List (Int × Int)) : pys (A.map fr) = A.map fd := by
  induction A with
  | nil => rfl
  | cons a r ih =>
    show py (fr a) :: pys (r.map fr) = _
    rw [ih]
    rfl
theorem isDs_fr (A : List (Int × Int)) : isDs (A.map fr) = true := by
  induction A with
  | nil => rfl
  | cons a r ih =>
    show (isD (fr a) && isDs (r.map fr)) = true
    rw [ih]
    rfl
theorem lay_fr (A : List (Int × Int)) : PyData.canLayAll0 (A.map fd) = true := by
  induction A with
  | nil => rfl
  | cons a r ih =>
    show (PyData.canLay0 (fd a) && PyData.canLayAll0 (r.map fd)) = true
    rw [ih]
    rfl
theorem dep_fr (A : List (Int × Int)) : PyData.depthAll (A.map fd) ≤ 1 := by
  induction A with
  | nil => exact Nat.zero_le _
  | cons a r ih =>
    show max (PyData.depth (fd a)) (PyData.depthAll (r.map fd)) ≤ 1
    exact Nat.max_le.mpr ⟨Nat.le_refl _, ih⟩
theorem cmp_frs (A : List (Int × Int)) : cmpable (.lst (A.map fr)) = true := by
  show (isDs (A.map fr) && (PyData.canLay0 (.list (pys (A.map fr))) && decide (PyData.depth (.list (pys (A.map fr))) ≤ 64))) = true
  rw [isDs_fr, pys_fr, PyData.canLay0.eq_5, lay_fr, PyData.depth.eq_1]
  have := dep_fr A
  simp
  omega
theorem eqv_fr (a b : Int × Int) : PyData.eqv (fd a) (fd b) = decide (a = b) := by
  show PyData.eqv (.tuple [.int a.1, .int a.2]) (.tuple [.int b.1, .int b.2]) = _
  rw [PyData.eqv.eq_8, PyData.eqvAll.eq_2, PyData.eqvAll.eq_2, PyData.eqvAll.eq_1, PyData.eqv.eq_5, PyData.eqv.eq_5, Bool.eq_iff_iff]
  simp [Prod.ext_iff]
theorem eqvs_fr : ∀ A B : List (Int × Int), PyData.eqvAll (A.map fd) (B.map fd) = decide (A = B)
  | [], [] => by rw [List.map_nil, PyData.eqvAll.eq_1]; simp
  | [], b :: B => by rw [List.map_nil, List.map_cons, PyData.eqvAll.eq_3]; simp
  | a :: A, [] => by
    rw [List.map_nil, List.map_cons, PyData.eqvAll.eq_4]
    · simp
    all_goals (intros; simp_all)
  | a :: A, b :: B => by
    rw [List.map_cons, List.map_cons, PyData.eqvAll.eq_2, eqv_fr, eqvs_fr A B, Bool.eq_iff_iff]
    simp
theorem eqT_frs (A B : List (Int × Int)) : eqT (.lst (A.map fr)) (.lst (B.map fr)) = some (decide (A = B)) := by
  unfold eqT
  rw [cmp_frs, cmp_frs]
  show some (PyData.eqv (.list (pys (A.map fr))) (.list (pys (B.map fr)))) = _
  rw [pys_fr, pys_fr, PyData.eqv.eq_7, eqvs_fr]
theorem eqT_fr (a b : Int × Int) : eqT (fr a) (fr b) = some (decide (a = b)) := by
  show some (PyData.eqv (fd a) (fd b)) = _
  rw [eqv_fr]
theorem any_frs (a : Int × Int) (A : List (Int × Int)) : ((A.map fr).any fun y => PyData.eqv (py y) (py (fr a))) = decide (a ∈ A) := by
  induction A with
  | nil => simp
  | cons b r ih =>
    rw [List.map_cons, List.any_cons, ih]
    have : PyData.eqv (py (fr b)) (py (fr a)) = decide (b = a) := eqv_fr b a
    rw [this, Bool.eq_iff_iff, Bool.or_eq_true, decide_eq_true_iff, decide_eq_true_iff, decide_eq_true_iff, List.mem_cons]
    exact or_congr ⟨Eq.symm, Eq.symm⟩ Iff.rfl
theorem in_frs (a : Int × Int) (A : List (Int × Int)) : cmpT .In (fr a) (.lst (A.map fr)) = some (decide (a ∈ A)) := by
  have h1 : cmpable (fr a) = true := by rfl
  show (if cmpable (fr a) && cmpable (.lst (A.map fr)) then some ((A.map fr).any fun y => PyData.eqv (py y) (py (fr a))) else none) = _
  rw [h1, cmp_frs, any_frs]
  rfl
theorem slc_to {ds : List T} {n : Nat} (h : n ≤ ds.length) : slcT (.lst ds) none (some (n : Int)) = some (.lst (ds.take n)) := by
  show some (T.lst (cutT ds none (some (n : Int)))) = _
  unfold cutT HT.sIx
  have : ¬ ((n : Int) < 0) := by omega
  show some (T.lst ((ds.drop 0).take ((if (n : Int) < 0 then _ else min (n : Int).toNat ds.length) - 0))) = _
  rw [if_neg this, List.drop_zero, Int.toNat_natCast, Nat.min_eq_left h, Nat.sub_zero]
theorem mulL {a : List T} {k : Nat} (h : a.length * k ≤ sizeLine) (h2 : k ≤ sizeLine) : binT .Mult (.lst a) (.int k) = some (.lst (List.replicate k a).flatten) := by
  have e : (k : Int).toNat = k := Int.toNat_natCast k
  have : (sizeLine : Nat) = 16777216 := by decide
  unfold Z.binT
  dsimp only
  rw [e, if_pos ⟨by omega, by omega, h⟩]
theorem setTg_name (i : Nat) (d : D) (σ : Sl) : setTg (.name i) d σ = if i < σ.length then some (σ.set i (some d)) else none := (rfl)
theorem setTg_tup (ts : Tgs) (xs : List T) (σ : Sl) : setTg (.tup ts) (.t (.tup xs)) σ = setTgs ts xs σ := (rfl)
theorem setTg_lst (ts : Tgs) (xs : List T) (σ : Sl) : setTg (.tup ts) (.t (.lst xs)) σ = setTgs ts xs σ := (rfl)
theorem setTgs_nil (σ : Sl) : setTgs .nil [] σ = some σ := (rfl)
theorem setTgs_cons (t : Tg) (ts : Tgs) (x : T) (xs : List T) (σ : Sl) : setTgs (.cons t ts) (x :: xs) σ = (setTg t (.t x) σ).bind fun σ1 => setTgs ts xs σ1 := (rfl)
end Zr
end
section
set_option Elab.async false
set_option linter.all false
set_option autoImplicit false
/-! rows of shares: what one share leaves of a chance, walked through; pairs of integers -/
namespace Rw9
abbrev P2 := Int × Int
def low (p : P2) : P2 := (p.1 / (Int.gcd p.1 p.2 : Nat), p.2 / (Int.gcd p.1 p.2 : Nat))
def beh (x s : P2) : P2 := (x.1 * s.2 - x.2 * s.1, x.1 * s.2)
def go : List P2 → P2 → Option P2
  | [], x => some x
  | s :: r, x => if (beh x s).1 ≤ 0 then none else go r (beh x s)
def Sh (s : P2) : Prop := 0 ≤ s.1 ∧ s.1 ≤ s.2 ∧ 0 < s.2
/-- x is not above y -/
def le (x y : P2) : Prop := x.1 * y.2 ≤ y.1 * x.2
def Ps (x : P2) : Prop := 0 < x.1 ∧ 0 < x.2
/-- one value -/
def sm (x y : P2) : Prop := x.1 * y.2 = y.1 * x.2
def fo (P : List P2) (x : P2) : P2 := P.foldl beh x

theorem pos_of {k n : Int} (h : 0 < k * n) (hk : 0 < k) : 0 < n := by
  rcases Int.lt_or_le 0 n with q | q
  · exact q
  · have := Int.mul_nonneg (Int.le_of_lt hk) (show 0 ≤ -n by omega)
    rw [Int.mul_neg] at this
    omega
theorem np_of {k n : Int} (h : k * n ≤ 0) (hk : 0 < k) : n ≤ 0 := by
  rcases Int.lt_or_le 0 n with q | q
  · have := Int.mul_pos hk q
    omega
  · exact q
theorem go_app (P Q : List P2) (x : P2) : go (P ++ Q) x = (go P x).bind (go Q) := by
  induction P generalizing x with
  | nil => rfl
  | cons s r ih =>
    show (if (beh x s).1 ≤ 0 then none else go (r ++ Q) (beh x s)) = (if (beh x s).1 ≤ 0 then none else go r (beh x s)).bind (go Q)
    split
    · rfl
    · exact ih _
theorem go_fo {P : List P2} {x y : P2} (h : go P x = some y) : y = fo P x := by
  induction P generalizing x with
  | nil => exact (Option.some.inj h).symm
  | cons s r ih =>
    unfold go at h
    split at h
    · cases h
    · exact ih h
theorem go_ps {P : List P2} {x y : P2} (hP : ∀ s ∈ P, Sh s) (hx : Ps x) (h : go P x = some y) : Ps y := by
  induction P generalizing x with
  | nil => cases h; exact hx
  | cons s r ih =>
    unfold go at h
    split at h
    · cases h
    · next c =>
      refine ih (fun z hz => hP z (List.mem_cons_of_mem _ hz)) ⟨by omega, ?_⟩ h
      exact Int.mul_pos hx.1 (hP s List.mem_cons_self).2.2
theorem go_le1 {P : List P2} {x y : P2} (hP : ∀ s ∈ P, Sh s) (hn : P ≠ []) (hx : Ps x) (h : go P x = some y) : y.1 ≤ y.2 := by
  induction P generalizing x with
  | nil => exact absurd rfl hn
  | cons s r ih =>
    unfold go at h
    split at h
    · cases h
    · next c =>
      have hs := hP s List.mem_cons_self
      have px : Ps (beh x s) := ⟨by omega, Int.mul_pos hx.1 hs.2.2⟩
      by_cases e : r = []
      · subst e
        cases h
        show x.1 * s.2 - x.2 * s.1 ≤ x.1 * s.2
        have := Int.mul_nonneg (Int.le_of_lt hx.2) hs.1
        omega
      · exact ih (fun z hz => hP z (List.mem_cons_of_mem _ hz)) e px h
/-- more in, more out -/
theorem go_mono {P : List P2} {x y x' : P2} (hP : ∀ s ∈ P, Sh s) (hx : Ps x) (hy : Ps y) (hl : le x y) (h : go P x = some x') : ∃ y', go P y = some y' ∧ le x' y' := by
  induction P generalizing x y with
  | nil => cases h; exact ⟨y, rfl, hl⟩
  | cons s r ih =>
    unfold go at h
    split at h
    · cases h
    · next c =>
      have hs := hP s List.mem_cons_self
      have px : Ps (beh x s) := ⟨by omega, Int.mul_pos hx.1 hs.2.2⟩
      have hb : 0 < (beh y s).1 := by
        have c : 0 < x.1 * s.2 - x.2 * s.1 := by have : ¬ (x.1 * s.2 - x.2 * s.1 ≤ 0) := c; omega
        have hl : x.1 * y.2 ≤ y.1 * x.2 := hl
        show 0 < y.1 * s.2 - y.2 * s.1
        have h1 := Int.mul_pos c hy.2
        have h2 := Int.mul_le_mul_of_nonneg_right hl (Int.le_of_lt hs.2.2)
        have h3 : 0 < x.2 * (y.1 * s.2 - y.2 * s.1) := by
          have e1 : (x.1 * s.2 - x.2 * s.1) * y.2 = x.1 * y.2 * s.2 - x.2 * (y.2 * s.1) := by grind
          have e2 : x.2 * (y.1 * s.2 - y.2 * s.1) = y.1 * x.2 * s.2 - x.2 * (y.2 * s.1) := by grind
          omega
        exact pos_of h3 hx.2
      have py : Ps (beh y s) := ⟨hb, Int.mul_pos hy.1 hs.2.2⟩
      have hle : le (beh x s) (beh y s) := by
        show (x.1 * s.2 - x.2 * s.1) * (y.1 * s.2) ≤ (y.1 * s.2 - y.2 * s.1) * (x.1 * s.2)
        have hl : x.1 * y.2 ≤ y.1 * x.2 := hl
        have h4 := Int.mul_le_mul_of_nonneg_right hl (Int.mul_nonneg hs.1 (Int.le_of_lt hs.2.2))
        have e1 : (x.1 * s.2 - x.2 * s.1) * (y.1 * s.2) = x.1 * s.2 * (y.1 * s.2) - y.1 * x.2 * (s.1 * s.2) := by grind
        have e2 : (y.1 * s.2 - y.2 * s.1) * (x.1 * s.2) = x.1 * s.2 * (y.1 * s.2) - x.1 * y.2 * (s.1 * s.2) := by grind
        omega
      obtain ⟨y', h1, h2⟩ := ih (fun z hz => hP z (List.mem_cons_of_mem _ hz)) px py hle h
      refine ⟨y', ?_, h2⟩
      unfold go
      rw [if_neg (by omega)]
      exact h1
theorem sm.le {x y : P2} (h : sm x y) : Rw9.le x y := Int.le_of_eq h
theorem sm.symm {x y : P2} (h : sm x y) : sm y x := Eq.symm h
theorem le_antisymm {x y : P2} (h : le x y) (k : le y x) : sm x y := Int.le_antisymm h k
theorem le_trans {x y z : P2} (hx : 0 < x.2) (hy : 0 < y.2) (hz : 0 < z.2) (h : le x y) (k : le y z) : le x z := by
  have h : x.1 * y.2 ≤ y.1 * x.2 := h
  have k : y.1 * z.2 ≤ z.1 * y.2 := k
  show x.1 * z.2 ≤ z.1 * x.2
  have h1 := Int.mul_le_mul_of_nonneg_right h (Int.le_of_lt hz)
  have k1 := Int.mul_le_mul_of_nonneg_right k (Int.le_of_lt hx)
  have e : x.1 * z.2 * y.2 ≤ z.1 * x.2 * y.2 := by
    have e1 : x.1 * z.2 * y.2 = x.1 * y.2 * z.2 := by grind
    have e2 : z.1 * x.2 * y.2 = z.1 * y.2 * x.2 := by grind
    have e3 : y.1 * x.2 * z.2 = y.1 * z.2 * x.2 := by grind
    omega
  exact Int.le_of_mul_le_mul_right e hy
theorem go_sm {P : List P2} {x y : P2} (hP : ∀ s ∈ P, Sh s) (hx : Ps x) (hy : Ps y) (h : sm x y) : (go P x = none ∧ go P y = none) ∨ ∃ x' y', go P x = some x' ∧ go P y = some y' ∧ sm x' y' := by
  cases hgx : go P x with
  | some x' =>
    obtain ⟨y', h1, h2⟩ := go_mono hP hx hy h.le hgx
    obtain ⟨x2, h3, h4⟩ := go_mono hP hy hx h.symm.le h1
    rw [hgx] at h3
    cases h3
    exact .inr ⟨x', y', rfl, h1, le_antisymm h2 h4⟩
  | none =>
    cases hgy : go P y with
    | none => exact .inl ⟨rfl, rfl⟩
    | some y' =>
      obtain ⟨x', h1, _⟩ := go_mono hP hy hx h.symm.le hgy
      rw [hgx] at h1
      cases h1

/-! ### stays -/
/-- x goes all the way and comes back no lower -/
def St (P : List P2) (x : P2) : Prop := ∃ y, go P x = some y ∧ le x y
def rep (n : Nat) (P : List P2) : List P2 := (List.replicate n P).flatten
theorem rep_succ (n : Nat) (P : List P2) : rep (n + 1) P = P ++ rep n P := by
  unfold rep
  rw [List.replicate_succ, List.flatten_cons]
theorem rep_sh {n : Nat} {P : List P2} (hP : ∀ s ∈ P, Sh s) : ∀ s ∈ rep n P, Sh s := by
  intro s h
  unfold rep at h
  obtain ⟨l, hl, hs⟩ := List.mem_flatten.mp h
  rw [List.eq_of_mem_replicate hl] at hs
  exact hP s hs
theorem st_rep {n : Nat} {P : List P2} {x : P2} (hP : ∀ s ∈ P, Sh s) (hx : Ps x) (h : St P x) : St (rep n P) x := by
  have : ∀ y, Ps y → le x y → ∃ z, go (rep n P) y = some z ∧ le x z := by
    induction n with
    | zero => exact fun y _ hl => ⟨y, rfl, hl⟩
    | succ n ih =>
      intro y hy hl
      obtain ⟨x', h1, h2⟩ := h
      obtain ⟨y', h3, h4⟩ := go_mono hP hx hy hl h1
      have p1 := go_ps hP hx h1
      have p2 := go_ps hP hy h3
      obtain ⟨z, h5, h6⟩ := ih y' p2 (le_trans hx.2 p1.2 p2.2 h2 h4)
      exact ⟨z, by rw [rep_succ, go_app, h3]; exact h5, h6⟩
  exact this x hx (Int.le_refl _)
theorem st_of_rep {n : Nat} {P : List P2} {x : P2} (hP : ∀ s ∈ P, Sh s) (hx : Ps x) (h : St (rep (n + 1) P) x) : St P x := by
  obtain ⟨z, h1, h2⟩ := h
  rw [rep_succ, go_app] at h1
  cases hg : go P x with
  | none => rw [hg] at h1; cases h1
  | some x' =>
    rw [hg] at h1
    have h1 : go (rep n P) x' = some z := h1
    have p1 := go_ps hP hx hg
    refine ⟨x', hg, ?_⟩
    rcases Int.le_total (x.1 * x'.2) (x'.1 * x.2) with q | q
    · exact q
    · -- x' below x: it never comes back
      have down : ∀ n y z, Ps y → le y x' → go (rep n P) y = some z → le z x' := by
        intro n
        induction n with
        | zero => intro y z _ hl hz; cases hz; exact hl
        | succ n ih =>
          intro y z hy hl hz
          rw [rep_succ, go_app] at hz
          cases hy' : go P y with
          | none => rw [hy'] at hz; cases hz
          | some y' =>
            rw [hy'] at hz
            obtain ⟨w, k1, k2⟩ := go_mono hP hy hx (le_trans hy.2 p1.2 hx.2 hl q) hy'
            rw [hg] at k1
            cases k1
            exact ih y' z (go_ps hP hy hy') k2 hz
      have pz := go_ps (rep_sh hP) p1 h1
      exact le_trans hx.2 pz.2 p1.2 h2 (down n x' z p1 (Int.le_refl _) h1)

/-! ### the middle -/
/-- what a row does, as a pair of columns -/
theorem fo_lin (P : List P2) (x : P2) : fo P x = ((fo P (1, 0)).1 * x.1 + (fo P (0, 1)).1 * x.2, (fo P (1, 0)).2 * x.1 + (fo P (0, 1)).2 * x.2) := by
  have : ∀ (P : List P2) (u v : P2) (s t : Int), fo P (u.1 * s + v.1 * t, u.2 * s + v.2 * t) = ((fo P u).1 * s + (fo P v).1 * t, (fo P u).2 * s + (fo P v).2 * t) := by
    intro P
    induction P with
    | nil => intro u v s t; rfl
    | cons h r ih =>
      intro u v s t
      have := ih (beh u h) (beh v h) s t
      show fo r (beh _ h) = ((fo r (beh u h)).1 * s + (fo r (beh v h)).1 * t, (fo r (beh u h)).2 * s + (fo r (beh v h)).2 * t)
      rw [← this]
      congr 1
      unfold beh
      refine Prod.ext ?_ ?_
      · show (u.1 * s + v.1 * t) * h.2 - (u.2 * s + v.2 * t) * h.1 = (u.1 * h.2 - u.2 * h.1) * s + (v.1 * h.2 - v.2 * h.1) * t
        grind
      · show (u.1 * s + v.1 * t) * h.2 = u.1 * h.2 * s + v.1 * h.2 * t
        grind
  have h := this P (1, 0) (0, 1) x.1 x.2
  rw [← h]
  congr 1
  refine Prod.ext ?_ ?_ <;> simp
theorem fo_snoc (P : List P2) (s x : P2) : fo (P ++ [s]) x = beh (fo P x) s := by
  unfold fo
  rw [List.foldl_append]
  rfl
/-- what holds of a row once some x goes all the way -/
structure Way (P : List P2) : Prop where
  a : 0 < (fo P (1, 0)).1
  b : (fo P (0, 1)).1 ≤ 0
  c : P ≠ [] → 0 < (fo P (1, 0)).2
  c0 : 0 ≤ (fo P (1, 0)).2
  det : 0 ≤ (fo P (1, 0)).1 * (fo P (0, 1)).2 - (fo P (0, 1)).1 * (fo P (1, 0)).2
  all : ∀ y : P2, Ps y → 0 < (fo P (1, 0)).1 * y.1 + (fo P (0, 1)).1 * y.2 → go P y = some (fo P y)
theorem way_of {P : List P2} (hP : ∀ s ∈ P, Sh s) {x z : P2} (hx : Ps x) (h : go P x = some z) : Way P := by
  -- from the end
  have : ∀ n (P : List P2), P.length = n → (∀ s ∈ P, Sh s) → (∃ z, go P x = some z) → Way P := by
    intro n
    induction n with
    | zero =>
      intro P hl _ _
      have : P = [] := List.eq_nil_of_length_eq_zero hl
      subst this
      exact ⟨by decide, by decide, fun h => absurd rfl h, by decide, by decide, fun y _ _ => rfl⟩
    | succ n ih =>
      intro P hl hP hz
      obtain ⟨z, hz⟩ := hz
      have hne : P ≠ [] := by intro e; subst e; cases hl
      obtain ⟨Q, s, rfl⟩ : ∃ Q s, P = Q ++ [s] := ⟨P.dropLast, P.getLast hne, (List.dropLast_concat_getLast hne).symm⟩
      have hQ : ∀ s ∈ Q, Sh s := fun t ht => hP t (List.mem_append_left _ ht)
      have hs : Sh s := hP s (List.mem_append_right _ List.mem_cons_self)
      rw [go_app] at hz
      cases hg : go Q x with
      | none => rw [hg] at hz; cases hz
      | some w =>
        rw [hg] at hz
        have hz : go [s] w = some z := hz
        have W := ih Q (by rw [List.length_append] at hl; exact Nat.succ.inj hl) hQ ⟨w, hg⟩
        have ew := go_fo hg
        have hw1 : 0 < (beh w s).1 := by
          unfold go at hz
          split at hz
          · cases hz
          · omega
        have pw := (go_ps hQ hx hg).1
        rw [ew, fo_lin] at pw hw1
        obtain ⟨q1, q2, q3⟩ := hs
        obtain ⟨x1, x2⟩ := hx
        have Wa := W.a; have Wb := W.b; have Wd := W.det; have Wall := W.all
        have L := fo_lin Q
        generalize e1 : (fo Q (1, 0)).1 = a at *
        generalize e2 : (fo Q (0, 1)).1 = b at *
        generalize e3 : (fo Q (1, 0)).2 = c at *
        generalize e4 : (fo Q (0, 1)).2 = d at *
        have f1 : (fo (Q ++ [s]) (1, 0)).1 = a * s.2 - c * s.1 := by rw [fo_snoc, ← e1, ← e3]; rfl
        have f2 : (fo (Q ++ [s]) (0, 1)).1 = b * s.2 - d * s.1 := by rw [fo_snoc, ← e2, ← e4]; rfl
        have f3 : (fo (Q ++ [s]) (1, 0)).2 = a * s.2 := by rw [fo_snoc, ← e1]; rfl
        have f4 : (fo (Q ++ [s]) (0, 1)).2 = b * s.2 := by rw [fo_snoc, ← e2]; rfl
        have hw1 : 0 < (a * x.1 + b * x.2) * s.2 - (c * x.1 + d * x.2) * s.1 := hw1
        have pw : 0 < a * x.1 + b * x.2 := pw
        have key : ∀ y1 y2 : Int, (a * y1 + b * y2) * (a * s.2 - c * s.1) = a * ((a * s.2 - c * s.1) * y1 + (b * s.2 - d * s.1) * y2) + y2 * (s.1 * (a * d - b * c)) := by intro y1 y2; grind
        have sd := Int.mul_nonneg q1 Wd
        have ha : 0 < a * s.2 - c * s.1 := by
          have k1 := key x.1 x.2
          have k2 : (a * s.2 - c * s.1) * x.1 + (b * s.2 - d * s.1) * x.2 = (a * x.1 + b * x.2) * s.2 - (c * x.1 + d * x.2) * s.1 := by grind
          have k3 := Int.mul_pos Wa hw1
          have k4 := Int.mul_nonneg (Int.le_of_lt x2) sd
          rw [k2] at k1
          exact pos_of (by omega) pw
        have hb : b * s.2 - d * s.1 ≤ 0 := by
          have k1 : a * (b * s.2 - d * s.1) = (a * s.2 - c * s.1) * b - s.1 * (a * d - b * c) := by grind
          have k2 := Int.mul_nonneg (Int.le_of_lt ha) (show 0 ≤ -b by omega)
          rw [Int.mul_neg] at k2
          exact np_of (by omega) Wa
        refine ⟨by rw [f1]; exact ha, by rw [f2]; exact hb, fun _ => by rw [f3]; exact Int.mul_pos Wa q3, by rw [f3]; exact Int.le_of_lt (Int.mul_pos Wa q3), ?_, fun y hy hp => ?_⟩
        · rw [f1, f2, f3, f4]
          have k1 : (a * s.2 - c * s.1) * (b * s.2) - (b * s.2 - d * s.1) * (a * s.2) = s.2 * (s.1 * (a * d - b * c)) := by grind
          rw [k1]
          exact Int.mul_nonneg (Int.le_of_lt q3) sd
        · rw [f1, f2] at hp
          have k1 := key y.1 y.2
          have k3 := Int.mul_pos Wa hp
          have k4 := Int.mul_nonneg (Int.le_of_lt hy.2) sd
          have hq : 0 < a * y.1 + b * y.2 := by
            have z : 0 < (a * y.1 + b * y.2) * (a * s.2 - c * s.1) := by omega
            rw [Int.mul_comm] at z
            exact pos_of z ha
          rw [go_app, Wall y hy hq, fo_snoc]
          show (if (beh (fo Q y) s).1 ≤ 0 then none else some (beh (fo Q y) s)) = _
          rw [if_neg]
          rw [L y]
          show ¬ ((a * y.1 + b * y.2) * s.2 - (c * y.1 + d * y.2) * s.1 ≤ 0)
          have k2 : (a * s.2 - c * s.1) * y.1 + (b * s.2 - d * s.1) * y.2 = (a * y.1 + b * y.2) * s.2 - (c * y.1 + d * y.2) * s.1 := by grind
          omega
  exact this _ P rfl hP ⟨z, h⟩
/-- the middle of a row -/
def mid (P : List P2) : P2 := ((fo P (1, 0)).1 - (fo P (0, 1)).2, 2 * (fo P (1, 0)).2)
theorem st_mid {P : List P2} (hP : ∀ s ∈ P, Sh s) (hn : P ≠ []) {x : P2} (hx : Ps x) (h : St P x) : Ps (mid P) ∧ St P (mid P) := by
  obtain ⟨z, h1, h2⟩ := h
  have W := way_of hP hx h1
  have ez := go_fo h1
  have pz0 := (go_ps hP hx h1).1
  have L := fo_lin P
  have Wa := W.a; have Wb := W.b; have Wc := W.c hn; have Wd := W.det; have Wall := W.all
  rw [L x] at ez
  subst ez
  have h2 : x.1 * ((fo P (1, 0)).2 * x.1 + (fo P (0, 1)).2 * x.2) ≤ ((fo P (1, 0)).1 * x.1 + (fo P (0, 1)).1 * x.2) * x.2 := h2
  have pz : 0 < (fo P (1, 0)).1 * x.1 + (fo P (0, 1)).1 * x.2 := pz0
  clear pz0 h1
  have em : mid P = ((fo P (1, 0)).1 - (fo P (0, 1)).2, 2 * (fo P (1, 0)).2) := rfl
  generalize (fo P (1, 0)).1 = a at *
  generalize (fo P (0, 1)).1 = b at *
  generalize (fo P (1, 0)).2 = c at *
  generalize (fo P (0, 1)).2 = d at *
  have hx1 := hx.1
  have hx2 := hx.2
  have up : 0 < a * (a - d) + b * (2 * c) := by
    rcases Int.lt_or_le 0 (a * (a - d) + b * (2 * c)) with q | q
    · exact q
    · exfalso
      generalize ew : a * x.1 + b * x.2 = w at *
      have e0 : a * a * (x.1 * (c * x.1 + d * x.2) - w * x.2) = c * (w * w) + w * x.2 * (-(a * (a - d) + b * (2 * c))) + x.2 * x.2 * ((-b) * (a * d - b * c)) := by
        subst ew
        grind
      have k1 := Int.mul_pos Wc (Int.mul_pos pz pz)
      have k2 := Int.mul_nonneg (Int.mul_nonneg (Int.le_of_lt pz) (Int.le_of_lt hx2)) (show 0 ≤ -(a * (a - d) + b * (2 * c)) by omega)
      have k3 := Int.mul_nonneg (Int.mul_nonneg (Int.le_of_lt hx2) (Int.le_of_lt hx2)) (Int.mul_nonneg (show 0 ≤ -b by omega) Wd)
      have k4 := Int.mul_nonneg (Int.mul_nonneg (Int.le_of_lt Wa) (Int.le_of_lt Wa)) (show 0 ≤ -(x.1 * (c * x.1 + d * x.2) - w * x.2) by omega)
      rw [Int.mul_neg] at k4
      omega
  have hm : Ps (mid P) := by
    rw [em]
    refine ⟨?_, by show 0 < 2 * c; omega⟩
    show 0 < a - d
    have k := Int.mul_nonneg (show 0 ≤ -b by omega) (show 0 ≤ 2 * c by omega)
    rw [Int.neg_mul] at k
    exact pos_of (k := a) (by omega) Wa
  refine ⟨hm, fo P (mid P), Wall _ hm (by rw [em]; exact up), ?_⟩
  rw [L, em]
  show (a - d) * (c * (a - d) + d * (2 * c)) ≤ (a * (a - d) + b * (2 * c)) * (2 * c)
  have disc : 0 ≤ (a - d) * (a - d) + 4 * b * c := by
    rcases Int.lt_or_le ((a - d) * (a - d) + 4 * b * c) 0 with q | q
    · exfalso
      have e1 : 4 * c * (x.1 * (c * x.1 + d * x.2) - (a * x.1 + b * x.2) * x.2) = (2 * c * x.1 - (a - d) * x.2) * (2 * c * x.1 - (a - d) * x.2) + x.2 * x.2 * (-((a - d) * (a - d) + 4 * b * c)) := by grind
      have k1 : 0 ≤ (2 * c * x.1 - (a - d) * x.2) * (2 * c * x.1 - (a - d) * x.2) := by
        rcases Int.le_total 0 (2 * c * x.1 - (a - d) * x.2) with r | r
        · exact Int.mul_nonneg r r
        · exact Int.mul_nonneg_of_nonpos_of_nonpos r r
      have k2 := Int.mul_pos (Int.mul_pos hx2 hx2) (show 0 < -((a - d) * (a - d) + 4 * b * c) by omega)
      have k3 := Int.mul_nonneg (show 0 ≤ 4 * c by omega) (show 0 ≤ -(x.1 * (c * x.1 + d * x.2) - (a * x.1 + b * x.2) * x.2) by omega)
      rw [Int.mul_neg] at k3
      omega
    · exact q
  have e2 : (a * (a - d) + b * (2 * c)) * (2 * c) - (a - d) * (c * (a - d) + d * (2 * c)) = c * ((a - d) * (a - d) + 4 * b * c) := by grind
  have := Int.mul_nonneg (Int.le_of_lt Wc) disc
  omega
end Rw9
end
section
set_option Elab.async false
set_option linter.all false
set_option autoImplicit false
namespace Rw9
theorem gcd_pos {p : P2} (h : 0 < p.2) : 0 < (Int.gcd p.1 p.2 : Int) := Int.ofNat_lt.mpr (Nat.pos_of_ne_zero fun e => by have := Int.gcd_eq_zero_iff.mp e; omega)
theorem low_1 {p : P2} (h : 0 < p.2) : (low p).1 * (Int.gcd p.1 p.2 : Int) = p.1 := Int.ediv_mul_cancel (Int.gcd_dvd_left ..)
theorem low_2 {p : P2} (h : 0 < p.2) : (low p).2 * (Int.gcd p.1 p.2 : Int) = p.2 := Int.ediv_mul_cancel (Int.gcd_dvd_right ..)
theorem low_pos {p : P2} (h : 0 < p.2) : 0 < (low p).2 := by
  have := low_2 h
  have g := gcd_pos h
  rw [← this, Int.mul_comm] at h
  exact pos_of h g
theorem low_sm {p : P2} (h : 0 < p.2) : sm (low p) p := by
  have a := low_1 h
  have b := low_2 h
  show (low p).1 * p.2 = p.1 * (low p).2
  calc (low p).1 * p.2 = (low p).1 * ((low p).2 * (Int.gcd p.1 p.2 : Int)) := by rw [b]
    _ = ((low p).1 * (Int.gcd p.1 p.2 : Int)) * (low p).2 := by grind
    _ = p.1 * (low p).2 := by rw [a]
theorem low_eq {p q : P2} (hp : 0 < p.2) (hq : 0 < q.2) (h : sm p q) : low p = low q := by
  have h : p.1 * q.2 = q.1 * p.2 := h
  have e : (Int.gcd q.1 q.2 : Int) * p.2 = (Int.gcd p.1 p.2 : Int) * q.2 := by
    have e1 : Int.gcd (p.2 * q.1) (p.2 * q.2) = p.2.natAbs * Int.gcd q.1 q.2 := Int.gcd_mul_left ..
    have e2 : Int.gcd (q.2 * p.1) (q.2 * p.2) = q.2.natAbs * Int.gcd p.1 p.2 := Int.gcd_mul_left ..
    have e3 : p.2 * q.1 = q.2 * p.1 := by rw [Int.mul_comm, ← h, Int.mul_comm]
    rw [e3, Int.mul_comm p.2 q.2, e2] at e1
    have e4 : ((q.2.natAbs * Int.gcd p.1 p.2 : Nat) : Int) = ((p.2.natAbs * Int.gcd q.1 q.2 : Nat) : Int) := congrArg _ e1
    rw [Int.natCast_mul, Int.natCast_mul, Int.natAbs_of_nonneg (Int.le_of_lt hp), Int.natAbs_of_nonneg (Int.le_of_lt hq)] at e4
    rw [Int.mul_comm, ← e4, Int.mul_comm]
  have gp := gcd_pos hp
  have gq := gcd_pos hq
  have a1 := low_1 hp
  have a2 := low_2 hp
  have b1 := low_1 hq
  have b2 := low_2 hq
  generalize (Int.gcd p.1 p.2 : Int) = g at *
  generalize (Int.gcd q.1 q.2 : Int) = k at *
  have c2 : (low p).2 = (low q).2 := by
    have z : g * k * (low p).2 = g * k * (low q).2 := by
      calc g * k * (low p).2 = k * ((low p).2 * g) := by grind
        _ = g * q.2 := by rw [a2, e]
        _ = g * ((low q).2 * k) := by rw [b2]
        _ = g * k * (low q).2 := by grind
    exact Int.eq_of_mul_eq_mul_left (Int.ne_of_gt (Int.mul_pos gp gq)) z
  refine Prod.ext ?_ c2
  have z : p.2 * q.2 * (low p).1 = p.2 * q.2 * (low q).1 := by
    have s1 : (low p).1 * p.2 = p.1 * (low p).2 := by
      calc (low p).1 * p.2 = (low p).1 * ((low p).2 * g) := by rw [a2]
        _ = ((low p).1 * g) * (low p).2 := by grind
        _ = p.1 * (low p).2 := by rw [a1]
    have s2 : (low q).1 * q.2 = q.1 * (low q).2 := by
      calc (low q).1 * q.2 = (low q).1 * ((low q).2 * k) := by rw [b2]
        _ = ((low q).1 * k) * (low q).2 := by grind
        _ = q.1 * (low q).2 := by rw [b1]
    calc p.2 * q.2 * (low p).1 = q.2 * ((low p).1 * p.2) := by grind
      _ = q.2 * (p.1 * (low p).2) := by rw [s1]
      _ = (p.1 * q.2) * (low p).2 := by grind
      _ = (q.1 * p.2) * (low q).2 := by rw [h, c2]
      _ = p.2 * (q.1 * (low q).2) := by grind
      _ = p.2 * ((low q).1 * q.2) := by rw [s2]
      _ = p.2 * q.2 * (low q).1 := by grind
  exact Int.eq_of_mul_eq_mul_left (Int.ne_of_gt (Int.mul_pos hp hq)) z
theorem low_low {p : P2} (h : 0 < p.2) : low (low p) = low p := low_eq (low_pos h) h (low_sm h)
theorem low_ps {p : P2} (h : Ps p) : Ps (low p) := by
  refine ⟨?_, low_pos h.2⟩
  have a := low_1 h.2
  have g := gcd_pos h.2
  have := h.1
  rw [← a, Int.mul_comm] at this
  exact pos_of this g
theorem low_nonneg {p : P2} (h : 0 < p.2) (h0 : 0 ≤ p.1) : 0 ≤ (low p).1 := Int.ediv_nonneg h0 (Int.le_of_lt (gcd_pos h))
theorem low_pos1 {p : P2} (h : 0 < p.2) : 0 < (low p).1 ↔ 0 < p.1 := by
  have a := low_1 h
  have g := gcd_pos h
  constructor
  · intro q
    rw [← a]
    exact Int.mul_pos q g
  · intro q
    rw [← a, Int.mul_comm] at q
    exact pos_of q g
theorem low_le {p : P2} (h : 0 < p.2) (hl : p.1 ≤ p.2) : (low p).1 ≤ (low p).2 := by
  have a := low_1 h
  have b := low_2 h
  have g := gcd_pos h
  generalize (Int.gcd p.1 p.2 : Int) = k at *
  rw [← a, ← b] at hl
  exact Int.le_of_mul_le_mul_right hl g
theorem low_le' {p : P2} (h : 0 < p.2) (hl : (low p).1 ≤ (low p).2) : p.1 ≤ p.2 := by
  have a := low_1 h
  have b := low_2 h
  have g := gcd_pos h
  generalize (Int.gcd p.1 p.2 : Int) = k at *
  rw [← a, ← b]
  exact Int.mul_le_mul_of_nonneg_right hl (Int.le_of_lt g)

/-- the law's own way through -/
def over (s x : P2) : P2 := low (s.1 * x.2, s.2 * x.1)
def minus (x y : P2) : P2 := low (x.1 * y.2 - y.1 * x.2, x.2 * y.2)
def gone : List P2 → P2 → Option P2
  | [], x => some x
  | s :: r, x => if (minus (1, 1) (over s x)).1 < 1 then none else gone r (minus (1, 1) (over s x))
theorem step_eq {s x : P2} (hs : Sh s) (hx : Ps x) : minus (1, 1) (over s x) = low (beh x s) := by
  have h1 : 0 < s.2 * x.1 := Int.mul_pos hs.2.2 hx.1
  have h2 : 0 < (over s x).2 := low_pos (p := (s.1 * x.2, s.2 * x.1)) h1
  have h3 : sm (over s x) (s.1 * x.2, s.2 * x.1) := low_sm (p := (s.1 * x.2, s.2 * x.1)) h1
  have h3 : (over s x).1 * (s.2 * x.1) = s.1 * x.2 * (over s x).2 := h3
  unfold minus
  refine low_eq ?_ (Int.mul_pos hx.1 hs.2.2) ?_
  · show 0 < 1 * (over s x).2
    omega
  · show (1 * (over s x).2 - (over s x).1 * 1) * (x.1 * s.2) = (x.1 * s.2 - x.2 * s.1) * (1 * (over s x).2)
    grind
theorem gone_go {P : List P2} (hP : ∀ s ∈ P, Sh s) {x : P2} (hx : Ps x) (hl : low x = x) : gone P x = (go P x).map low := by
  induction P generalizing x with
  | nil => show some x = some (low x); rw [hl]
  | cons s r ih =>
    have hs := hP s List.mem_cons_self
    have hb : 0 < (beh x s).2 := Int.mul_pos hx.1 hs.2.2
    unfold gone go
    rw [step_eq hs hx]
    by_cases c : (beh x s).1 ≤ 0
    · have : ¬ 0 < (low (beh x s)).1 := fun z => by have := (low_pos1 hb).mp z; omega
      rw [if_pos c, if_pos (by omega)]
      rfl
    · have px : Ps (beh x s) := ⟨by omega, hb⟩
      have : 0 < (low (beh x s)).1 := (low_pos1 hb).mpr px.1
      rw [if_neg c, if_neg (by omega), ih (fun z hz => hP z (List.mem_cons_of_mem _ hz)) (low_ps px) (low_low hb)]
      rcases go_sm (P := r) (fun z hz => hP z (List.mem_cons_of_mem _ hz)) (low_ps px) px (low_sm hb) with ⟨q1, q2⟩ | ⟨x', y', q1, q2, q3⟩
      · rw [q1, q2]
      · rw [q1, q2]
        have r1 := go_ps (P := r) (fun z hz => hP z (List.mem_cons_of_mem _ hz)) (low_ps px) q1
        have r2 := go_ps (P := r) (fun z hz => hP z (List.mem_cons_of_mem _ hz)) px q2
        show some (low x') = some (low y')
        rw [low_eq r1.2 r2.2 q3]

/-! ### is it a stay -/
def pIs (P : List P2) (x : P2) : Bool := if x.1 = 0 then false else match go P x with
  | none => false
  | some y => !decide (y.1 * x.2 < x.1 * y.2)
def wIs (S : List P2) (x : P2) : Bool := if x.1 < 1 ∨ 1 * x.2 < x.1 * 1 then false else match gone S x with
  | none => false
  | some z => !decide (z.1 * x.2 < x.1 * z.2)
theorem pIs_st {P : List P2} {x : P2} (hx : Ps x) : pIs P x = true ↔ St P x := by
  have : ¬ x.1 = 0 := by have := hx.1; omega
  unfold pIs
  rw [if_neg this]
  unfold St
  cases h : go P x with
  | none => exact ⟨fun z => (by cases z), fun ⟨y, z, _⟩ => (by cases z)⟩
  | some y =>
    constructor
    · intro z
      refine ⟨y, rfl, ?_⟩
      have : ¬ (y.1 * x.2 < x.1 * y.2) := by simpa using z
      show x.1 * y.2 ≤ y.1 * x.2
      omega
    · rintro ⟨y', e, z⟩
      cases e
      have z : x.1 * y.2 ≤ y.1 * x.2 := z
      have : ¬ (y.1 * x.2 < x.1 * y.2) := by omega
      simpa using this
theorem wIs_st {S : List P2} (hS : ∀ s ∈ S, Sh s) {x : P2} (hx : Ps x) (h1 : x.1 ≤ x.2) (hl : low x = x) : wIs S x = true ↔ St S x := by
  have : ¬ (x.1 < 1 ∨ 1 * x.2 < x.1 * 1) := by have := hx.1; omega
  unfold wIs
  rw [if_neg this, gone_go hS hx hl]
  unfold St
  cases h : go S x with
  | none => exact ⟨fun z => (by cases z), fun ⟨y, z, _⟩ => (by cases z)⟩
  | some y =>
    have hy := go_ps hS hx h
    have e := low_sm hy.2
    have e : (low y).1 * y.2 = y.1 * (low y).2 := e
    have py := low_pos hy.2
    have key : ((low y).1 * x.2 < x.1 * (low y).2) ↔ (y.1 * x.2 < x.1 * y.2) := by
      constructor
      · intro z
        refine Int.lt_of_mul_lt_mul_left (a := (low y).2) ?_ (Int.le_of_lt py)
        have := Int.mul_lt_mul_of_pos_right z hy.2
        calc (low y).2 * (y.1 * x.2) = ((low y).1 * y.2) * x.2 := by rw [e]; grind
          _ = (low y).1 * x.2 * y.2 := by grind
          _ < x.1 * (low y).2 * y.2 := this
          _ = (low y).2 * (x.1 * y.2) := by grind
      · intro z
        refine Int.lt_of_mul_lt_mul_left (a := y.2) ?_ (Int.le_of_lt hy.2)
        have := Int.mul_lt_mul_of_pos_right z py
        calc y.2 * ((low y).1 * x.2) = ((low y).1 * y.2) * x.2 := by grind
          _ = y.1 * x.2 * (low y).2 := by rw [e]; grind
          _ < x.1 * y.2 * (low y).2 := this
          _ = y.2 * (x.1 * (low y).2) := by grind
    constructor
    · intro z
      refine ⟨y, rfl, ?_⟩
      have z : (!decide ((low y).1 * x.2 < x.1 * (low y).2)) = true := z
      have : ¬ ((low y).1 * x.2 < x.1 * (low y).2) := by simpa using z
      rw [key] at this
      show x.1 * y.2 ≤ y.1 * x.2
      omega
    · rintro ⟨y', e, z⟩
      cases e
      have z : x.1 * y.2 ≤ y.1 * x.2 := z
      show (!decide ((low y).1 * x.2 < x.1 * (low y).2)) = true
      have : ¬ ((low y).1 * x.2 < x.1 * (low y).2) := by rw [key]; omega
      simpa using this
theorem is_eq {P : List P2} (hP : ∀ s ∈ P, Sh s) (n : Nat) {x : P2} (h0 : 0 ≤ x.1) (h1 : x.1 ≤ x.2) (h2 : 0 < x.2) (hl : low x = x) : pIs P x = wIs (rep (n + 1) P) x := by
  by_cases c : x.1 = 0
  · unfold pIs wIs
    rw [if_pos c, if_pos (Or.inl (by omega))]
  · have hx : Ps x := ⟨by omega, h2⟩
    have a := pIs_st (P := P) hx
    have b := wIs_st (rep_sh (n := n + 1) hP) hx h1 hl
    have d : St P x ↔ St (rep (n + 1) P) x := ⟨st_rep hP hx, st_of_rep hP hx⟩
    rw [Bool.eq_iff_iff, a, b, d]
theorem wIs_ps {S : List P2} {x : P2} (h2 : 0 < x.2) (h : wIs S x = true) : Ps x ∧ x.1 ≤ x.2 := by
  unfold wIs at h
  split at h
  · cases h
  · next c => exact ⟨⟨by omega, h2⟩, by omega⟩
/-! ### the stay that is told -/
def pIs' (P : List P2) (q : P2) : Bool := if 0 ≤ q.1 ∧ q.1 ≤ q.2 then pIs P q else false
def pStay (P : List P2) : Option P2 := if (fo P (1, 0)).2 ≤ 0 then none else if pIs' P (low (mid P)) then some (low (mid P)) else none
def wX (S : List P2) (v : P2) : P2 := if (0, 1) ∈ S then v else low (mid S)
def wStay (S : List P2) : Option P2 := match gone S (1, 1) with
  | none => none
  | some v => if wIs S (wX S v) then some (wX S v) else none
theorem go_const {S : List P2} (hS : ∀ s ∈ S, Sh s) (hm : (0, 1) ∈ S) {x y x' y' : P2} (hx : Ps x) (hy : Ps y) (h1 : go S x = some x') (h2 : go S y = some y') : sm x' y' := by
  obtain ⟨A, B, e⟩ := List.append_of_mem hm
  subst e
  have hA : ∀ s ∈ A, Sh s := fun s h => hS s (List.mem_append_left _ h)
  have hB : ∀ s ∈ B, Sh s := fun s h => hS s (List.mem_append_right _ (List.mem_cons_of_mem _ h))
  rw [go_app] at h1 h2
  cases g1 : go A x with
  | none => rw [g1] at h1; cases h1
  | some u =>
    cases g2 : go A y with
    | none => rw [g2] at h2; cases h2
    | some v =>
      rw [g1] at h1
      rw [g2] at h2
      have h1 : (if (beh u (0, 1)).1 ≤ 0 then none else go B (beh u (0, 1))) = some x' := h1
      have h2 : (if (beh v (0, 1)).1 ≤ 0 then none else go B (beh v (0, 1))) = some y' := h2
      have p1 := go_ps hA hx g1
      have p2 := go_ps hA hy g2
      have e1 : beh u (0, 1) = (u.1, u.1) := by unfold beh; simp
      have e2 : beh v (0, 1) = (v.1, v.1) := by unfold beh; simp
      have q1 := p1.1
      have q2 := p2.1
      rw [e1, if_neg (show ¬ u.1 ≤ 0 by omega)] at h1
      rw [e2, if_neg (show ¬ v.1 ≤ 0 by omega)] at h2
      rcases go_sm hB (x := (u.1, u.1)) (y := (v.1, v.1)) ⟨q1, q1⟩ ⟨q2, q2⟩ (show u.1 * v.1 = v.1 * u.1 by rw [Int.mul_comm]) with ⟨r1, r2⟩ | ⟨a, b, r1, r2, r3⟩
      · rw [r1] at h1; cases h1
      · rw [r1] at h1
        rw [r2] at h2
        cases h1
        cases h2
        exact r3
theorem stay_eq {P : List P2} (hP : ∀ s ∈ P, Sh s) (hn : P ≠ []) (n : Nat) :
    ((wStay (rep (n + 1) P)).isSome = (pStay P).isSome) ∧ ∀ x, pStay P = some x → x = low (mid P) ∧ Ps x ∧ x.1 ≤ x.2 ∧ low x = x ∧ wIs (rep (n + 1) P) x = true ∧ pIs P x = true := by
  have hS := rep_sh (n := n + 1) hP
  have hnS : rep (n + 1) P ≠ [] := by
    rw [rep_succ]
    intro e
    exact hn (List.append_eq_nil_iff.mp e).1
  -- what a stay gives
  have up : ∀ x, Ps x → St P x → pStay P = some (low (mid P)) := by
    intro x hx h
    obtain ⟨hm, sm'⟩ := st_mid hP hn hx h
    obtain ⟨z, hz, hzl⟩ := h
    have W := (way_of hP hx hz).c hn
    obtain ⟨y, g1, g2⟩ := sm'
    have y1 := go_le1 hP hn hm g1
    have yp := go_ps hP hm g1
    have ml : (mid P).1 ≤ (mid P).2 := by
      have g2 : (mid P).1 * y.2 ≤ y.1 * (mid P).2 := g2
      have := Int.mul_le_mul_of_nonneg_right y1 (Int.le_of_lt hm.2)
      refine Int.le_of_mul_le_mul_right (a := y.2) ?_ yp.2
      rw [Int.mul_comm (mid P).2]
      omega
    have lm := low_ps hm
    have ll := low_le hm.2 ml
    have stl : St P (low (mid P)) := by
      rcases go_sm hP lm hm (low_sm hm.2) with ⟨q1, q2⟩ | ⟨a, b, q1, q2, q3⟩
      · rw [g1] at q2; cases q2
      · rw [g1] at q2
        cases q2
        refine ⟨a, q1, ?_⟩
        have pa := go_ps hP lm q1
        exact le_trans lm.2 hm.2 pa.2 (low_sm hm.2).le (le_trans hm.2 yp.2 pa.2 g2 q3.symm.le)
    unfold pStay
    rw [if_neg (by omega)]
    have : pIs' P (low (mid P)) = true := by
      unfold pIs'
      rw [if_pos ⟨by have := lm.1; omega, ll⟩]
      exact (pIs_st lm).mpr stl
    rw [this]
    rfl
  have dn : ∀ x, pStay P = some x → x = low (mid P) ∧ Ps x ∧ x.1 ≤ x.2 ∧ low x = x ∧ wIs (rep (n + 1) P) x = true ∧ pIs P x = true := by
    intro x h
    unfold pStay at h
    split at h
    · cases h
    · next c =>
      split at h
      · next q =>
        cases h
        have h2 : 0 < (mid P).2 := by show 0 < 2 * (fo P (1, 0)).2; omega
        have l2 := low_pos h2
        unfold pIs' at q
        split at q
        · next r =>
          have hx : Ps (low (mid P)) := by
            refine ⟨?_, l2⟩
            rcases Int.lt_or_le 0 (low (mid P)).1 with z | z
            · exact z
            · exfalso
              have : (low (mid P)).1 = 0 := by omega
              unfold pIs at q
              rw [if_pos this] at q
              cases q
          refine ⟨rfl, hx, r.2, low_low h2, ?_, q⟩
          rw [← is_eq hP n r.1 r.2 l2 (low_low h2)]
          exact q
        · cases q
      · cases h
  refine ⟨?_, dn⟩
  cases hp : pStay P with
  | some x =>
    obtain ⟨e, hx, h1, hl, hw, _⟩ := dn x hp
    have st := (wIs_st hS hx h1 hl).mp hw
    -- the law finds one too
    obtain ⟨z, hz, hzl⟩ := st
    obtain ⟨v, g1, g2⟩ := go_mono hS hx (y := (1, 1)) ⟨by decide, by decide⟩ (show x.1 * 1 ≤ 1 * x.2 by omega) hz
    have pv := go_ps hS (x := (1, 1)) ⟨by decide, by decide⟩ g1
    have pz := go_ps hS hx hz
    have eg : gone (rep (n + 1) P) (1, 1) = some (low v) := by
      rw [gone_go hS ⟨by decide, by decide⟩ (by decide), g1]
      rfl
    unfold wStay
    rw [eg]
    have v1 := go_le1 hS hnS (x := (1, 1)) ⟨by decide, by decide⟩ g1
    have : wIs (rep (n + 1) P) (wX (rep (n + 1) P) (low v)) = true := by
      unfold wX
      split
      · next hm =>
        have plv := low_ps pv
        refine (wIs_st hS plv (low_le pv.2 v1) (low_low pv.2)).mpr ?_
        have zv := go_const hS hm hx (y := (1, 1)) ⟨by decide, by decide⟩ hz g1
        -- v is no lower than x
        have xv : le x (low v) := le_trans hx.2 pz.2 plv.2 hzl (le_trans pz.2 pv.2 plv.2 zv.le (low_sm pv.2).symm.le)
        obtain ⟨w, k1, k2⟩ := go_mono hS hx plv xv hz
        have pw := go_ps hS plv k1
        have wv := go_const hS hm plv (y := (1, 1)) ⟨by decide, by decide⟩ k1 g1
        exact ⟨w, k1, le_trans plv.2 pv.2 pw.2 (low_sm pv.2).le wv.symm.le⟩
      · obtain ⟨hm, y, k1, k2⟩ := st_mid hS hnS hx ⟨z, hz, hzl⟩
        have y1 := go_le1 hS hnS hm k1
        have yp := go_ps hS hm k1
        have ml : (mid (rep (n + 1) P)).1 ≤ (mid (rep (n + 1) P)).2 := by
          have k2 : (mid (rep (n + 1) P)).1 * y.2 ≤ y.1 * (mid (rep (n + 1) P)).2 := k2
          have := Int.mul_le_mul_of_nonneg_right y1 (Int.le_of_lt hm.2)
          refine Int.le_of_mul_le_mul_right (a := y.2) ?_ yp.2
          rw [Int.mul_comm (mid (rep (n + 1) P)).2]
          omega
        have lm := low_ps hm
        refine (wIs_st hS lm (low_le hm.2 ml) (low_low hm.2)).mpr ?_
        rcases go_sm hS lm hm (low_sm hm.2) with ⟨q1, q2⟩ | ⟨a, b, q1, q2, q3⟩
        · rw [k1] at q2; cases q2
        · rw [k1] at q2
          cases q2
          refine ⟨a, q1, ?_⟩
          have pa := go_ps hS lm q1
          exact le_trans lm.2 hm.2 pa.2 (low_sm hm.2).le (le_trans hm.2 yp.2 pa.2 k2 q3.symm.le)
    show (if wIs _ (wX _ (low v)) then some _ else none).isSome = _
    rw [this]
    rfl
  | none =>
    unfold wStay
    cases hg : gone (rep (n + 1) P) (1, 1) with
    | none => rfl
    | some v =>
      show (if wIs _ (wX _ v) then some _ else none).isSome = false
      split
      · next q =>
        exfalso
        have gv := hg
        rw [gone_go hS ⟨by decide, by decide⟩ (by decide)] at gv
        cases h1 : go (rep (n + 1) P) (1, 1) with
        | none => rw [h1] at gv; cases gv
        | some u =>
          rw [h1] at gv
          have gv : some (low u) = some v := gv
          cases gv
          have pu := go_ps hS (x := (1, 1)) ⟨by decide, by decide⟩ h1
          have hlx : low (wX (rep (n + 1) P) (low u)) = wX (rep (n + 1) P) (low u) ∧ 0 < (wX (rep (n + 1) P) (low u)).2 := by
            unfold wX
            split
            · exact ⟨low_low pu.2, low_pos pu.2⟩
            · have : 0 < (mid (rep (n + 1) P)).2 := by
                have := (way_of hS (x := (1, 1)) ⟨by decide, by decide⟩ h1).c hnS
                show 0 < 2 * _
                omega
              exact ⟨low_low this, low_pos this⟩
          obtain ⟨hx, hx1⟩ := wIs_ps hlx.2 q
          have st := (wIs_st hS hx hx1 hlx.1).mp q
          have := up _ hx (st_of_rep hP hx st)
          rw [hp] at this
          cases this
      · rfl
end Rw9
end
section
set_option Elab.async false
set_option linter.all false
set_option maxRecDepth 100000
set_option maxHeartbeats 0
set_option autoImplicit false
namespace Z
namespace Lw
open PySem PySem.Spec L2
def top (i : Nat) : Stmt := PySem.Challenge.pw_linkedfaults_k39_whole_stays.main.body.getD i (.Pass ⟨0, 0, 0, 0⟩)
def mkD (a : Str × Option Str) (x q : Str) (st : Stmt) (dfl : List He.Dv := []) : He.DefD := ⟨a, x, q, defArgs st, defBody st, defScope st, dfl, []⟩
/-- _wall -/
def F0 : Fn := { np := 1, nn := 1, keep := false, body := (.cons (.whl 1048576 (.con (.bl true)) (.cons .pass .nil)) .nil) }
/-- lowest -/
def F1 : Fn := { np := 2, nn := 3, keep := false, body := (.cons (.set (.name 2) (.bi .gcd (.cons (.var 0) (.cons (.var 1) .nil)))) (.cons (.ret (.tup (.cons (.bin .FloorDiv (.var 0) (.var 2)) (.cons (.bin .FloorDiv (.var 1) (.var 2)) .nil)))) .nil)) }
/-- above -/
def F2 : Fn := { np := 2, nn := 2, keep := false, body := (.cons (.ret (.cmp .Gt (.bin .Mult (.sub (.var 0) (.con (.int 0))) (.sub (.var 1) (.con (.int 1)))) (.bin .Mult (.sub (.var 1) (.con (.int 0))) (.sub (.var 0) (.con (.int 1)))))) .nil) }
/-- is_integer -/
def F3 : Fn := { np := 1, nn := 1, keep := false, body := (.cons (.ret (.and (.bi .isi (.cons (.var 0) (.cons (.ty "int") .nil))) (.one (.not (.bi .isi (.cons (.var 0) (.cons (.ty "bool") .nil))))))) .nil) }
/-- is_list -/
def F4 : Fn := { np := 1, nn := 1, keep := false, body := (.cons (.ret (.bi .isi (.cons (.var 0) (.cons (.tup (.cons (.ty "list") (.cons (.ty "tuple") .nil))) .nil)))) .nil) }
/-- fraction_of -/
def F5 : Fn := { np := 1, nn := 3, keep := false, body := (.cons (.ife (.call 3 (.cons (.var 0) .nil)) (.cons (.ret (.tup (.cons (.var 0) (.cons (.con (.int 1)) .nil)))) .nil) .nil) (.cons (.ife (.or (.not (.call 4 (.cons (.var 0) .nil))) (.one (.cmp .NotEq (.bi .len (.cons (.var 0) .nil)) (.con (.int 2))))) (.cons (.ret (.con .non)) .nil) .nil) (.cons (.set (.tup (.cons (.name 1) (.cons (.name 2) .nil))) (.var 0)) (.cons (.ife (.or (.not (.call 3 (.cons (.var 1) .nil))) (.or (.not (.call 3 (.cons (.var 2) .nil))) (.one (.cmp .Lt (.var 2) (.con (.int 1)))))) (.cons (.ret (.con .non)) .nil) .nil) (.cons (.ret (.call 1 (.cons (.var 1) (.cons (.var 2) .nil)))) .nil))))) }
/-- amount_of -/
def F6 : Fn := { np := 1, nn := 2, keep := false, body := (.cons (.set (.name 1) (.call 5 (.cons (.var 0) .nil))) (.cons (.ife (.or (.cmp .Is (.var 1) (.con .non)) (.one (.cmp .Lt (.sub (.var 1) (.con (.int 0))) (.con (.int 0))))) (.cons (.ret (.con .non)) .nil) .nil) (.cons (.ret (.var 1)) .nil))) }
/-- share_of -/
def F7 : Fn := { np := 1, nn := 2, keep := false, body := (.cons (.set (.name 1) (.call 6 (.cons (.var 0) .nil))) (.cons (.ife (.or (.cmp .Is (.var 1) (.con .non)) (.one (.cmp .Gt (.sub (.var 1) (.con (.int 0))) (.sub (.var 1) (.con (.int 1)))))) (.cons (.ret (.con .non)) .nil) .nil) (.cons (.ret (.var 1)) .nil))) }
/-- contents -/
def F8 : Fn := { np := 1, nn := 1, keep := false, body := (.cons (.ife (.bi .isi (.cons (.var 0) (.cons (.ty "dict") .nil))) (.cons (.ret (.bi .list (.cons .hole .nil))) .nil) .nil) (.cons (.ret (.ite (.call 4 (.cons (.var 0) .nil)) (.bi .list (.cons (.var 0) .nil)) (.lst false .nil))) .nil)) }
/-- refilled -/
def F9 : Fn := { np := 2, nn := 4, keep := false, body := (.cons (.ife (.bi .isi (.cons (.var 0) (.cons (.ty "dict") .nil))) (.cons (.ret .hole) .nil) .nil) (.cons (.ife (.bi .isi (.cons (.var 0) (.cons (.ty "tuple") .nil))) (.cons (.ret (.bi .tuple (.cons (.var 1) .nil))) .nil) .nil) (.cons (.ret (.ite (.bi .isi (.cons (.var 0) (.cons (.ty "list") .nil))) (.var 1) (.var 0))) .nil))) }
/-- copied -/
def F10 : Fn := { np := 1, nn := 8, keep := false, body := (.cons (.set (.name 1) (.lst true (.cons (.var 0) .nil))) (.cons (.set (.name 2) (.lst true .nil)) (.cons (.whl 1048576 (.chain .Lt .Lt (.bi .len (.cons (.var 2) .nil)) (.bi .len (.cons (.var 1) .nil)) (.glob 0)) (.cons (.set (.name 5) (.call 8 (.cons (.sub (.var 1) (.bi .len (.cons (.var 2) .nil))) .nil))) (.cons (.expr (.app (.var 2) (.tup (.cons (.bi .len (.cons (.var 1) .nil)) (.cons (.bin .Add (.bi .len (.cons (.var 1) .nil)) (.bi .len (.cons (.var 5) .nil))) .nil))))) (.cons (.expr (.ext (.var 1) (.var 5))) .nil)))) (.cons (.set (.name 3) (.bi .list (.cons (.var 1) .nil))) (.cons .hole (.cons (.ret (.sub (.var 3) (.con (.int 0)))) .nil)))))) }
/-- BadShare.__init__ -/
def F11 : Fn := { np := 2, nn := 2, keep := false, body := (.cons (.expr .hole) (.cons (.setFld "share" (.var 0) (.call 10 (.cons (.var 1) .nil))) .nil)) }
/-- BadCount.__init__ -/
def F12 : Fn := { np := 2, nn := 2, keep := false, body := (.cons (.expr .hole) (.cons (.setFld "count" (.var 0) (.call 10 (.cons (.var 1) .nil))) .nil)) }
/-- BadPlace.__init__ -/
def F13 : Fn := { np := 2, nn := 2, keep := false, body := (.cons (.expr .hole) (.cons (.setFld "place" (.var 0) (.call 10 (.cons (.var 1) .nil))) .nil)) }
/-- check_place -/
def F14 : Fn := { np := 1, nn := 1, keep := false, body := (.cons (.ife (.or (.not (.call 3 (.cons (.var 0) .nil))) (.one (.cmp .Lt (.var 0) (.con (.int 0))))) (.cons .hole .nil) .nil) .nil) }
/-- told_row -/
def F15 : Fn := { np := 1, nn := 4, keep := false, body := (.cons (.ife (.or (.not (.call 4 (.cons (.var 0) .nil))) (.one (.not (.var 0)))) (.cons .hole .nil) .nil) (.cons (.set (.name 1) (.lst true .nil)) (.cons (.for (.name 2) (.val (.var 0)) (.cons (.set (.name 3) (.call 7 (.cons (.var 2) .nil))) (.cons (.ife (.cmp .Is (.var 3) (.con .non)) (.cons .hole .nil) .nil) (.cons (.expr (.app (.var 1) (.var 3))) .nil)))) (.cons (.ret (.frz (.var 1))) .nil)))) }
/-- shortest -/
def F16 : Fn := { np := 1, nn := 3, keep := false, body := (.cons (.for (.name 1) (.rng2 (.con (.int 1)) (.bi .len (.cons (.var 0) .nil))) (.cons (.set (.name 2) (.bin .FloorDiv (.bi .len (.cons (.var 0) .nil)) (.var 1))) (.cons (.ife (.cmp .Eq (.bin .Mult (.slc (.var 0) .no (.yes (.var 1))) (.var 2)) (.var 0)) (.cons (.ret (.slc (.var 0) .no (.yes (.var 1)))) .nil) .nil) .nil))) (.cons (.ret (.var 0)) .nil)) }
/-- behind -/
def F17 : Fn := { np := 2, nn := 2, keep := false, body := (.cons (.ret (.tup (.cons (.bin .Sub (.bin .Mult (.sub (.var 0) (.con (.int 0))) (.sub (.var 1) (.con (.int 1)))) (.bin .Mult (.sub (.var 0) (.con (.int 1))) (.sub (.var 1) (.con (.int 0))))) (.cons (.bin .Mult (.sub (.var 0) (.con (.int 0))) (.sub (.var 1) (.con (.int 1)))) .nil)))) .nil) }
/-- Row.__init__ -/
def F18 : Fn := { np := 2, nn := 2, keep := false, body := (.cons (.setFld "_shares" (.var 0) (.call 16 (.cons (.call 15 (.cons (.var 1) .nil)) .nil))) .nil) }
/-- Row.__eq__ -/
def F19 : Fn := { np := 2, nn := 2, keep := false, body := (.cons (.ret (.and (.bi .isi (.cons (.var 1) (.cons (.cls 4) .nil))) (.one (.cmp .Eq (.fld "_shares" (.var 0)) (.fld "_shares" (.var 1)))))) .nil) }
/-- Row.__getitem__ -/
def F20 : Fn := { np := 2, nn := 2, keep := false, body := (.cons (.expr (.call 14 (.cons (.var 1) .nil))) (.cons (.ret (.sub (.fld "_shares" (.var 0)) (.bin .Mod (.var 1) (.bi .len (.cons (.fld "_shares" (.var 0)) .nil))))) .nil)) }
/-- Row.__iter__ -/
def F21 : Fn := { np := 1, nn := 1, keep := false, body := (.cons .hole .nil) }
/-- Row.shares -/
def F22 : Fn := { np := 1, nn := 1, keep := false, body := (.cons (.ret (.bi .list (.cons (.fld "_shares" (.var 0)) .nil))) .nil) }
/-- Row.system -/
def F23 : Fn := { np := 3, nn := 3, keep := false, body := (.cons (.expr (.call 0 (.cons (.con (.int 0)) .nil))) .nil) }
/-- Row.chance -/
def F24 : Fn := { np := 3, nn := 3, keep := false, body := (.cons (.expr (.call 0 (.cons (.con (.int 1)) .nil))) .nil) }
/-- Row.unsafe_at -/
def F25 : Fn := { np := 2, nn := 4, keep := false, body := (.cons (.expr (.call 14 (.cons (.var 1) .nil))) (.cons (.ife (.cmp .IsNot (.meth "stay" (.var 0) .nil) (.con .non)) (.cons (.ret (.con .non)) .nil) .nil) (.cons (.par 2 3 (.var 1) (.tup (.cons (.con (.int 1)) (.cons (.con (.int 1)) .nil)))) (.cons (.whl 1048576 (.cmp .Gt (.sub (.var 3) (.con (.int 0))) (.con (.int 0))) (.cons (.set (.name 3) (.call 17 (.cons (.var 3) (.cons (.sub (.var 0) (.var 2)) .nil)))) (.cons (.aug 2 .Add (.con (.int 1))) .nil))) (.cons (.ret (.bin .Sub (.var 2) (.var 1))) .nil))))) }
/-- Row.stay -/
def F26 : Fn := { np := 1, nn := 5, keep := false, body := (.cons (.set (.tup (.cons (.name 3) (.cons (.name 4) .nil))) (.tup (.cons (.tup (.cons (.con (.int 1)) (.cons (.con (.int 0)) .nil))) (.cons (.tup (.cons (.con (.int 0)) (.cons (.con (.int 1)) .nil))) .nil)))) (.cons (.for (.name 1) (.val (.fld "_shares" (.var 0))) (.cons (.par 3 4 (.call 17 (.cons (.var 3) (.cons (.var 1) .nil))) (.call 17 (.cons (.var 4) (.cons (.var 1) .nil)))) .nil)) (.cons (.ife (.cmp .LtE (.sub (.var 3) (.con (.int 1))) (.con (.int 0))) (.cons (.ret (.con .non)) .nil) .nil) (.cons (.set (.name 2) (.call 1 (.cons (.bin .Sub (.sub (.var 3) (.con (.int 0))) (.sub (.var 4) (.con (.int 1)))) (.cons (.bin .Mult (.con (.int 2)) (.sub (.var 3) (.con (.int 1)))) .nil)))) (.cons (.ret (.ite (.meth "is_stay" (.var 0) (.cons (.var 2) .nil)) (.var 2) (.con .non))) .nil))))) }
/-- Row.is_stay -/
def F27 : Fn := { np := 2, nn := 5, keep := false, body := (.cons (.set (.name 2) (.call 7 (.cons (.var 1) .nil))) (.cons (.ife (.or (.cmp .Is (.var 2) (.con .non)) (.one (.cmp .Eq (.sub (.var 2) (.con (.int 0))) (.con (.int 0))))) (.cons (.ret (.con (.bl false))) .nil) .nil) (.cons (.set (.name 3) (.var 2)) (.cons (.for (.name 4) (.val (.fld "_shares" (.var 0))) (.cons (.set (.name 3) (.call 17 (.cons (.var 3) (.cons (.var 4) .nil)))) (.cons (.ife (.cmp .LtE (.sub (.var 3) (.con (.int 0))) (.con (.int 0))) (.cons (.ret (.con (.bl false))) .nil) .nil) .nil))) (.cons (.ret (.not (.call 2 (.cons (.var 2) (.cons (.var 3) .nil))))) .nil))))) }
/-- _law_spring -/
def F28 : Fn := { np := 1, nn := 3, keep := true, body := (.cons (.set (.name 1) (.lc false [("_law_cell", 2)] (.bi .int (.cons (.var 2) .nil)) (.name 2) (.val (.var 0)) (.yes (.cmp .Lt (.var 2) (.bin .Pow (.con (.int 10)) (.con (.int 18))))))) (.cons (.ret (.lst true (.cons (.lc true [("_law_cell", 2)] (.bi .int (.cons (.var 2) .nil)) (.name 2) (.val (.var 0)) (.yes (.cmp .GtE (.var 2) (.bin .Pow (.con (.int 10)) (.con (.int 18)))))) (.cons (.con (.int 0)) (.cons (.var 1) (.cons (.con (.int 0)) .nil)))))) .nil)) }
/-- _law_take -/
def F29 : Fn := { np := 2, nn := 6, keep := false, body := (.cons (.setSub (.var 0) (.con (.int 3)) (.bin .Add (.sub (.var 0) (.con (.int 3))) (.con (.int 1)))) (.cons (.ife (.and (.cmp .Eq (.sub (.var 0) (.con (.int 1))) (.con (.int 0))) (.one (.cmp .NotEq (.sub (.var 0) (.con (.int 0))) (.lst false .nil)))) (.cons (.setSub (.var 0) (.con (.int 1)) (.pop (.sub (.var 0) (.con (.int 0))) (.con (.int 0)))) .nil) .nil) (.cons (.ife (.cmp .Gt (.sub (.var 0) (.con (.int 1))) (.con (.int 0))) (.cons (.set (.name 5) (.bin .Mod (.bi .int (.cons (.sub (.var 0) (.con (.int 1))) .nil)) (.var 1))) (.cons (.setSub (.var 0) (.con (.int 1)) (.bin .FloorDiv (.sub (.var 0) (.con (.int 1))) (.var 1))) (.cons (.ret (.var 5)) .nil))) .nil) (.cons (.set (.name 2) (.ite (.cmp .Eq (.sub (.var 0) (.con (.int 2))) (.lst false .nil)) (.bin .Mult (.con (.int 13)) (.sub (.var 0) (.con (.int 3)))) (.sub (.sub (.var 0) (.con (.int 2))) (.bin .Mod (.bi .int (.cons (.sub (.var 0) (.con (.int 3))) .nil)) (.bi .len (.cons (.sub (.var 0) (.con (.int 2))) .nil)))))) (.cons (.set (.name 3) (.bin .Mod (.bin .Pow (.bi .int (.cons (.bin .Add (.bin .Add (.bin .Mod (.bi .int (.cons (.var 2) .nil)) (.con (.int 1000003))) (.bin .Mult (.con (.int 7907)) (.sub (.var 0) (.con (.int 3))))) (.con (.int 11))) .nil)) (.con (.int 5))) (.con (.int 2147483629)))) (.cons (.set (.name 4) (.bin .Mod (.bi .int (.cons (.bin .Add (.bin .Mult (.var 3) (.con (.int 48271))) (.bin .Mult (.con (.int 6007)) (.sub (.var 0) (.con (.int 3))))) .nil)) (.con (.int 2147483587)))) (.cons (.ret (.bin .Mod (.bin .FloorDiv (.bin .Mod (.bi .int (.cons (.bin .Add (.bin .Mult (.var 4) (.con (.int 69621))) (.con (.int 17))) .nil)) (.con (.int 1000000007))) (.con (.int 5))) (.var 1))) .nil))))))) }
/-- _law_one -/
def F30 : Fn := { np := 2, nn := 2, keep := false, body := (.cons (.ret (.sub (.var 1) (.call 29 (.cons (.var 0) (.cons (.bi .len (.cons (.var 1) .nil)) .nil))))) .nil) }
/-- _law_same -/
def F31 : Fn := { np := 2, nn := 6, keep := false, body := (.cons (.ife (.bi .isi (.cons (.var 1) (.cons (.ty "dict") .nil))) (.cons (.ife (.or (.not (.bi .isi (.cons (.var 0) (.cons (.ty "dict") .nil)))) (.one (.cmp .NotEq (.bi .len (.cons (.var 0) .nil)) (.bi .len (.cons (.var 1) .nil))))) (.cons (.ret (.con (.bl false))) .nil) .nil) (.cons (.ret .hole) .nil)) .nil) (.cons (.ife (.bi .isi (.cons (.var 1) (.cons (.tup (.cons (.ty "list") (.cons (.ty "tuple") .nil))) .nil))) (.cons (.ife (.cmp .NotEq (.bi .isi (.cons (.var 0) (.cons (.ty "list") .nil))) (.bi .isi (.cons (.var 1) (.cons (.ty "list") .nil)))) (.cons (.ret (.con (.bl false))) .nil) .nil) (.cons (.ife (.cmp .NotEq (.bi .isi (.cons (.var 0) (.cons (.ty "tuple") .nil))) (.bi .isi (.cons (.var 1) (.cons (.ty "tuple") .nil)))) (.cons (.ret (.con (.bl false))) .nil) .nil) (.cons (.ret (.and (.cmp .Eq (.bi .len (.cons (.var 0) .nil)) (.bi .len (.cons (.var 1) .nil))) (.one .hole))) .nil))) .nil) (.cons (.ife (.bi .isi (.cons (.var 1) (.cons (.ty "int") .nil))) (.cons (.set (.name 2) (.cmp .Eq (.bi .isi (.cons (.var 0) (.cons (.ty "bool") .nil))) (.bi .isi (.cons (.var 1) (.cons (.ty "bool") .nil))))) (.cons (.ret (.and (.bi .isi (.cons (.var 0) (.cons (.ty "int") .nil))) (.and (.var 2) (.one (.cmp .Eq (.var 0) (.var 1)))))) .nil)) .nil) (.cons (.ret (.and (.not (.bi .isi (.cons (.var 0) (.cons (.tup (.cons (.ty "int") (.cons (.ty "list") (.cons (.ty "tuple") (.cons (.ty "dict") .nil))))) .nil)))) (.one (.cmp .Eq (.var 0) (.var 1))))) .nil)))) }
/-- _law_lowest -/
def F32 : Fn := { np := 2, nn := 4, keep := false, body := (.cons (.par 2 3 (.bi .abs (.cons (.var 0) .nil)) (.var 1)) (.cons (.whl 1048576 (.cmp .Gt (.var 3) (.con (.int 0))) (.cons (.par 2 3 (.var 3) (.bin .Mod (.var 2) (.var 3))) .nil)) (.cons (.ret (.tup (.cons (.bin .FloorDiv (.var 0) (.var 2)) (.cons (.bin .FloorDiv (.var 1) (.var 2)) .nil)))) .nil))) }
/-- _law_plus -/
def F33 : Fn := { np := 2, nn := 2, keep := false, body := (.cons (.ret (.call 32 (.cons (.bin .Add (.bin .Mult (.sub (.var 0) (.con (.int 0))) (.sub (.var 1) (.con (.int 1)))) (.bin .Mult (.sub (.var 1) (.con (.int 0))) (.sub (.var 0) (.con (.int 1))))) (.cons (.bin .Mult (.sub (.var 0) (.con (.int 1))) (.sub (.var 1) (.con (.int 1)))) .nil)))) .nil) }
/-- _law_minus -/
def F34 : Fn := { np := 2, nn := 2, keep := false, body := (.cons (.ret (.call 32 (.cons (.bin .Sub (.bin .Mult (.sub (.var 0) (.con (.int 0))) (.sub (.var 1) (.con (.int 1)))) (.bin .Mult (.sub (.var 1) (.con (.int 0))) (.sub (.var 0) (.con (.int 1))))) (.cons (.bin .Mult (.sub (.var 0) (.con (.int 1))) (.sub (.var 1) (.con (.int 1)))) .nil)))) .nil) }
/-- _law_times -/
def F35 : Fn := { np := 2, nn := 2, keep := false, body := (.cons (.ret (.call 32 (.cons (.bin .Mult (.sub (.var 0) (.con (.int 0))) (.sub (.var 1) (.con (.int 0)))) (.cons (.bin .Mult (.sub (.var 0) (.con (.int 1))) (.sub (.var 1) (.con (.int 1)))) .nil)))) .nil) }
/-- _law_over -/
def F36 : Fn := { np := 2, nn := 2, keep := false, body := (.cons (.ret (.call 32 (.cons (.bin .Mult (.sub (.var 0) (.con (.int 0))) (.sub (.var 1) (.con (.int 1)))) (.cons (.bin .Mult (.sub (.var 0) (.con (.int 1))) (.sub (.var 1) (.con (.int 0)))) .nil)))) .nil) }
/-- _law_less -/
def F37 : Fn := { np := 2, nn := 2, keep := false, body := (.cons (.ret (.cmp .Lt (.bin .Mult (.sub (.var 0) (.con (.int 0))) (.sub (.var 1) (.con (.int 1)))) (.bin .Mult (.sub (.var 1) (.con (.int 0))) (.sub (.var 0) (.con (.int 1)))))) .nil) }
/-- _law_share -/
def F38 : Fn := { np := 2, nn := 3, keep := false, body := (.cons (.ife (.cmp .Eq (.var 1) (.con (.str "any"))) (.cons (.set (.name 2) (.bin .Add (.con (.int 1)) (.call 29 (.cons (.var 0) (.cons (.con (.int 12)) .nil))))) (.cons (.ret (.call 32 (.cons (.call 29 (.cons (.var 0) (.cons (.bin .Add (.var 2) (.con (.int 1))) .nil))) (.cons (.var 2) .nil)))) .nil)) .nil) (.cons (.ife (.cmp .Eq (.var 1) (.con (.str "small"))) (.cons (.ret (.call 32 (.cons (.call 29 (.cons (.var 0) (.cons (.con (.int 4)) .nil))) (.cons (.bin .Add (.con (.int 12)) (.call 29 (.cons (.var 0) (.cons (.con (.int 12)) .nil)))) .nil)))) .nil) .nil) (.cons (.ret (.call 30 (.cons (.var 0) (.cons (.lst false (.cons (.tup (.cons (.con (.int 0)) (.cons (.con (.int 1)) .nil))) (.cons (.tup (.cons (.con (.int 1)) (.cons (.con (.int 4)) .nil))) (.cons (.tup (.cons (.con (.int 1)) (.cons (.con (.int 5)) .nil))) (.cons (.tup (.cons (.con (.int 1)) (.cons (.con (.int 6)) .nil))) (.cons (.tup (.cons (.con (.int 2)) (.cons (.con (.int 9)) .nil))) (.cons (.tup (.cons (.con (.int 1)) (.cons (.con (.int 8)) .nil))) (.cons (.tup (.cons (.con (.int 1)) (.cons (.con (.int 3)) .nil))) (.cons (.tup (.cons (.con (.int 3)) (.cons (.con (.int 10)) .nil))) (.cons (.tup (.cons (.con (.int 1)) (.cons (.con (.int 2)) .nil))) (.cons (.tup (.cons (.con (.int 1)) (.cons (.con (.int 1)) .nil))) .nil))))))))))) .nil)))) .nil))) }
/-- _law_handed -/
def F39 : Fn := { np := 2, nn := 6, keep := false, body := (.cons (.set (.tup (.cons (.name 4) (.cons (.name 5) .nil))) (.var 1)) (.cons (.set (.name 2) (.bin .Add (.con (.int 1)) (.call 29 (.cons (.var 0) (.cons (.con (.int 4)) .nil))))) (.cons (.set (.name 3) (.bin .Add (.lst false (.cons (.tup (.cons (.var 4) (.cons (.var 5) .nil))) (.cons (.lst false (.cons (.var 4) (.cons (.var 5) .nil))) (.cons (.tup (.cons (.bin .Mult (.var 2) (.var 4)) (.cons (.bin .Mult (.var 2) (.var 5)) .nil))) .nil)))) (.bin .Mult (.lst false (.cons (.var 4) .nil)) (.bi .int (.cons (.cmp .Eq (.var 5) (.con (.int 1))) .nil))))) (.cons (.ret (.call 30 (.cons (.var 0) (.cons (.var 3) .nil)))) .nil)))) }
/-- _law_gone -/
def F40 : Fn := { np := 2, nn := 3, keep := false, body := (.cons (.for (.name 2) (.val (.var 0)) (.cons (.set (.name 1) (.call 34 (.cons (.tup (.cons (.con (.int 1)) (.cons (.con (.int 1)) .nil))) (.cons (.call 36 (.cons (.var 2) (.cons (.var 1) .nil))) .nil)))) (.cons (.ife (.cmp .Lt (.sub (.var 1) (.con (.int 0))) (.con (.int 1))) (.cons (.ret (.con .non)) .nil) .nil) .nil))) (.cons (.ret (.var 1)) .nil)) }
/-- _law_is_stay -/
def F41 : Fn := { np := 2, nn := 3, keep := false, body := (.cons (.ife (.or (.cmp .Lt (.sub (.var 1) (.con (.int 0))) (.con (.int 1))) (.one (.call 37 (.cons (.tup (.cons (.con (.int 1)) (.cons (.con (.int 1)) .nil))) (.cons (.var 1) .nil))))) (.cons (.ret (.con (.bl false))) .nil) .nil) (.cons (.set (.name 2) (.call 40 (.cons (.var 0) (.cons (.var 1) .nil)))) (.cons (.ret (.and (.cmp .IsNot (.var 2) (.con .non)) (.one (.not (.call 37 (.cons (.var 2) (.cons (.var 1) .nil))))))) .nil))) }
/-- _law_row_shares -/
def F42 : Fn := { np := 1, nn := 5, keep := false, body := (.cons (.set (.name 1) (.call 29 (.cons (.var 0) (.cons (.con (.int 4)) .nil)))) (.cons (.set (.name 2) (.lst false (.cons (.tup (.cons (.con (.int 1)) (.cons (.con (.int 4)) .nil))) (.cons (.tup (.cons (.con (.int 2)) (.cons (.con (.int 9)) .nil))) (.cons (.tup (.cons (.con (.int 1)) (.cons (.con (.int 5)) .nil))) (.cons (.tup (.cons (.con (.int 1)) (.cons (.con (.int 6)) .nil))) (.cons (.tup (.cons (.con (.int 3)) (.cons (.con (.int 10)) .nil))) (.cons (.tup (.cons (.con (.int 1)) (.cons (.con (.int 3)) .nil))) (.cons (.tup (.cons (.con (.int 0)) (.cons (.con (.int 1)) .nil))) (.cons (.tup (.cons (.con (.int 1)) (.cons (.con (.int 9)) .nil))) .nil)))))))))) (.cons (.set (.name 3) (.lst true .nil)) (.cons (.for (.name 4) (.rng1 (.bin .Add (.con (.int 1)) (.call 29 (.cons (.var 0) (.cons (.con (.int 6)) .nil))))) (.cons (.ife (.cmp .Lt (.var 1) (.con (.int 2))) (.cons (.expr (.app (.var 3) (.call 30 (.cons (.var 0) (.cons (.var 2) .nil))))) .nil) (.cons (.ife (.cmp .Eq (.var 1) (.con (.int 2))) (.cons (.expr (.app (.var 3) (.call 38 (.cons (.var 0) (.cons (.con (.str "small")) .nil))))) .nil) (.cons (.expr (.app (.var 3) (.call 38 (.cons (.var 0) (.cons (.con (.str "any")) .nil))))) .nil)) .nil)) .nil)) (.cons (.ret (.ite (.and (.cmp .Eq (.bi .len (.cons (.var 3) .nil)) (.con (.int 3))) (.one (.cmp .Eq (.call 29 (.cons (.var 0) (.cons (.con (.int 2)) .nil))) (.con (.int 0))))) (.bin .Mult (.slc (.var 3) .no (.yes (.con (.int 3)))) (.con (.int 2))) (.frz (.var 3)))) .nil))))) }
/-- _law_stay -/
def F43 : Fn := { np := 1, nn := 10, keep := false, body := (.cons (.ife (.cmp .Is (.call 40 (.cons (.var 0) (.cons (.tup (.cons (.con (.int 1)) (.cons (.con (.int 1)) .nil))) .nil))) (.con .non)) (.cons (.ret (.con .non)) .nil) .nil) (.cons (.set (.tup (.cons (.name 2) (.cons (.name 3) (.cons (.name 4) (.cons (.name 5) .nil))))) (.tup (.cons (.con (.int 1)) (.cons (.con (.int 0)) (.cons (.con (.int 0)) (.cons (.con (.int 1)) .nil)))))) (.cons (.for (.tup (.cons (.name 6) (.cons (.name 7) .nil))) (.val (.var 0)) (.cons (.par 8 9 (.bin .Sub (.bin .Mult (.var 7) (.var 2)) (.bin .Mult (.var 6) (.var 4))) (.bin .Sub (.bin .Mult (.var 7) (.var 3)) (.bin .Mult (.var 6) (.var 5)))) (.cons (.set (.tup (.cons (.name 2) (.cons (.name 3) (.cons (.name 4) (.cons (.name 5) .nil))))) (.tup (.cons (.var 8) (.cons (.var 9) (.cons (.bin .Mult (.var 7) (.var 2)) (.cons (.bin .Mult (.var 7) (.var 3)) .nil)))))) .nil))) (.cons (.set (.name 1) (.ite (.cmp .In (.tup (.cons (.con (.int 0)) (.cons (.con (.int 1)) .nil))) (.var 0)) (.call 40 (.cons (.var 0) (.cons (.tup (.cons (.con (.int 1)) (.cons (.con (.int 1)) .nil))) .nil))) (.call 32 (.cons (.bin .Sub (.var 2) (.var 5)) (.cons (.bin .Mult (.con (.int 2)) (.var 4)) .nil))))) (.cons (.ret (.ite (.call 41 (.cons (.var 0) (.cons (.var 1) .nil))) (.var 1) (.con .non))) .nil))))) }
/-- _law_edge -/
def F44 : Fn := { np := 1, nn := 3, keep := false, body := (.cons (.set (.name 1) (.call 32 (.cons (.bin .Add (.con (.int 1)) (.call 29 (.cons (.var 0) (.cons (.con (.int 11)) .nil)))) (.cons (.con (.int 12)) .nil)))) (.cons (.set (.name 2) (.call 34 (.cons (.tup (.cons (.con (.int 1)) (.cons (.con (.int 1)) .nil))) (.cons (.var 1) .nil)))) (.cons (.ret (.lst false (.cons (.call 35 (.cons (.var 1) (.cons (.var 1) .nil))) (.cons (.call 35 (.cons (.var 2) (.cons (.var 2) .nil))) .nil)))) .nil))) }
/-- _law_is_right -/
def F45 : Fn := { np := 2, nn := 4, keep := false, body := (.cons (.par 2 3 (.call 43 (.cons (.var 1) .nil)) (.meth "stay" (.var 0) .nil)) (.cons (.ife (.cmp .Is (.var 2) (.con .non)) (.cons (.ret (.cmp .Is (.var 3) (.con .non))) .nil) .nil) (.cons (.ife (.or (.not (.bi .isi (.cons (.var 3) (.cons (.ty "tuple") .nil)))) (.or (.cmp .NotEq (.bi .len (.cons (.var 3) .nil)) (.con (.int 2))) (.one (.cmp .NotEq (.var 3) (.call 32 (.cons (.sub (.var 3) (.con (.int 0))) (.cons (.sub (.var 3) (.con (.int 1))) .nil))))))) (.cons (.ret (.con (.bl false))) .nil) .nil) (.cons (.ife (.or (.not (.call 41 (.cons (.var 1) (.cons (.var 3) .nil)))) (.or (.cmp .IsNot (.meth "unsafe_at" (.var 0) .nil) (.con .non)) (.one (.cmp .IsNot (.meth "unsafe_at" (.var 0) (.cons (.con (.int 3)) .nil)) (.con .non))))) (.cons (.ret (.con (.bl false))) .nil) .nil) (.cons (.ret (.and (.cmp .Is (.meth "is_stay" (.var 0) (.cons (.var 3) .nil)) (.con (.bl true))) (.one (.cmp .Is (.meth "is_stay" (.var 0) (.cons (.bi .list (.cons (.var 3) .nil)) .nil)) (.con (.bl true)))))) .nil))))) }
/-- law -/
def F46 : Fn := { np := 1, nn := 13, keep := false, body := (.cons (.set (.name 1) (.call 28 (.cons (.var 0) .nil))) (.cons (.for (.name 2) (.rng1 (.con (.int 4))) (.cons (.set (.name 6) (.call 42 (.cons (.var 1) .nil))) (.cons (.ife (.cmp .Eq (.call 29 (.cons (.var 1) (.cons (.con (.int 3)) .nil))) (.con (.int 0))) (.cons (.set (.name 6) (.call 44 (.cons (.var 1) .nil))) .nil) .nil) (.cons (.set (.name 7) (.make 4 (.cons (.var 6) .nil))) (.cons (.ife (.or (.not (.call 45 (.cons (.var 7) (.cons (.var 6) .nil)))) (.one (.cmp .NotEq (.meth "stay" (.var 7) .nil) (.meth "stay" (.var 7) .nil)))) (.cons (.ret (.con (.bl false))) .nil) .nil) (.cons (.for (.name 8) (.rng1 (.con (.int 6))) (.cons (.set (.name 10) (.bin .Add (.con (.int 1)) (.call 29 (.cons (.var 1) (.cons (.con (.int 24)) .nil))))) (.cons (.set (.name 11) (.call 32 (.cons (.call 29 (.cons (.var 1) (.cons (.bin .Add (.var 10) (.con (.int 2))) .nil))) (.cons (.var 10) .nil)))) (.cons (.ife (.not (.call 31 (.cons (.meth "is_stay" (.var 7) (.cons (.call 39 (.cons (.var 1) (.cons (.var 11) .nil))) .nil)) (.cons (.call 41 (.cons (.var 6) (.cons (.var 11) .nil))) .nil)))) (.cons (.ret (.con (.bl false))) .nil) .nil) .nil)))) (.cons (.for (.name 9) (.val (.lst false (.cons (.con .non) (.cons (.con (.int 0)) (.cons (.neg (.con (.int 1))) (.cons (.tup (.cons (.neg (.con (.int 1))) (.cons (.con (.int 2)) .nil))) (.cons (.tup (.cons (.con (.int 1)) (.cons (.con (.int 0)) .nil))) (.cons (.tup (.cons (.con (.int 0)) (.cons (.con (.int 5)) .nil))) (.cons (.tup (.cons (.con (.int 3)) (.cons (.con (.int 2)) .nil))) (.cons (.con (.int 2)) (.cons (.con (.str "1")) (.cons (.con (.bl true)) (.cons (.lst false .nil) (.cons .dk0 (.cons (.tup (.cons (.con (.int 1)) .nil)) (.cons (.tup (.cons (.con (.int 1)) (.cons (.con (.int 2)) (.cons (.con (.int 3)) .nil)))) (.cons (.tup (.cons (.con (.str "1")) (.cons (.con (.int 2)) .nil))) .nil))))))))))))))))) (.cons (.ife (.cmp .IsNot (.meth "is_stay" (.var 7) (.cons (.var 9) .nil)) (.con (.bl false))) (.cons (.ret (.con (.bl false))) .nil) .nil) .nil)) .nil))))))) (.cons (.set (.name 3) (.call 44 (.cons (.var 1) .nil))) (.cons (.set (.name 4) (.lc false [("_law_k", 12)] (.var 12) (.name 12) (.rng2 (.con (.int 1)) (.con (.int 145))) (.yes (.meth "is_stay" (.make 4 (.cons (.var 3) .nil)) (.cons (.tup (.cons (.var 12) (.cons (.con (.int 144)) .nil))) .nil))))) (.cons (.set (.name 5) (.meth "stay" (.make 4 (.cons (.var 3) .nil)) .nil)) (.cons (.ife (.or (.cmp .Is (.var 5) (.con .non)) (.or (.cmp .Gt (.bi .len (.cons (.var 4) .nil)) (.con (.int 1))) (.one (.cmp .IsNot (.meth "stay" (.make 4 (.cons (.lst false (.cons (.sub (.var 3) (.con (.int 0))) (.cons (.call 33 (.cons (.sub (.var 3) (.con (.int 1))) (.cons (.tup (.cons (.con (.int 1)) (.cons (.con (.int 1000)) .nil))) .nil))) .nil))) .nil)) .nil) (.con .non))))) (.cons (.ret (.con (.bl false))) .nil) .nil) (.cons (.ret (.cmp .In (.lc false [("_law_k", 12)] (.call 32 (.cons (.var 12) (.cons (.con (.int 144)) .nil))) (.name 12) (.val (.var 4)) .no) (.tup (.cons (.lst false .nil) (.cons (.lst false (.cons (.var 5) .nil)) .nil))))) .nil))))))) }
def D0 : Df := ⟨mkD ("_wall", none) "_wall" "_wall" (top 1), ["k"], ["k"], F0, some "_wall"⟩
def D1 : Df := ⟨mkD ("lowest", none) "lowest" "lowest" (top 3), ["top", "bottom", "shared"], ["top", "bottom"], F1, some "lowest"⟩
def D2 : Df := ⟨mkD ("above", none) "above" "above" (top 4), ["one", "other"], ["one", "other"], F2, some "above"⟩
def D3 : Df := ⟨mkD ("is_integer", none) "is_integer" "is_integer" (top 7), ["thing"], ["thing"], F3, some "is_integer"⟩
def D4 : Df := ⟨mkD ("is_list", none) "is_list" "is_list" (top 8), ["thing"], ["thing"], F4, some "is_list"⟩
def D5 : Df := ⟨mkD ("fraction_of", none) "fraction_of" "fraction_of" (top 9), ["thing", "top", "bottom"], ["thing"], F5, some "fraction_of"⟩
def D6 : Df := ⟨mkD ("amount_of", none) "amount_of" "amount_of" (top 10), ["thing", "told"], ["thing"], F6, some "amount_of"⟩
def D7 : Df := ⟨mkD ("share_of", none) "share_of" "share_of" (top 11), ["thing", "told"], ["thing"], F7, some "share_of"⟩
def D8 : Df := ⟨mkD ("contents", none) "contents" "contents" (top 12), ["thing"], ["thing"], F8, some "contents"⟩
def D9 : Df := ⟨mkD ("refilled", none) "refilled" "refilled" (top 13), ["thing", "within", "at", "key"], ["thing", "within"], F9, some "refilled"⟩
def D10 : Df := ⟨mkD ("copied", none) "copied" "copied" (top 14), ["thing", "found", "spans", "copies", "at", "within", "first", "last"], ["thing"], F10, some "copied"⟩
def D11 : Df := ⟨mkD ("BadShare", some "__init__") "__init__" "BadShare.__init__" (inClass (top 17) 0), ["self", "share"], ["self", "share"], F11, none⟩
def D12 : Df := ⟨mkD ("BadCount", some "__init__") "__init__" "BadCount.__init__" (inClass (top 18) 0), ["self", "count"], ["self", "count"], F12, none⟩
def D13 : Df := ⟨mkD ("BadPlace", some "__init__") "__init__" "BadPlace.__init__" (inClass (top 19) 0), ["self", "place"], ["self", "place"], F13, none⟩
def D14 : Df := ⟨mkD ("check_place", none) "check_place" "check_place" (top 21), ["thing"], ["thing"], F14, some "check_place"⟩
def D15 : Df := ⟨mkD ("told_row", none) "told_row" "told_row" (top 22), ["shares", "told", "thing", "share"], ["shares"], F15, some "told_row"⟩
def D16 : Df := ⟨mkD ("shortest", none) "shortest" "shortest" (top 23), ["shares", "length", "turns"], ["shares"], F16, some "shortest"⟩
def D17 : Df := ⟨mkD ("behind", none) "behind" "behind" (top 24), ["x", "share"], ["x", "share"], F17, some "behind"⟩
def D18 : Df := ⟨mkD ("Row", some "__init__") "__init__" "Row.__init__" (inClass (top 25) 0), ["self", "shares"], ["self", "shares"], F18, none⟩
def D19 : Df := ⟨mkD ("Row", some "__eq__") "__eq__" "Row.__eq__" (inClass (top 25) 1), ["self", "other"], ["self", "other"], F19, none⟩
def D20 : Df := ⟨mkD ("Row", some "__getitem__") "__getitem__" "Row.__getitem__" (inClass (top 25) 2), ["self", "at"], ["self", "at"], F20, none⟩
def D21 : Df := ⟨mkD ("Row", some "__iter__") "__iter__" "Row.__iter__" (inClass (top 25) 3), ["self"], ["self"], F21, none⟩
def D22 : Df := ⟨mkD ("Row", some "shares") "shares" "Row.shares" (inClass (top 25) 4), ["self"], ["self"], F22, none⟩
def D23 : Df := ⟨mkD ("Row", some "system") "system" "Row.system" (inClass (top 25) 5), ["self", "start", "count"], ["self", "start", "count"], F23, none⟩
def D24 : Df := ⟨mkD ("Row", some "chance") "chance" "Row.chance" (inClass (top 25) 6), ["self", "start", "count"], ["self", "start", "count"], F24, none⟩
def D25 : Df := ⟨mkD ("Row", some "unsafe_at") "unsafe_at" "Row.unsafe_at" (inClass (top 25) 7) [.int 0], ["self", "start", "place", "x"], ["self", "start"], F25, none⟩
def D26 : Df := ⟨mkD ("Row", some "stay") "stay" "Row.stay" (inClass (top 25) 8), ["self", "share", "middle", "one", "other"], ["self"], F26, none⟩
def D27 : Df := ⟨mkD ("Row", some "is_stay") "is_stay" "Row.is_stay" (inClass (top 25) 9), ["self", "thing", "told", "x", "share"], ["self", "thing"], F27, none⟩
def D28 : Df := ⟨mkD ("_law_spring", none) "_law_spring" "_law_spring" (top 27), ["_law_script", "_law_small", "_law_cell"], ["_law_script"], F28, some "_law_spring"⟩
def D29 : Df := ⟨mkD ("_law_take", none) "_law_take" "_law_take" (top 28), ["_law_spring_here", "_law_many", "_law_cell", "_law_first", "_law_second", "_law_figure"], ["_law_spring_here", "_law_many"], F29, some "_law_take"⟩
def D30 : Df := ⟨mkD ("_law_one", none) "_law_one" "_law_one" (top 29), ["_law_spring_here", "_law_things"], ["_law_spring_here", "_law_things"], F30, some "_law_one"⟩
def D31 : Df := ⟨mkD ("_law_same", none) "_law_same" "_law_same" (top 30), ["_law_found", "_law_due", "_law_is_truth", "_law_key", "_law_x", "_law_y"], ["_law_found", "_law_due"], F31, some "_law_same"⟩
def D32 : Df := ⟨mkD ("_law_lowest", none) "_law_lowest" "_law_lowest" (top 31), ["_law_top", "_law_bottom", "_law_one_here", "_law_other"], ["_law_top", "_law_bottom"], F32, some "_law_lowest"⟩
def D33 : Df := ⟨mkD ("_law_plus", none) "_law_plus" "_law_plus" (top 32), ["_law_x", "_law_y"], ["_law_x", "_law_y"], F33, some "_law_plus"⟩
def D34 : Df := ⟨mkD ("_law_minus", none) "_law_minus" "_law_minus" (top 33), ["_law_x", "_law_y"], ["_law_x", "_law_y"], F34, some "_law_minus"⟩
def D35 : Df := ⟨mkD ("_law_times", none) "_law_times" "_law_times" (top 34), ["_law_x", "_law_y"], ["_law_x", "_law_y"], F35, some "_law_times"⟩
def D36 : Df := ⟨mkD ("_law_over", none) "_law_over" "_law_over" (top 35), ["_law_x", "_law_y"], ["_law_x", "_law_y"], F36, some "_law_over"⟩
def D37 : Df := ⟨mkD ("_law_less", none) "_law_less" "_law_less" (top 36), ["_law_x", "_law_y"], ["_law_x", "_law_y"], F37, some "_law_less"⟩
def D38 : Df := ⟨mkD ("_law_share", none) "_law_share" "_law_share" (top 37), ["_law_spring_here", "_law_style", "_law_bottom"], ["_law_spring_here", "_law_style"], F38, some "_law_share"⟩
def D39 : Df := ⟨mkD ("_law_handed", none) "_law_handed" "_law_handed" (top 38), ["_law_spring_here", "_law_number", "_law_many", "_law_some", "_law_top", "_law_bottom"], ["_law_spring_here", "_law_number"], F39, some "_law_handed"⟩
def D40 : Df := ⟨mkD ("_law_gone", none) "_law_gone" "_law_gone" (top 39), ["_law_shares", "_law_x", "_law_share_here"], ["_law_shares", "_law_x"], F40, some "_law_gone"⟩
def D41 : Df := ⟨mkD ("_law_is_stay", none) "_law_is_stay" "_law_is_stay" (top 40), ["_law_shares", "_law_x", "_law_last"], ["_law_shares", "_law_x"], F41, some "_law_is_stay"⟩
def D42 : Df := ⟨mkD ("_law_row_shares", none) "_law_row_shares" "_law_row_shares" (top 41), ["_law_spring_here", "_law_way", "_law_some", "_law_found", "_law_k"], ["_law_spring_here"], F42, some "_law_row_shares"⟩
def D43 : Df := ⟨mkD ("_law_stay", none) "_law_stay" "_law_stay" (top 42), ["_law_shares", "_law_x", "_law_a", "_law_b", "_law_c", "_law_d", "_law_top", "_law_bottom", "_law_first", "_law_second"], ["_law_shares"], F43, some "_law_stay"⟩
def D44 : Df := ⟨mkD ("_law_edge", none) "_law_edge" "_law_edge" (top 43), ["_law_spring_here", "_law_root", "_law_other"], ["_law_spring_here"], F44, some "_law_edge"⟩
def D45 : Df := ⟨mkD ("_law_is_right", none) "_law_is_right" "_law_is_right" (top 44), ["_law_row", "_law_shares", "_law_due", "_law_told"], ["_law_row", "_law_shares"], F45, some "_law_is_right"⟩
def D46 : Df := ⟨mkD ("law", none) "law" "law" (top 45), ["_law_script", "_law_spring_here", "_law_turn", "_law_edge_here", "_law_stays", "_law_lone", "_law_shares", "_law_row", "_law_again", "_law_odd", "_law_bottom", "_law_x", "_law_k"], ["_law_script"], F46, some "law"⟩
def dfs : List Df := [D0, D1, D2, D3, D4, D5, D6, D7, D8, D9, D10, D11, D12, D13, D14, D15, D16, D17, D18, D19, D20, D21, D22, D23, D24, D25, D26, D27, D28, D29, D30, D31, D32, D33, D34, D35, D36, D37, D38, D39, D40, D41, D42, D43, D44, D45, D46]
def cls : List Cl := [{ name := "FaultError", ini := 0, made := false, plain := false }, { name := "BadShare", ini := 11, made := false, plain := false }, { name := "BadCount", ini := 12, made := false, plain := false }, { name := "BadPlace", ini := 13, made := false, plain := false }, { name := "Row", ini := 18, made := true, plain := true }]
def bnds : List (Nat × Nat) := [(0, 1), (1, 2), (2, 2), (3, 1), (4, 1), (5, 1), (6, 1), (7, 1), (8, 1), (10, 1), (14, 1), (15, 1), (16, 1), (17, 2), (18, 2), (25, 1), (25, 2), (26, 1), (27, 2), (28, 1), (29, 2), (30, 2), (31, 2), (32, 2), (33, 2), (34, 2), (35, 2), (36, 2), (37, 2), (38, 2), (39, 2), (40, 2), (41, 2), (42, 1), (43, 1), (44, 1), (45, 2)]
def dfl : Nat → Nat → List T
  | 25, 1 => [T.int 0]
  | _, _ => []
def lib : Lib where
  dfs := dfs
  cls := cls
  atts := [(4, "_shares")]
  mths := [(4, "unsafe_at", 25), (4, "stay", 26), (4, "is_stay", 27)]
  consts := [("MOST", (.int 1000000))]
  frees := ["abs", "bool", "dict", "int", "isinstance", "len", "list", "range", "tuple"]
  gcd := true
  bnds := bnds
  dfl := dfl
theorem okT : lib.okT = true := by decide +kernel
theorem okDs : (lib.dfs.all fun d => lib.okD d) = true := by decide +kernel
section
variable {P : Program} {w : World} {K : PySem.W.Frag} {mg : Str → Option Value} {base : Heap} (c : He.SaysD lib.fa lib.fns K)
include c
theorem b0_1 : BndOk (lib.W P w K mg base) lib.g0 0 1 := ⟨⟨[], [], .nil, FunD.bindsN (says_def (d := D0.d) c (List.mem_map_of_mem (f := fun d => d.d) (List.mem_of_getElem? (show lib.dfs[0]? = some D0 from rfl)))) fun _ _ _ _ _ _ us hl => match us, hl with | [_], _ => rfl, fun _ _ => rfl⟩, rfl⟩
theorem b1_2 : BndOk (lib.W P w K mg base) lib.g0 1 2 := ⟨⟨[], [], .nil, FunD.bindsN (says_def (d := D1.d) c (List.mem_map_of_mem (f := fun d => d.d) (List.mem_of_getElem? (show lib.dfs[1]? = some D1 from rfl)))) fun _ _ _ _ _ _ us hl => match us, hl with | [_, _], _ => rfl, fun _ _ => rfl⟩, rfl⟩
theorem b2_2 : BndOk (lib.W P w K mg base) lib.g0 2 2 := ⟨⟨[], [], .nil, FunD.bindsN (says_def (d := D2.d) c (List.mem_map_of_mem (f := fun d => d.d) (List.mem_of_getElem? (show lib.dfs[2]? = some D2 from rfl)))) fun _ _ _ _ _ _ us hl => match us, hl with | [_, _], _ => rfl, fun _ _ => rfl⟩, rfl⟩
theorem b3_1 : BndOk (lib.W P w K mg base) lib.g0 3 1 := ⟨⟨[], [], .nil, FunD.bindsN (says_def (d := D3.d) c (List.mem_map_of_mem (f := fun d => d.d) (List.mem_of_getElem? (show lib.dfs[3]? = some D3 from rfl)))) fun _ _ _ _ _ _ us hl => match us, hl with | [_], _ => rfl, fun _ _ => rfl⟩, rfl⟩
theorem b4_1 : BndOk (lib.W P w K mg base) lib.g0 4 1 := ⟨⟨[], [], .nil, FunD.bindsN (says_def (d := D4.d) c (List.mem_map_of_mem (f := fun d => d.d) (List.mem_of_getElem? (show lib.dfs[4]? = some D4 from rfl)))) fun _ _ _ _ _ _ us hl => match us, hl with | [_], _ => rfl, fun _ _ => rfl⟩, rfl⟩
theorem b5_1 : BndOk (lib.W P w K mg base) lib.g0 5 1 := ⟨⟨[], [], .nil, FunD.bindsN (says_def (d := D5.d) c (List.mem_map_of_mem (f := fun d => d.d) (List.mem_of_getElem? (show lib.dfs[5]? = some D5 from rfl)))) fun _ _ _ _ _ _ us hl => match us, hl with | [_], _ => rfl, fun _ _ => rfl⟩, rfl⟩
theorem b6_1 : BndOk (lib.W P w K mg base) lib.g0 6 1 := ⟨⟨[], [], .nil, FunD.bindsN (says_def (d := D6.d) c (List.mem_map_of_mem (f := fun d => d.d) (List.mem_of_getElem? (show lib.dfs[6]? = some D6 from rfl)))) fun _ _ _ _ _ _ us hl => match us, hl with | [_], _ => rfl, fun _ _ => rfl⟩, rfl⟩
theorem b7_1 : BndOk (lib.W P w K mg base) lib.g0 7 1 := ⟨⟨[], [], .nil, FunD.bindsN (says_def (d := D7.d) c (List.mem_map_of_mem (f := fun d => d.d) (List.mem_of_getElem? (show lib.dfs[7]? = some D7 from rfl)))) fun _ _ _ _ _ _ us hl => match us, hl with | [_], _ => rfl, fun _ _ => rfl⟩, rfl⟩
theorem b8_1 : BndOk (lib.W P w K mg base) lib.g0 8 1 := ⟨⟨[], [], .nil, FunD.bindsN (says_def (d := D8.d) c (List.mem_map_of_mem (f := fun d => d.d) (List.mem_of_getElem? (show lib.dfs[8]? = some D8 from rfl)))) fun _ _ _ _ _ _ us hl => match us, hl with | [_], _ => rfl, fun _ _ => rfl⟩, rfl⟩
theorem b10_1 : BndOk (lib.W P w K mg base) lib.g0 10 1 := ⟨⟨[], [], .nil, FunD.bindsN (says_def (d := D10.d) c (List.mem_map_of_mem (f := fun d => d.d) (List.mem_of_getElem? (show lib.dfs[10]? = some D10 from rfl)))) fun _ _ _ _ _ _ us hl => match us, hl with | [_], _ => rfl, fun _ _ => rfl⟩, rfl⟩
theorem b14_1 : BndOk (lib.W P w K mg base) lib.g0 14 1 := ⟨⟨[], [], .nil, FunD.bindsN (says_def (d := D14.d) c (List.mem_map_of_mem (f := fun d => d.d) (List.mem_of_getElem? (show lib.dfs[14]? = some D14 from rfl)))) fun _ _ _ _ _ _ us hl => match us, hl with | [_], _ => rfl, fun _ _ => rfl⟩, rfl⟩
theorem b15_1 : BndOk (lib.W P w K mg base) lib.g0 15 1 := ⟨⟨[], [], .nil, FunD.bindsN (says_def (d := D15.d) c (List.mem_map_of_mem (f := fun d => d.d) (List.mem_of_getElem? (show lib.dfs[15]? = some D15 from rfl)))) fun _ _ _ _ _ _ us hl => match us, hl with | [_], _ => rfl, fun _ _ => rfl⟩, rfl⟩
theorem b16_1 : BndOk (lib.W P w K mg base) lib.g0 16 1 := ⟨⟨[], [], .nil, FunD.bindsN (says_def (d := D16.d) c (List.mem_map_of_mem (f := fun d => d.d) (List.mem_of_getElem? (show lib.dfs[16]? = some D16 from rfl)))) fun _ _ _ _ _ _ us hl => match us, hl with | [_], _ => rfl, fun _ _ => rfl⟩, rfl⟩
theorem b17_2 : BndOk (lib.W P w K mg base) lib.g0 17 2 := ⟨⟨[], [], .nil, FunD.bindsN (says_def (d := D17.d) c (List.mem_map_of_mem (f := fun d => d.d) (List.mem_of_getElem? (show lib.dfs[17]? = some D17 from rfl)))) fun _ _ _ _ _ _ us hl => match us, hl with | [_, _], _ => rfl, fun _ _ => rfl⟩, rfl⟩
theorem b18_2 : BndOk (lib.W P w K mg base) lib.g0 18 2 := ⟨⟨[], [], .nil, FunD.bindsN (says_def (d := D18.d) c (List.mem_map_of_mem (f := fun d => d.d) (List.mem_of_getElem? (show lib.dfs[18]? = some D18 from rfl)))) fun _ _ _ _ _ _ us hl => match us, hl with | [_, _], _ => rfl, fun _ _ => rfl⟩, rfl⟩
theorem b25_1 : BndOk (lib.W P w K mg base) lib.g0 25 1 := by
  obtain ⟨ds, h1, h2⟩ := FunD.binds1 (says_def (d := D25.d) c (List.mem_map_of_mem (f := fun d => d.d) (List.mem_of_getElem? (show lib.dfs[25]? = some D25 from rfl)))) (ps := ["self", "start"]) 1 0 (fun h => nomatch h) rfl fun T kV doc pm an cdv ct us its l1 l2 => (match us, its, l1, l2 with
    | [_], [_], _, _ => ⟨_, rfl, rfl⟩)
  exact ⟨⟨_, ds, h1, h2, fun _ _ => ⟨_, _, rfl, rfl, rfl⟩⟩, rfl⟩
theorem b25_2 : BndOk (lib.W P w K mg base) lib.g0 25 2 := by
  obtain ⟨ds, h1, h2⟩ := FunD.binds1 (says_def (d := D25.d) c (List.mem_map_of_mem (f := fun d => d.d) (List.mem_of_getElem? (show lib.dfs[25]? = some D25 from rfl)))) (ps := ["self", "start"]) 2 1 (fun h => nomatch h) rfl fun T kV doc pm an cdv ct us its l1 l2 => (match us, its, l1, l2 with
    | [_, _], [_], _, _ => ⟨_, rfl, rfl⟩)
  exact ⟨⟨_, ds, h1, h2, fun _ _ => rfl⟩, rfl⟩
theorem b26_1 : BndOk (lib.W P w K mg base) lib.g0 26 1 := ⟨⟨[], [], .nil, FunD.bindsN (says_def (d := D26.d) c (List.mem_map_of_mem (f := fun d => d.d) (List.mem_of_getElem? (show lib.dfs[26]? = some D26 from rfl)))) fun _ _ _ _ _ _ us hl => match us, hl with | [_], _ => rfl, fun _ _ => rfl⟩, rfl⟩
theorem b27_2 : BndOk (lib.W P w K mg base) lib.g0 27 2 := ⟨⟨[], [], .nil, FunD.bindsN (says_def (d := D27.d) c (List.mem_map_of_mem (f := fun d => d.d) (List.mem_of_getElem? (show lib.dfs[27]? = some D27 from rfl)))) fun _ _ _ _ _ _ us hl => match us, hl with | [_, _], _ => rfl, fun _ _ => rfl⟩, rfl⟩
theorem b28_1 : BndOk (lib.W P w K mg base) lib.g0 28 1 := ⟨⟨[], [], .nil, FunD.bindsN (says_def (d := D28.d) c (List.mem_map_of_mem (f := fun d => d.d) (List.mem_of_getElem? (show lib.dfs[28]? = some D28 from rfl)))) fun _ _ _ _ _ _ us hl => match us, hl with | [_], _ => rfl, fun _ _ => rfl⟩, rfl⟩
theorem b29_2 : BndOk (lib.W P w K mg base) lib.g0 29 2 := ⟨⟨[], [], .nil, FunD.bindsN (says_def (d := D29.d) c (List.mem_map_of_mem (f := fun d => d.d) (List.mem_of_getElem? (show lib.dfs[29]? = some D29 from rfl)))) fun _ _ _ _ _ _ us hl => match us, hl with | [_, _], _ => rfl, fun _ _ => rfl⟩, rfl⟩
theorem b30_2 : BndOk (lib.W P w K mg base) lib.g0 30 2 := ⟨⟨[], [], .nil, FunD.bindsN (says_def (d := D30.d) c (List.mem_map_of_mem (f := fun d => d.d) (List.mem_of_getElem? (show lib.dfs[30]? = some D30 from rfl)))) fun _ _ _ _ _ _ us hl => match us, hl with | [_, _], _ => rfl, fun _ _ => rfl⟩, rfl⟩
theorem b31_2 : BndOk (lib.W P w K mg base) lib.g0 31 2 := ⟨⟨[], [], .nil, FunD.bindsN (says_def (d := D31.d) c (List.mem_map_of_mem (f := fun d => d.d) (List.mem_of_getElem? (show lib.dfs[31]? = some D31 from rfl)))) fun _ _ _ _ _ _ us hl => match us, hl with | [_, _], _ => rfl, fun _ _ => rfl⟩, rfl⟩
theorem b32_2 : BndOk (lib.W P w K mg base) lib.g0 32 2 := ⟨⟨[], [], .nil, FunD.bindsN (says_def (d := D32.d) c (List.mem_map_of_mem (f := fun d => d.d) (List.mem_of_getElem? (show lib.dfs[32]? = some D32 from rfl)))) fun _ _ _ _ _ _ us hl => match us, hl with | [_, _], _ => rfl, fun _ _ => rfl⟩, rfl⟩
theorem b33_2 : BndOk (lib.W P w K mg base) lib.g0 33 2 := ⟨⟨[], [], .nil, FunD.bindsN (says_def (d := D33.d) c (List.mem_map_of_mem (f := fun d => d.d) (List.mem_of_getElem? (show lib.dfs[33]? = some D33 from rfl)))) fun _ _ _ _ _ _ us hl => match us, hl with | [_, _], _ => rfl, fun _ _ => rfl⟩, rfl⟩
theorem b34_2 : BndOk (lib.W P w K mg base) lib.g0 34 2 := ⟨⟨[], [], .nil, FunD.bindsN (says_def (d := D34.d) c (List.mem_map_of_mem (f := fun d => d.d) (List.mem_of_getElem? (show lib.dfs[34]? = some D34 from rfl)))) fun _ _ _ _ _ _ us hl => match us, hl with | [_, _], _ => rfl, fun _ _ => rfl⟩, rfl⟩
theorem b35_2 : BndOk (lib.W P w K mg base) lib.g0 35 2 := ⟨⟨[], [], .nil, FunD.bindsN (says_def (d := D35.d) c (List.mem_map_of_mem (f := fun d => d.d) (List.mem_of_getElem? (show lib.dfs[35]? = some D35 from rfl)))) fun _ _ _ _ _ _ us hl => match us, hl with | [_, _], _ => rfl, fun _ _ => rfl⟩, rfl⟩
theorem b36_2 : BndOk (lib.W P w K mg base) lib.g0 36 2 := ⟨⟨[], [], .nil, FunD.bindsN (says_def (d := D36.d) c (List.mem_map_of_mem (f := fun d => d.d) (List.mem_of_getElem? (show lib.dfs[36]? = some D36 from rfl)))) fun _ _ _ _ _ _ us hl => match us, hl with | [_, _], _ => rfl, fun _ _ => rfl⟩, rfl⟩
theorem b37_2 : BndOk (lib.W P w K mg base) lib.g0 37 2 := ⟨⟨[], [], .nil, FunD.bindsN (says_def (d := D37.d) c (List.mem_map_of_mem (f := fun d => d.d) (List.mem_of_getElem? (show lib.dfs[37]? = some D37 from rfl)))) fun _ _ _ _ _ _ us hl => match us, hl with | [_, _], _ => rfl, fun _ _ => rfl⟩, rfl⟩
theorem b38_2 : BndOk (lib.W P w K mg base) lib.g0 38 2 := ⟨⟨[], [], .nil, FunD.bindsN (says_def (d := D38.d) c (List.mem_map_of_mem (f := fun d => d.d) (List.mem_of_getElem? (show lib.dfs[38]? = some D38 from rfl)))) fun _ _ _ _ _ _ us hl => match us, hl with | [_, _], _ => rfl, fun _ _ => rfl⟩, rfl⟩
theorem b39_2 : BndOk (lib.W P w K mg base) lib.g0 39 2 := ⟨⟨[], [], .nil, FunD.bindsN (says_def (d := D39.d) c (List.mem_map_of_mem (f := fun d => d.d) (List.mem_of_getElem? (show lib.dfs[39]? = some D39 from rfl)))) fun _ _ _ _ _ _ us hl => match us, hl with | [_, _], _ => rfl, fun _ _ => rfl⟩, rfl⟩
theorem b40_2 : BndOk (lib.W P w K mg base) lib.g0 40 2 := ⟨⟨[], [], .nil, FunD.bindsN (says_def (d := D40.d) c (List.mem_map_of_mem (f := fun d => d.d) (List.mem_of_getElem? (show lib.dfs[40]? = some D40 from rfl)))) fun _ _ _ _ _ _ us hl => match us, hl with | [_, _], _ => rfl, fun _ _ => rfl⟩, rfl⟩
theorem b41_2 : BndOk (lib.W P w K mg base) lib.g0 41 2 := ⟨⟨[], [], .nil, FunD.bindsN (says_def (d := D41.d) c (List.mem_map_of_mem (f := fun d => d.d) (List.mem_of_getElem? (show lib.dfs[41]? = some D41 from rfl)))) fun _ _ _ _ _ _ us hl => match us, hl with | [_, _], _ => rfl, fun _ _ => rfl⟩, rfl⟩
theorem b42_1 : BndOk (lib.W P w K mg base) lib.g0 42 1 := ⟨⟨[], [], .nil, FunD.bindsN (says_def (d := D42.d) c (List.mem_map_of_mem (f := fun d => d.d) (List.mem_of_getElem? (show lib.dfs[42]? = some D42 from rfl)))) fun _ _ _ _ _ _ us hl => match us, hl with | [_], _ => rfl, fun _ _ => rfl⟩, rfl⟩
theorem b43_1 : BndOk (lib.W P w K mg base) lib.g0 43 1 := ⟨⟨[], [], .nil, FunD.bindsN (says_def (d := D43.d) c (List.mem_map_of_mem (f := fun d => d.d) (List.mem_of_getElem? (show lib.dfs[43]? = some D43 from rfl)))) fun _ _ _ _ _ _ us hl => match us, hl with | [_], _ => rfl, fun _ _ => rfl⟩, rfl⟩
theorem b44_1 : BndOk (lib.W P w K mg base) lib.g0 44 1 := ⟨⟨[], [], .nil, FunD.bindsN (says_def (d := D44.d) c (List.mem_map_of_mem (f := fun d => d.d) (List.mem_of_getElem? (show lib.dfs[44]? = some D44 from rfl)))) fun _ _ _ _ _ _ us hl => match us, hl with | [_], _ => rfl, fun _ _ => rfl⟩, rfl⟩
theorem b45_2 : BndOk (lib.W P w K mg base) lib.g0 45 2 := ⟨⟨[], [], .nil, FunD.bindsN (says_def (d := D45.d) c (List.mem_map_of_mem (f := fun d => d.d) (List.mem_of_getElem? (show lib.dfs[45]? = some D45 from rfl)))) fun _ _ _ _ _ _ us hl => match us, hl with | [_, _], _ => rfl, fun _ _ => rfl⟩, rfl⟩
theorem bnds_ok : ∀ f n, (f, n) ∈ lib.bnds → BndOk (lib.W P w K mg base) lib.g0 f n := by
  intro f n h
  have h : (f, n) ∈ bnds := h
  simp only [bnds, List.mem_cons, Prod.mk.injEq, List.not_mem_nil, or_false] at h
  rcases h with ⟨rfl, rfl⟩ | ⟨rfl, rfl⟩ | ⟨rfl, rfl⟩ | ⟨rfl, rfl⟩ | ⟨rfl, rfl⟩ | ⟨rfl, rfl⟩ | ⟨rfl, rfl⟩ | ⟨rfl, rfl⟩ | ⟨rfl, rfl⟩ | ⟨rfl, rfl⟩ | ⟨rfl, rfl⟩ | ⟨rfl, rfl⟩ | ⟨rfl, rfl⟩ | ⟨rfl, rfl⟩ | ⟨rfl, rfl⟩ | ⟨rfl, rfl⟩ | ⟨rfl, rfl⟩ | ⟨rfl, rfl⟩ | ⟨rfl, rfl⟩ | ⟨rfl, rfl⟩ | ⟨rfl, rfl⟩ | ⟨rfl, rfl⟩ | ⟨rfl, rfl⟩ | ⟨rfl, rfl⟩ | ⟨rfl, rfl⟩ | ⟨rfl, rfl⟩ | ⟨rfl, rfl⟩ | ⟨rfl, rfl⟩ | ⟨rfl, rfl⟩ | ⟨rfl, rfl⟩ | ⟨rfl, rfl⟩ | ⟨rfl, rfl⟩ | ⟨rfl, rfl⟩ | ⟨rfl, rfl⟩ | ⟨rfl, rfl⟩ | ⟨rfl, rfl⟩ | ⟨rfl, rfl⟩
  · exact b0_1 c
  · exact b1_2 c
  · exact b2_2 c
  · exact b3_1 c
  · exact b4_1 c
  · exact b5_1 c
  · exact b6_1 c
  · exact b7_1 c
  · exact b8_1 c
  · exact b10_1 c
  · exact b14_1 c
  · exact b15_1 c
  · exact b16_1 c
  · exact b17_2 c
  · exact b18_2 c
  · exact b25_1 c
  · exact b25_2 c
  · exact b26_1 c
  · exact b27_2 c
  · exact b28_1 c
  · exact b29_2 c
  · exact b30_2 c
  · exact b31_2 c
  · exact b32_2 c
  · exact b33_2 c
  · exact b34_2 c
  · exact b35_2 c
  · exact b36_2 c
  · exact b37_2 c
  · exact b38_2 c
  · exact b39_2 c
  · exact b40_2 c
  · exact b41_2 c
  · exact b42_1 c
  · exact b43_1 c
  · exact b44_1 c
  · exact b45_2 c
end
def nm0 : List PySem.Str := ["gcd", "_wall", "__name__", "lowest", "above", "MOST", "is_integer", "is_list", "fraction_of", "amount_of", "share_of", "contents", "refilled", "copied", "FaultError", "BadShare", "BadCount", "BadPlace", "check_place", "told_row", "shortest", "behind", "Row", "_law_spring", "_law_take", "_law_one", "_law_same", "_law_lowest", "_law_plus", "_law_minus"]
def nm1 : List PySem.Str := ["_law_times", "_law_over", "_law_less", "_law_share", "_law_handed", "_law_gone", "_law_is_stay", "_law_row_shares", "_law_stay", "_law_edge", "_law_is_right"]
def nms : List PySem.Str := nm0 ++ nm1
end Lw
end Z
end
section
set_option Elab.async false
set_option linter.all false
set_option maxRecDepth 100000
set_option maxHeartbeats 4000000
namespace Z
namespace Lw
open PySem L2 Zr
theorem df_0_1 : lib.g0.dfl 0 1 = [] := rfl
theorem df_1_2 : lib.g0.dfl 1 2 = [] := rfl
theorem df_2_2 : lib.g0.dfl 2 2 = [] := rfl
theorem df_3_1 : lib.g0.dfl 3 1 = [] := rfl
theorem df_4_1 : lib.g0.dfl 4 1 = [] := rfl
theorem df_5_1 : lib.g0.dfl 5 1 = [] := rfl
theorem df_6_1 : lib.g0.dfl 6 1 = [] := rfl
theorem df_7_1 : lib.g0.dfl 7 1 = [] := rfl
theorem df_8_1 : lib.g0.dfl 8 1 = [] := rfl
theorem df_10_1 : lib.g0.dfl 10 1 = [] := rfl
theorem df_14_1 : lib.g0.dfl 14 1 = [] := rfl
theorem df_15_1 : lib.g0.dfl 15 1 = [] := rfl
theorem df_16_1 : lib.g0.dfl 16 1 = [] := rfl
theorem df_17_2 : lib.g0.dfl 17 2 = [] := rfl
theorem df_18_2 : lib.g0.dfl 18 2 = [] := rfl
theorem df_25_1 : lib.g0.dfl 25 1 = [T.int 0] := rfl
theorem df_25_2 : lib.g0.dfl 25 2 = [] := rfl
theorem df_26_1 : lib.g0.dfl 26 1 = [] := rfl
theorem df_27_2 : lib.g0.dfl 27 2 = [] := rfl
theorem df_28_1 : lib.g0.dfl 28 1 = [] := rfl
theorem df_29_2 : lib.g0.dfl 29 2 = [] := rfl
theorem df_30_2 : lib.g0.dfl 30 2 = [] := rfl
theorem df_31_2 : lib.g0.dfl 31 2 = [] := rfl
theorem df_32_2 : lib.g0.dfl 32 2 = [] := rfl
theorem df_33_2 : lib.g0.dfl 33 2 = [] := rfl
theorem df_34_2 : lib.g0.dfl 34 2 = [] := rfl
theorem df_35_2 : lib.g0.dfl 35 2 = [] := rfl
theorem df_36_2 : lib.g0.dfl 36 2 = [] := rfl
theorem df_37_2 : lib.g0.dfl 37 2 = [] := rfl
theorem df_38_2 : lib.g0.dfl 38 2 = [] := rfl
theorem df_39_2 : lib.g0.dfl 39 2 = [] := rfl
theorem df_40_2 : lib.g0.dfl 40 2 = [] := rfl
theorem df_41_2 : lib.g0.dfl 41 2 = [] := rfl
theorem df_42_1 : lib.g0.dfl 42 1 = [] := rfl
theorem df_43_1 : lib.g0.dfl 43 1 = [] := rfl
theorem df_44_1 : lib.g0.dfl 44 1 = [] := rfl
theorem df_45_2 : lib.g0.dfl 45 2 = [] := rfl

theorem r_behind (k : Nat) (x s : Int × Int) (st : S) (h1 : Bd 400 x.1) (h2 : Bd 400 x.2) (h3 : Bd 400 s.1) (h4 : Bd 400 s.2) :
    callN lib.ft lib.g0 (k + 1) 17 [.t (fr x), .t (fr s)] st = .ok (.t (fr (Rw9.beh x s))) st := by
  rw [callN_succ (F := F17) rfl]; simp -implicitDefEqProofs only [callF, F17, List.length_cons, List.length_nil, Nat.reduceAdd, ↓reduceIte, List.map_cons, List.map_nil, Nat.reduceSub, List.cons_append, List.nil_append, List.append_nil, List.replicate, List.set_cons_succ, List.set_cons_zero, Nat.reduceLT, gE_0, gE_s]
  simp -implicitDefEqProofs only [exs, ex, ev, evs, evo, evC, rb_ok, rt_ok, of_some, lift2_t, view_t, subD_tup, subD_lst, at0, at1, at2, at3, subTT, addT, tupD2, fin_rt, fin_nx, cast0, cast1, cast2, cast3, cast4, cast5, Int.reduceLT, Int.reduceLE, Int.reduceEq, Int.reduceNe, decide_not, map_some, take_all, cmp_lt, cmp_le, cmp_gt, cmp_ge, cmp_eq, cmp_ne, tru_bl, setTg_name, setTg_tup, setTg_lst, setTgs_nil, setTgs_cons, decide_eq_true_eq, Option.bind_some, Option.bind_none, bl_not, is_non, isnt_non, cmpIs_tup, cmpIsN_tup, if_tt, if_ff, tru_int, reduceCtorEq, decide_true, decide_false, Bool.not_true, Bool.not_false, mm1, mm2, mm3, mapM1, mapM2, lstD_c0, lstD_t0, lstD_t1, lstD_t2, lstD_t3, isL_last, isi_int_non, isi_bool_non, isi_tuple_non, isi_list_non, isi_dict_non, isi_lt_non, isi_int_bl, isi_bool_bl, isi_tuple_bl, isi_list_bl, isi_dict_bl, isi_lt_bl, isi_int_int, isi_bool_int, isi_tuple_int, isi_list_int, isi_dict_int, isi_lt_int, isi_int_str, isi_bool_str, isi_tuple_str, isi_list_str, isi_dict_str, isi_lt_str, isi_int_tup, isi_bool_tup, isi_tuple_tup, isi_list_tup, isi_dict_tup, isi_lt_tup, isi_int_lst, isi_bool_lst, isi_tuple_lst, isi_list_lst, isi_dict_lst, isi_lt_lst, isi_int_dk, isi_bool_dk, isi_tuple_dk, isi_list_dk, isi_dict_dk, isi_lt_dk, tup_ty, lenT_lst, lenT_tup, intT, Bool.or_true, Bool.true_or, Bool.or_false, Bool.false_or, Bool.and_true, Bool.true_and, Bool.and_false, Bool.false_and, Z.isNon, not_true_eq_false, not_false_eq_true, Bool.not_eq_true, Bool.false_eq_true, Option.map_some, List.length_cons, List.length_nil, Nat.reduceAdd, ↓reduceIte, List.map_cons, List.map_nil, Nat.reduceSub, List.cons_append, List.nil_append, List.append_nil, List.replicate, List.set_cons_succ, List.set_cons_zero, Nat.reduceLT, gE_0, gE_s, df_0_1, df_1_2, df_2_2, df_3_1, df_4_1, df_5_1, df_6_1, df_7_1, df_8_1, df_10_1, df_14_1, df_15_1, df_16_1, df_17_2, df_18_2, df_25_1, df_25_2, df_26_1, df_27_2, df_28_1, df_29_2, df_30_2, df_31_2, df_32_2, df_33_2, df_34_2, df_35_2, df_36_2, df_37_2, df_38_2, df_39_2, df_40_2, df_41_2, df_42_1, df_43_1, df_44_1, df_45_2, mulT h1 h4 (by decide), mulT h2 h3 (by decide)]
  rfl
theorem r_above (k : Nat) (x s : Int × Int) (st : S) (h1 : Bd 400 x.1) (h2 : Bd 400 x.2) (h3 : Bd 400 s.1) (h4 : Bd 400 s.2) :
    callN lib.ft lib.g0 (k + 1) 2 [.t (fr x), .t (fr s)] st = .ok (.t (.bl (decide (s.1 * x.2 < x.1 * s.2)))) st := by
  rw [callN_succ (F := F2) rfl]; simp -implicitDefEqProofs only [callF, F2, List.length_cons, List.length_nil, Nat.reduceAdd, ↓reduceIte, List.map_cons, List.map_nil, Nat.reduceSub, List.cons_append, List.nil_append, List.append_nil, List.replicate, List.set_cons_succ, List.set_cons_zero, Nat.reduceLT, gE_0, gE_s]
  simp -implicitDefEqProofs only [exs, ex, ev, evs, evo, evC, rb_ok, rt_ok, of_some, lift2_t, view_t, subD_tup, subD_lst, at0, at1, at2, at3, subTT, addT, tupD2, fin_rt, fin_nx, cast0, cast1, cast2, cast3, cast4, cast5, Int.reduceLT, Int.reduceLE, Int.reduceEq, Int.reduceNe, decide_not, map_some, take_all, cmp_lt, cmp_le, cmp_gt, cmp_ge, cmp_eq, cmp_ne, tru_bl, setTg_name, setTg_tup, setTg_lst, setTgs_nil, setTgs_cons, decide_eq_true_eq, Option.bind_some, Option.bind_none, bl_not, is_non, isnt_non, cmpIs_tup, cmpIsN_tup, if_tt, if_ff, tru_int, reduceCtorEq, decide_true, decide_false, Bool.not_true, Bool.not_false, mm1, mm2, mm3, mapM1, mapM2, lstD_c0, lstD_t0, lstD_t1, lstD_t2, lstD_t3, isL_last, isi_int_non, isi_bool_non, isi_tuple_non, isi_list_non, isi_dict_non, isi_lt_non, isi_int_bl, isi_bool_bl, isi_tuple_bl, isi_list_bl, isi_dict_bl, isi_lt_bl, isi_int_int, isi_bool_int, isi_tuple_int, isi_list_int, isi_dict_int, isi_lt_int, isi_int_str, isi_bool_str, isi_tuple_str, isi_list_str, isi_dict_str, isi_lt_str, isi_int_tup, isi_bool_tup, isi_tuple_tup, isi_list_tup, isi_dict_tup, isi_lt_tup, isi_int_lst, isi_bool_lst, isi_tuple_lst, isi_list_lst, isi_dict_lst, isi_lt_lst, isi_int_dk, isi_bool_dk, isi_tuple_dk, isi_list_dk, isi_dict_dk, isi_lt_dk, tup_ty, lenT_lst, lenT_tup, intT, Bool.or_true, Bool.true_or, Bool.or_false, Bool.false_or, Bool.and_true, Bool.true_and, Bool.and_false, Bool.false_and, Z.isNon, not_true_eq_false, not_false_eq_true, Bool.not_eq_true, Bool.false_eq_true, Option.map_some, List.length_cons, List.length_nil, Nat.reduceAdd, ↓reduceIte, List.map_cons, List.map_nil, Nat.reduceSub, List.cons_append, List.nil_append, List.append_nil, List.replicate, List.set_cons_succ, List.set_cons_zero, Nat.reduceLT, gE_0, gE_s, df_0_1, df_1_2, df_2_2, df_3_1, df_4_1, df_5_1, df_6_1, df_7_1, df_8_1, df_10_1, df_14_1, df_15_1, df_16_1, df_17_2, df_18_2, df_25_1, df_25_2, df_26_1, df_27_2, df_28_1, df_29_2, df_30_2, df_31_2, df_32_2, df_33_2, df_34_2, df_35_2, df_36_2, df_37_2, df_38_2, df_39_2, df_40_2, df_41_2, df_42_1, df_43_1, df_44_1, df_45_2, mulT h1 h4 (by decide), mulT h3 h2 (by decide)]
theorem r_lowest (k : Nat) (a b : Int) (st : S) (h0 : 0 < b) (h2 : Bd 400 b) :
    callN lib.ft lib.g0 (k + 1) 1 [.t (I a), .t (I b)] st = .ok (.t (fr (Rw9.low (a, b)))) st := by
  have g0 : (0 : Int) < (Int.gcd a b : Nat) := Int.ofNat_lt.mpr (Nat.pos_of_ne_zero fun e => by have := Int.gcd_eq_zero_iff.mp e; omega)
  have g1 : Bd 400 ((Int.gcd a b : Nat) : Int) := by
    have := Nat.le_of_dvd (by omega) (Int.gcd_dvd_natAbs_right (a := a) (b := b))
    unfold Bd at *
    rw [Int.natAbs_natCast]
    omega
  rw [callN_succ (F := F1) rfl]; simp -implicitDefEqProofs only [callF, F1, List.length_cons, List.length_nil, Nat.reduceAdd, ↓reduceIte, List.map_cons, List.map_nil, Nat.reduceSub, List.cons_append, List.nil_append, List.append_nil, List.replicate, List.set_cons_succ, List.set_cons_zero, Nat.reduceLT, gE_0, gE_s]
  simp -implicitDefEqProofs only [exs, ex, ev, evs, evo, evC, rb_ok, rt_ok, of_some, lift2_t, view_t, subD_tup, subD_lst, at0, at1, at2, at3, subTT, addT, tupD2, fin_rt, fin_nx, cast0, cast1, cast2, cast3, cast4, cast5, Int.reduceLT, Int.reduceLE, Int.reduceEq, Int.reduceNe, decide_not, map_some, take_all, cmp_lt, cmp_le, cmp_gt, cmp_ge, cmp_eq, cmp_ne, tru_bl, setTg_name, setTg_tup, setTg_lst, setTgs_nil, setTgs_cons, decide_eq_true_eq, Option.bind_some, Option.bind_none, bl_not, is_non, isnt_non, cmpIs_tup, cmpIsN_tup, if_tt, if_ff, tru_int, reduceCtorEq, decide_true, decide_false, Bool.not_true, Bool.not_false, mm1, mm2, mm3, mapM1, mapM2, lstD_c0, lstD_t0, lstD_t1, lstD_t2, lstD_t3, isL_last, isi_int_non, isi_bool_non, isi_tuple_non, isi_list_non, isi_dict_non, isi_lt_non, isi_int_bl, isi_bool_bl, isi_tuple_bl, isi_list_bl, isi_dict_bl, isi_lt_bl, isi_int_int, isi_bool_int, isi_tuple_int, isi_list_int, isi_dict_int, isi_lt_int, isi_int_str, isi_bool_str, isi_tuple_str, isi_list_str, isi_dict_str, isi_lt_str, isi_int_tup, isi_bool_tup, isi_tuple_tup, isi_list_tup, isi_dict_tup, isi_lt_tup, isi_int_lst, isi_bool_lst, isi_tuple_lst, isi_list_lst, isi_dict_lst, isi_lt_lst, isi_int_dk, isi_bool_dk, isi_tuple_dk, isi_list_dk, isi_dict_dk, isi_lt_dk, tup_ty, lenT_lst, lenT_tup, intT, Bool.or_true, Bool.true_or, Bool.or_false, Bool.false_or, Bool.and_true, Bool.true_and, Bool.and_false, Bool.false_and, Z.isNon, not_true_eq_false, not_false_eq_true, Bool.not_eq_true, Bool.false_eq_true, Option.map_some, List.length_cons, List.length_nil, Nat.reduceAdd, ↓reduceIte, List.map_cons, List.map_nil, Nat.reduceSub, List.cons_append, List.nil_append, List.append_nil, List.replicate, List.set_cons_succ, List.set_cons_zero, Nat.reduceLT, gE_0, gE_s, df_0_1, df_1_2, df_2_2, df_3_1, df_4_1, df_5_1, df_6_1, df_7_1, df_8_1, df_10_1, df_14_1, df_15_1, df_16_1, df_17_2, df_18_2, df_25_1, df_25_2, df_26_1, df_27_2, df_28_1, df_29_2, df_30_2, df_31_2, df_32_2, df_33_2, df_34_2, df_35_2, df_36_2, df_37_2, df_38_2, df_39_2, df_40_2, df_41_2, df_42_1, df_43_1, df_44_1, df_45_2, gcdT, divT g0 g1 (by decide)]
  rfl
theorem r_isint (k : Nat) (x : T) (st : S) (h : Kd x = true) : callN lib.ft lib.g0 (k + 1) 3 [.t x] st = .ok (.t (.bl (isIn x && !isBl x))) st := by
  rw [callN_succ (F := F3) rfl]; simp -implicitDefEqProofs only [callF, F3, List.length_cons, List.length_nil, Nat.reduceAdd, ↓reduceIte, List.map_cons, List.map_nil, Nat.reduceSub, List.cons_append, List.nil_append, List.append_nil, List.replicate, List.set_cons_succ, List.set_cons_zero, Nat.reduceLT, gE_0, gE_s]
  cases x <;> first | (cases h; done) | (simp -implicitDefEqProofs only [exs, ex, ev, evs, evo, evC, rb_ok, rt_ok, of_some, lift2_t, view_t, subD_tup, subD_lst, at0, at1, at2, at3, subTT, addT, tupD2, fin_rt, fin_nx, cast0, cast1, cast2, cast3, cast4, cast5, Int.reduceLT, Int.reduceLE, Int.reduceEq, Int.reduceNe, decide_not, map_some, take_all, cmp_lt, cmp_le, cmp_gt, cmp_ge, cmp_eq, cmp_ne, tru_bl, setTg_name, setTg_tup, setTg_lst, setTgs_nil, setTgs_cons, decide_eq_true_eq, Option.bind_some, Option.bind_none, bl_not, is_non, isnt_non, cmpIs_tup, cmpIsN_tup, if_tt, if_ff, tru_int, reduceCtorEq, decide_true, decide_false, Bool.not_true, Bool.not_false, mm1, mm2, mm3, mapM1, mapM2, lstD_c0, lstD_t0, lstD_t1, lstD_t2, lstD_t3, isL_last, isi_int_non, isi_bool_non, isi_tuple_non, isi_list_non, isi_dict_non, isi_lt_non, isi_int_bl, isi_bool_bl, isi_tuple_bl, isi_list_bl, isi_dict_bl, isi_lt_bl, isi_int_int, isi_bool_int, isi_tuple_int, isi_list_int, isi_dict_int, isi_lt_int, isi_int_str, isi_bool_str, isi_tuple_str, isi_list_str, isi_dict_str, isi_lt_str, isi_int_tup, isi_bool_tup, isi_tuple_tup, isi_list_tup, isi_dict_tup, isi_lt_tup, isi_int_lst, isi_bool_lst, isi_tuple_lst, isi_list_lst, isi_dict_lst, isi_lt_lst, isi_int_dk, isi_bool_dk, isi_tuple_dk, isi_list_dk, isi_dict_dk, isi_lt_dk, tup_ty, lenT_lst, lenT_tup, intT, Bool.or_true, Bool.true_or, Bool.or_false, Bool.false_or, Bool.and_true, Bool.true_and, Bool.and_false, Bool.false_and, Z.isNon, not_true_eq_false, not_false_eq_true, Bool.not_eq_true, Bool.false_eq_true, Option.map_some, List.length_cons, List.length_nil, Nat.reduceAdd, ↓reduceIte, List.map_cons, List.map_nil, Nat.reduceSub, List.cons_append, List.nil_append, List.append_nil, List.replicate, List.set_cons_succ, List.set_cons_zero, Nat.reduceLT, gE_0, gE_s, df_0_1, df_1_2, df_2_2, df_3_1, df_4_1, df_5_1, df_6_1, df_7_1, df_8_1, df_10_1, df_14_1, df_15_1, df_16_1, df_17_2, df_18_2, df_25_1, df_25_2, df_26_1, df_27_2, df_28_1, df_29_2, df_30_2, df_31_2, df_32_2, df_33_2, df_34_2, df_35_2, df_36_2, df_37_2, df_38_2, df_39_2, df_40_2, df_41_2, df_42_1, df_43_1, df_44_1, df_45_2]; rfl)
theorem r_islist (k : Nat) (x : T) (st : S) (h : Kd x = true) : callN lib.ft lib.g0 (k + 1) 4 [.t x] st = .ok (.t (.bl (isLst x || isTup x))) st := by
  rw [callN_succ (F := F4) rfl]; simp -implicitDefEqProofs only [callF, F4, List.length_cons, List.length_nil, Nat.reduceAdd, ↓reduceIte, List.map_cons, List.map_nil, Nat.reduceSub, List.cons_append, List.nil_append, List.append_nil, List.replicate, List.set_cons_succ, List.set_cons_zero, Nat.reduceLT, gE_0, gE_s]
  cases x <;> first | (cases h; done) | (simp -implicitDefEqProofs only [exs, ex, ev, evs, evo, evC, rb_ok, rt_ok, of_some, lift2_t, view_t, subD_tup, subD_lst, at0, at1, at2, at3, subTT, addT, tupD2, fin_rt, fin_nx, cast0, cast1, cast2, cast3, cast4, cast5, Int.reduceLT, Int.reduceLE, Int.reduceEq, Int.reduceNe, decide_not, map_some, take_all, cmp_lt, cmp_le, cmp_gt, cmp_ge, cmp_eq, cmp_ne, tru_bl, setTg_name, setTg_tup, setTg_lst, setTgs_nil, setTgs_cons, decide_eq_true_eq, Option.bind_some, Option.bind_none, bl_not, is_non, isnt_non, cmpIs_tup, cmpIsN_tup, if_tt, if_ff, tru_int, reduceCtorEq, decide_true, decide_false, Bool.not_true, Bool.not_false, mm1, mm2, mm3, mapM1, mapM2, lstD_c0, lstD_t0, lstD_t1, lstD_t2, lstD_t3, isL_last, isi_int_non, isi_bool_non, isi_tuple_non, isi_list_non, isi_dict_non, isi_lt_non, isi_int_bl, isi_bool_bl, isi_tuple_bl, isi_list_bl, isi_dict_bl, isi_lt_bl, isi_int_int, isi_bool_int, isi_tuple_int, isi_list_int, isi_dict_int, isi_lt_int, isi_int_str, isi_bool_str, isi_tuple_str, isi_list_str, isi_dict_str, isi_lt_str, isi_int_tup, isi_bool_tup, isi_tuple_tup, isi_list_tup, isi_dict_tup, isi_lt_tup, isi_int_lst, isi_bool_lst, isi_tuple_lst, isi_list_lst, isi_dict_lst, isi_lt_lst, isi_int_dk, isi_bool_dk, isi_tuple_dk, isi_list_dk, isi_dict_dk, isi_lt_dk, tup_ty, lenT_lst, lenT_tup, intT, Bool.or_true, Bool.true_or, Bool.or_false, Bool.false_or, Bool.and_true, Bool.true_and, Bool.and_false, Bool.false_and, Z.isNon, not_true_eq_false, not_false_eq_true, Bool.not_eq_true, Bool.false_eq_true, Option.map_some, List.length_cons, List.length_nil, Nat.reduceAdd, ↓reduceIte, List.map_cons, List.map_nil, Nat.reduceSub, List.cons_append, List.nil_append, List.append_nil, List.replicate, List.set_cons_succ, List.set_cons_zero, Nat.reduceLT, gE_0, gE_s, df_0_1, df_1_2, df_2_2, df_3_1, df_4_1, df_5_1, df_6_1, df_7_1, df_8_1, df_10_1, df_14_1, df_15_1, df_16_1, df_17_2, df_18_2, df_25_1, df_25_2, df_26_1, df_27_2, df_28_1, df_29_2, df_30_2, df_31_2, df_32_2, df_33_2, df_34_2, df_35_2, df_36_2, df_37_2, df_38_2, df_39_2, df_40_2, df_41_2, df_42_1, df_43_1, df_44_1, df_45_2]; rfl)
theorem isint_int (k : Nat) (i : Int) (st : S) : callN lib.ft lib.g0 (k + 1) 3 [.t (.int i)] st = .ok (.t (.bl true)) st := r_isint k _ st rfl
theorem isint_tup (k : Nat) (i : List T) (st : S) : callN lib.ft lib.g0 (k + 1) 3 [.t (.tup i)] st = .ok (.t (.bl false)) st := r_isint k _ st rfl
theorem isint_lst (k : Nat) (i : List T) (st : S) : callN lib.ft lib.g0 (k + 1) 3 [.t (.lst i)] st = .ok (.t (.bl false)) st := r_isint k _ st rfl
theorem isint_non (k : Nat) (st : S) : callN lib.ft lib.g0 (k + 1) 3 [.t .non] st = .ok (.t (.bl false)) st := r_isint k _ st rfl
theorem isint_str (k : Nat) (i : Str) (st : S) : callN lib.ft lib.g0 (k + 1) 3 [.t (.str i)] st = .ok (.t (.bl false)) st := r_isint k _ st rfl
theorem isint_bl (k : Nat) (i : Bool) (st : S) : callN lib.ft lib.g0 (k + 1) 3 [.t (.bl i)] st = .ok (.t (.bl false)) st := r_isint k _ st rfl
theorem isint_dk (k : Nat) (i : List (Key × T)) (st : S) : callN lib.ft lib.g0 (k + 1) 3 [.t (.dk i)] st = .ok (.t (.bl false)) st := r_isint k _ st rfl
theorem islist_int (k : Nat) (i : Int) (st : S) : callN lib.ft lib.g0 (k + 1) 4 [.t (.int i)] st = .ok (.t (.bl false)) st := r_islist k _ st rfl
theorem islist_tup (k : Nat) (i : List T) (st : S) : callN lib.ft lib.g0 (k + 1) 4 [.t (.tup i)] st = .ok (.t (.bl true)) st := r_islist k _ st rfl
theorem islist_lst (k : Nat) (i : List T) (st : S) : callN lib.ft lib.g0 (k + 1) 4 [.t (.lst i)] st = .ok (.t (.bl true)) st := r_islist k _ st rfl
theorem islist_non (k : Nat) (st : S) : callN lib.ft lib.g0 (k + 1) 4 [.t .non] st = .ok (.t (.bl false)) st := r_islist k _ st rfl
theorem islist_str (k : Nat) (i : Str) (st : S) : callN lib.ft lib.g0 (k + 1) 4 [.t (.str i)] st = .ok (.t (.bl false)) st := r_islist k _ st rfl
theorem islist_bl (k : Nat) (i : Bool) (st : S) : callN lib.ft lib.g0 (k + 1) 4 [.t (.bl i)] st = .ok (.t (.bl false)) st := r_islist k _ st rfl
theorem islist_dk (k : Nat) (i : List (Key × T)) (st : S) : callN lib.ft lib.g0 (k + 1) 4 [.t (.dk i)] st = .ok (.t (.bl false)) st := r_islist k _ st rfl
theorem r_place (k : Nat) (i : Int) (st : S) (h : 0 ≤ i) : callN lib.ft lib.g0 (k + 2) 14 [.t (I i)] st = .ok (.t .non) st := by
  have e : ¬ i < 0 := by omega
  rw [callN_succ (F := F14) rfl]; simp -implicitDefEqProofs only [callF, F14, List.length_cons, List.length_nil, Nat.reduceAdd, ↓reduceIte, List.map_cons, List.map_nil, Nat.reduceSub, List.cons_append, List.nil_append, List.append_nil, List.replicate, List.set_cons_succ, List.set_cons_zero, Nat.reduceLT, gE_0, gE_s]
  simp -implicitDefEqProofs only [exs, ex, ev, evs, evo, evC, rb_ok, rt_ok, of_some, lift2_t, view_t, subD_tup, subD_lst, at0, at1, at2, at3, subTT, addT, tupD2, fin_rt, fin_nx, cast0, cast1, cast2, cast3, cast4, cast5, Int.reduceLT, Int.reduceLE, Int.reduceEq, Int.reduceNe, decide_not, map_some, take_all, cmp_lt, cmp_le, cmp_gt, cmp_ge, cmp_eq, cmp_ne, tru_bl, setTg_name, setTg_tup, setTg_lst, setTgs_nil, setTgs_cons, decide_eq_true_eq, Option.bind_some, Option.bind_none, bl_not, is_non, isnt_non, cmpIs_tup, cmpIsN_tup, if_tt, if_ff, tru_int, reduceCtorEq, decide_true, decide_false, Bool.not_true, Bool.not_false, mm1, mm2, mm3, mapM1, mapM2, lstD_c0, lstD_t0, lstD_t1, lstD_t2, lstD_t3, isL_last, isi_int_non, isi_bool_non, isi_tuple_non, isi_list_non, isi_dict_non, isi_lt_non, isi_int_bl, isi_bool_bl, isi_tuple_bl, isi_list_bl, isi_dict_bl, isi_lt_bl, isi_int_int, isi_bool_int, isi_tuple_int, isi_list_int, isi_dict_int, isi_lt_int, isi_int_str, isi_bool_str, isi_tuple_str, isi_list_str, isi_dict_str, isi_lt_str, isi_int_tup, isi_bool_tup, isi_tuple_tup, isi_list_tup, isi_dict_tup, isi_lt_tup, isi_int_lst, isi_bool_lst, isi_tuple_lst, isi_list_lst, isi_dict_lst, isi_lt_lst, isi_int_dk, isi_bool_dk, isi_tuple_dk, isi_list_dk, isi_dict_dk, isi_lt_dk, tup_ty, lenT_lst, lenT_tup, intT, Bool.or_true, Bool.true_or, Bool.or_false, Bool.false_or, Bool.and_true, Bool.true_and, Bool.and_false, Bool.false_and, Z.isNon, not_true_eq_false, not_false_eq_true, Bool.not_eq_true, Bool.false_eq_true, Option.map_some, List.length_cons, List.length_nil, Nat.reduceAdd, ↓reduceIte, List.map_cons, List.map_nil, Nat.reduceSub, List.cons_append, List.nil_append, List.append_nil, List.replicate, List.set_cons_succ, List.set_cons_zero, Nat.reduceLT, gE_0, gE_s, df_0_1, df_1_2, df_2_2, df_3_1, df_4_1, df_5_1, df_6_1, df_7_1, df_8_1, df_10_1, df_14_1, df_15_1, df_16_1, df_17_2, df_18_2, df_25_1, df_25_2, df_26_1, df_27_2, df_28_1, df_29_2, df_30_2, df_31_2, df_32_2, df_33_2, df_34_2, df_35_2, df_36_2, df_37_2, df_38_2, df_39_2, df_40_2, df_41_2, df_42_1, df_43_1, df_44_1, df_45_2, isint_int, e]
/-- told as a fraction -/
def frac (p : Int × Int) : T := if p.2 < 1 then .non else fr (Rw9.low p)
def amnt (p : Int × Int) : T := if p.2 < 1 then .non else if (Rw9.low p).1 < 0 then .non else fr (Rw9.low p)
def shar (p : Int × Int) : T := if p.2 < 1 then .non else if (Rw9.low p).1 < 0 then .non else if (Rw9.low p).2 < (Rw9.low p).1 then .non else fr (Rw9.low p)
theorem low_1 (i : Int) : Rw9.low (i, 1) = (i, 1) := by
  unfold Rw9.low
  simp
theorem r_frac_int (k : Nat) (i : Int) (st : S) : callN lib.ft lib.g0 (k + 2) 5 [.t (.int i)] st = .ok (.t (frac (i, 1))) st := by
  rw [callN_succ (F := F5) rfl]; simp -implicitDefEqProofs only [callF, F5, List.length_cons, List.length_nil, Nat.reduceAdd, ↓reduceIte, List.map_cons, List.map_nil, Nat.reduceSub, List.cons_append, List.nil_append, List.append_nil, List.replicate, List.set_cons_succ, List.set_cons_zero, Nat.reduceLT, gE_0, gE_s]
  have e : ¬ (1 : Int) < 1 := by decide
  simp -implicitDefEqProofs only [exs, ex, ev, evs, evo, evC, rb_ok, rt_ok, of_some, lift2_t, view_t, subD_tup, subD_lst, at0, at1, at2, at3, subTT, addT, tupD2, fin_rt, fin_nx, cast0, cast1, cast2, cast3, cast4, cast5, Int.reduceLT, Int.reduceLE, Int.reduceEq, Int.reduceNe, decide_not, map_some, take_all, cmp_lt, cmp_le, cmp_gt, cmp_ge, cmp_eq, cmp_ne, tru_bl, setTg_name, setTg_tup, setTg_lst, setTgs_nil, setTgs_cons, decide_eq_true_eq, Option.bind_some, Option.bind_none, bl_not, is_non, isnt_non, cmpIs_tup, cmpIsN_tup, if_tt, if_ff, tru_int, reduceCtorEq, decide_true, decide_false, Bool.not_true, Bool.not_false, mm1, mm2, mm3, mapM1, mapM2, lstD_c0, lstD_t0, lstD_t1, lstD_t2, lstD_t3, isL_last, isi_int_non, isi_bool_non, isi_tuple_non, isi_list_non, isi_dict_non, isi_lt_non, isi_int_bl, isi_bool_bl, isi_tuple_bl, isi_list_bl, isi_dict_bl, isi_lt_bl, isi_int_int, isi_bool_int, isi_tuple_int, isi_list_int, isi_dict_int, isi_lt_int, isi_int_str, isi_bool_str, isi_tuple_str, isi_list_str, isi_dict_str, isi_lt_str, isi_int_tup, isi_bool_tup, isi_tuple_tup, isi_list_tup, isi_dict_tup, isi_lt_tup, isi_int_lst, isi_bool_lst, isi_tuple_lst, isi_list_lst, isi_dict_lst, isi_lt_lst, isi_int_dk, isi_bool_dk, isi_tuple_dk, isi_list_dk, isi_dict_dk, isi_lt_dk, tup_ty, lenT_lst, lenT_tup, intT, Bool.or_true, Bool.true_or, Bool.or_false, Bool.false_or, Bool.and_true, Bool.true_and, Bool.and_false, Bool.false_and, Z.isNon, not_true_eq_false, not_false_eq_true, Bool.not_eq_true, Bool.false_eq_true, Option.map_some, List.length_cons, List.length_nil, Nat.reduceAdd, ↓reduceIte, List.map_cons, List.map_nil, Nat.reduceSub, List.cons_append, List.nil_append, List.append_nil, List.replicate, List.set_cons_succ, List.set_cons_zero, Nat.reduceLT, gE_0, gE_s, df_0_1, df_1_2, df_2_2, df_3_1, df_4_1, df_5_1, df_6_1, df_7_1, df_8_1, df_10_1, df_14_1, df_15_1, df_16_1, df_17_2, df_18_2, df_25_1, df_25_2, df_26_1, df_27_2, df_28_1, df_29_2, df_30_2, df_31_2, df_32_2, df_33_2, df_34_2, df_35_2, df_36_2, df_37_2, df_38_2, df_39_2, df_40_2, df_41_2, df_42_1, df_43_1, df_44_1, df_45_2, isint_int, frac, e, low_1]
theorem r_frac_tup (k : Nat) (a b : Int) (st : S) (h : Bd 400 b) : callN lib.ft lib.g0 (k + 2) 5 [.t (.tup [.int a, .int b])] st = .ok (.t (frac (a, b))) st := by
  rw [callN_succ (F := F5) rfl]; simp -implicitDefEqProofs only [callF, F5, List.length_cons, List.length_nil, Nat.reduceAdd, ↓reduceIte, List.map_cons, List.map_nil, Nat.reduceSub, List.cons_append, List.nil_append, List.append_nil, List.replicate, List.set_cons_succ, List.set_cons_zero, Nat.reduceLT, gE_0, gE_s]
  by_cases e : b < 1
  · simp -implicitDefEqProofs only [exs, ex, ev, evs, evo, evC, rb_ok, rt_ok, of_some, lift2_t, view_t, subD_tup, subD_lst, at0, at1, at2, at3, subTT, addT, tupD2, fin_rt, fin_nx, cast0, cast1, cast2, cast3, cast4, cast5, Int.reduceLT, Int.reduceLE, Int.reduceEq, Int.reduceNe, decide_not, map_some, take_all, cmp_lt, cmp_le, cmp_gt, cmp_ge, cmp_eq, cmp_ne, tru_bl, setTg_name, setTg_tup, setTg_lst, setTgs_nil, setTgs_cons, decide_eq_true_eq, Option.bind_some, Option.bind_none, bl_not, is_non, isnt_non, cmpIs_tup, cmpIsN_tup, if_tt, if_ff, tru_int, reduceCtorEq, decide_true, decide_false, Bool.not_true, Bool.not_false, mm1, mm2, mm3, mapM1, mapM2, lstD_c0, lstD_t0, lstD_t1, lstD_t2, lstD_t3, isL_last, isi_int_non, isi_bool_non, isi_tuple_non, isi_list_non, isi_dict_non, isi_lt_non, isi_int_bl, isi_bool_bl, isi_tuple_bl, isi_list_bl, isi_dict_bl, isi_lt_bl, isi_int_int, isi_bool_int, isi_tuple_int, isi_list_int, isi_dict_int, isi_lt_int, isi_int_str, isi_bool_str, isi_tuple_str, isi_list_str, isi_dict_str, isi_lt_str, isi_int_tup, isi_bool_tup, isi_tuple_tup, isi_list_tup, isi_dict_tup, isi_lt_tup, isi_int_lst, isi_bool_lst, isi_tuple_lst, isi_list_lst, isi_dict_lst, isi_lt_lst, isi_int_dk, isi_bool_dk, isi_tuple_dk, isi_list_dk, isi_dict_dk, isi_lt_dk, tup_ty, lenT_lst, lenT_tup, intT, Bool.or_true, Bool.true_or, Bool.or_false, Bool.false_or, Bool.and_true, Bool.true_and, Bool.and_false, Bool.false_and, Z.isNon, not_true_eq_false, not_false_eq_true, Bool.not_eq_true, Bool.false_eq_true, Option.map_some, List.length_cons, List.length_nil, Nat.reduceAdd, ↓reduceIte, List.map_cons, List.map_nil, Nat.reduceSub, List.cons_append, List.nil_append, List.append_nil, List.replicate, List.set_cons_succ, List.set_cons_zero, Nat.reduceLT, gE_0, gE_s, df_0_1, df_1_2, df_2_2, df_3_1, df_4_1, df_5_1, df_6_1, df_7_1, df_8_1, df_10_1, df_14_1, df_15_1, df_16_1, df_17_2, df_18_2, df_25_1, df_25_2, df_26_1, df_27_2, df_28_1, df_29_2, df_30_2, df_31_2, df_32_2, df_33_2, df_34_2, df_35_2, df_36_2, df_37_2, df_38_2, df_39_2, df_40_2, df_41_2, df_42_1, df_43_1, df_44_1, df_45_2, isint_int, isint_tup, isint_lst, islist_tup, islist_lst, e, frac]
  · have h0 : 0 < b := by omega
    simp -implicitDefEqProofs only [exs, ex, ev, evs, evo, evC, rb_ok, rt_ok, of_some, lift2_t, view_t, subD_tup, subD_lst, at0, at1, at2, at3, subTT, addT, tupD2, fin_rt, fin_nx, cast0, cast1, cast2, cast3, cast4, cast5, Int.reduceLT, Int.reduceLE, Int.reduceEq, Int.reduceNe, decide_not, map_some, take_all, cmp_lt, cmp_le, cmp_gt, cmp_ge, cmp_eq, cmp_ne, tru_bl, setTg_name, setTg_tup, setTg_lst, setTgs_nil, setTgs_cons, decide_eq_true_eq, Option.bind_some, Option.bind_none, bl_not, is_non, isnt_non, cmpIs_tup, cmpIsN_tup, if_tt, if_ff, tru_int, reduceCtorEq, decide_true, decide_false, Bool.not_true, Bool.not_false, mm1, mm2, mm3, mapM1, mapM2, lstD_c0, lstD_t0, lstD_t1, lstD_t2, lstD_t3, isL_last, isi_int_non, isi_bool_non, isi_tuple_non, isi_list_non, isi_dict_non, isi_lt_non, isi_int_bl, isi_bool_bl, isi_tuple_bl, isi_list_bl, isi_dict_bl, isi_lt_bl, isi_int_int, isi_bool_int, isi_tuple_int, isi_list_int, isi_dict_int, isi_lt_int, isi_int_str, isi_bool_str, isi_tuple_str, isi_list_str, isi_dict_str, isi_lt_str, isi_int_tup, isi_bool_tup, isi_tuple_tup, isi_list_tup, isi_dict_tup, isi_lt_tup, isi_int_lst, isi_bool_lst, isi_tuple_lst, isi_list_lst, isi_dict_lst, isi_lt_lst, isi_int_dk, isi_bool_dk, isi_tuple_dk, isi_list_dk, isi_dict_dk, isi_lt_dk, tup_ty, lenT_lst, lenT_tup, intT, Bool.or_true, Bool.true_or, Bool.or_false, Bool.false_or, Bool.and_true, Bool.true_and, Bool.and_false, Bool.false_and, Z.isNon, not_true_eq_false, not_false_eq_true, Bool.not_eq_true, Bool.false_eq_true, Option.map_some, List.length_cons, List.length_nil, Nat.reduceAdd, ↓reduceIte, List.map_cons, List.map_nil, Nat.reduceSub, List.cons_append, List.nil_append, List.append_nil, List.replicate, List.set_cons_succ, List.set_cons_zero, Nat.reduceLT, gE_0, gE_s, df_0_1, df_1_2, df_2_2, df_3_1, df_4_1, df_5_1, df_6_1, df_7_1, df_8_1, df_10_1, df_14_1, df_15_1, df_16_1, df_17_2, df_18_2, df_25_1, df_25_2, df_26_1, df_27_2, df_28_1, df_29_2, df_30_2, df_31_2, df_32_2, df_33_2, df_34_2, df_35_2, df_36_2, df_37_2, df_38_2, df_39_2, df_40_2, df_41_2, df_42_1, df_43_1, df_44_1, df_45_2, isint_int, isint_tup, isint_lst, islist_tup, islist_lst, e, frac, r_lowest k a b st h0 h]
theorem r_frac_lst (k : Nat) (a b : Int) (st : S) (h : Bd 400 b) : callN lib.ft lib.g0 (k + 2) 5 [.t (.lst [.int a, .int b])] st = .ok (.t (frac (a, b))) st := by
  rw [callN_succ (F := F5) rfl]; simp -implicitDefEqProofs only [callF, F5, List.length_cons, List.length_nil, Nat.reduceAdd, ↓reduceIte, List.map_cons, List.map_nil, Nat.reduceSub, List.cons_append, List.nil_append, List.append_nil, List.replicate, List.set_cons_succ, List.set_cons_zero, Nat.reduceLT, gE_0, gE_s]
  by_cases e : b < 1
  · simp -implicitDefEqProofs only [exs, ex, ev, evs, evo, evC, rb_ok, rt_ok, of_some, lift2_t, view_t, subD_tup, subD_lst, at0, at1, at2, at3, subTT, addT, tupD2, fin_rt, fin_nx, cast0, cast1, cast2, cast3, cast4, cast5, Int.reduceLT, Int.reduceLE, Int.reduceEq, Int.reduceNe, decide_not, map_some, take_all, cmp_lt, cmp_le, cmp_gt, cmp_ge, cmp_eq, cmp_ne, tru_bl, setTg_name, setTg_tup, setTg_lst, setTgs_nil, setTgs_cons, decide_eq_true_eq, Option.bind_some, Option.bind_none, bl_not, is_non, isnt_non, cmpIs_tup, cmpIsN_tup, if_tt, if_ff, tru_int, reduceCtorEq, decide_true, decide_false, Bool.not_true, Bool.not_false, mm1, mm2, mm3, mapM1, mapM2, lstD_c0, lstD_t0, lstD_t1, lstD_t2, lstD_t3, isL_last, isi_int_non, isi_bool_non, isi_tuple_non, isi_list_non, isi_dict_non, isi_lt_non, isi_int_bl, isi_bool_bl, isi_tuple_bl, isi_list_bl, isi_dict_bl, isi_lt_bl, isi_int_int, isi_bool_int, isi_tuple_int, isi_list_int, isi_dict_int, isi_lt_int, isi_int_str, isi_bool_str, isi_tuple_str, isi_list_str, isi_dict_str, isi_lt_str, isi_int_tup, isi_bool_tup, isi_tuple_tup, isi_list_tup, isi_dict_tup, isi_lt_tup, isi_int_lst, isi_bool_lst, isi_tuple_lst, isi_list_lst, isi_dict_lst, isi_lt_lst, isi_int_dk, isi_bool_dk, isi_tuple_dk, isi_list_dk, isi_dict_dk, isi_lt_dk, tup_ty, lenT_lst, lenT_tup, intT, Bool.or_true, Bool.true_or, Bool.or_false, Bool.false_or, Bool.and_true, Bool.true_and, Bool.and_false, Bool.false_and, Z.isNon, not_true_eq_false, not_false_eq_true, Bool.not_eq_true, Bool.false_eq_true, Option.map_some, List.length_cons, List.length_nil, Nat.reduceAdd, ↓reduceIte, List.map_cons, List.map_nil, Nat.reduceSub, List.cons_append, List.nil_append, List.append_nil, List.replicate, List.set_cons_succ, List.set_cons_zero, Nat.reduceLT, gE_0, gE_s, df_0_1, df_1_2, df_2_2, df_3_1, df_4_1, df_5_1, df_6_1, df_7_1, df_8_1, df_10_1, df_14_1, df_15_1, df_16_1, df_17_2, df_18_2, df_25_1, df_25_2, df_26_1, df_27_2, df_28_1, df_29_2, df_30_2, df_31_2, df_32_2, df_33_2, df_34_2, df_35_2, df_36_2, df_37_2, df_38_2, df_39_2, df_40_2, df_41_2, df_42_1, df_43_1, df_44_1, df_45_2, isint_int, isint_tup, isint_lst, islist_tup, islist_lst, e, frac]
  · have h0 : 0 < b := by omega
    simp -implicitDefEqProofs only [exs, ex, ev, evs, evo, evC, rb_ok, rt_ok, of_some, lift2_t, view_t, subD_tup, subD_lst, at0, at1, at2, at3, subTT, addT, tupD2, fin_rt, fin_nx, cast0, cast1, cast2, cast3, cast4, cast5, Int.reduceLT, Int.reduceLE, Int.reduceEq, Int.reduceNe, decide_not, map_some, take_all, cmp_lt, cmp_le, cmp_gt, cmp_ge, cmp_eq, cmp_ne, tru_bl, setTg_name, setTg_tup, setTg_lst, setTgs_nil, setTgs_cons, decide_eq_true_eq, Option.bind_some, Option.bind_none, bl_not, is_non, isnt_non, cmpIs_tup, cmpIsN_tup, if_tt, if_ff, tru_int, reduceCtorEq, decide_true, decide_false, Bool.not_true, Bool.not_false, mm1, mm2, mm3, mapM1, mapM2, lstD_c0, lstD_t0, lstD_t1, lstD_t2, lstD_t3, isL_last, isi_int_non, isi_bool_non, isi_tuple_non, isi_list_non, isi_dict_non, isi_lt_non, isi_int_bl, isi_bool_bl, isi_tuple_bl, isi_list_bl, isi_dict_bl, isi_lt_bl, isi_int_int, isi_bool_int, isi_tuple_int, isi_list_int, isi_dict_int, isi_lt_int, isi_int_str, isi_bool_str, isi_tuple_str, isi_list_str, isi_dict_str, isi_lt_str, isi_int_tup, isi_bool_tup, isi_tuple_tup, isi_list_tup, isi_dict_tup, isi_lt_tup, isi_int_lst, isi_bool_lst, isi_tuple_lst, isi_list_lst, isi_dict_lst, isi_lt_lst, isi_int_dk, isi_bool_dk, isi_tuple_dk, isi_list_dk, isi_dict_dk, isi_lt_dk, tup_ty, lenT_lst, lenT_tup, intT, Bool.or_true, Bool.true_or, Bool.or_false, Bool.false_or, Bool.and_true, Bool.true_and, Bool.and_false, Bool.false_and, Z.isNon, not_true_eq_false, not_false_eq_true, Bool.not_eq_true, Bool.false_eq_true, Option.map_some, List.length_cons, List.length_nil, Nat.reduceAdd, ↓reduceIte, List.map_cons, List.map_nil, Nat.reduceSub, List.cons_append, List.nil_append, List.append_nil, List.replicate, List.set_cons_succ, List.set_cons_zero, Nat.reduceLT, gE_0, gE_s, df_0_1, df_1_2, df_2_2, df_3_1, df_4_1, df_5_1, df_6_1, df_7_1, df_8_1, df_10_1, df_14_1, df_15_1, df_16_1, df_17_2, df_18_2, df_25_1, df_25_2, df_26_1, df_27_2, df_28_1, df_29_2, df_30_2, df_31_2, df_32_2, df_33_2, df_34_2, df_35_2, df_36_2, df_37_2, df_38_2, df_39_2, df_40_2, df_41_2, df_42_1, df_43_1, df_44_1, df_45_2, isint_int, isint_tup, isint_lst, islist_tup, islist_lst, e, frac, r_lowest k a b st h0 h]
/-- what fraction_of makes of it -/
def Frs (x : T) (p : Int × Int) : Prop := ∀ k st, callN lib.ft lib.g0 (k + 2) 5 [.t x] st = .ok (.t (frac p)) st
def Fro (x : T) : Prop := ∀ k st, callN lib.ft lib.g0 (k + 2) 5 [.t x] st = .ok (.t .non) st
theorem r_amnt (k : Nat) {x : T} {p : Int × Int} (st : S) (h : Frs x p) : callN lib.ft lib.g0 (k + 3) 6 [.t x] st = .ok (.t (amnt p)) st := by
  rw [callN_succ (F := F6) rfl]; simp -implicitDefEqProofs only [callF, F6, List.length_cons, List.length_nil, Nat.reduceAdd, ↓reduceIte, List.map_cons, List.map_nil, Nat.reduceSub, List.cons_append, List.nil_append, List.append_nil, List.replicate, List.set_cons_succ, List.set_cons_zero, Nat.reduceLT, gE_0, gE_s]
  by_cases e : p.2 < 1
  · simp -implicitDefEqProofs only [exs, ex, ev, evs, evo, evC, rb_ok, rt_ok, of_some, lift2_t, view_t, subD_tup, subD_lst, at0, at1, at2, at3, subTT, addT, tupD2, fin_rt, fin_nx, cast0, cast1, cast2, cast3, cast4, cast5, Int.reduceLT, Int.reduceLE, Int.reduceEq, Int.reduceNe, decide_not, map_some, take_all, cmp_lt, cmp_le, cmp_gt, cmp_ge, cmp_eq, cmp_ne, tru_bl, setTg_name, setTg_tup, setTg_lst, setTgs_nil, setTgs_cons, decide_eq_true_eq, Option.bind_some, Option.bind_none, bl_not, is_non, isnt_non, cmpIs_tup, cmpIsN_tup, if_tt, if_ff, tru_int, reduceCtorEq, decide_true, decide_false, Bool.not_true, Bool.not_false, mm1, mm2, mm3, mapM1, mapM2, lstD_c0, lstD_t0, lstD_t1, lstD_t2, lstD_t3, isL_last, isi_int_non, isi_bool_non, isi_tuple_non, isi_list_non, isi_dict_non, isi_lt_non, isi_int_bl, isi_bool_bl, isi_tuple_bl, isi_list_bl, isi_dict_bl, isi_lt_bl, isi_int_int, isi_bool_int, isi_tuple_int, isi_list_int, isi_dict_int, isi_lt_int, isi_int_str, isi_bool_str, isi_tuple_str, isi_list_str, isi_dict_str, isi_lt_str, isi_int_tup, isi_bool_tup, isi_tuple_tup, isi_list_tup, isi_dict_tup, isi_lt_tup, isi_int_lst, isi_bool_lst, isi_tuple_lst, isi_list_lst, isi_dict_lst, isi_lt_lst, isi_int_dk, isi_bool_dk, isi_tuple_dk, isi_list_dk, isi_dict_dk, isi_lt_dk, tup_ty, lenT_lst, lenT_tup, intT, Bool.or_true, Bool.true_or, Bool.or_false, Bool.false_or, Bool.and_true, Bool.true_and, Bool.and_false, Bool.false_and, Z.isNon, not_true_eq_false, not_false_eq_true, Bool.not_eq_true, Bool.false_eq_true, Option.map_some, List.length_cons, List.length_nil, Nat.reduceAdd, ↓reduceIte, List.map_cons, List.map_nil, Nat.reduceSub, List.cons_append, List.nil_append, List.append_nil, List.replicate, List.set_cons_succ, List.set_cons_zero, Nat.reduceLT, gE_0, gE_s, df_0_1, df_1_2, df_2_2, df_3_1, df_4_1, df_5_1, df_6_1, df_7_1, df_8_1, df_10_1, df_14_1, df_15_1, df_16_1, df_17_2, df_18_2, df_25_1, df_25_2, df_26_1, df_27_2, df_28_1, df_29_2, df_30_2, df_31_2, df_32_2, df_33_2, df_34_2, df_35_2, df_36_2, df_37_2, df_38_2, df_39_2, df_40_2, df_41_2, df_42_1, df_43_1, df_44_1, df_45_2, h _ _, frac, amnt, e]
  · by_cases e1 : (Rw9.low p).1 < 0
    · simp -implicitDefEqProofs only [exs, ex, ev, evs, evo, evC, rb_ok, rt_ok, of_some, lift2_t, view_t, subD_tup, subD_lst, at0, at1, at2, at3, subTT, addT, tupD2, fin_rt, fin_nx, cast0, cast1, cast2, cast3, cast4, cast5, Int.reduceLT, Int.reduceLE, Int.reduceEq, Int.reduceNe, decide_not, map_some, take_all, cmp_lt, cmp_le, cmp_gt, cmp_ge, cmp_eq, cmp_ne, tru_bl, setTg_name, setTg_tup, setTg_lst, setTgs_nil, setTgs_cons, decide_eq_true_eq, Option.bind_some, Option.bind_none, bl_not, is_non, isnt_non, cmpIs_tup, cmpIsN_tup, if_tt, if_ff, tru_int, reduceCtorEq, decide_true, decide_false, Bool.not_true, Bool.not_false, mm1, mm2, mm3, mapM1, mapM2, lstD_c0, lstD_t0, lstD_t1, lstD_t2, lstD_t3, isL_last, isi_int_non, isi_bool_non, isi_tuple_non, isi_list_non, isi_dict_non, isi_lt_non, isi_int_bl, isi_bool_bl, isi_tuple_bl, isi_list_bl, isi_dict_bl, isi_lt_bl, isi_int_int, isi_bool_int, isi_tuple_int, isi_list_int, isi_dict_int, isi_lt_int, isi_int_str, isi_bool_str, isi_tuple_str, isi_list_str, isi_dict_str, isi_lt_str, isi_int_tup, isi_bool_tup, isi_tuple_tup, isi_list_tup, isi_dict_tup, isi_lt_tup, isi_int_lst, isi_bool_lst, isi_tuple_lst, isi_list_lst, isi_dict_lst, isi_lt_lst, isi_int_dk, isi_bool_dk, isi_tuple_dk, isi_list_dk, isi_dict_dk, isi_lt_dk, tup_ty, lenT_lst, lenT_tup, intT, Bool.or_true, Bool.true_or, Bool.or_false, Bool.false_or, Bool.and_true, Bool.true_and, Bool.and_false, Bool.false_and, Z.isNon, not_true_eq_false, not_false_eq_true, Bool.not_eq_true, Bool.false_eq_true, Option.map_some, List.length_cons, List.length_nil, Nat.reduceAdd, ↓reduceIte, List.map_cons, List.map_nil, Nat.reduceSub, List.cons_append, List.nil_append, List.append_nil, List.replicate, List.set_cons_succ, List.set_cons_zero, Nat.reduceLT, gE_0, gE_s, df_0_1, df_1_2, df_2_2, df_3_1, df_4_1, df_5_1, df_6_1, df_7_1, df_8_1, df_10_1, df_14_1, df_15_1, df_16_1, df_17_2, df_18_2, df_25_1, df_25_2, df_26_1, df_27_2, df_28_1, df_29_2, df_30_2, df_31_2, df_32_2, df_33_2, df_34_2, df_35_2, df_36_2, df_37_2, df_38_2, df_39_2, df_40_2, df_41_2, df_42_1, df_43_1, df_44_1, df_45_2, h _ _, frac, amnt, e, e1]
    · simp -implicitDefEqProofs only [exs, ex, ev, evs, evo, evC, rb_ok, rt_ok, of_some, lift2_t, view_t, subD_tup, subD_lst, at0, at1, at2, at3, subTT, addT, tupD2, fin_rt, fin_nx, cast0, cast1, cast2, cast3, cast4, cast5, Int.reduceLT, Int.reduceLE, Int.reduceEq, Int.reduceNe, decide_not, map_some, take_all, cmp_lt, cmp_le, cmp_gt, cmp_ge, cmp_eq, cmp_ne, tru_bl, setTg_name, setTg_tup, setTg_lst, setTgs_nil, setTgs_cons, decide_eq_true_eq, Option.bind_some, Option.bind_none, bl_not, is_non, isnt_non, cmpIs_tup, cmpIsN_tup, if_tt, if_ff, tru_int, reduceCtorEq, decide_true, decide_false, Bool.not_true, Bool.not_false, mm1, mm2, mm3, mapM1, mapM2, lstD_c0, lstD_t0, lstD_t1, lstD_t2, lstD_t3, isL_last, isi_int_non, isi_bool_non, isi_tuple_non, isi_list_non, isi_dict_non, isi_lt_non, isi_int_bl, isi_bool_bl, isi_tuple_bl, isi_list_bl, isi_dict_bl, isi_lt_bl, isi_int_int, isi_bool_int, isi_tuple_int, isi_list_int, isi_dict_int, isi_lt_int, isi_int_str, isi_bool_str, isi_tuple_str, isi_list_str, isi_dict_str, isi_lt_str, isi_int_tup, isi_bool_tup, isi_tuple_tup, isi_list_tup, isi_dict_tup, isi_lt_tup, isi_int_lst, isi_bool_lst, isi_tuple_lst, isi_list_lst, isi_dict_lst, isi_lt_lst, isi_int_dk, isi_bool_dk, isi_tuple_dk, isi_list_dk, isi_dict_dk, isi_lt_dk, tup_ty, lenT_lst, lenT_tup, intT, Bool.or_true, Bool.true_or, Bool.or_false, Bool.false_or, Bool.and_true, Bool.true_and, Bool.and_false, Bool.false_and, Z.isNon, not_true_eq_false, not_false_eq_true, Bool.not_eq_true, Bool.false_eq_true, Option.map_some, List.length_cons, List.length_nil, Nat.reduceAdd, ↓reduceIte, List.map_cons, List.map_nil, Nat.reduceSub, List.cons_append, List.nil_append, List.append_nil, List.replicate, List.set_cons_succ, List.set_cons_zero, Nat.reduceLT, gE_0, gE_s, df_0_1, df_1_2, df_2_2, df_3_1, df_4_1, df_5_1, df_6_1, df_7_1, df_8_1, df_10_1, df_14_1, df_15_1, df_16_1, df_17_2, df_18_2, df_25_1, df_25_2, df_26_1, df_27_2, df_28_1, df_29_2, df_30_2, df_31_2, df_32_2, df_33_2, df_34_2, df_35_2, df_36_2, df_37_2, df_38_2, df_39_2, df_40_2, df_41_2, df_42_1, df_43_1, df_44_1, df_45_2, h _ _, frac, amnt, e, e1]
theorem r_shar (k : Nat) {x : T} {p : Int × Int} (st : S) (h : Frs x p) : callN lib.ft lib.g0 (k + 4) 7 [.t x] st = .ok (.t (shar p)) st := by
  rw [callN_succ (F := F7) rfl]; simp -implicitDefEqProofs only [callF, F7, List.length_cons, List.length_nil, Nat.reduceAdd, ↓reduceIte, List.map_cons, List.map_nil, Nat.reduceSub, List.cons_append, List.nil_append, List.append_nil, List.replicate, List.set_cons_succ, List.set_cons_zero, Nat.reduceLT, gE_0, gE_s]
  by_cases e : p.2 < 1
  · simp -implicitDefEqProofs only [exs, ex, ev, evs, evo, evC, rb_ok, rt_ok, of_some, lift2_t, view_t, subD_tup, subD_lst, at0, at1, at2, at3, subTT, addT, tupD2, fin_rt, fin_nx, cast0, cast1, cast2, cast3, cast4, cast5, Int.reduceLT, Int.reduceLE, Int.reduceEq, Int.reduceNe, decide_not, map_some, take_all, cmp_lt, cmp_le, cmp_gt, cmp_ge, cmp_eq, cmp_ne, tru_bl, setTg_name, setTg_tup, setTg_lst, setTgs_nil, setTgs_cons, decide_eq_true_eq, Option.bind_some, Option.bind_none, bl_not, is_non, isnt_non, cmpIs_tup, cmpIsN_tup, if_tt, if_ff, tru_int, reduceCtorEq, decide_true, decide_false, Bool.not_true, Bool.not_false, mm1, mm2, mm3, mapM1, mapM2, lstD_c0, lstD_t0, lstD_t1, lstD_t2, lstD_t3, isL_last, isi_int_non, isi_bool_non, isi_tuple_non, isi_list_non, isi_dict_non, isi_lt_non, isi_int_bl, isi_bool_bl, isi_tuple_bl, isi_list_bl, isi_dict_bl, isi_lt_bl, isi_int_int, isi_bool_int, isi_tuple_int, isi_list_int, isi_dict_int, isi_lt_int, isi_int_str, isi_bool_str, isi_tuple_str, isi_list_str, isi_dict_str, isi_lt_str, isi_int_tup, isi_bool_tup, isi_tuple_tup, isi_list_tup, isi_dict_tup, isi_lt_tup, isi_int_lst, isi_bool_lst, isi_tuple_lst, isi_list_lst, isi_dict_lst, isi_lt_lst, isi_int_dk, isi_bool_dk, isi_tuple_dk, isi_list_dk, isi_dict_dk, isi_lt_dk, tup_ty, lenT_lst, lenT_tup, intT, Bool.or_true, Bool.true_or, Bool.or_false, Bool.false_or, Bool.and_true, Bool.true_and, Bool.and_false, Bool.false_and, Z.isNon, not_true_eq_false, not_false_eq_true, Bool.not_eq_true, Bool.false_eq_true, Option.map_some, List.length_cons, List.length_nil, Nat.reduceAdd, ↓reduceIte, List.map_cons, List.map_nil, Nat.reduceSub, List.cons_append, List.nil_append, List.append_nil, List.replicate, List.set_cons_succ, List.set_cons_zero, Nat.reduceLT, gE_0, gE_s, df_0_1, df_1_2, df_2_2, df_3_1, df_4_1, df_5_1, df_6_1, df_7_1, df_8_1, df_10_1, df_14_1, df_15_1, df_16_1, df_17_2, df_18_2, df_25_1, df_25_2, df_26_1, df_27_2, df_28_1, df_29_2, df_30_2, df_31_2, df_32_2, df_33_2, df_34_2, df_35_2, df_36_2, df_37_2, df_38_2, df_39_2, df_40_2, df_41_2, df_42_1, df_43_1, df_44_1, df_45_2, r_amnt _ _ h, shar, amnt, e]
  · by_cases e1 : (Rw9.low p).1 < 0
    · simp -implicitDefEqProofs only [exs, ex, ev, evs, evo, evC, rb_ok, rt_ok, of_some, lift2_t, view_t, subD_tup, subD_lst, at0, at1, at2, at3, subTT, addT, tupD2, fin_rt, fin_nx, cast0, cast1, cast2, cast3, cast4, cast5, Int.reduceLT, Int.reduceLE, Int.reduceEq, Int.reduceNe, decide_not, map_some, take_all, cmp_lt, cmp_le, cmp_gt, cmp_ge, cmp_eq, cmp_ne, tru_bl, setTg_name, setTg_tup, setTg_lst, setTgs_nil, setTgs_cons, decide_eq_true_eq, Option.bind_some, Option.bind_none, bl_not, is_non, isnt_non, cmpIs_tup, cmpIsN_tup, if_tt, if_ff, tru_int, reduceCtorEq, decide_true, decide_false, Bool.not_true, Bool.not_false, mm1, mm2, mm3, mapM1, mapM2, lstD_c0, lstD_t0, lstD_t1, lstD_t2, lstD_t3, isL_last, isi_int_non, isi_bool_non, isi_tuple_non, isi_list_non, isi_dict_non, isi_lt_non, isi_int_bl, isi_bool_bl, isi_tuple_bl, isi_list_bl, isi_dict_bl, isi_lt_bl, isi_int_int, isi_bool_int, isi_tuple_int, isi_list_int, isi_dict_int, isi_lt_int, isi_int_str, isi_bool_str, isi_tuple_str, isi_list_str, isi_dict_str, isi_lt_str, isi_int_tup, isi_bool_tup, isi_tuple_tup, isi_list_tup, isi_dict_tup, isi_lt_tup, isi_int_lst, isi_bool_lst, isi_tuple_lst, isi_list_lst, isi_dict_lst, isi_lt_lst, isi_int_dk, isi_bool_dk, isi_tuple_dk, isi_list_dk, isi_dict_dk, isi_lt_dk, tup_ty, lenT_lst, lenT_tup, intT, Bool.or_true, Bool.true_or, Bool.or_false, Bool.false_or, Bool.and_true, Bool.true_and, Bool.and_false, Bool.false_and, Z.isNon, not_true_eq_false, not_false_eq_true, Bool.not_eq_true, Bool.false_eq_true, Option.map_some, List.length_cons, List.length_nil, Nat.reduceAdd, ↓reduceIte, List.map_cons, List.map_nil, Nat.reduceSub, List.cons_append, List.nil_append, List.append_nil, List.replicate, List.set_cons_succ, List.set_cons_zero, Nat.reduceLT, gE_0, gE_s, df_0_1, df_1_2, df_2_2, df_3_1, df_4_1, df_5_1, df_6_1, df_7_1, df_8_1, df_10_1, df_14_1, df_15_1, df_16_1, df_17_2, df_18_2, df_25_1, df_25_2, df_26_1, df_27_2, df_28_1, df_29_2, df_30_2, df_31_2, df_32_2, df_33_2, df_34_2, df_35_2, df_36_2, df_37_2, df_38_2, df_39_2, df_40_2, df_41_2, df_42_1, df_43_1, df_44_1, df_45_2, r_amnt _ _ h, shar, amnt, e, e1]
    · by_cases e2 : (Rw9.low p).2 < (Rw9.low p).1
      · simp -implicitDefEqProofs only [exs, ex, ev, evs, evo, evC, rb_ok, rt_ok, of_some, lift2_t, view_t, subD_tup, subD_lst, at0, at1, at2, at3, subTT, addT, tupD2, fin_rt, fin_nx, cast0, cast1, cast2, cast3, cast4, cast5, Int.reduceLT, Int.reduceLE, Int.reduceEq, Int.reduceNe, decide_not, map_some, take_all, cmp_lt, cmp_le, cmp_gt, cmp_ge, cmp_eq, cmp_ne, tru_bl, setTg_name, setTg_tup, setTg_lst, setTgs_nil, setTgs_cons, decide_eq_true_eq, Option.bind_some, Option.bind_none, bl_not, is_non, isnt_non, cmpIs_tup, cmpIsN_tup, if_tt, if_ff, tru_int, reduceCtorEq, decide_true, decide_false, Bool.not_true, Bool.not_false, mm1, mm2, mm3, mapM1, mapM2, lstD_c0, lstD_t0, lstD_t1, lstD_t2, lstD_t3, isL_last, isi_int_non, isi_bool_non, isi_tuple_non, isi_list_non, isi_dict_non, isi_lt_non, isi_int_bl, isi_bool_bl, isi_tuple_bl, isi_list_bl, isi_dict_bl, isi_lt_bl, isi_int_int, isi_bool_int, isi_tuple_int, isi_list_int, isi_dict_int, isi_lt_int, isi_int_str, isi_bool_str, isi_tuple_str, isi_list_str, isi_dict_str, isi_lt_str, isi_int_tup, isi_bool_tup, isi_tuple_tup, isi_list_tup, isi_dict_tup, isi_lt_tup, isi_int_lst, isi_bool_lst, isi_tuple_lst, isi_list_lst, isi_dict_lst, isi_lt_lst, isi_int_dk, isi_bool_dk, isi_tuple_dk, isi_list_dk, isi_dict_dk, isi_lt_dk, tup_ty, lenT_lst, lenT_tup, intT, Bool.or_true, Bool.true_or, Bool.or_false, Bool.false_or, Bool.and_true, Bool.true_and, Bool.and_false, Bool.false_and, Z.isNon, not_true_eq_false, not_false_eq_true, Bool.not_eq_true, Bool.false_eq_true, Option.map_some, List.length_cons, List.length_nil, Nat.reduceAdd, ↓reduceIte, List.map_cons, List.map_nil, Nat.reduceSub, List.cons_append, List.nil_append, List.append_nil, List.replicate, List.set_cons_succ, List.set_cons_zero, Nat.reduceLT, gE_0, gE_s, df_0_1, df_1_2, df_2_2, df_3_1, df_4_1, df_5_1, df_6_1, df_7_1, df_8_1, df_10_1, df_14_1, df_15_1, df_16_1, df_17_2, df_18_2, df_25_1, df_25_2, df_26_1, df_27_2, df_28_1, df_29_2, df_30_2, df_31_2, df_32_2, df_33_2, df_34_2, df_35_2, df_36_2, df_37_2, df_38_2, df_39_2, df_40_2, df_41_2, df_42_1, df_43_1, df_44_1, df_45_2, r_amnt _ _ h, shar, amnt, e, e1, e2]
      · simp -implicitDefEqProofs only [exs, ex, ev, evs, evo, evC, rb_ok, rt_ok, of_some, lift2_t, view_t, subD_tup, subD_lst, at0, at1, at2, at3, subTT, addT, tupD2, fin_rt, fin_nx, cast0, cast1, cast2, cast3, cast4, cast5, Int.reduceLT, Int.reduceLE, Int.reduceEq, Int.reduceNe, decide_not, map_some, take_all, cmp_lt, cmp_le, cmp_gt, cmp_ge, cmp_eq, cmp_ne, tru_bl, setTg_name, setTg_tup, setTg_lst, setTgs_nil, setTgs_cons, decide_eq_true_eq, Option.bind_some, Option.bind_none, bl_not, is_non, isnt_non, cmpIs_tup, cmpIsN_tup, if_tt, if_ff, tru_int, reduceCtorEq, decide_true, decide_false, Bool.not_true, Bool.not_false, mm1, mm2, mm3, mapM1, mapM2, lstD_c0, lstD_t0, lstD_t1, lstD_t2, lstD_t3, isL_last, isi_int_non, isi_bool_non, isi_tuple_non, isi_list_non, isi_dict_non, isi_lt_non, isi_int_bl, isi_bool_bl, isi_tuple_bl, isi_list_bl, isi_dict_bl, isi_lt_bl, isi_int_int, isi_bool_int, isi_tuple_int, isi_list_int, isi_dict_int, isi_lt_int, isi_int_str, isi_bool_str, isi_tuple_str, isi_list_str, isi_dict_str, isi_lt_str, isi_int_tup, isi_bool_tup, isi_tuple_tup, isi_list_tup, isi_dict_tup, isi_lt_tup, isi_int_lst, isi_bool_lst, isi_tuple_lst, isi_list_lst, isi_dict_lst, isi_lt_lst, isi_int_dk, isi_bool_dk, isi_tuple_dk, isi_list_dk, isi_dict_dk, isi_lt_dk, tup_ty, lenT_lst, lenT_tup, intT, Bool.or_true, Bool.true_or, Bool.or_false, Bool.false_or, Bool.and_true, Bool.true_and, Bool.and_false, Bool.false_and, Z.isNon, not_true_eq_false, not_false_eq_true, Bool.not_eq_true, Bool.false_eq_true, Option.map_some, List.length_cons, List.length_nil, Nat.reduceAdd, ↓reduceIte, List.map_cons, List.map_nil, Nat.reduceSub, List.cons_append, List.nil_append, List.append_nil, List.replicate, List.set_cons_succ, List.set_cons_zero, Nat.reduceLT, gE_0, gE_s, df_0_1, df_1_2, df_2_2, df_3_1, df_4_1, df_5_1, df_6_1, df_7_1, df_8_1, df_10_1, df_14_1, df_15_1, df_16_1, df_17_2, df_18_2, df_25_1, df_25_2, df_26_1, df_27_2, df_28_1, df_29_2, df_30_2, df_31_2, df_32_2, df_33_2, df_34_2, df_35_2, df_36_2, df_37_2, df_38_2, df_39_2, df_40_2, df_41_2, df_42_1, df_43_1, df_44_1, df_45_2, r_amnt _ _ h, shar, amnt, e, e1, e2]
theorem r_shar_no (k : Nat) {x : T} (st : S) (h : Fro x) : callN lib.ft lib.g0 (k + 4) 7 [.t x] st = .ok (.t .non) st := by
  have ha : ∀ k st, callN lib.ft lib.g0 (k + 3) 6 [.t x] st = .ok (.t .non) st := by
    intro k st
    rw [callN_succ (F := F6) rfl]; simp -implicitDefEqProofs only [callF, F6, List.length_cons, List.length_nil, Nat.reduceAdd, ↓reduceIte, List.map_cons, List.map_nil, Nat.reduceSub, List.cons_append, List.nil_append, List.append_nil, List.replicate, List.set_cons_succ, List.set_cons_zero, Nat.reduceLT, gE_0, gE_s]
    simp -implicitDefEqProofs only [exs, ex, ev, evs, evo, evC, rb_ok, rt_ok, of_some, lift2_t, view_t, subD_tup, subD_lst, at0, at1, at2, at3, subTT, addT, tupD2, fin_rt, fin_nx, cast0, cast1, cast2, cast3, cast4, cast5, Int.reduceLT, Int.reduceLE, Int.reduceEq, Int.reduceNe, decide_not, map_some, take_all, cmp_lt, cmp_le, cmp_gt, cmp_ge, cmp_eq, cmp_ne, tru_bl, setTg_name, setTg_tup, setTg_lst, setTgs_nil, setTgs_cons, decide_eq_true_eq, Option.bind_some, Option.bind_none, bl_not, is_non, isnt_non, cmpIs_tup, cmpIsN_tup, if_tt, if_ff, tru_int, reduceCtorEq, decide_true, decide_false, Bool.not_true, Bool.not_false, mm1, mm2, mm3, mapM1, mapM2, lstD_c0, lstD_t0, lstD_t1, lstD_t2, lstD_t3, isL_last, isi_int_non, isi_bool_non, isi_tuple_non, isi_list_non, isi_dict_non, isi_lt_non, isi_int_bl, isi_bool_bl, isi_tuple_bl, isi_list_bl, isi_dict_bl, isi_lt_bl, isi_int_int, isi_bool_int, isi_tuple_int, isi_list_int, isi_dict_int, isi_lt_int, isi_int_str, isi_bool_str, isi_tuple_str, isi_list_str, isi_dict_str, isi_lt_str, isi_int_tup, isi_bool_tup, isi_tuple_tup, isi_list_tup, isi_dict_tup, isi_lt_tup, isi_int_lst, isi_bool_lst, isi_tuple_lst, isi_list_lst, isi_dict_lst, isi_lt_lst, isi_int_dk, isi_bool_dk, isi_tuple_dk, isi_list_dk, isi_dict_dk, isi_lt_dk, tup_ty, lenT_lst, lenT_tup, intT, Bool.or_true, Bool.true_or, Bool.or_false, Bool.false_or, Bool.and_true, Bool.true_and, Bool.and_false, Bool.false_and, Z.isNon, not_true_eq_false, not_false_eq_true, Bool.not_eq_true, Bool.false_eq_true, Option.map_some, List.length_cons, List.length_nil, Nat.reduceAdd, ↓reduceIte, List.map_cons, List.map_nil, Nat.reduceSub, List.cons_append, List.nil_append, List.append_nil, List.replicate, List.set_cons_succ, List.set_cons_zero, Nat.reduceLT, gE_0, gE_s, df_0_1, df_1_2, df_2_2, df_3_1, df_4_1, df_5_1, df_6_1, df_7_1, df_8_1, df_10_1, df_14_1, df_15_1, df_16_1, df_17_2, df_18_2, df_25_1, df_25_2, df_26_1, df_27_2, df_28_1, df_29_2, df_30_2, df_31_2, df_32_2, df_33_2, df_34_2, df_35_2, df_36_2, df_37_2, df_38_2, df_39_2, df_40_2, df_41_2, df_42_1, df_43_1, df_44_1, df_45_2, h _ _]
  rw [callN_succ (F := F7) rfl]; simp -implicitDefEqProofs only [callF, F7, List.length_cons, List.length_nil, Nat.reduceAdd, ↓reduceIte, List.map_cons, List.map_nil, Nat.reduceSub, List.cons_append, List.nil_append, List.append_nil, List.replicate, List.set_cons_succ, List.set_cons_zero, Nat.reduceLT, gE_0, gE_s]
  simp -implicitDefEqProofs only [exs, ex, ev, evs, evo, evC, rb_ok, rt_ok, of_some, lift2_t, view_t, subD_tup, subD_lst, at0, at1, at2, at3, subTT, addT, tupD2, fin_rt, fin_nx, cast0, cast1, cast2, cast3, cast4, cast5, Int.reduceLT, Int.reduceLE, Int.reduceEq, Int.reduceNe, decide_not, map_some, take_all, cmp_lt, cmp_le, cmp_gt, cmp_ge, cmp_eq, cmp_ne, tru_bl, setTg_name, setTg_tup, setTg_lst, setTgs_nil, setTgs_cons, decide_eq_true_eq, Option.bind_some, Option.bind_none, bl_not, is_non, isnt_non, cmpIs_tup, cmpIsN_tup, if_tt, if_ff, tru_int, reduceCtorEq, decide_true, decide_false, Bool.not_true, Bool.not_false, mm1, mm2, mm3, mapM1, mapM2, lstD_c0, lstD_t0, lstD_t1, lstD_t2, lstD_t3, isL_last, isi_int_non, isi_bool_non, isi_tuple_non, isi_list_non, isi_dict_non, isi_lt_non, isi_int_bl, isi_bool_bl, isi_tuple_bl, isi_list_bl, isi_dict_bl, isi_lt_bl, isi_int_int, isi_bool_int, isi_tuple_int, isi_list_int, isi_dict_int, isi_lt_int, isi_int_str, isi_bool_str, isi_tuple_str, isi_list_str, isi_dict_str, isi_lt_str, isi_int_tup, isi_bool_tup, isi_tuple_tup, isi_list_tup, isi_dict_tup, isi_lt_tup, isi_int_lst, isi_bool_lst, isi_tuple_lst, isi_list_lst, isi_dict_lst, isi_lt_lst, isi_int_dk, isi_bool_dk, isi_tuple_dk, isi_list_dk, isi_dict_dk, isi_lt_dk, tup_ty, lenT_lst, lenT_tup, intT, Bool.or_true, Bool.true_or, Bool.or_false, Bool.false_or, Bool.and_true, Bool.true_and, Bool.and_false, Bool.false_and, Z.isNon, not_true_eq_false, not_false_eq_true, Bool.not_eq_true, Bool.false_eq_true, Option.map_some, List.length_cons, List.length_nil, Nat.reduceAdd, ↓reduceIte, List.map_cons, List.map_nil, Nat.reduceSub, List.cons_append, List.nil_append, List.append_nil, List.replicate, List.set_cons_succ, List.set_cons_zero, Nat.reduceLT, gE_0, gE_s, df_0_1, df_1_2, df_2_2, df_3_1, df_4_1, df_5_1, df_6_1, df_7_1, df_8_1, df_10_1, df_14_1, df_15_1, df_16_1, df_17_2, df_18_2, df_25_1, df_25_2, df_26_1, df_27_2, df_28_1, df_29_2, df_30_2, df_31_2, df_32_2, df_33_2, df_34_2, df_35_2, df_36_2, df_37_2, df_38_2, df_39_2, df_40_2, df_41_2, df_42_1, df_43_1, df_44_1, df_45_2, ha _ _]
theorem fro_non : Fro .non := by
  intro k st
  rw [callN_succ (F := F5) rfl]; simp -implicitDefEqProofs only [callF, F5, List.length_cons, List.length_nil, Nat.reduceAdd, ↓reduceIte, List.map_cons, List.map_nil, Nat.reduceSub, List.cons_append, List.nil_append, List.append_nil, List.replicate, List.set_cons_succ, List.set_cons_zero, Nat.reduceLT, gE_0, gE_s]
  simp -implicitDefEqProofs only [exs, ex, ev, evs, evo, evC, rb_ok, rt_ok, of_some, lift2_t, view_t, subD_tup, subD_lst, at0, at1, at2, at3, subTT, addT, tupD2, fin_rt, fin_nx, cast0, cast1, cast2, cast3, cast4, cast5, Int.reduceLT, Int.reduceLE, Int.reduceEq, Int.reduceNe, decide_not, map_some, take_all, cmp_lt, cmp_le, cmp_gt, cmp_ge, cmp_eq, cmp_ne, tru_bl, setTg_name, setTg_tup, setTg_lst, setTgs_nil, setTgs_cons, decide_eq_true_eq, Option.bind_some, Option.bind_none, bl_not, is_non, isnt_non, cmpIs_tup, cmpIsN_tup, if_tt, if_ff, tru_int, reduceCtorEq, decide_true, decide_false, Bool.not_true, Bool.not_false, mm1, mm2, mm3, mapM1, mapM2, lstD_c0, lstD_t0, lstD_t1, lstD_t2, lstD_t3, isL_last, isi_int_non, isi_bool_non, isi_tuple_non, isi_list_non, isi_dict_non, isi_lt_non, isi_int_bl, isi_bool_bl, isi_tuple_bl, isi_list_bl, isi_dict_bl, isi_lt_bl, isi_int_int, isi_bool_int, isi_tuple_int, isi_list_int, isi_dict_int, isi_lt_int, isi_int_str, isi_bool_str, isi_tuple_str, isi_list_str, isi_dict_str, isi_lt_str, isi_int_tup, isi_bool_tup, isi_tuple_tup, isi_list_tup, isi_dict_tup, isi_lt_tup, isi_int_lst, isi_bool_lst, isi_tuple_lst, isi_list_lst, isi_dict_lst, isi_lt_lst, isi_int_dk, isi_bool_dk, isi_tuple_dk, isi_list_dk, isi_dict_dk, isi_lt_dk, tup_ty, lenT_lst, lenT_tup, intT, Bool.or_true, Bool.true_or, Bool.or_false, Bool.false_or, Bool.and_true, Bool.true_and, Bool.and_false, Bool.false_and, Z.isNon, not_true_eq_false, not_false_eq_true, Bool.not_eq_true, Bool.false_eq_true, Option.map_some, List.length_cons, List.length_nil, Nat.reduceAdd, ↓reduceIte, List.map_cons, List.map_nil, Nat.reduceSub, List.cons_append, List.nil_append, List.append_nil, List.replicate, List.set_cons_succ, List.set_cons_zero, Nat.reduceLT, gE_0, gE_s, df_0_1, df_1_2, df_2_2, df_3_1, df_4_1, df_5_1, df_6_1, df_7_1, df_8_1, df_10_1, df_14_1, df_15_1, df_16_1, df_17_2, df_18_2, df_25_1, df_25_2, df_26_1, df_27_2, df_28_1, df_29_2, df_30_2, df_31_2, df_32_2, df_33_2, df_34_2, df_35_2, df_36_2, df_37_2, df_38_2, df_39_2, df_40_2, df_41_2, df_42_1, df_43_1, df_44_1, df_45_2, isint_non, islist_non]
theorem fro_str (a : Str) : Fro (.str a) := by
  intro k st
  rw [callN_succ (F := F5) rfl]; simp -implicitDefEqProofs only [callF, F5, List.length_cons, List.length_nil, Nat.reduceAdd, ↓reduceIte, List.map_cons, List.map_nil, Nat.reduceSub, List.cons_append, List.nil_append, List.append_nil, List.replicate, List.set_cons_succ, List.set_cons_zero, Nat.reduceLT, gE_0, gE_s]
  simp -implicitDefEqProofs only [exs, ex, ev, evs, evo, evC, rb_ok, rt_ok, of_some, lift2_t, view_t, subD_tup, subD_lst, at0, at1, at2, at3, subTT, addT, tupD2, fin_rt, fin_nx, cast0, cast1, cast2, cast3, cast4, cast5, Int.reduceLT, Int.reduceLE, Int.reduceEq, Int.reduceNe, decide_not, map_some, take_all, cmp_lt, cmp_le, cmp_gt, cmp_ge, cmp_eq, cmp_ne, tru_bl, setTg_name, setTg_tup, setTg_lst, setTgs_nil, setTgs_cons, decide_eq_true_eq, Option.bind_some, Option.bind_none, bl_not, is_non, isnt_non, cmpIs_tup, cmpIsN_tup, if_tt, if_ff, tru_int, reduceCtorEq, decide_true, decide_false, Bool.not_true, Bool.not_false, mm1, mm2, mm3, mapM1, mapM2, lstD_c0, lstD_t0, lstD_t1, lstD_t2, lstD_t3, isL_last, isi_int_non, isi_bool_non, isi_tuple_non, isi_list_non, isi_dict_non, isi_lt_non, isi_int_bl, isi_bool_bl, isi_tuple_bl, isi_list_bl, isi_dict_bl, isi_lt_bl, isi_int_int, isi_bool_int, isi_tuple_int, isi_list_int, isi_dict_int, isi_lt_int, isi_int_str, isi_bool_str, isi_tuple_str, isi_list_str, isi_dict_str, isi_lt_str, isi_int_tup, isi_bool_tup, isi_tuple_tup, isi_list_tup, isi_dict_tup, isi_lt_tup, isi_int_lst, isi_bool_lst, isi_tuple_lst, isi_list_lst, isi_dict_lst, isi_lt_lst, isi_int_dk, isi_bool_dk, isi_tuple_dk, isi_list_dk, isi_dict_dk, isi_lt_dk, tup_ty, lenT_lst, lenT_tup, intT, Bool.or_true, Bool.true_or, Bool.or_false, Bool.false_or, Bool.and_true, Bool.true_and, Bool.and_false, Bool.false_and, Z.isNon, not_true_eq_false, not_false_eq_true, Bool.not_eq_true, Bool.false_eq_true, Option.map_some, List.length_cons, List.length_nil, Nat.reduceAdd, ↓reduceIte, List.map_cons, List.map_nil, Nat.reduceSub, List.cons_append, List.nil_append, List.append_nil, List.replicate, List.set_cons_succ, List.set_cons_zero, Nat.reduceLT, gE_0, gE_s, df_0_1, df_1_2, df_2_2, df_3_1, df_4_1, df_5_1, df_6_1, df_7_1, df_8_1, df_10_1, df_14_1, df_15_1, df_16_1, df_17_2, df_18_2, df_25_1, df_25_2, df_26_1, df_27_2, df_28_1, df_29_2, df_30_2, df_31_2, df_32_2, df_33_2, df_34_2, df_35_2, df_36_2, df_37_2, df_38_2, df_39_2, df_40_2, df_41_2, df_42_1, df_43_1, df_44_1, df_45_2, isint_str, islist_str]
theorem fro_bl (a : Bool) : Fro (.bl a) := by
  intro k st
  rw [callN_succ (F := F5) rfl]; simp -implicitDefEqProofs only [callF, F5, List.length_cons, List.length_nil, Nat.reduceAdd, ↓reduceIte, List.map_cons, List.map_nil, Nat.reduceSub, List.cons_append, List.nil_append, List.append_nil, List.replicate, List.set_cons_succ, List.set_cons_zero, Nat.reduceLT, gE_0, gE_s]
  simp -implicitDefEqProofs only [exs, ex, ev, evs, evo, evC, rb_ok, rt_ok, of_some, lift2_t, view_t, subD_tup, subD_lst, at0, at1, at2, at3, subTT, addT, tupD2, fin_rt, fin_nx, cast0, cast1, cast2, cast3, cast4, cast5, Int.reduceLT, Int.reduceLE, Int.reduceEq, Int.reduceNe, decide_not, map_some, take_all, cmp_lt, cmp_le, cmp_gt, cmp_ge, cmp_eq, cmp_ne, tru_bl, setTg_name, setTg_tup, setTg_lst, setTgs_nil, setTgs_cons, decide_eq_true_eq, Option.bind_some, Option.bind_none, bl_not, is_non, isnt_non, cmpIs_tup, cmpIsN_tup, if_tt, if_ff, tru_int, reduceCtorEq, decide_true, decide_false, Bool.not_true, Bool.not_false, mm1, mm2, mm3, mapM1, mapM2, lstD_c0, lstD_t0, lstD_t1, lstD_t2, lstD_t3, isL_last, isi_int_non, isi_bool_non, isi_tuple_non, isi_list_non, isi_dict_non, isi_lt_non, isi_int_bl, isi_bool_bl, isi_tuple_bl, isi_list_bl, isi_dict_bl, isi_lt_bl, isi_int_int, isi_bool_int, isi_tuple_int, isi_list_int, isi_dict_int, isi_lt_int, isi_int_str, isi_bool_str, isi_tuple_str, isi_list_str, isi_dict_str, isi_lt_str, isi_int_tup, isi_bool_tup, isi_tuple_tup, isi_list_tup, isi_dict_tup, isi_lt_tup, isi_int_lst, isi_bool_lst, isi_tuple_lst, isi_list_lst, isi_dict_lst, isi_lt_lst, isi_int_dk, isi_bool_dk, isi_tuple_dk, isi_list_dk, isi_dict_dk, isi_lt_dk, tup_ty, lenT_lst, lenT_tup, intT, Bool.or_true, Bool.true_or, Bool.or_false, Bool.false_or, Bool.and_true, Bool.true_and, Bool.and_false, Bool.false_and, Z.isNon, not_true_eq_false, not_false_eq_true, Bool.not_eq_true, Bool.false_eq_true, Option.map_some, List.length_cons, List.length_nil, Nat.reduceAdd, ↓reduceIte, List.map_cons, List.map_nil, Nat.reduceSub, List.cons_append, List.nil_append, List.append_nil, List.replicate, List.set_cons_succ, List.set_cons_zero, Nat.reduceLT, gE_0, gE_s, df_0_1, df_1_2, df_2_2, df_3_1, df_4_1, df_5_1, df_6_1, df_7_1, df_8_1, df_10_1, df_14_1, df_15_1, df_16_1, df_17_2, df_18_2, df_25_1, df_25_2, df_26_1, df_27_2, df_28_1, df_29_2, df_30_2, df_31_2, df_32_2, df_33_2, df_34_2, df_35_2, df_36_2, df_37_2, df_38_2, df_39_2, df_40_2, df_41_2, df_42_1, df_43_1, df_44_1, df_45_2, isint_bl, islist_bl]
theorem fro_dk : Fro (.dk []) := by
  intro k st
  rw [callN_succ (F := F5) rfl]; simp -implicitDefEqProofs only [callF, F5, List.length_cons, List.length_nil, Nat.reduceAdd, ↓reduceIte, List.map_cons, List.map_nil, Nat.reduceSub, List.cons_append, List.nil_append, List.append_nil, List.replicate, List.set_cons_succ, List.set_cons_zero, Nat.reduceLT, gE_0, gE_s]
  simp -implicitDefEqProofs only [exs, ex, ev, evs, evo, evC, rb_ok, rt_ok, of_some, lift2_t, view_t, subD_tup, subD_lst, at0, at1, at2, at3, subTT, addT, tupD2, fin_rt, fin_nx, cast0, cast1, cast2, cast3, cast4, cast5, Int.reduceLT, Int.reduceLE, Int.reduceEq, Int.reduceNe, decide_not, map_some, take_all, cmp_lt, cmp_le, cmp_gt, cmp_ge, cmp_eq, cmp_ne, tru_bl, setTg_name, setTg_tup, setTg_lst, setTgs_nil, setTgs_cons, decide_eq_true_eq, Option.bind_some, Option.bind_none, bl_not, is_non, isnt_non, cmpIs_tup, cmpIsN_tup, if_tt, if_ff, tru_int, reduceCtorEq, decide_true, decide_false, Bool.not_true, Bool.not_false, mm1, mm2, mm3, mapM1, mapM2, lstD_c0, lstD_t0, lstD_t1, lstD_t2, lstD_t3, isL_last, isi_int_non, isi_bool_non, isi_tuple_non, isi_list_non, isi_dict_non, isi_lt_non, isi_int_bl, isi_bool_bl, isi_tuple_bl, isi_list_bl, isi_dict_bl, isi_lt_bl, isi_int_int, isi_bool_int, isi_tuple_int, isi_list_int, isi_dict_int, isi_lt_int, isi_int_str, isi_bool_str, isi_tuple_str, isi_list_str, isi_dict_str, isi_lt_str, isi_int_tup, isi_bool_tup, isi_tuple_tup, isi_list_tup, isi_dict_tup, isi_lt_tup, isi_int_lst, isi_bool_lst, isi_tuple_lst, isi_list_lst, isi_dict_lst, isi_lt_lst, isi_int_dk, isi_bool_dk, isi_tuple_dk, isi_list_dk, isi_dict_dk, isi_lt_dk, tup_ty, lenT_lst, lenT_tup, intT, Bool.or_true, Bool.true_or, Bool.or_false, Bool.false_or, Bool.and_true, Bool.true_and, Bool.and_false, Bool.false_and, Z.isNon, not_true_eq_false, not_false_eq_true, Bool.not_eq_true, Bool.false_eq_true, Option.map_some, List.length_cons, List.length_nil, Nat.reduceAdd, ↓reduceIte, List.map_cons, List.map_nil, Nat.reduceSub, List.cons_append, List.nil_append, List.append_nil, List.replicate, List.set_cons_succ, List.set_cons_zero, Nat.reduceLT, gE_0, gE_s, df_0_1, df_1_2, df_2_2, df_3_1, df_4_1, df_5_1, df_6_1, df_7_1, df_8_1, df_10_1, df_14_1, df_15_1, df_16_1, df_17_2, df_18_2, df_25_1, df_25_2, df_26_1, df_27_2, df_28_1, df_29_2, df_30_2, df_31_2, df_32_2, df_33_2, df_34_2, df_35_2, df_36_2, df_37_2, df_38_2, df_39_2, df_40_2, df_41_2, df_42_1, df_43_1, df_44_1, df_45_2, isint_dk, islist_dk]
theorem fro_lst0 : Fro (.lst []) := by
  intro k st
  rw [callN_succ (F := F5) rfl]; simp -implicitDefEqProofs only [callF, F5, List.length_cons, List.length_nil, Nat.reduceAdd, ↓reduceIte, List.map_cons, List.map_nil, Nat.reduceSub, List.cons_append, List.nil_append, List.append_nil, List.replicate, List.set_cons_succ, List.set_cons_zero, Nat.reduceLT, gE_0, gE_s]
  simp -implicitDefEqProofs only [exs, ex, ev, evs, evo, evC, rb_ok, rt_ok, of_some, lift2_t, view_t, subD_tup, subD_lst, at0, at1, at2, at3, subTT, addT, tupD2, fin_rt, fin_nx, cast0, cast1, cast2, cast3, cast4, cast5, Int.reduceLT, Int.reduceLE, Int.reduceEq, Int.reduceNe, decide_not, map_some, take_all, cmp_lt, cmp_le, cmp_gt, cmp_ge, cmp_eq, cmp_ne, tru_bl, setTg_name, setTg_tup, setTg_lst, setTgs_nil, setTgs_cons, decide_eq_true_eq, Option.bind_some, Option.bind_none, bl_not, is_non, isnt_non, cmpIs_tup, cmpIsN_tup, if_tt, if_ff, tru_int, reduceCtorEq, decide_true, decide_false, Bool.not_true, Bool.not_false, mm1, mm2, mm3, mapM1, mapM2, lstD_c0, lstD_t0, lstD_t1, lstD_t2, lstD_t3, isL_last, isi_int_non, isi_bool_non, isi_tuple_non, isi_list_non, isi_dict_non, isi_lt_non, isi_int_bl, isi_bool_bl, isi_tuple_bl, isi_list_bl, isi_dict_bl, isi_lt_bl, isi_int_int, isi_bool_int, isi_tuple_int, isi_list_int, isi_dict_int, isi_lt_int, isi_int_str, isi_bool_str, isi_tuple_str, isi_list_str, isi_dict_str, isi_lt_str, isi_int_tup, isi_bool_tup, isi_tuple_tup, isi_list_tup, isi_dict_tup, isi_lt_tup, isi_int_lst, isi_bool_lst, isi_tuple_lst, isi_list_lst, isi_dict_lst, isi_lt_lst, isi_int_dk, isi_bool_dk, isi_tuple_dk, isi_list_dk, isi_dict_dk, isi_lt_dk, tup_ty, lenT_lst, lenT_tup, intT, Bool.or_true, Bool.true_or, Bool.or_false, Bool.false_or, Bool.and_true, Bool.true_and, Bool.and_false, Bool.false_and, Z.isNon, not_true_eq_false, not_false_eq_true, Bool.not_eq_true, Bool.false_eq_true, Option.map_some, List.length_cons, List.length_nil, Nat.reduceAdd, ↓reduceIte, List.map_cons, List.map_nil, Nat.reduceSub, List.cons_append, List.nil_append, List.append_nil, List.replicate, List.set_cons_succ, List.set_cons_zero, Nat.reduceLT, gE_0, gE_s, df_0_1, df_1_2, df_2_2, df_3_1, df_4_1, df_5_1, df_6_1, df_7_1, df_8_1, df_10_1, df_14_1, df_15_1, df_16_1, df_17_2, df_18_2, df_25_1, df_25_2, df_26_1, df_27_2, df_28_1, df_29_2, df_30_2, df_31_2, df_32_2, df_33_2, df_34_2, df_35_2, df_36_2, df_37_2, df_38_2, df_39_2, df_40_2, df_41_2, df_42_1, df_43_1, df_44_1, df_45_2, isint_lst, islist_lst]
theorem fro_tup1 (a : T) : Fro (.tup [a]) := by
  intro k st
  rw [callN_succ (F := F5) rfl]; simp -implicitDefEqProofs only [callF, F5, List.length_cons, List.length_nil, Nat.reduceAdd, ↓reduceIte, List.map_cons, List.map_nil, Nat.reduceSub, List.cons_append, List.nil_append, List.append_nil, List.replicate, List.set_cons_succ, List.set_cons_zero, Nat.reduceLT, gE_0, gE_s]
  simp -implicitDefEqProofs only [exs, ex, ev, evs, evo, evC, rb_ok, rt_ok, of_some, lift2_t, view_t, subD_tup, subD_lst, at0, at1, at2, at3, subTT, addT, tupD2, fin_rt, fin_nx, cast0, cast1, cast2, cast3, cast4, cast5, Int.reduceLT, Int.reduceLE, Int.reduceEq, Int.reduceNe, decide_not, map_some, take_all, cmp_lt, cmp_le, cmp_gt, cmp_ge, cmp_eq, cmp_ne, tru_bl, setTg_name, setTg_tup, setTg_lst, setTgs_nil, setTgs_cons, decide_eq_true_eq, Option.bind_some, Option.bind_none, bl_not, is_non, isnt_non, cmpIs_tup, cmpIsN_tup, if_tt, if_ff, tru_int, reduceCtorEq, decide_true, decide_false, Bool.not_true, Bool.not_false, mm1, mm2, mm3, mapM1, mapM2, lstD_c0, lstD_t0, lstD_t1, lstD_t2, lstD_t3, isL_last, isi_int_non, isi_bool_non, isi_tuple_non, isi_list_non, isi_dict_non, isi_lt_non, isi_int_bl, isi_bool_bl, isi_tuple_bl, isi_list_bl, isi_dict_bl, isi_lt_bl, isi_int_int, isi_bool_int, isi_tuple_int, isi_list_int, isi_dict_int, isi_lt_int, isi_int_str, isi_bool_str, isi_tuple_str, isi_list_str, isi_dict_str, isi_lt_str, isi_int_tup, isi_bool_tup, isi_tuple_tup, isi_list_tup, isi_dict_tup, isi_lt_tup, isi_int_lst, isi_bool_lst, isi_tuple_lst, isi_list_lst, isi_dict_lst, isi_lt_lst, isi_int_dk, isi_bool_dk, isi_tuple_dk, isi_list_dk, isi_dict_dk, isi_lt_dk, tup_ty, lenT_lst, lenT_tup, intT, Bool.or_true, Bool.true_or, Bool.or_false, Bool.false_or, Bool.and_true, Bool.true_and, Bool.and_false, Bool.false_and, Z.isNon, not_true_eq_false, not_false_eq_true, Bool.not_eq_true, Bool.false_eq_true, Option.map_some, List.length_cons, List.length_nil, Nat.reduceAdd, ↓reduceIte, List.map_cons, List.map_nil, Nat.reduceSub, List.cons_append, List.nil_append, List.append_nil, List.replicate, List.set_cons_succ, List.set_cons_zero, Nat.reduceLT, gE_0, gE_s, df_0_1, df_1_2, df_2_2, df_3_1, df_4_1, df_5_1, df_6_1, df_7_1, df_8_1, df_10_1, df_14_1, df_15_1, df_16_1, df_17_2, df_18_2, df_25_1, df_25_2, df_26_1, df_27_2, df_28_1, df_29_2, df_30_2, df_31_2, df_32_2, df_33_2, df_34_2, df_35_2, df_36_2, df_37_2, df_38_2, df_39_2, df_40_2, df_41_2, df_42_1, df_43_1, df_44_1, df_45_2, isint_tup, islist_tup]
theorem fro_tup3 (a b c : T) : Fro (.tup [a, b, c]) := by
  intro k st
  rw [callN_succ (F := F5) rfl]; simp -implicitDefEqProofs only [callF, F5, List.length_cons, List.length_nil, Nat.reduceAdd, ↓reduceIte, List.map_cons, List.map_nil, Nat.reduceSub, List.cons_append, List.nil_append, List.append_nil, List.replicate, List.set_cons_succ, List.set_cons_zero, Nat.reduceLT, gE_0, gE_s]
  simp -implicitDefEqProofs only [exs, ex, ev, evs, evo, evC, rb_ok, rt_ok, of_some, lift2_t, view_t, subD_tup, subD_lst, at0, at1, at2, at3, subTT, addT, tupD2, fin_rt, fin_nx, cast0, cast1, cast2, cast3, cast4, cast5, Int.reduceLT, Int.reduceLE, Int.reduceEq, Int.reduceNe, decide_not, map_some, take_all, cmp_lt, cmp_le, cmp_gt, cmp_ge, cmp_eq, cmp_ne, tru_bl, setTg_name, setTg_tup, setTg_lst, setTgs_nil, setTgs_cons, decide_eq_true_eq, Option.bind_some, Option.bind_none, bl_not, is_non, isnt_non, cmpIs_tup, cmpIsN_tup, if_tt, if_ff, tru_int, reduceCtorEq, decide_true, decide_false, Bool.not_true, Bool.not_false, mm1, mm2, mm3, mapM1, mapM2, lstD_c0, lstD_t0, lstD_t1, lstD_t2, lstD_t3, isL_last, isi_int_non, isi_bool_non, isi_tuple_non, isi_list_non, isi_dict_non, isi_lt_non, isi_int_bl, isi_bool_bl, isi_tuple_bl, isi_list_bl, isi_dict_bl, isi_lt_bl, isi_int_int, isi_bool_int, isi_tuple_int, isi_list_int, isi_dict_int, isi_lt_int, isi_int_str, isi_bool_str, isi_tuple_str, isi_list_str, isi_dict_str, isi_lt_str, isi_int_tup, isi_bool_tup, isi_tuple_tup, isi_list_tup, isi_dict_tup, isi_lt_tup, isi_int_lst, isi_bool_lst, isi_tuple_lst, isi_list_lst, isi_dict_lst, isi_lt_lst, isi_int_dk, isi_bool_dk, isi_tuple_dk, isi_list_dk, isi_dict_dk, isi_lt_dk, tup_ty, lenT_lst, lenT_tup, intT, Bool.or_true, Bool.true_or, Bool.or_false, Bool.false_or, Bool.and_true, Bool.true_and, Bool.and_false, Bool.false_and, Z.isNon, not_true_eq_false, not_false_eq_true, Bool.not_eq_true, Bool.false_eq_true, Option.map_some, List.length_cons, List.length_nil, Nat.reduceAdd, ↓reduceIte, List.map_cons, List.map_nil, Nat.reduceSub, List.cons_append, List.nil_append, List.append_nil, List.replicate, List.set_cons_succ, List.set_cons_zero, Nat.reduceLT, gE_0, gE_s, df_0_1, df_1_2, df_2_2, df_3_1, df_4_1, df_5_1, df_6_1, df_7_1, df_8_1, df_10_1, df_14_1, df_15_1, df_16_1, df_17_2, df_18_2, df_25_1, df_25_2, df_26_1, df_27_2, df_28_1, df_29_2, df_30_2, df_31_2, df_32_2, df_33_2, df_34_2, df_35_2, df_36_2, df_37_2, df_38_2, df_39_2, df_40_2, df_41_2, df_42_1, df_43_1, df_44_1, df_45_2, isint_tup, islist_tup]
theorem fro_strs (a : Str) (b : T) : Fro (.tup [.str a, b]) := by
  intro k st
  rw [callN_succ (F := F5) rfl]; simp -implicitDefEqProofs only [callF, F5, List.length_cons, List.length_nil, Nat.reduceAdd, ↓reduceIte, List.map_cons, List.map_nil, Nat.reduceSub, List.cons_append, List.nil_append, List.append_nil, List.replicate, List.set_cons_succ, List.set_cons_zero, Nat.reduceLT, gE_0, gE_s]
  simp -implicitDefEqProofs only [exs, ex, ev, evs, evo, evC, rb_ok, rt_ok, of_some, lift2_t, view_t, subD_tup, subD_lst, at0, at1, at2, at3, subTT, addT, tupD2, fin_rt, fin_nx, cast0, cast1, cast2, cast3, cast4, cast5, Int.reduceLT, Int.reduceLE, Int.reduceEq, Int.reduceNe, decide_not, map_some, take_all, cmp_lt, cmp_le, cmp_gt, cmp_ge, cmp_eq, cmp_ne, tru_bl, setTg_name, setTg_tup, setTg_lst, setTgs_nil, setTgs_cons, decide_eq_true_eq, Option.bind_some, Option.bind_none, bl_not, is_non, isnt_non, cmpIs_tup, cmpIsN_tup, if_tt, if_ff, tru_int, reduceCtorEq, decide_true, decide_false, Bool.not_true, Bool.not_false, mm1, mm2, mm3, mapM1, mapM2, lstD_c0, lstD_t0, lstD_t1, lstD_t2, lstD_t3, isL_last, isi_int_non, isi_bool_non, isi_tuple_non, isi_list_non, isi_dict_non, isi_lt_non, isi_int_bl, isi_bool_bl, isi_tuple_bl, isi_list_bl, isi_dict_bl, isi_lt_bl, isi_int_int, isi_bool_int, isi_tuple_int, isi_list_int, isi_dict_int, isi_lt_int, isi_int_str, isi_bool_str, isi_tuple_str, isi_list_str, isi_dict_str, isi_lt_str, isi_int_tup, isi_bool_tup, isi_tuple_tup, isi_list_tup, isi_dict_tup, isi_lt_tup, isi_int_lst, isi_bool_lst, isi_tuple_lst, isi_list_lst, isi_dict_lst, isi_lt_lst, isi_int_dk, isi_bool_dk, isi_tuple_dk, isi_list_dk, isi_dict_dk, isi_lt_dk, tup_ty, lenT_lst, lenT_tup, intT, Bool.or_true, Bool.true_or, Bool.or_false, Bool.false_or, Bool.and_true, Bool.true_and, Bool.and_false, Bool.false_and, Z.isNon, not_true_eq_false, not_false_eq_true, Bool.not_eq_true, Bool.false_eq_true, Option.map_some, List.length_cons, List.length_nil, Nat.reduceAdd, ↓reduceIte, List.map_cons, List.map_nil, Nat.reduceSub, List.cons_append, List.nil_append, List.append_nil, List.replicate, List.set_cons_succ, List.set_cons_zero, Nat.reduceLT, gE_0, gE_s, df_0_1, df_1_2, df_2_2, df_3_1, df_4_1, df_5_1, df_6_1, df_7_1, df_8_1, df_10_1, df_14_1, df_15_1, df_16_1, df_17_2, df_18_2, df_25_1, df_25_2, df_26_1, df_27_2, df_28_1, df_29_2, df_30_2, df_31_2, df_32_2, df_33_2, df_34_2, df_35_2, df_36_2, df_37_2, df_38_2, df_39_2, df_40_2, df_41_2, df_42_1, df_43_1, df_44_1, df_45_2, isint_tup, islist_tup, isint_str]
end Lw
end Z
end
section
set_option Elab.async false
set_option linter.all false
set_option maxRecDepth 100000
set_option maxHeartbeats 4000000
namespace Z
namespace Lw

open PySem L2 Zr
abbrev P2 := Int × Int
/-- a share that is right, told lowest, not long -/
structure Shr (s : P2) : Prop where
  sh : Rw9.Sh s
  low : Rw9.low s = s
  b1 : Bd 18 s.1
  b2 : Bd 18 s.2
theorem shar_eq {s : P2} (h : Shr s) : shar s = fr s := by
  unfold shar
  obtain ⟨h1, h2, h3⟩ := h.sh
  rw [if_neg (by omega), h.low, if_neg (by omega), if_neg (by omega)]
theorem told_share {s : P2} (h : Shr s) (k : Nat) (st : S) : callN lib.ft lib.g0 (k + 4) 7 [.t (fr s)] st = .ok (.t (fr s)) st := by
  rw [r_shar k st (p := s) (fun k st => r_frac_tup k _ _ st (h.b2.mono (by decide))), shar_eq h]
theorem r_told_row (k : Nat) (A : List P2) (st : S) (hA : ∀ s ∈ A, Shr s) (h0 : A ≠ []) (hl : A.length < 100) : callN lib.ft lib.g0 (k + 5) 15 [.t (.lst (A.map fr))] st = .ok (.t (.lst (A.map fr))) st := by
  have e0 : ∀ s : S, truD s (.t (.lst (A.map fr))) = some true := by
    intro s
    cases A with
    | nil => exact absurd rfl h0
    | cons a r => rfl
  rw [callN_succ (F := F15) rfl]; simp -implicitDefEqProofs only [callF, F15, List.length_cons, List.length_nil, Nat.reduceAdd, ↓reduceIte, List.map_cons, List.map_nil, Nat.reduceSub, List.cons_append, List.nil_append, List.append_nil, List.replicate, List.set_cons_succ, List.set_cons_zero, Nat.reduceLT, gE_0, gE_s]
  refine fin_eq (o' := .rt (.t (.lst (A.map fr))) (st ++ [.x])) ?_ (by rw [fin_rt rfl, take_last])
  refine exs_nx (Q := fun o => o = _) (σ1 := [some (.t (.lst (A.map fr))), none, none, none]) (s1 := st) (by
    simp -implicitDefEqProofs only [exs, ex, ev, evs, evo, evC, rb_ok, rt_ok, of_some, lift2_t, view_t, subD_tup, subD_lst, at0, at1, at2, at3, subTT, addT, tupD2, fin_rt, fin_nx, cast0, cast1, cast2, cast3, cast4, cast5, Int.reduceLT, Int.reduceLE, Int.reduceEq, Int.reduceNe, decide_not, map_some, take_all, cmp_lt, cmp_le, cmp_gt, cmp_ge, cmp_eq, cmp_ne, tru_bl, setTg_name, setTg_tup, setTg_lst, setTgs_nil, setTgs_cons, decide_eq_true_eq, Option.bind_some, Option.bind_none, bl_not, is_non, isnt_non, cmpIs_tup, cmpIsN_tup, if_tt, if_ff, tru_int, reduceCtorEq, decide_true, decide_false, Bool.not_true, Bool.not_false, mm1, mm2, mm3, mapM1, mapM2, lstD_c0, lstD_t0, lstD_t1, lstD_t2, lstD_t3, isL_last, isi_int_non, isi_bool_non, isi_tuple_non, isi_list_non, isi_dict_non, isi_lt_non, isi_int_bl, isi_bool_bl, isi_tuple_bl, isi_list_bl, isi_dict_bl, isi_lt_bl, isi_int_int, isi_bool_int, isi_tuple_int, isi_list_int, isi_dict_int, isi_lt_int, isi_int_str, isi_bool_str, isi_tuple_str, isi_list_str, isi_dict_str, isi_lt_str, isi_int_tup, isi_bool_tup, isi_tuple_tup, isi_list_tup, isi_dict_tup, isi_lt_tup, isi_int_lst, isi_bool_lst, isi_tuple_lst, isi_list_lst, isi_dict_lst, isi_lt_lst, isi_int_dk, isi_bool_dk, isi_tuple_dk, isi_list_dk, isi_dict_dk, isi_lt_dk, tup_ty, lenT_lst, lenT_tup, intT, Bool.or_true, Bool.true_or, Bool.or_false, Bool.false_or, Bool.and_true, Bool.true_and, Bool.and_false, Bool.false_and, Z.isNon, not_true_eq_false, not_false_eq_true, Bool.not_eq_true, Bool.false_eq_true, Option.map_some, List.length_cons, List.length_nil, Nat.reduceAdd, ↓reduceIte, List.map_cons, List.map_nil, Nat.reduceSub, List.cons_append, List.nil_append, List.append_nil, List.replicate, List.set_cons_succ, List.set_cons_zero, Nat.reduceLT, gE_0, gE_s, df_0_1, df_1_2, df_2_2, df_3_1, df_4_1, df_5_1, df_6_1, df_7_1, df_8_1, df_10_1, df_14_1, df_15_1, df_16_1, df_17_2, df_18_2, df_25_1, df_25_2, df_26_1, df_27_2, df_28_1, df_29_2, df_30_2, df_31_2, df_32_2, df_33_2, df_34_2, df_35_2, df_36_2, df_37_2, df_38_2, df_39_2, df_40_2, df_41_2, df_42_1, df_43_1, df_44_1, df_45_2, islist_lst, e0]) ?_
  refine exs_nx (Q := fun o => o = _) (σ1 := [some (.t (.lst (A.map fr))), some (.c st.length), none, none]) (s1 := st ++ [.l []]) (by simp -implicitDefEqProofs only [exs, ex, ev, evs, evo, evC, rb_ok, rt_ok, of_some, lift2_t, view_t, subD_tup, subD_lst, at0, at1, at2, at3, subTT, addT, tupD2, fin_rt, fin_nx, cast0, cast1, cast2, cast3, cast4, cast5, Int.reduceLT, Int.reduceLE, Int.reduceEq, Int.reduceNe, decide_not, map_some, take_all, cmp_lt, cmp_le, cmp_gt, cmp_ge, cmp_eq, cmp_ne, tru_bl, setTg_name, setTg_tup, setTg_lst, setTgs_nil, setTgs_cons, decide_eq_true_eq, Option.bind_some, Option.bind_none, bl_not, is_non, isnt_non, cmpIs_tup, cmpIsN_tup, if_tt, if_ff, tru_int, reduceCtorEq, decide_true, decide_false, Bool.not_true, Bool.not_false, mm1, mm2, mm3, mapM1, mapM2, lstD_c0, lstD_t0, lstD_t1, lstD_t2, lstD_t3, isL_last, isi_int_non, isi_bool_non, isi_tuple_non, isi_list_non, isi_dict_non, isi_lt_non, isi_int_bl, isi_bool_bl, isi_tuple_bl, isi_list_bl, isi_dict_bl, isi_lt_bl, isi_int_int, isi_bool_int, isi_tuple_int, isi_list_int, isi_dict_int, isi_lt_int, isi_int_str, isi_bool_str, isi_tuple_str, isi_list_str, isi_dict_str, isi_lt_str, isi_int_tup, isi_bool_tup, isi_tuple_tup, isi_list_tup, isi_dict_tup, isi_lt_tup, isi_int_lst, isi_bool_lst, isi_tuple_lst, isi_list_lst, isi_dict_lst, isi_lt_lst, isi_int_dk, isi_bool_dk, isi_tuple_dk, isi_list_dk, isi_dict_dk, isi_lt_dk, tup_ty, lenT_lst, lenT_tup, intT, Bool.or_true, Bool.true_or, Bool.or_false, Bool.false_or, Bool.and_true, Bool.true_and, Bool.and_false, Bool.false_and, Z.isNon, not_true_eq_false, not_false_eq_true, Bool.not_eq_true, Bool.false_eq_true, Option.map_some, List.length_cons, List.length_nil, Nat.reduceAdd, ↓reduceIte, List.map_cons, List.map_nil, Nat.reduceSub, List.cons_append, List.nil_append, List.append_nil, List.replicate, List.set_cons_succ, List.set_cons_zero, Nat.reduceLT, gE_0, gE_s, df_0_1, df_1_2, df_2_2, df_3_1, df_4_1, df_5_1, df_6_1, df_7_1, df_8_1, df_10_1, df_14_1, df_15_1, df_16_1, df_17_2, df_18_2, df_25_1, df_25_2, df_26_1, df_27_2, df_28_1, df_29_2, df_30_2, df_31_2, df_32_2, df_33_2, df_34_2, df_35_2, df_36_2, df_37_2, df_38_2, df_39_2, df_40_2, df_41_2, df_42_1, df_43_1, df_44_1, df_45_2]) ?_
  refine exs_for (Q := fun o => o = _) (ds := (A.map fr).map D.t) (u := none) (s1 := st ++ [.l []]) (fun i σ s => s = st ++ [.l ((A.take i).map (fun p => D.t (fr p)))] ∧ ∃ a b, σ = [some (.t (.lst (A.map fr))), some (.c st.length), a, b]) (by
    simp -implicitDefEqProofs only [exs, ex, ev, evs, evo, evC, rb_ok, rt_ok, of_some, lift2_t, view_t, subD_tup, subD_lst, at0, at1, at2, at3, subTT, addT, tupD2, fin_rt, fin_nx, cast0, cast1, cast2, cast3, cast4, cast5, Int.reduceLT, Int.reduceLE, Int.reduceEq, Int.reduceNe, decide_not, map_some, take_all, cmp_lt, cmp_le, cmp_gt, cmp_ge, cmp_eq, cmp_ne, tru_bl, setTg_name, setTg_tup, setTg_lst, setTgs_nil, setTgs_cons, decide_eq_true_eq, Option.bind_some, Option.bind_none, bl_not, is_non, isnt_non, cmpIs_tup, cmpIsN_tup, if_tt, if_ff, tru_int, reduceCtorEq, decide_true, decide_false, Bool.not_true, Bool.not_false, mm1, mm2, mm3, mapM1, mapM2, lstD_c0, lstD_t0, lstD_t1, lstD_t2, lstD_t3, isL_last, isi_int_non, isi_bool_non, isi_tuple_non, isi_list_non, isi_dict_non, isi_lt_non, isi_int_bl, isi_bool_bl, isi_tuple_bl, isi_list_bl, isi_dict_bl, isi_lt_bl, isi_int_int, isi_bool_int, isi_tuple_int, isi_list_int, isi_dict_int, isi_lt_int, isi_int_str, isi_bool_str, isi_tuple_str, isi_list_str, isi_dict_str, isi_lt_str, isi_int_tup, isi_bool_tup, isi_tuple_tup, isi_list_tup, isi_dict_tup, isi_lt_tup, isi_int_lst, isi_bool_lst, isi_tuple_lst, isi_list_lst, isi_dict_lst, isi_lt_lst, isi_int_dk, isi_bool_dk, isi_tuple_dk, isi_list_dk, isi_dict_dk, isi_lt_dk, tup_ty, lenT_lst, lenT_tup, intT, Bool.or_true, Bool.true_or, Bool.or_false, Bool.false_or, Bool.and_true, Bool.true_and, Bool.and_false, Bool.false_and, Z.isNon, not_true_eq_false, not_false_eq_true, Bool.not_eq_true, Bool.false_eq_true, Option.map_some, List.length_cons, List.length_nil, Nat.reduceAdd, ↓reduceIte, List.map_cons, List.map_nil, Nat.reduceSub, List.cons_append, List.nil_append, List.append_nil, List.replicate, List.set_cons_succ, List.set_cons_zero, Nat.reduceLT, gE_0, gE_s, df_0_1, df_1_2, df_2_2, df_3_1, df_4_1, df_5_1, df_6_1, df_7_1, df_8_1, df_10_1, df_14_1, df_15_1, df_16_1, df_17_2, df_18_2, df_25_1, df_25_2, df_26_1, df_27_2, df_28_1, df_29_2, df_30_2, df_31_2, df_32_2, df_33_2, df_34_2, df_35_2, df_36_2, df_37_2, df_38_2, df_39_2, df_40_2, df_41_2, df_42_1, df_43_1, df_44_1, df_45_2, evI, walk]) ⟨rfl, none, none, rfl⟩ ?_ ?_
  · rintro j d σ s hd ⟨rfl, a, b, rfl⟩
    rw [List.getElem?_map, List.getElem?_map] at hd
    obtain ⟨t, ht, rfl⟩ := Option.map_eq_some_iff.mp hd
    obtain ⟨p, hp, rfl⟩ := Option.map_eq_some_iff.mp ht
    have hs := hA p (List.mem_of_getElem? hp)
    have hj : j < A.length := (List.getElem?_eq_some_iff.mp hp).1
    refine .inl ⟨[some (.t (.lst (A.map fr))), some (.c st.length), some (.t (fr p)), some (.t (fr p))], st ++ [.l ((A.take (j + 1)).map (fun p => D.t (fr p)))], .inl ?_, rfl, _, _, rfl⟩
    unfold turnX
    have e1 : ((A.take j).map (fun p => D.t (fr p))).length < sizeLine := by
      rw [List.length_map, List.length_take]
      have : (sizeLine : Nat) = 16777216 := by decide
      omega
    simp -implicitDefEqProofs only [exs, ex, ev, evs, evo, evC, rb_ok, rt_ok, of_some, lift2_t, view_t, subD_tup, subD_lst, at0, at1, at2, at3, subTT, addT, tupD2, fin_rt, fin_nx, cast0, cast1, cast2, cast3, cast4, cast5, Int.reduceLT, Int.reduceLE, Int.reduceEq, Int.reduceNe, decide_not, map_some, take_all, cmp_lt, cmp_le, cmp_gt, cmp_ge, cmp_eq, cmp_ne, tru_bl, setTg_name, setTg_tup, setTg_lst, setTgs_nil, setTgs_cons, decide_eq_true_eq, Option.bind_some, Option.bind_none, bl_not, is_non, isnt_non, cmpIs_tup, cmpIsN_tup, if_tt, if_ff, tru_int, reduceCtorEq, decide_true, decide_false, Bool.not_true, Bool.not_false, mm1, mm2, mm3, mapM1, mapM2, lstD_c0, lstD_t0, lstD_t1, lstD_t2, lstD_t3, isL_last, isi_int_non, isi_bool_non, isi_tuple_non, isi_list_non, isi_dict_non, isi_lt_non, isi_int_bl, isi_bool_bl, isi_tuple_bl, isi_list_bl, isi_dict_bl, isi_lt_bl, isi_int_int, isi_bool_int, isi_tuple_int, isi_list_int, isi_dict_int, isi_lt_int, isi_int_str, isi_bool_str, isi_tuple_str, isi_list_str, isi_dict_str, isi_lt_str, isi_int_tup, isi_bool_tup, isi_tuple_tup, isi_list_tup, isi_dict_tup, isi_lt_tup, isi_int_lst, isi_bool_lst, isi_tuple_lst, isi_list_lst, isi_dict_lst, isi_lt_lst, isi_int_dk, isi_bool_dk, isi_tuple_dk, isi_list_dk, isi_dict_dk, isi_lt_dk, tup_ty, lenT_lst, lenT_tup, intT, Bool.or_true, Bool.true_or, Bool.or_false, Bool.false_or, Bool.and_true, Bool.true_and, Bool.and_false, Bool.false_and, Z.isNon, not_true_eq_false, not_false_eq_true, Bool.not_eq_true, Bool.false_eq_true, Option.map_some, List.length_cons, List.length_nil, Nat.reduceAdd, ↓reduceIte, List.map_cons, List.map_nil, Nat.reduceSub, List.cons_append, List.nil_append, List.append_nil, List.replicate, List.set_cons_succ, List.set_cons_zero, Nat.reduceLT, gE_0, gE_s, df_0_1, df_1_2, df_2_2, df_3_1, df_4_1, df_5_1, df_6_1, df_7_1, df_8_1, df_10_1, df_14_1, df_15_1, df_16_1, df_17_2, df_18_2, df_25_1, df_25_2, df_26_1, df_27_2, df_28_1, df_29_2, df_30_2, df_31_2, df_32_2, df_33_2, df_34_2, df_35_2, df_36_2, df_37_2, df_38_2, df_39_2, df_40_2, df_41_2, df_42_1, df_43_1, df_44_1, df_45_2, told_share hs, app_last e1]
    rw [List.take_succ_eq_append_getElem hj, List.map_append, List.map_cons, List.map_nil]
    have : A[j] = p := (List.getElem?_eq_some_iff.mp hp).2
    rw [this]
  · rintro σ s ⟨rfl, a, b, rfl⟩
    rw [List.length_map, List.length_map, List.take_length]
    have : A.map (fun p => D.t (fr p)) = (A.map fr).map D.t := by rw [List.map_map]; rfl
    rw [this]
    show exs _ _ _ (unlock _ none) = _
    simp only [unlock]
    simp -implicitDefEqProofs only [exs, ex, ev, evs, evo, evC, rb_ok, rt_ok, of_some, lift2_t, view_t, subD_tup, subD_lst, at0, at1, at2, at3, subTT, addT, tupD2, fin_rt, fin_nx, cast0, cast1, cast2, cast3, cast4, cast5, Int.reduceLT, Int.reduceLE, Int.reduceEq, Int.reduceNe, decide_not, map_some, take_all, cmp_lt, cmp_le, cmp_gt, cmp_ge, cmp_eq, cmp_ne, tru_bl, setTg_name, setTg_tup, setTg_lst, setTgs_nil, setTgs_cons, decide_eq_true_eq, Option.bind_some, Option.bind_none, bl_not, is_non, isnt_non, cmpIs_tup, cmpIsN_tup, if_tt, if_ff, tru_int, reduceCtorEq, decide_true, decide_false, Bool.not_true, Bool.not_false, mm1, mm2, mm3, mapM1, mapM2, lstD_c0, lstD_t0, lstD_t1, lstD_t2, lstD_t3, isL_last, isi_int_non, isi_bool_non, isi_tuple_non, isi_list_non, isi_dict_non, isi_lt_non, isi_int_bl, isi_bool_bl, isi_tuple_bl, isi_list_bl, isi_dict_bl, isi_lt_bl, isi_int_int, isi_bool_int, isi_tuple_int, isi_list_int, isi_dict_int, isi_lt_int, isi_int_str, isi_bool_str, isi_tuple_str, isi_list_str, isi_dict_str, isi_lt_str, isi_int_tup, isi_bool_tup, isi_tuple_tup, isi_list_tup, isi_dict_tup, isi_lt_tup, isi_int_lst, isi_bool_lst, isi_tuple_lst, isi_list_lst, isi_dict_lst, isi_lt_lst, isi_int_dk, isi_bool_dk, isi_tuple_dk, isi_list_dk, isi_dict_dk, isi_lt_dk, tup_ty, lenT_lst, lenT_tup, intT, Bool.or_true, Bool.true_or, Bool.or_false, Bool.false_or, Bool.and_true, Bool.true_and, Bool.and_false, Bool.false_and, Z.isNon, not_true_eq_false, not_false_eq_true, Bool.not_eq_true, Bool.false_eq_true, Option.map_some, List.length_cons, List.length_nil, Nat.reduceAdd, ↓reduceIte, List.map_cons, List.map_nil, Nat.reduceSub, List.cons_append, List.nil_append, List.append_nil, List.replicate, List.set_cons_succ, List.set_cons_zero, Nat.reduceLT, gE_0, gE_s, df_0_1, df_1_2, df_2_2, df_3_1, df_4_1, df_5_1, df_6_1, df_7_1, df_8_1, df_10_1, df_14_1, df_15_1, df_16_1, df_17_2, df_18_2, df_25_1, df_25_2, df_26_1, df_27_2, df_28_1, df_29_2, df_30_2, df_31_2, df_32_2, df_33_2, df_34_2, df_35_2, df_36_2, df_37_2, df_38_2, df_39_2, df_40_2, df_41_2, df_42_1, df_43_1, df_44_1, df_45_2, frz_last]
end Lw
end Z
end
section
set_option Elab.async false
set_option linter.all false
set_option maxRecDepth 100000
set_option maxHeartbeats 4000000
namespace Z
namespace Lw

open PySem L2 Zr
/-! ### the shortest row that comes to the same -/
def nUp (lo : Nat) : Nat → List Nat
  | 0 => []
  | n + 1 => lo :: nUp (lo + 1) n
def shGo (A : List P2) : List Nat → List P2
  | [] => A
  | L :: r => if Rw9.rep (A.length / L) (A.take L) = A then A.take L else shGo A r
def short (A : List P2) : List P2 := shGo A (nUp 1 (A.length - 1))
theorem upI_len (lo : Int) (n : Nat) : (upI lo n).length = n := by
  induction n generalizing lo with
  | zero => rfl
  | succ n ih =>
    show (upI (lo + 1) n).length + 1 = _
    rw [ih]
theorem upI_get {lo : Int} {n j : Nat} {d : D} (h : (upI lo n)[j]? = some d) : d = .t (.int (lo + j)) ∧ j < n := by
  induction n generalizing lo j with
  | zero => cases h
  | succ n ih =>
    cases j with
    | zero =>
      cases h
      refine ⟨?_, by omega⟩
      show D.t (.int lo) = D.t (.int (lo + 0))
      rw [Int.add_zero]
    | succ j =>
      have h : (upI (lo + 1) n)[j]? = some d := h
      obtain ⟨h1, h2⟩ := ih h
      refine ⟨?_, by omega⟩
      rw [h1]
      congr 2
      omega
theorem nUp_mem {L lo n : Nat} (h : L ∈ nUp lo n) : lo ≤ L ∧ L < lo + n := by
  induction n generalizing lo with
  | zero => cases h
  | succ n ih =>
    rcases List.mem_cons.mp h with rfl | h
    · omega
    · have := ih h
      omega
theorem short_ok {A : List P2} (h0 : A ≠ []) : short A ≠ [] ∧ (∀ s ∈ short A, s ∈ A) ∧ ∃ m, A = Rw9.rep (m + 1) (short A) := by
  have hp : 0 < A.length := List.length_pos_iff.mpr h0
  have : ∀ Ls : List Nat, (∀ L ∈ Ls, 1 ≤ L ∧ L < A.length) → shGo A Ls ≠ [] ∧ (∀ s ∈ shGo A Ls, s ∈ A) ∧ ∃ m, A = Rw9.rep (m + 1) (shGo A Ls) := by
    intro Ls
    induction Ls with
    | nil => exact fun _ => ⟨h0, fun s h => h, 0, by show A = Rw9.rep 1 A; rw [Rw9.rep_succ]; exact (List.append_nil A).symm⟩
    | cons L r ih =>
      intro h
      obtain ⟨l1, l2⟩ := h L List.mem_cons_self
      unfold shGo
      split
      · next e =>
        refine ⟨fun z => ?_, fun s hs => List.mem_of_mem_take hs, A.length / L - 1, ?_⟩
        · have : (A.take L).length = 0 := by rw [z]; rfl
          rw [List.length_take] at this
          omega
        · have : 1 ≤ A.length / L := (Nat.one_le_div_iff (by omega)).mpr (by omega)
          rw [Nat.sub_add_cancel this]
          exact e.symm
      · exact ih fun L hL => h L (List.mem_cons_of_mem _ hL)
  exact this _ fun L hL => by have := nUp_mem hL; omega
theorem shGo_cons (A : List P2) (L : Nat) (r : List Nat) : shGo A (L :: r) = if Rw9.rep (A.length / L) (A.take L) = A then A.take L else shGo A r := (rfl)
theorem nUp_succ (lo n : Nat) : nUp lo (n + 1) = lo :: nUp (lo + 1) n := (rfl)
theorem cmp_eq_frs (A B : List P2) : cmpT .Eq (.lst (A.map fr)) (.lst (B.map fr)) = some (decide (A = B)) := eqT_frs A B
theorem rep_map (q : Nat) (A : List P2) : (List.replicate q (A.map fr)).flatten = (Rw9.rep q A).map fr := by
  unfold Rw9.rep
  rw [List.map_flatten, List.map_replicate]
theorem r_shortest (k : Nat) (A : List P2) (st : S) (h0 : A ≠ []) (hl : A.length < 100) : callN lib.ft lib.g0 (k + 1) 16 [.t (.lst (A.map fr))] st = .ok (.t (.lst ((short A).map fr))) st := by
  rw [callN_succ (F := F16) rfl]; simp -implicitDefEqProofs only [callF, F16, List.length_cons, List.length_nil, Nat.reduceAdd, ↓reduceIte, List.map_cons, List.map_nil, Nat.reduceSub, List.cons_append, List.nil_append, List.append_nil, List.replicate, List.set_cons_succ, List.set_cons_zero, Nat.reduceLT, gE_0, gE_s]
  have sz : (sizeLine : Nat) = 16777216 := by decide
  have hsm : ∀ i : Int, 0 ≤ i → i < 100 → smallI i = true := by
    intro i h1 h2
    unfold smallI
    simp
    omega
  have hp : 0 < A.length := List.length_pos_iff.mpr h0
  have et : ((A.length : Int) - 1).toNat = A.length - 1 := by omega
  refine fin_eq (o' := .rt (.t (.lst ((short A).map fr))) st) ?_ (by rw [fin_rt rfl, take_all])
  refine exs_for (Q := fun o => o = Z.O.rt (.t (.lst ((short A).map fr))) st) (ds := upI 1 (A.length - 1)) (u := none) (s1 := st) (fun i σ s => s = st ∧ (∃ a b, σ = [some (.t (.lst (A.map fr))), a, b]) ∧ short A = shGo A (nUp (i + 1) (A.length - 1 - i))) (by
    simp -implicitDefEqProofs only [exs, ex, ev, evs, evo, evC, rb_ok, rt_ok, of_some, lift2_t, view_t, subD_tup, subD_lst, at0, at1, at2, at3, subTT, addT, tupD2, fin_rt, fin_nx, cast0, cast1, cast2, cast3, cast4, cast5, Int.reduceLT, Int.reduceLE, Int.reduceEq, Int.reduceNe, decide_not, map_some, take_all, cmp_lt, cmp_le, cmp_gt, cmp_ge, cmp_eq, cmp_ne, tru_bl, setTg_name, setTg_tup, setTg_lst, setTgs_nil, setTgs_cons, decide_eq_true_eq, Option.bind_some, Option.bind_none, bl_not, is_non, isnt_non, cmpIs_tup, cmpIsN_tup, if_tt, if_ff, tru_int, reduceCtorEq, decide_true, decide_false, Bool.not_true, Bool.not_false, mm1, mm2, mm3, mapM1, mapM2, lstD_c0, lstD_t0, lstD_t1, lstD_t2, lstD_t3, isL_last, isi_int_non, isi_bool_non, isi_tuple_non, isi_list_non, isi_dict_non, isi_lt_non, isi_int_bl, isi_bool_bl, isi_tuple_bl, isi_list_bl, isi_dict_bl, isi_lt_bl, isi_int_int, isi_bool_int, isi_tuple_int, isi_list_int, isi_dict_int, isi_lt_int, isi_int_str, isi_bool_str, isi_tuple_str, isi_list_str, isi_dict_str, isi_lt_str, isi_int_tup, isi_bool_tup, isi_tuple_tup, isi_list_tup, isi_dict_tup, isi_lt_tup, isi_int_lst, isi_bool_lst, isi_tuple_lst, isi_list_lst, isi_dict_lst, isi_lt_lst, isi_int_dk, isi_bool_dk, isi_tuple_dk, isi_list_dk, isi_dict_dk, isi_lt_dk, tup_ty, lenT_lst, lenT_tup, intT, Bool.or_true, Bool.true_or, Bool.or_false, Bool.false_or, Bool.and_true, Bool.true_and, Bool.and_false, Bool.false_and, Z.isNon, not_true_eq_false, not_false_eq_true, Bool.not_eq_true, Bool.false_eq_true, Option.map_some, List.length_cons, List.length_nil, Nat.reduceAdd, ↓reduceIte, List.map_cons, List.map_nil, Nat.reduceSub, List.cons_append, List.nil_append, List.append_nil, List.replicate, List.set_cons_succ, List.set_cons_zero, Nat.reduceLT, gE_0, gE_s, df_0_1, df_1_2, df_2_2, df_3_1, df_4_1, df_5_1, df_6_1, df_7_1, df_8_1, df_10_1, df_14_1, df_15_1, df_16_1, df_17_2, df_18_2, df_25_1, df_25_2, df_26_1, df_27_2, df_28_1, df_29_2, df_30_2, df_31_2, df_32_2, df_33_2, df_34_2, df_35_2, df_36_2, df_37_2, df_38_2, df_39_2, df_40_2, df_41_2, df_42_1, df_43_1, df_44_1, df_45_2, evI, hsm 1 (by decide) (by decide), List.length_map, hsm (A.length : Int) (by omega) (by omega), et]) ⟨rfl, ⟨none, none, rfl⟩, by rw [Nat.sub_zero]; rfl⟩ ?_ ?_
  · rintro j d σ s hd ⟨rfl, ⟨a, b, rfl⟩, hi⟩
    obtain ⟨rfl, hj⟩ := upI_get hd
    have e1 : (1 : Int) + (j : Nat) = ((j + 1 : Nat) : Int) := by omega
    have el : A.length - 1 - j = (A.length - 1 - (j + 1)) + 1 := by omega
    rw [el, nUp_succ, shGo_cons] at hi
    have hd1 : binT .FloorDiv (.int (A.length : Int)) (.int ((j + 1 : Nat) : Int)) = some (.int ((A.length / (j + 1) : Nat) : Int)) := by
      rw [divT (k := 10) (by omega) (by unfold Bd; rw [Int.natAbs_natCast]; have : (2 : Nat) ^ 10 = 1024 := by decide
                                        omega) (by decide), Int.natCast_ediv]
    have hq : A.length / (j + 1) ≤ A.length := Nat.div_le_self _ _
    have hm : binT .Mult (.lst ((A.map fr).take (j + 1))) (.int ((A.length / (j + 1) : Nat) : Int)) = some (.lst ((Rw9.rep (A.length / (j + 1)) (A.take (j + 1))).map fr)) := by
      rw [mulL, ← List.map_take, rep_map]
      · rw [List.length_take, List.length_map]
        have : min (j + 1) A.length * (A.length / (j + 1)) ≤ A.length * A.length := Nat.mul_le_mul (by omega) hq
        have : A.length * A.length ≤ 100 * 100 := Nat.mul_le_mul (by omega) (by omega)
        omega
      · omega
    have hs : slcT (.lst (A.map fr)) none (some ((j + 1 : Nat) : Int)) = some (.lst ((A.map fr).take (j + 1))) := slc_to (by rw [List.length_map]; omega)
    have e2 : (1 : Int) + (j : Nat) = ((j + 1 : Nat) : Int) := e1
    have hc : cmpT .Eq (.lst ((Rw9.rep (A.length / (j + 1)) (A.take (j + 1))).map fr)) (.lst (A.map fr)) = some (decide (Rw9.rep (A.length / (j + 1)) (A.take (j + 1)) = A)) := cmp_eq_frs _ _
    have hl' : biT .len [.lst (A.map fr)] = some (.int (A.length : Int)) := by rw [lenT_lst, List.length_map]
    have hcase : short A = if Rw9.rep (A.length / (j + 1)) (A.take (j + 1)) = A then A.take (j + 1) else shGo A (nUp (j + 1 + 1) (A.length - 1 - (j + 1))) := hi
    rw [e1]
    rw [← List.map_take] at hs
    rw [← List.map_take] at hm
    clear hd e1 e2 el hi hq hsm et sz
    generalize Rw9.rep (A.length / (j + 1)) (A.take (j + 1)) = X at *
    generalize shGo A (nUp (j + 1 + 1) (A.length - 1 - (j + 1))) = Y at *
    generalize ((j + 1 : Nat) : Int) = L at *
    generalize ((A.length / (j + 1) : Nat) : Int) = q at *
    generalize A.take (j + 1) = U at *
    generalize (A.length : Int) = n at *
    generalize A.map fr = MA at *
    by_cases c : X = A
    · rw [if_pos c] at hcase
      rw [decide_eq_true c] at hc
      refine .inr ⟨.t (.lst ((short A).map fr)), s, ?_, rfl⟩
      rw [turnX_nx (σ1 := [some (.t (.lst MA)), some (.t (.int L)), b]) rfl]
      refine exs_nx (Q := fun o => o = Z.O.rt (.t (.lst ((short A).map fr))) s) (σ1 := [some (.t (.lst MA)), some (.t (.int L)), some (.t (.int q))]) (s1 := s) (by simp -implicitDefEqProofs only [exs, ex, ev, evs, evo, evC, rb_ok, rt_ok, of_some, lift2_t, view_t, subD_tup, subD_lst, at0, at1, at2, at3, subTT, addT, tupD2, fin_rt, fin_nx, cast0, cast1, cast2, cast3, cast4, cast5, Int.reduceLT, Int.reduceLE, Int.reduceEq, Int.reduceNe, decide_not, map_some, take_all, cmp_lt, cmp_le, cmp_gt, cmp_ge, cmp_eq, cmp_ne, tru_bl, setTg_name, setTg_tup, setTg_lst, setTgs_nil, setTgs_cons, decide_eq_true_eq, Option.bind_some, Option.bind_none, bl_not, is_non, isnt_non, cmpIs_tup, cmpIsN_tup, if_tt, if_ff, tru_int, reduceCtorEq, decide_true, decide_false, Bool.not_true, Bool.not_false, mm1, mm2, mm3, mapM1, mapM2, lstD_c0, lstD_t0, lstD_t1, lstD_t2, lstD_t3, isL_last, isi_int_non, isi_bool_non, isi_tuple_non, isi_list_non, isi_dict_non, isi_lt_non, isi_int_bl, isi_bool_bl, isi_tuple_bl, isi_list_bl, isi_dict_bl, isi_lt_bl, isi_int_int, isi_bool_int, isi_tuple_int, isi_list_int, isi_dict_int, isi_lt_int, isi_int_str, isi_bool_str, isi_tuple_str, isi_list_str, isi_dict_str, isi_lt_str, isi_int_tup, isi_bool_tup, isi_tuple_tup, isi_list_tup, isi_dict_tup, isi_lt_tup, isi_int_lst, isi_bool_lst, isi_tuple_lst, isi_list_lst, isi_dict_lst, isi_lt_lst, isi_int_dk, isi_bool_dk, isi_tuple_dk, isi_list_dk, isi_dict_dk, isi_lt_dk, tup_ty, lenT_tup, intT, Bool.or_true, Bool.true_or, Bool.or_false, Bool.false_or, Bool.and_true, Bool.true_and, Bool.and_false, Bool.false_and, Z.isNon, not_true_eq_false, not_false_eq_true, Bool.not_eq_true, Bool.false_eq_true, Option.map_some, List.length_cons, List.length_nil, Nat.reduceAdd, ↓reduceIte, List.map_cons, List.map_nil, Nat.reduceSub, List.cons_append, List.nil_append, List.append_nil, List.replicate, List.set_cons_succ, List.set_cons_zero, Nat.reduceLT, gE_0, gE_s, df_0_1, df_1_2, df_2_2, df_3_1, df_4_1, df_5_1, df_6_1, df_7_1, df_8_1, df_10_1, df_14_1, df_15_1, df_16_1, df_17_2, df_18_2, df_25_1, df_25_2, df_26_1, df_27_2, df_28_1, df_29_2, df_30_2, df_31_2, df_32_2, df_33_2, df_34_2, df_35_2, df_36_2, df_37_2, df_38_2, df_39_2, df_40_2, df_41_2, df_42_1, df_43_1, df_44_1, df_45_2, hl', hd1]) ?_
      exact exs_rt (Q := fun o => o = Z.O.rt (.t (.lst ((short A).map fr))) s) (d := .t (.lst (U.map fr))) (s1 := s) (by simp -implicitDefEqProofs only [exs, ex, ev, evs, evo, evC, rb_ok, rt_ok, of_some, lift2_t, view_t, subD_tup, subD_lst, at0, at1, at2, at3, subTT, addT, tupD2, fin_rt, fin_nx, cast0, cast1, cast2, cast3, cast4, cast5, Int.reduceLT, Int.reduceLE, Int.reduceEq, Int.reduceNe, decide_not, map_some, take_all, cmp_lt, cmp_le, cmp_gt, cmp_ge, cmp_eq, cmp_ne, tru_bl, setTg_name, setTg_tup, setTg_lst, setTgs_nil, setTgs_cons, decide_eq_true_eq, Option.bind_some, Option.bind_none, bl_not, is_non, isnt_non, cmpIs_tup, cmpIsN_tup, if_tt, if_ff, tru_int, reduceCtorEq, decide_true, decide_false, Bool.not_true, Bool.not_false, mm1, mm2, mm3, mapM1, mapM2, lstD_c0, lstD_t0, lstD_t1, lstD_t2, lstD_t3, isL_last, isi_int_non, isi_bool_non, isi_tuple_non, isi_list_non, isi_dict_non, isi_lt_non, isi_int_bl, isi_bool_bl, isi_tuple_bl, isi_list_bl, isi_dict_bl, isi_lt_bl, isi_int_int, isi_bool_int, isi_tuple_int, isi_list_int, isi_dict_int, isi_lt_int, isi_int_str, isi_bool_str, isi_tuple_str, isi_list_str, isi_dict_str, isi_lt_str, isi_int_tup, isi_bool_tup, isi_tuple_tup, isi_list_tup, isi_dict_tup, isi_lt_tup, isi_int_lst, isi_bool_lst, isi_tuple_lst, isi_list_lst, isi_dict_lst, isi_lt_lst, isi_int_dk, isi_bool_dk, isi_tuple_dk, isi_list_dk, isi_dict_dk, isi_lt_dk, tup_ty, lenT_lst, lenT_tup, intT, Bool.or_true, Bool.true_or, Bool.or_false, Bool.false_or, Bool.and_true, Bool.true_and, Bool.and_false, Bool.false_and, Z.isNon, not_true_eq_false, not_false_eq_true, Bool.not_eq_true, Bool.false_eq_true, Option.map_some, List.length_cons, List.length_nil, Nat.reduceAdd, ↓reduceIte, List.map_cons, List.map_nil, Nat.reduceSub, List.cons_append, List.nil_append, List.append_nil, List.replicate, List.set_cons_succ, List.set_cons_zero, Nat.reduceLT, gE_0, gE_s, df_0_1, df_1_2, df_2_2, df_3_1, df_4_1, df_5_1, df_6_1, df_7_1, df_8_1, df_10_1, df_14_1, df_15_1, df_16_1, df_17_2, df_18_2, df_25_1, df_25_2, df_26_1, df_27_2, df_28_1, df_29_2, df_30_2, df_31_2, df_32_2, df_33_2, df_34_2, df_35_2, df_36_2, df_37_2, df_38_2, df_39_2, df_40_2, df_41_2, df_42_1, df_43_1, df_44_1, df_45_2, hs, hm, hc]) (by rw [hcase])
    · rw [if_neg c] at hcase
      rw [decide_eq_false c] at hc
      refine .inl ⟨[some (.t (.lst MA)), some (.t (.int L)), some (.t (.int q))], s, .inl ?_, rfl, ⟨_, _, rfl⟩, hcase⟩
      rw [turnX_nx (σ1 := [some (.t (.lst MA)), some (.t (.int L)), b]) rfl]
      refine exs_nx (Q := fun o => o = Z.O.nx [some (.t (.lst MA)), some (.t (.int L)), some (.t (.int q))] s) (σ1 := [some (.t (.lst MA)), some (.t (.int L)), some (.t (.int q))]) (s1 := s) (by simp -implicitDefEqProofs only [exs, ex, ev, evs, evo, evC, rb_ok, rt_ok, of_some, lift2_t, view_t, subD_tup, subD_lst, at0, at1, at2, at3, subTT, addT, tupD2, fin_rt, fin_nx, cast0, cast1, cast2, cast3, cast4, cast5, Int.reduceLT, Int.reduceLE, Int.reduceEq, Int.reduceNe, decide_not, map_some, take_all, cmp_lt, cmp_le, cmp_gt, cmp_ge, cmp_eq, cmp_ne, tru_bl, setTg_name, setTg_tup, setTg_lst, setTgs_nil, setTgs_cons, decide_eq_true_eq, Option.bind_some, Option.bind_none, bl_not, is_non, isnt_non, cmpIs_tup, cmpIsN_tup, if_tt, if_ff, tru_int, reduceCtorEq, decide_true, decide_false, Bool.not_true, Bool.not_false, mm1, mm2, mm3, mapM1, mapM2, lstD_c0, lstD_t0, lstD_t1, lstD_t2, lstD_t3, isL_last, isi_int_non, isi_bool_non, isi_tuple_non, isi_list_non, isi_dict_non, isi_lt_non, isi_int_bl, isi_bool_bl, isi_tuple_bl, isi_list_bl, isi_dict_bl, isi_lt_bl, isi_int_int, isi_bool_int, isi_tuple_int, isi_list_int, isi_dict_int, isi_lt_int, isi_int_str, isi_bool_str, isi_tuple_str, isi_list_str, isi_dict_str, isi_lt_str, isi_int_tup, isi_bool_tup, isi_tuple_tup, isi_list_tup, isi_dict_tup, isi_lt_tup, isi_int_lst, isi_bool_lst, isi_tuple_lst, isi_list_lst, isi_dict_lst, isi_lt_lst, isi_int_dk, isi_bool_dk, isi_tuple_dk, isi_list_dk, isi_dict_dk, isi_lt_dk, tup_ty, lenT_tup, intT, Bool.or_true, Bool.true_or, Bool.or_false, Bool.false_or, Bool.and_true, Bool.true_and, Bool.and_false, Bool.false_and, Z.isNon, not_true_eq_false, not_false_eq_true, Bool.not_eq_true, Bool.false_eq_true, Option.map_some, List.length_cons, List.length_nil, Nat.reduceAdd, ↓reduceIte, List.map_cons, List.map_nil, Nat.reduceSub, List.cons_append, List.nil_append, List.append_nil, List.replicate, List.set_cons_succ, List.set_cons_zero, Nat.reduceLT, gE_0, gE_s, df_0_1, df_1_2, df_2_2, df_3_1, df_4_1, df_5_1, df_6_1, df_7_1, df_8_1, df_10_1, df_14_1, df_15_1, df_16_1, df_17_2, df_18_2, df_25_1, df_25_2, df_26_1, df_27_2, df_28_1, df_29_2, df_30_2, df_31_2, df_32_2, df_33_2, df_34_2, df_35_2, df_36_2, df_37_2, df_38_2, df_39_2, df_40_2, df_41_2, df_42_1, df_43_1, df_44_1, df_45_2, hl', hd1]) ?_
      exact exs_nx (Q := fun o => o = Z.O.nx [some (.t (.lst MA)), some (.t (.int L)), some (.t (.int q))] s) (σ1 := [some (.t (.lst MA)), some (.t (.int L)), some (.t (.int q))]) (s1 := s) (by simp -implicitDefEqProofs only [exs, ex, ev, evs, evo, evC, rb_ok, rt_ok, of_some, lift2_t, view_t, subD_tup, subD_lst, at0, at1, at2, at3, subTT, addT, tupD2, fin_rt, fin_nx, cast0, cast1, cast2, cast3, cast4, cast5, Int.reduceLT, Int.reduceLE, Int.reduceEq, Int.reduceNe, decide_not, map_some, take_all, cmp_lt, cmp_le, cmp_gt, cmp_ge, cmp_eq, cmp_ne, tru_bl, setTg_name, setTg_tup, setTg_lst, setTgs_nil, setTgs_cons, decide_eq_true_eq, Option.bind_some, Option.bind_none, bl_not, is_non, isnt_non, cmpIs_tup, cmpIsN_tup, if_tt, if_ff, tru_int, reduceCtorEq, decide_true, decide_false, Bool.not_true, Bool.not_false, mm1, mm2, mm3, mapM1, mapM2, lstD_c0, lstD_t0, lstD_t1, lstD_t2, lstD_t3, isL_last, isi_int_non, isi_bool_non, isi_tuple_non, isi_list_non, isi_dict_non, isi_lt_non, isi_int_bl, isi_bool_bl, isi_tuple_bl, isi_list_bl, isi_dict_bl, isi_lt_bl, isi_int_int, isi_bool_int, isi_tuple_int, isi_list_int, isi_dict_int, isi_lt_int, isi_int_str, isi_bool_str, isi_tuple_str, isi_list_str, isi_dict_str, isi_lt_str, isi_int_tup, isi_bool_tup, isi_tuple_tup, isi_list_tup, isi_dict_tup, isi_lt_tup, isi_int_lst, isi_bool_lst, isi_tuple_lst, isi_list_lst, isi_dict_lst, isi_lt_lst, isi_int_dk, isi_bool_dk, isi_tuple_dk, isi_list_dk, isi_dict_dk, isi_lt_dk, tup_ty, lenT_lst, lenT_tup, intT, Bool.or_true, Bool.true_or, Bool.or_false, Bool.false_or, Bool.and_true, Bool.true_and, Bool.and_false, Bool.false_and, Z.isNon, not_true_eq_false, not_false_eq_true, Bool.not_eq_true, Bool.false_eq_true, Option.map_some, List.length_cons, List.length_nil, Nat.reduceAdd, ↓reduceIte, List.map_cons, List.map_nil, Nat.reduceSub, List.cons_append, List.nil_append, List.append_nil, List.replicate, List.set_cons_succ, List.set_cons_zero, Nat.reduceLT, gE_0, gE_s, df_0_1, df_1_2, df_2_2, df_3_1, df_4_1, df_5_1, df_6_1, df_7_1, df_8_1, df_10_1, df_14_1, df_15_1, df_16_1, df_17_2, df_18_2, df_25_1, df_25_2, df_26_1, df_27_2, df_28_1, df_29_2, df_30_2, df_31_2, df_32_2, df_33_2, df_34_2, df_35_2, df_36_2, df_37_2, df_38_2, df_39_2, df_40_2, df_41_2, df_42_1, df_43_1, df_44_1, df_45_2, hs, hm, hc]) rfl
  · rintro σ s ⟨rfl, ⟨a, b, rfl⟩, hi⟩
    rw [upI_len, Nat.sub_self] at hi
    have hi : short A = A := hi
    show exs _ _ _ (unlock _ none) = _
    simp only [unlock]
    simp -implicitDefEqProofs only [exs, ex, ev, evs, evo, evC, rb_ok, rt_ok, of_some, lift2_t, view_t, subD_tup, subD_lst, at0, at1, at2, at3, subTT, addT, tupD2, fin_rt, fin_nx, cast0, cast1, cast2, cast3, cast4, cast5, Int.reduceLT, Int.reduceLE, Int.reduceEq, Int.reduceNe, decide_not, map_some, take_all, cmp_lt, cmp_le, cmp_gt, cmp_ge, cmp_eq, cmp_ne, tru_bl, setTg_name, setTg_tup, setTg_lst, setTgs_nil, setTgs_cons, decide_eq_true_eq, Option.bind_some, Option.bind_none, bl_not, is_non, isnt_non, cmpIs_tup, cmpIsN_tup, if_tt, if_ff, tru_int, reduceCtorEq, decide_true, decide_false, Bool.not_true, Bool.not_false, mm1, mm2, mm3, mapM1, mapM2, lstD_c0, lstD_t0, lstD_t1, lstD_t2, lstD_t3, isL_last, isi_int_non, isi_bool_non, isi_tuple_non, isi_list_non, isi_dict_non, isi_lt_non, isi_int_bl, isi_bool_bl, isi_tuple_bl, isi_list_bl, isi_dict_bl, isi_lt_bl, isi_int_int, isi_bool_int, isi_tuple_int, isi_list_int, isi_dict_int, isi_lt_int, isi_int_str, isi_bool_str, isi_tuple_str, isi_list_str, isi_dict_str, isi_lt_str, isi_int_tup, isi_bool_tup, isi_tuple_tup, isi_list_tup, isi_dict_tup, isi_lt_tup, isi_int_lst, isi_bool_lst, isi_tuple_lst, isi_list_lst, isi_dict_lst, isi_lt_lst, isi_int_dk, isi_bool_dk, isi_tuple_dk, isi_list_dk, isi_dict_dk, isi_lt_dk, tup_ty, lenT_lst, lenT_tup, intT, Bool.or_true, Bool.true_or, Bool.or_false, Bool.false_or, Bool.and_true, Bool.true_and, Bool.and_false, Bool.false_and, Z.isNon, not_true_eq_false, not_false_eq_true, Bool.not_eq_true, Bool.false_eq_true, Option.map_some, List.length_cons, List.length_nil, Nat.reduceAdd, ↓reduceIte, List.map_cons, List.map_nil, Nat.reduceSub, List.cons_append, List.nil_append, List.append_nil, List.replicate, List.set_cons_succ, List.set_cons_zero, Nat.reduceLT, gE_0, gE_s, df_0_1, df_1_2, df_2_2, df_3_1, df_4_1, df_5_1, df_6_1, df_7_1, df_8_1, df_10_1, df_14_1, df_15_1, df_16_1, df_17_2, df_18_2, df_25_1, df_25_2, df_26_1, df_27_2, df_28_1, df_29_2, df_30_2, df_31_2, df_32_2, df_33_2, df_34_2, df_35_2, df_36_2, df_37_2, df_38_2, df_39_2, df_40_2, df_41_2, df_42_1, df_43_1, df_44_1, df_45_2, hi]
end Lw
end Z
end
section
set_option Elab.async false
set_option linter.all false
set_option maxRecDepth 100000
set_option maxHeartbeats 4000000
namespace Z
namespace Lw

open PySem L2 Zr
/-! ### a row is made -/
abbrev row (P : List P2) : T := .ins 4 [("_shares", .lst (P.map fr))]
theorem ini4 : lib.g0.ini 4 = 18 := by decide +kernel
theorem att4 : lib.g0.att 4 "_shares" = true := by decide +kernel
theorem lt1000 : decide (0 < 1000) = true := (rfl)
theorem put0 (f : Str) (x : T) : putT f x [] = [(f, x)] := (rfl)
theorem att_row (c : Nat → List D → S → R D) (s : S) (P : List P2) : fldD { lib.g0 with call := c } s "_shares" (.t (row P)) = some (.t (.lst (P.map fr))) := rfl
theorem r_init (k : Nat) (A : List P2) (st : S) (hA : ∀ s ∈ A, Shr s) (h0 : A ≠ []) (hl : A.length < 100) : callN lib.ft lib.g0 (k + 6) 18 [.c st.length, .t (.lst (A.map fr))] (st ++ [.i 4 []]) = .ok (.t .non) (st ++ [.i 4 [("_shares", .lst ((short A).map fr))]]) := by
  rw [callN_succ (F := F18) rfl]; simp -implicitDefEqProofs only [callF, F18, List.length_cons, List.length_nil, Nat.reduceAdd, ↓reduceIte, List.map_cons, List.map_nil, Nat.reduceSub, List.cons_append, List.nil_append, List.append_nil, List.replicate, List.set_cons_succ, List.set_cons_zero, Nat.reduceLT, gE_0, gE_s]
  have e : ∀ c, setFldD { lib.g0 with call := c } (st ++ [.i 4 []]) "_shares" (.c st.length) (.t (.lst ((short A).map fr))) = some (st ++ [.i 4 [("_shares", .lst ((short A).map fr))]]) := by
    intro c
    simp only [setFldD, get_last, set_last, att4, List.length_nil, lt1000, Bool.and_self, ↓reduceIte, put0]
  refine fin_eq (o' := .nx [some (.c st.length), some (.t (.lst (A.map fr)))] (st ++ [.i 4 [("_shares", .lst ((short A).map fr))]])) ?_ ?_
  · have h1 : ∀ st, callN lib.ft lib.g0 (k + 5) 15 [.t (.lst (A.map fr))] st = .ok (.t (.lst (A.map fr))) st := fun st => r_told_row k A st hA h0 hl
    have h2 : ∀ st, callN lib.ft lib.g0 (k + 5) 16 [.t (.lst (A.map fr))] st = .ok (.t (.lst ((short A).map fr))) st := fun st => r_shortest (k + 4) A st h0 hl
    clear hA h0 hl
    generalize (short A).map fr = Y at *
    generalize A.map fr = X at *
    simp -implicitDefEqProofs only [exs, ex, ev, evs, evo, evC, rb_ok, rt_ok, of_some, lift2_t, view_t, subD_tup, subD_lst, at0, at1, at2, at3, subTT, addT, tupD2, fin_rt, fin_nx, cast0, cast1, cast2, cast3, cast4, cast5, Int.reduceLT, Int.reduceLE, Int.reduceEq, Int.reduceNe, decide_not, map_some, take_all, cmp_lt, cmp_le, cmp_gt, cmp_ge, cmp_eq, cmp_ne, tru_bl, setTg_name, setTg_tup, setTg_lst, setTgs_nil, setTgs_cons, decide_eq_true_eq, Option.bind_some, Option.bind_none, bl_not, is_non, isnt_non, cmpIs_tup, cmpIsN_tup, if_tt, if_ff, tru_int, reduceCtorEq, decide_true, decide_false, Bool.not_true, Bool.not_false, mm1, mm2, mm3, mapM1, mapM2, lstD_c0, lstD_t0, lstD_t1, lstD_t2, lstD_t3, isL_last, isi_int_non, isi_bool_non, isi_tuple_non, isi_list_non, isi_dict_non, isi_lt_non, isi_int_bl, isi_bool_bl, isi_tuple_bl, isi_list_bl, isi_dict_bl, isi_lt_bl, isi_int_int, isi_bool_int, isi_tuple_int, isi_list_int, isi_dict_int, isi_lt_int, isi_int_str, isi_bool_str, isi_tuple_str, isi_list_str, isi_dict_str, isi_lt_str, isi_int_tup, isi_bool_tup, isi_tuple_tup, isi_list_tup, isi_dict_tup, isi_lt_tup, isi_int_lst, isi_bool_lst, isi_tuple_lst, isi_list_lst, isi_dict_lst, isi_lt_lst, isi_int_dk, isi_bool_dk, isi_tuple_dk, isi_list_dk, isi_dict_dk, isi_lt_dk, tup_ty, lenT_lst, lenT_tup, intT, Bool.or_true, Bool.true_or, Bool.or_false, Bool.false_or, Bool.and_true, Bool.true_and, Bool.and_false, Bool.false_and, Z.isNon, not_true_eq_false, not_false_eq_true, Bool.not_eq_true, Bool.false_eq_true, Option.map_some, List.length_cons, List.length_nil, Nat.reduceAdd, ↓reduceIte, List.map_cons, List.map_nil, Nat.reduceSub, List.cons_append, List.nil_append, List.append_nil, List.replicate, List.set_cons_succ, List.set_cons_zero, Nat.reduceLT, gE_0, gE_s, df_0_1, df_1_2, df_2_2, df_3_1, df_4_1, df_5_1, df_6_1, df_7_1, df_8_1, df_10_1, df_14_1, df_15_1, df_16_1, df_17_2, df_18_2, df_25_1, df_25_2, df_26_1, df_27_2, df_28_1, df_29_2, df_30_2, df_31_2, df_32_2, df_33_2, df_34_2, df_35_2, df_36_2, df_37_2, df_38_2, df_39_2, df_40_2, df_41_2, df_42_1, df_43_1, df_44_1, df_45_2, h1, h2, e]
  · rw [fin_nx rfl]
    congr 1
    rw [List.length_append, List.length_singleton]
    exact List.take_of_length_le (by rw [List.length_append]; exact Nat.le_refl _)
theorem r_make (k : Nat) (A : List P2) (st : S) (hA : ∀ s ∈ A, Shr s) (h0 : A ≠ []) (hl : A.length < 100) : makeD { lib.g0 with call := callN lib.ft lib.g0 (k + 6) } 4 [.t (.lst (A.map fr))] st = .ok (.t (row (short A))) st := by
  unfold makeD
  dsimp only
  rw [ini4, r_init k A st hA h0 hl, rb_ok]
  simp only [get_last, take_last, ↓reduceIte]
end Lw
end Z
end
section
set_option Elab.async false
set_option linter.all false
set_option maxRecDepth 100000
set_option maxHeartbeats 4000000
namespace Z
namespace Lw

open PySem L2 Zr
theorem bd_beh {k : Nat} {x s : P2} (h1 : Bd k x.1) (h2 : Bd k x.2) (hs : Shr s) : Bd (k + 19) (Rw9.beh x s).1 ∧ Bd (k + 19) (Rw9.beh x s).2 :=
  ⟨Bd.sub (h1.mul hs.b2) (h2.mul hs.b1) (by omega), (h1.mul hs.b2).mono (by omega)⟩
theorem bd_fo : ∀ (P : List P2) (k : Nat) (x : P2), (∀ s ∈ P, Shr s) → Bd k x.1 → Bd k x.2 → Bd (k + 19 * P.length) (Rw9.fo P x).1 ∧ Bd (k + 19 * P.length) (Rw9.fo P x).2
  | [], k, x, _, h1, h2 => ⟨h1, h2⟩
  | s :: r, k, x, hP, h1, h2 => by
    obtain ⟨a, b⟩ := bd_beh h1 h2 (hP s List.mem_cons_self)
    obtain ⟨c, d⟩ := bd_fo r (k + 19) (Rw9.beh x s) (fun z hz => hP z (List.mem_cons_of_mem _ hz)) a b
    rw [List.length_cons]
    exact ⟨c.mono (by omega), d.mono (by omega)⟩
theorem fo_take {P : List P2} {j : Nat} {p : P2} (h : P[j]? = some p) (x : P2) : Rw9.fo (P.take (j + 1)) x = Rw9.beh (Rw9.fo (P.take j) x) p := by
  obtain ⟨hj, e⟩ := List.getElem?_eq_some_iff.mp h
  rw [List.take_succ_eq_append_getElem hj, Rw9.fo_snoc, e]
theorem mth_stay (s : S) (P : List P2) : ((clsD s "stay" (.t (row P))).bind fun c => lib.g0.mth c "stay") = some 26 := (rfl)
theorem mth_isstay (s : S) (P : List P2) : ((clsD s "is_stay" (.t (row P))).bind fun c => lib.g0.mth c "is_stay") = some 27 := (rfl)
theorem mth_unsafe (s : S) (P : List P2) : ((clsD s "unsafe_at" (.t (row P))).bind fun c => lib.g0.mth c "unsafe_at") = some 25 := (rfl)
/-- what is_stay answers to a told fraction -/
def isv (P : List P2) (p : P2) : Bool := if p.2 < 1 then false else Rw9.pIs' P (Rw9.low p)
theorem walk_frs (s : S) (P : List P2) : walk s (.t (.lst (P.map fr))) = some ((P.map fr).map D.t, none) := (rfl)
theorem item_frs {P : List P2} {j : Nat} {d : D} (h : ((P.map fr).map D.t)[j]? = some d) : ∃ p, d = .t (fr p) ∧ P[j]? = some p := by
  rw [List.getElem?_map, List.getElem?_map] at h
  obtain ⟨t, ht, rfl⟩ := Option.map_eq_some_iff.mp h
  obtain ⟨p, hp, rfl⟩ := Option.map_eq_some_iff.mp ht
  exact ⟨p, rfl, hp⟩
theorem r_isstay_no (k : Nat) {x : T} (P : List P2) (st : S) (h : ∀ k st, callN lib.ft lib.g0 (k + 4) 7 [.t x] st = .ok (.t .non) st) : callN lib.ft lib.g0 (k + 5) 27 [.t (row P), .t x] st = .ok (.t (.bl false)) st := by
  rw [callN_succ (F := F27) rfl]; simp -implicitDefEqProofs only [callF, F27, List.length_cons, List.length_nil, Nat.reduceAdd, ↓reduceIte, List.map_cons, List.map_nil, Nat.reduceSub, List.cons_append, List.nil_append, List.append_nil, List.replicate, List.set_cons_succ, List.set_cons_zero, Nat.reduceLT, gE_0, gE_s]
  refine fin_eq (o' := .rt (.t (.bl false)) st) ?_ (by rw [fin_rt rfl, take_all])
  refine exs_nx (Q := fun o => o = Z.O.rt (.t (.bl false)) st) (σ1 := [some (.t (row P)), some (.t x), some (.t .non), none, none]) (s1 := st) (by simp -implicitDefEqProofs only [exs, ex, ev, evs, evo, evC, rb_ok, rt_ok, of_some, lift2_t, view_t, subD_tup, subD_lst, at0, at1, at2, at3, subTT, addT, tupD2, fin_rt, fin_nx, cast0, cast1, cast2, cast3, cast4, cast5, Int.reduceLT, Int.reduceLE, Int.reduceEq, Int.reduceNe, decide_not, map_some, take_all, cmp_lt, cmp_le, cmp_gt, cmp_ge, cmp_eq, cmp_ne, tru_bl, setTg_name, setTg_tup, setTg_lst, setTgs_nil, setTgs_cons, decide_eq_true_eq, Option.bind_some, Option.bind_none, bl_not, is_non, isnt_non, cmpIs_tup, cmpIsN_tup, if_tt, if_ff, tru_int, reduceCtorEq, decide_true, decide_false, Bool.not_true, Bool.not_false, mm1, mm2, mm3, mapM1, mapM2, lstD_c0, lstD_t0, lstD_t1, lstD_t2, lstD_t3, isL_last, isi_int_non, isi_bool_non, isi_tuple_non, isi_list_non, isi_dict_non, isi_lt_non, isi_int_bl, isi_bool_bl, isi_tuple_bl, isi_list_bl, isi_dict_bl, isi_lt_bl, isi_int_int, isi_bool_int, isi_tuple_int, isi_list_int, isi_dict_int, isi_lt_int, isi_int_str, isi_bool_str, isi_tuple_str, isi_list_str, isi_dict_str, isi_lt_str, isi_int_tup, isi_bool_tup, isi_tuple_tup, isi_list_tup, isi_dict_tup, isi_lt_tup, isi_int_lst, isi_bool_lst, isi_tuple_lst, isi_list_lst, isi_dict_lst, isi_lt_lst, isi_int_dk, isi_bool_dk, isi_tuple_dk, isi_list_dk, isi_dict_dk, isi_lt_dk, tup_ty, lenT_lst, lenT_tup, intT, Bool.or_true, Bool.true_or, Bool.or_false, Bool.false_or, Bool.and_true, Bool.true_and, Bool.and_false, Bool.false_and, Z.isNon, not_true_eq_false, not_false_eq_true, Bool.not_eq_true, Bool.false_eq_true, Option.map_some, List.length_cons, List.length_nil, Nat.reduceAdd, ↓reduceIte, List.map_cons, List.map_nil, Nat.reduceSub, List.cons_append, List.nil_append, List.append_nil, List.replicate, List.set_cons_succ, List.set_cons_zero, Nat.reduceLT, gE_0, gE_s, df_0_1, df_1_2, df_2_2, df_3_1, df_4_1, df_5_1, df_6_1, df_7_1, df_8_1, df_10_1, df_14_1, df_15_1, df_16_1, df_17_2, df_18_2, df_25_1, df_25_2, df_26_1, df_27_2, df_28_1, df_29_2, df_30_2, df_31_2, df_32_2, df_33_2, df_34_2, df_35_2, df_36_2, df_37_2, df_38_2, df_39_2, df_40_2, df_41_2, df_42_1, df_43_1, df_44_1, df_45_2, h k st]) ?_
  exact exs_rt (Q := fun o => o = Z.O.rt (.t (.bl false)) st) (d := .t (.bl false)) (s1 := st) (by simp -implicitDefEqProofs only [exs, ex, ev, evs, evo, evC, rb_ok, rt_ok, of_some, lift2_t, view_t, subD_tup, subD_lst, at0, at1, at2, at3, subTT, addT, tupD2, fin_rt, fin_nx, cast0, cast1, cast2, cast3, cast4, cast5, Int.reduceLT, Int.reduceLE, Int.reduceEq, Int.reduceNe, decide_not, map_some, take_all, cmp_lt, cmp_le, cmp_gt, cmp_ge, cmp_eq, cmp_ne, tru_bl, setTg_name, setTg_tup, setTg_lst, setTgs_nil, setTgs_cons, decide_eq_true_eq, Option.bind_some, Option.bind_none, bl_not, is_non, isnt_non, cmpIs_tup, cmpIsN_tup, if_tt, if_ff, tru_int, reduceCtorEq, decide_true, decide_false, Bool.not_true, Bool.not_false, mm1, mm2, mm3, mapM1, mapM2, lstD_c0, lstD_t0, lstD_t1, lstD_t2, lstD_t3, isL_last, isi_int_non, isi_bool_non, isi_tuple_non, isi_list_non, isi_dict_non, isi_lt_non, isi_int_bl, isi_bool_bl, isi_tuple_bl, isi_list_bl, isi_dict_bl, isi_lt_bl, isi_int_int, isi_bool_int, isi_tuple_int, isi_list_int, isi_dict_int, isi_lt_int, isi_int_str, isi_bool_str, isi_tuple_str, isi_list_str, isi_dict_str, isi_lt_str, isi_int_tup, isi_bool_tup, isi_tuple_tup, isi_list_tup, isi_dict_tup, isi_lt_tup, isi_int_lst, isi_bool_lst, isi_tuple_lst, isi_list_lst, isi_dict_lst, isi_lt_lst, isi_int_dk, isi_bool_dk, isi_tuple_dk, isi_list_dk, isi_dict_dk, isi_lt_dk, tup_ty, lenT_lst, lenT_tup, intT, Bool.or_true, Bool.true_or, Bool.or_false, Bool.false_or, Bool.and_true, Bool.true_and, Bool.and_false, Bool.false_and, Z.isNon, not_true_eq_false, not_false_eq_true, Bool.not_eq_true, Bool.false_eq_true, Option.map_some, List.length_cons, List.length_nil, Nat.reduceAdd, ↓reduceIte, List.map_cons, List.map_nil, Nat.reduceSub, List.cons_append, List.nil_append, List.append_nil, List.replicate, List.set_cons_succ, List.set_cons_zero, Nat.reduceLT, gE_0, gE_s, df_0_1, df_1_2, df_2_2, df_3_1, df_4_1, df_5_1, df_6_1, df_7_1, df_8_1, df_10_1, df_14_1, df_15_1, df_16_1, df_17_2, df_18_2, df_25_1, df_25_2, df_26_1, df_27_2, df_28_1, df_29_2, df_30_2, df_31_2, df_32_2, df_33_2, df_34_2, df_35_2, df_36_2, df_37_2, df_38_2, df_39_2, df_40_2, df_41_2, df_42_1, df_43_1, df_44_1, df_45_2]) rfl
theorem r_isstay (k : Nat) {x : T} {p : P2} (P : List P2) (st : S) (h : Frs x p) (hP : ∀ s ∈ P, Shr s) (hl : P.length ≤ 8) (h1 : Bd 200 (Rw9.low p).1) (h2 : Bd 200 (Rw9.low p).2) :
    callN lib.ft lib.g0 (k + 5) 27 [.t (row P), .t x] st = .ok (.t (.bl (isv P p))) st := by
  by_cases c : p.2 < 1 ∨ (Rw9.low p).1 < 0 ∨ (Rw9.low p).2 < (Rw9.low p).1
  · have hs : shar p = .non := by
      unfold shar
      by_cases c1 : p.2 < 1
      · rw [if_pos c1]
      · rw [if_neg c1]
        by_cases c2 : (Rw9.low p).1 < 0
        · rw [if_pos c2]
        · rw [if_neg c2, if_pos (by omega)]
    have hv : isv P p = false := by
      unfold isv Rw9.pIs'
      by_cases c1 : p.2 < 1
      · rw [if_pos c1]
      · rw [if_neg c1, if_neg (by omega)]
    rw [hv]
    exact r_isstay_no k P st fun k st => by rw [r_shar k st h, hs]
  · have hs : shar p = fr (Rw9.low p) := by
      unfold shar
      rw [if_neg (by omega), if_neg (by omega), if_neg (by omega)]
    have hv : isv P p = Rw9.pIs P (Rw9.low p) := by
      unfold isv Rw9.pIs'
      rw [if_neg (by omega), if_pos (by omega)]
    rw [hv]
    have hsh : ∀ st, callN lib.ft lib.g0 (k + 4) 7 [.t x] st = .ok (.t (fr (Rw9.low p))) st := fun st => by rw [r_shar k st h, hs]
    clear hv hs c
    generalize Rw9.low p = q at *
    rw [callN_succ (F := F27) rfl]; simp -implicitDefEqProofs only [callF, F27, List.length_cons, List.length_nil, Nat.reduceAdd, ↓reduceIte, List.map_cons, List.map_nil, Nat.reduceSub, List.cons_append, List.nil_append, List.append_nil, List.replicate, List.set_cons_succ, List.set_cons_zero, Nat.reduceLT, gE_0, gE_s]
    refine fin_eq (o' := .rt (.t (.bl (Rw9.pIs P q))) st) ?_ (by rw [fin_rt rfl, take_all])
    refine exs_nx (Q := fun o => o = Z.O.rt (.t (.bl (Rw9.pIs P q))) st) (σ1 := [some (.t (row P)), some (.t x), some (.t (fr q)), none, none]) (s1 := st) (by simp -implicitDefEqProofs only [exs, ex, ev, evs, evo, evC, rb_ok, rt_ok, of_some, lift2_t, view_t, subD_tup, subD_lst, at0, at1, at2, at3, subTT, addT, tupD2, fin_rt, fin_nx, cast0, cast1, cast2, cast3, cast4, cast5, Int.reduceLT, Int.reduceLE, Int.reduceEq, Int.reduceNe, decide_not, map_some, take_all, cmp_lt, cmp_le, cmp_gt, cmp_ge, cmp_eq, cmp_ne, tru_bl, setTg_name, setTg_tup, setTg_lst, setTgs_nil, setTgs_cons, decide_eq_true_eq, Option.bind_some, Option.bind_none, bl_not, is_non, isnt_non, cmpIs_tup, cmpIsN_tup, if_tt, if_ff, tru_int, reduceCtorEq, decide_true, decide_false, Bool.not_true, Bool.not_false, mm1, mm2, mm3, mapM1, mapM2, lstD_c0, lstD_t0, lstD_t1, lstD_t2, lstD_t3, isL_last, isi_int_non, isi_bool_non, isi_tuple_non, isi_list_non, isi_dict_non, isi_lt_non, isi_int_bl, isi_bool_bl, isi_tuple_bl, isi_list_bl, isi_dict_bl, isi_lt_bl, isi_int_int, isi_bool_int, isi_tuple_int, isi_list_int, isi_dict_int, isi_lt_int, isi_int_str, isi_bool_str, isi_tuple_str, isi_list_str, isi_dict_str, isi_lt_str, isi_int_tup, isi_bool_tup, isi_tuple_tup, isi_list_tup, isi_dict_tup, isi_lt_tup, isi_int_lst, isi_bool_lst, isi_tuple_lst, isi_list_lst, isi_dict_lst, isi_lt_lst, isi_int_dk, isi_bool_dk, isi_tuple_dk, isi_list_dk, isi_dict_dk, isi_lt_dk, tup_ty, lenT_lst, lenT_tup, intT, Bool.or_true, Bool.true_or, Bool.or_false, Bool.false_or, Bool.and_true, Bool.true_and, Bool.and_false, Bool.false_and, Z.isNon, not_true_eq_false, not_false_eq_true, Bool.not_eq_true, Bool.false_eq_true, Option.map_some, List.length_cons, List.length_nil, Nat.reduceAdd, ↓reduceIte, List.map_cons, List.map_nil, Nat.reduceSub, List.cons_append, List.nil_append, List.append_nil, List.replicate, List.set_cons_succ, List.set_cons_zero, Nat.reduceLT, gE_0, gE_s, df_0_1, df_1_2, df_2_2, df_3_1, df_4_1, df_5_1, df_6_1, df_7_1, df_8_1, df_10_1, df_14_1, df_15_1, df_16_1, df_17_2, df_18_2, df_25_1, df_25_2, df_26_1, df_27_2, df_28_1, df_29_2, df_30_2, df_31_2, df_32_2, df_33_2, df_34_2, df_35_2, df_36_2, df_37_2, df_38_2, df_39_2, df_40_2, df_41_2, df_42_1, df_43_1, df_44_1, df_45_2, hsh st]) ?_
    by_cases c0 : q.1 = 0
    · have e : Rw9.pIs P q = false := by
        unfold Rw9.pIs
        rw [if_pos c0]
      rw [e]
      exact exs_rt (Q := fun o => o = Z.O.rt (.t (.bl false)) st) (d := .t (.bl false)) (s1 := st) (by simp -implicitDefEqProofs only [exs, ex, ev, evs, evo, evC, rb_ok, rt_ok, of_some, lift2_t, view_t, subD_tup, subD_lst, at0, at1, at2, at3, subTT, addT, tupD2, fin_rt, fin_nx, cast0, cast1, cast2, cast3, cast4, cast5, Int.reduceLT, Int.reduceLE, Int.reduceEq, Int.reduceNe, decide_not, map_some, take_all, cmp_lt, cmp_le, cmp_gt, cmp_ge, cmp_eq, cmp_ne, tru_bl, setTg_name, setTg_tup, setTg_lst, setTgs_nil, setTgs_cons, decide_eq_true_eq, Option.bind_some, Option.bind_none, bl_not, is_non, isnt_non, cmpIs_tup, cmpIsN_tup, if_tt, if_ff, tru_int, reduceCtorEq, decide_true, decide_false, Bool.not_true, Bool.not_false, mm1, mm2, mm3, mapM1, mapM2, lstD_c0, lstD_t0, lstD_t1, lstD_t2, lstD_t3, isL_last, isi_int_non, isi_bool_non, isi_tuple_non, isi_list_non, isi_dict_non, isi_lt_non, isi_int_bl, isi_bool_bl, isi_tuple_bl, isi_list_bl, isi_dict_bl, isi_lt_bl, isi_int_int, isi_bool_int, isi_tuple_int, isi_list_int, isi_dict_int, isi_lt_int, isi_int_str, isi_bool_str, isi_tuple_str, isi_list_str, isi_dict_str, isi_lt_str, isi_int_tup, isi_bool_tup, isi_tuple_tup, isi_list_tup, isi_dict_tup, isi_lt_tup, isi_int_lst, isi_bool_lst, isi_tuple_lst, isi_list_lst, isi_dict_lst, isi_lt_lst, isi_int_dk, isi_bool_dk, isi_tuple_dk, isi_list_dk, isi_dict_dk, isi_lt_dk, tup_ty, lenT_lst, lenT_tup, intT, Bool.or_true, Bool.true_or, Bool.or_false, Bool.false_or, Bool.and_true, Bool.true_and, Bool.and_false, Bool.false_and, Z.isNon, not_true_eq_false, not_false_eq_true, Bool.not_eq_true, Bool.false_eq_true, Option.map_some, List.length_cons, List.length_nil, Nat.reduceAdd, ↓reduceIte, List.map_cons, List.map_nil, Nat.reduceSub, List.cons_append, List.nil_append, List.append_nil, List.replicate, List.set_cons_succ, List.set_cons_zero, Nat.reduceLT, gE_0, gE_s, df_0_1, df_1_2, df_2_2, df_3_1, df_4_1, df_5_1, df_6_1, df_7_1, df_8_1, df_10_1, df_14_1, df_15_1, df_16_1, df_17_2, df_18_2, df_25_1, df_25_2, df_26_1, df_27_2, df_28_1, df_29_2, df_30_2, df_31_2, df_32_2, df_33_2, df_34_2, df_35_2, df_36_2, df_37_2, df_38_2, df_39_2, df_40_2, df_41_2, df_42_1, df_43_1, df_44_1, df_45_2, c0]) rfl
    · refine exs_nx (Q := fun o => o = Z.O.rt (.t (.bl (Rw9.pIs P q))) st) (σ1 := [some (.t (row P)), some (.t x), some (.t (fr q)), none, none]) (s1 := st) (by simp -implicitDefEqProofs only [exs, ex, ev, evs, evo, evC, rb_ok, rt_ok, of_some, lift2_t, view_t, subD_tup, subD_lst, at0, at1, at2, at3, subTT, addT, tupD2, fin_rt, fin_nx, cast0, cast1, cast2, cast3, cast4, cast5, Int.reduceLT, Int.reduceLE, Int.reduceEq, Int.reduceNe, decide_not, map_some, take_all, cmp_lt, cmp_le, cmp_gt, cmp_ge, cmp_eq, cmp_ne, tru_bl, setTg_name, setTg_tup, setTg_lst, setTgs_nil, setTgs_cons, decide_eq_true_eq, Option.bind_some, Option.bind_none, bl_not, is_non, isnt_non, cmpIs_tup, cmpIsN_tup, if_tt, if_ff, tru_int, reduceCtorEq, decide_true, decide_false, Bool.not_true, Bool.not_false, mm1, mm2, mm3, mapM1, mapM2, lstD_c0, lstD_t0, lstD_t1, lstD_t2, lstD_t3, isL_last, isi_int_non, isi_bool_non, isi_tuple_non, isi_list_non, isi_dict_non, isi_lt_non, isi_int_bl, isi_bool_bl, isi_tuple_bl, isi_list_bl, isi_dict_bl, isi_lt_bl, isi_int_int, isi_bool_int, isi_tuple_int, isi_list_int, isi_dict_int, isi_lt_int, isi_int_str, isi_bool_str, isi_tuple_str, isi_list_str, isi_dict_str, isi_lt_str, isi_int_tup, isi_bool_tup, isi_tuple_tup, isi_list_tup, isi_dict_tup, isi_lt_tup, isi_int_lst, isi_bool_lst, isi_tuple_lst, isi_list_lst, isi_dict_lst, isi_lt_lst, isi_int_dk, isi_bool_dk, isi_tuple_dk, isi_list_dk, isi_dict_dk, isi_lt_dk, tup_ty, lenT_lst, lenT_tup, intT, Bool.or_true, Bool.true_or, Bool.or_false, Bool.false_or, Bool.and_true, Bool.true_and, Bool.and_false, Bool.false_and, Z.isNon, not_true_eq_false, not_false_eq_true, Bool.not_eq_true, Bool.false_eq_true, Option.map_some, List.length_cons, List.length_nil, Nat.reduceAdd, ↓reduceIte, List.map_cons, List.map_nil, Nat.reduceSub, List.cons_append, List.nil_append, List.append_nil, List.replicate, List.set_cons_succ, List.set_cons_zero, Nat.reduceLT, gE_0, gE_s, df_0_1, df_1_2, df_2_2, df_3_1, df_4_1, df_5_1, df_6_1, df_7_1, df_8_1, df_10_1, df_14_1, df_15_1, df_16_1, df_17_2, df_18_2, df_25_1, df_25_2, df_26_1, df_27_2, df_28_1, df_29_2, df_30_2, df_31_2, df_32_2, df_33_2, df_34_2, df_35_2, df_36_2, df_37_2, df_38_2, df_39_2, df_40_2, df_41_2, df_42_1, df_43_1, df_44_1, df_45_2, c0]) ?_
      refine exs_nx (Q := fun o => o = Z.O.rt (.t (.bl (Rw9.pIs P q))) st) (σ1 := [some (.t (row P)), some (.t x), some (.t (fr q)), some (.t (fr q)), none]) (s1 := st) (by simp -implicitDefEqProofs only [exs, ex, ev, evs, evo, evC, rb_ok, rt_ok, of_some, lift2_t, view_t, subD_tup, subD_lst, at0, at1, at2, at3, subTT, addT, tupD2, fin_rt, fin_nx, cast0, cast1, cast2, cast3, cast4, cast5, Int.reduceLT, Int.reduceLE, Int.reduceEq, Int.reduceNe, decide_not, map_some, take_all, cmp_lt, cmp_le, cmp_gt, cmp_ge, cmp_eq, cmp_ne, tru_bl, setTg_name, setTg_tup, setTg_lst, setTgs_nil, setTgs_cons, decide_eq_true_eq, Option.bind_some, Option.bind_none, bl_not, is_non, isnt_non, cmpIs_tup, cmpIsN_tup, if_tt, if_ff, tru_int, reduceCtorEq, decide_true, decide_false, Bool.not_true, Bool.not_false, mm1, mm2, mm3, mapM1, mapM2, lstD_c0, lstD_t0, lstD_t1, lstD_t2, lstD_t3, isL_last, isi_int_non, isi_bool_non, isi_tuple_non, isi_list_non, isi_dict_non, isi_lt_non, isi_int_bl, isi_bool_bl, isi_tuple_bl, isi_list_bl, isi_dict_bl, isi_lt_bl, isi_int_int, isi_bool_int, isi_tuple_int, isi_list_int, isi_dict_int, isi_lt_int, isi_int_str, isi_bool_str, isi_tuple_str, isi_list_str, isi_dict_str, isi_lt_str, isi_int_tup, isi_bool_tup, isi_tuple_tup, isi_list_tup, isi_dict_tup, isi_lt_tup, isi_int_lst, isi_bool_lst, isi_tuple_lst, isi_list_lst, isi_dict_lst, isi_lt_lst, isi_int_dk, isi_bool_dk, isi_tuple_dk, isi_list_dk, isi_dict_dk, isi_lt_dk, tup_ty, lenT_lst, lenT_tup, intT, Bool.or_true, Bool.true_or, Bool.or_false, Bool.false_or, Bool.and_true, Bool.true_and, Bool.and_false, Bool.false_and, Z.isNon, not_true_eq_false, not_false_eq_true, Bool.not_eq_true, Bool.false_eq_true, Option.map_some, List.length_cons, List.length_nil, Nat.reduceAdd, ↓reduceIte, List.map_cons, List.map_nil, Nat.reduceSub, List.cons_append, List.nil_append, List.append_nil, List.replicate, List.set_cons_succ, List.set_cons_zero, Nat.reduceLT, gE_0, gE_s, df_0_1, df_1_2, df_2_2, df_3_1, df_4_1, df_5_1, df_6_1, df_7_1, df_8_1, df_10_1, df_14_1, df_15_1, df_16_1, df_17_2, df_18_2, df_25_1, df_25_2, df_26_1, df_27_2, df_28_1, df_29_2, df_30_2, df_31_2, df_32_2, df_33_2, df_34_2, df_35_2, df_36_2, df_37_2, df_38_2, df_39_2, df_40_2, df_41_2, df_42_1, df_43_1, df_44_1, df_45_2]) ?_
      refine exs_for (Q := fun o => o = Z.O.rt (.t (.bl (Rw9.pIs P q))) st) (ds := (P.map fr).map D.t) (u := none) (s1 := st)
        (fun i σ s => s = st ∧ ∃ a, σ = [some (.t (row P)), some (.t x), some (.t (fr q)), some (.t (fr (Rw9.fo (P.take i) q))), a] ∧ Rw9.go P q = Rw9.go (P.drop i) (Rw9.fo (P.take i) q))
        (by simp -implicitDefEqProofs only [exs, ex, ev, evs, evo, evC, rb_ok, rt_ok, of_some, lift2_t, view_t, subD_tup, subD_lst, at0, at1, at2, at3, subTT, addT, tupD2, fin_rt, fin_nx, cast0, cast1, cast2, cast3, cast4, cast5, Int.reduceLT, Int.reduceLE, Int.reduceEq, Int.reduceNe, decide_not, map_some, take_all, cmp_lt, cmp_le, cmp_gt, cmp_ge, cmp_eq, cmp_ne, tru_bl, setTg_name, setTg_tup, setTg_lst, setTgs_nil, setTgs_cons, decide_eq_true_eq, Option.bind_some, Option.bind_none, bl_not, is_non, isnt_non, cmpIs_tup, cmpIsN_tup, if_tt, if_ff, tru_int, reduceCtorEq, decide_true, decide_false, Bool.not_true, Bool.not_false, mm1, mm2, mm3, mapM1, mapM2, lstD_c0, lstD_t0, lstD_t1, lstD_t2, lstD_t3, isL_last, isi_int_non, isi_bool_non, isi_tuple_non, isi_list_non, isi_dict_non, isi_lt_non, isi_int_bl, isi_bool_bl, isi_tuple_bl, isi_list_bl, isi_dict_bl, isi_lt_bl, isi_int_int, isi_bool_int, isi_tuple_int, isi_list_int, isi_dict_int, isi_lt_int, isi_int_str, isi_bool_str, isi_tuple_str, isi_list_str, isi_dict_str, isi_lt_str, isi_int_tup, isi_bool_tup, isi_tuple_tup, isi_list_tup, isi_dict_tup, isi_lt_tup, isi_int_lst, isi_bool_lst, isi_tuple_lst, isi_list_lst, isi_dict_lst, isi_lt_lst, isi_int_dk, isi_bool_dk, isi_tuple_dk, isi_list_dk, isi_dict_dk, isi_lt_dk, tup_ty, lenT_lst, lenT_tup, intT, Bool.or_true, Bool.true_or, Bool.or_false, Bool.false_or, Bool.and_true, Bool.true_and, Bool.and_false, Bool.false_and, Z.isNon, not_true_eq_false, not_false_eq_true, Bool.not_eq_true, Bool.false_eq_true, Option.map_some, List.length_cons, List.length_nil, Nat.reduceAdd, ↓reduceIte, List.map_cons, List.map_nil, Nat.reduceSub, List.cons_append, List.nil_append, List.append_nil, List.replicate, List.set_cons_succ, List.set_cons_zero, Nat.reduceLT, gE_0, gE_s, df_0_1, df_1_2, df_2_2, df_3_1, df_4_1, df_5_1, df_6_1, df_7_1, df_8_1, df_10_1, df_14_1, df_15_1, df_16_1, df_17_2, df_18_2, df_25_1, df_25_2, df_26_1, df_27_2, df_28_1, df_29_2, df_30_2, df_31_2, df_32_2, df_33_2, df_34_2, df_35_2, df_36_2, df_37_2, df_38_2, df_39_2, df_40_2, df_41_2, df_42_1, df_43_1, df_44_1, df_45_2, evI, att_row, walk_frs]) ⟨rfl, none, rfl, rfl⟩ ?_ ?_
      · rintro j d σ s hd ⟨rfl, a, rfl, hg⟩
        obtain ⟨s', rfl, hp⟩ := item_frs hd
        have hs' := hP s' (List.mem_of_getElem? hp)
        obtain ⟨hj, ej⟩ := List.getElem?_eq_some_iff.mp hp
        have eb := fo_take hp q
        have ed : P.drop j = s' :: P.drop (j + 1) := by rw [List.drop_eq_getElem_cons hj, ej]
        obtain ⟨y1, y2⟩ := bd_fo (P.take j) 200 q (fun z hz => hP z (List.mem_of_mem_take hz)) h1 h2
        have hlj : (P.take j).length ≤ 8 := by rw [List.length_take]; omega
        have hb := fun st => r_behind (k + 3) (Rw9.fo (P.take j) q) s' st (y1.mono (by omega)) (y2.mono (by omega)) (hs'.b1.mono (by decide)) (hs'.b2.mono (by decide))
        rw [ed] at hg
        have hg : Rw9.go P q = if (Rw9.beh (Rw9.fo (P.take j) q) s').1 ≤ 0 then none else Rw9.go (P.drop (j + 1)) (Rw9.beh (Rw9.fo (P.take j) q) s') := hg
        rw [← eb] at hg hb
        rw [turnX_nx (σ1 := [some (.t (row P)), some (.t x), some (.t (fr q)), some (.t (fr (Rw9.fo (P.take j) q))), some (.t (fr s'))]) rfl]
        clear y1 y2 eb
        generalize Rw9.fo (P.take j) q = y at *
        generalize Rw9.fo (P.take (j + 1)) q = y' at *
        by_cases c : y'.1 ≤ 0
        · rw [if_pos c] at hg
          have e : Rw9.pIs P q = false := by
            unfold Rw9.pIs
            rw [if_neg c0, hg]
          refine .inr ⟨.t (.bl false), s, ?_, by rw [e]; rfl⟩
          refine exs_nx (Q := fun o => o = Z.O.rt (.t (.bl false)) s) (σ1 := [some (.t (row P)), some (.t x), some (.t (fr q)), some (.t (fr y')), some (.t (fr s'))]) (s1 := s) (by simp -implicitDefEqProofs only [exs, ex, ev, evs, evo, evC, rb_ok, rt_ok, of_some, lift2_t, view_t, subD_tup, subD_lst, at0, at1, at2, at3, subTT, addT, tupD2, fin_rt, fin_nx, cast0, cast1, cast2, cast3, cast4, cast5, Int.reduceLT, Int.reduceLE, Int.reduceEq, Int.reduceNe, decide_not, map_some, take_all, cmp_lt, cmp_le, cmp_gt, cmp_ge, cmp_eq, cmp_ne, tru_bl, setTg_name, setTg_tup, setTg_lst, setTgs_nil, setTgs_cons, decide_eq_true_eq, Option.bind_some, Option.bind_none, bl_not, is_non, isnt_non, cmpIs_tup, cmpIsN_tup, if_tt, if_ff, tru_int, reduceCtorEq, decide_true, decide_false, Bool.not_true, Bool.not_false, mm1, mm2, mm3, mapM1, mapM2, lstD_c0, lstD_t0, lstD_t1, lstD_t2, lstD_t3, isL_last, isi_int_non, isi_bool_non, isi_tuple_non, isi_list_non, isi_dict_non, isi_lt_non, isi_int_bl, isi_bool_bl, isi_tuple_bl, isi_list_bl, isi_dict_bl, isi_lt_bl, isi_int_int, isi_bool_int, isi_tuple_int, isi_list_int, isi_dict_int, isi_lt_int, isi_int_str, isi_bool_str, isi_tuple_str, isi_list_str, isi_dict_str, isi_lt_str, isi_int_tup, isi_bool_tup, isi_tuple_tup, isi_list_tup, isi_dict_tup, isi_lt_tup, isi_int_lst, isi_bool_lst, isi_tuple_lst, isi_list_lst, isi_dict_lst, isi_lt_lst, isi_int_dk, isi_bool_dk, isi_tuple_dk, isi_list_dk, isi_dict_dk, isi_lt_dk, tup_ty, lenT_lst, lenT_tup, intT, Bool.or_true, Bool.true_or, Bool.or_false, Bool.false_or, Bool.and_true, Bool.true_and, Bool.and_false, Bool.false_and, Z.isNon, not_true_eq_false, not_false_eq_true, Bool.not_eq_true, Bool.false_eq_true, Option.map_some, List.length_cons, List.length_nil, Nat.reduceAdd, ↓reduceIte, List.map_cons, List.map_nil, Nat.reduceSub, List.cons_append, List.nil_append, List.append_nil, List.replicate, List.set_cons_succ, List.set_cons_zero, Nat.reduceLT, gE_0, gE_s, df_0_1, df_1_2, df_2_2, df_3_1, df_4_1, df_5_1, df_6_1, df_7_1, df_8_1, df_10_1, df_14_1, df_15_1, df_16_1, df_17_2, df_18_2, df_25_1, df_25_2, df_26_1, df_27_2, df_28_1, df_29_2, df_30_2, df_31_2, df_32_2, df_33_2, df_34_2, df_35_2, df_36_2, df_37_2, df_38_2, df_39_2, df_40_2, df_41_2, df_42_1, df_43_1, df_44_1, df_45_2, hb s]) ?_
          exact exs_rt (Q := fun o => o = Z.O.rt (.t (.bl false)) s) (d := .t (.bl false)) (s1 := s) (by simp -implicitDefEqProofs only [exs, ex, ev, evs, evo, evC, rb_ok, rt_ok, of_some, lift2_t, view_t, subD_tup, subD_lst, at0, at1, at2, at3, subTT, addT, tupD2, fin_rt, fin_nx, cast0, cast1, cast2, cast3, cast4, cast5, Int.reduceLT, Int.reduceLE, Int.reduceEq, Int.reduceNe, decide_not, map_some, take_all, cmp_lt, cmp_le, cmp_gt, cmp_ge, cmp_eq, cmp_ne, tru_bl, setTg_name, setTg_tup, setTg_lst, setTgs_nil, setTgs_cons, decide_eq_true_eq, Option.bind_some, Option.bind_none, bl_not, is_non, isnt_non, cmpIs_tup, cmpIsN_tup, if_tt, if_ff, tru_int, reduceCtorEq, decide_true, decide_false, Bool.not_true, Bool.not_false, mm1, mm2, mm3, mapM1, mapM2, lstD_c0, lstD_t0, lstD_t1, lstD_t2, lstD_t3, isL_last, isi_int_non, isi_bool_non, isi_tuple_non, isi_list_non, isi_dict_non, isi_lt_non, isi_int_bl, isi_bool_bl, isi_tuple_bl, isi_list_bl, isi_dict_bl, isi_lt_bl, isi_int_int, isi_bool_int, isi_tuple_int, isi_list_int, isi_dict_int, isi_lt_int, isi_int_str, isi_bool_str, isi_tuple_str, isi_list_str, isi_dict_str, isi_lt_str, isi_int_tup, isi_bool_tup, isi_tuple_tup, isi_list_tup, isi_dict_tup, isi_lt_tup, isi_int_lst, isi_bool_lst, isi_tuple_lst, isi_list_lst, isi_dict_lst, isi_lt_lst, isi_int_dk, isi_bool_dk, isi_tuple_dk, isi_list_dk, isi_dict_dk, isi_lt_dk, tup_ty, lenT_lst, lenT_tup, intT, Bool.or_true, Bool.true_or, Bool.or_false, Bool.false_or, Bool.and_true, Bool.true_and, Bool.and_false, Bool.false_and, Z.isNon, not_true_eq_false, not_false_eq_true, Bool.not_eq_true, Bool.false_eq_true, Option.map_some, List.length_cons, List.length_nil, Nat.reduceAdd, ↓reduceIte, List.map_cons, List.map_nil, Nat.reduceSub, List.cons_append, List.nil_append, List.append_nil, List.replicate, List.set_cons_succ, List.set_cons_zero, Nat.reduceLT, gE_0, gE_s, df_0_1, df_1_2, df_2_2, df_3_1, df_4_1, df_5_1, df_6_1, df_7_1, df_8_1, df_10_1, df_14_1, df_15_1, df_16_1, df_17_2, df_18_2, df_25_1, df_25_2, df_26_1, df_27_2, df_28_1, df_29_2, df_30_2, df_31_2, df_32_2, df_33_2, df_34_2, df_35_2, df_36_2, df_37_2, df_38_2, df_39_2, df_40_2, df_41_2, df_42_1, df_43_1, df_44_1, df_45_2, c]) rfl
        · rw [if_neg c] at hg
          refine .inl ⟨[some (.t (row P)), some (.t x), some (.t (fr q)), some (.t (fr y')), some (.t (fr s'))], s, .inl ?_, rfl, _, rfl, hg⟩
          refine exs_nx (Q := fun o => o = Z.O.nx [some (.t (row P)), some (.t x), some (.t (fr q)), some (.t (fr y')), some (.t (fr s'))] s) (σ1 := [some (.t (row P)), some (.t x), some (.t (fr q)), some (.t (fr y')), some (.t (fr s'))]) (s1 := s) (by simp -implicitDefEqProofs only [exs, ex, ev, evs, evo, evC, rb_ok, rt_ok, of_some, lift2_t, view_t, subD_tup, subD_lst, at0, at1, at2, at3, subTT, addT, tupD2, fin_rt, fin_nx, cast0, cast1, cast2, cast3, cast4, cast5, Int.reduceLT, Int.reduceLE, Int.reduceEq, Int.reduceNe, decide_not, map_some, take_all, cmp_lt, cmp_le, cmp_gt, cmp_ge, cmp_eq, cmp_ne, tru_bl, setTg_name, setTg_tup, setTg_lst, setTgs_nil, setTgs_cons, decide_eq_true_eq, Option.bind_some, Option.bind_none, bl_not, is_non, isnt_non, cmpIs_tup, cmpIsN_tup, if_tt, if_ff, tru_int, reduceCtorEq, decide_true, decide_false, Bool.not_true, Bool.not_false, mm1, mm2, mm3, mapM1, mapM2, lstD_c0, lstD_t0, lstD_t1, lstD_t2, lstD_t3, isL_last, isi_int_non, isi_bool_non, isi_tuple_non, isi_list_non, isi_dict_non, isi_lt_non, isi_int_bl, isi_bool_bl, isi_tuple_bl, isi_list_bl, isi_dict_bl, isi_lt_bl, isi_int_int, isi_bool_int, isi_tuple_int, isi_list_int, isi_dict_int, isi_lt_int, isi_int_str, isi_bool_str, isi_tuple_str, isi_list_str, isi_dict_str, isi_lt_str, isi_int_tup, isi_bool_tup, isi_tuple_tup, isi_list_tup, isi_dict_tup, isi_lt_tup, isi_int_lst, isi_bool_lst, isi_tuple_lst, isi_list_lst, isi_dict_lst, isi_lt_lst, isi_int_dk, isi_bool_dk, isi_tuple_dk, isi_list_dk, isi_dict_dk, isi_lt_dk, tup_ty, lenT_lst, lenT_tup, intT, Bool.or_true, Bool.true_or, Bool.or_false, Bool.false_or, Bool.and_true, Bool.true_and, Bool.and_false, Bool.false_and, Z.isNon, not_true_eq_false, not_false_eq_true, Bool.not_eq_true, Bool.false_eq_true, Option.map_some, List.length_cons, List.length_nil, Nat.reduceAdd, ↓reduceIte, List.map_cons, List.map_nil, Nat.reduceSub, List.cons_append, List.nil_append, List.append_nil, List.replicate, List.set_cons_succ, List.set_cons_zero, Nat.reduceLT, gE_0, gE_s, df_0_1, df_1_2, df_2_2, df_3_1, df_4_1, df_5_1, df_6_1, df_7_1, df_8_1, df_10_1, df_14_1, df_15_1, df_16_1, df_17_2, df_18_2, df_25_1, df_25_2, df_26_1, df_27_2, df_28_1, df_29_2, df_30_2, df_31_2, df_32_2, df_33_2, df_34_2, df_35_2, df_36_2, df_37_2, df_38_2, df_39_2, df_40_2, df_41_2, df_42_1, df_43_1, df_44_1, df_45_2, hb s]) ?_
          exact exs_nx (Q := fun o => o = Z.O.nx [some (.t (row P)), some (.t x), some (.t (fr q)), some (.t (fr y')), some (.t (fr s'))] s) (σ1 := [some (.t (row P)), some (.t x), some (.t (fr q)), some (.t (fr y')), some (.t (fr s'))]) (s1 := s) (by simp -implicitDefEqProofs only [exs, ex, ev, evs, evo, evC, rb_ok, rt_ok, of_some, lift2_t, view_t, subD_tup, subD_lst, at0, at1, at2, at3, subTT, addT, tupD2, fin_rt, fin_nx, cast0, cast1, cast2, cast3, cast4, cast5, Int.reduceLT, Int.reduceLE, Int.reduceEq, Int.reduceNe, decide_not, map_some, take_all, cmp_lt, cmp_le, cmp_gt, cmp_ge, cmp_eq, cmp_ne, tru_bl, setTg_name, setTg_tup, setTg_lst, setTgs_nil, setTgs_cons, decide_eq_true_eq, Option.bind_some, Option.bind_none, bl_not, is_non, isnt_non, cmpIs_tup, cmpIsN_tup, if_tt, if_ff, tru_int, reduceCtorEq, decide_true, decide_false, Bool.not_true, Bool.not_false, mm1, mm2, mm3, mapM1, mapM2, lstD_c0, lstD_t0, lstD_t1, lstD_t2, lstD_t3, isL_last, isi_int_non, isi_bool_non, isi_tuple_non, isi_list_non, isi_dict_non, isi_lt_non, isi_int_bl, isi_bool_bl, isi_tuple_bl, isi_list_bl, isi_dict_bl, isi_lt_bl, isi_int_int, isi_bool_int, isi_tuple_int, isi_list_int, isi_dict_int, isi_lt_int, isi_int_str, isi_bool_str, isi_tuple_str, isi_list_str, isi_dict_str, isi_lt_str, isi_int_tup, isi_bool_tup, isi_tuple_tup, isi_list_tup, isi_dict_tup, isi_lt_tup, isi_int_lst, isi_bool_lst, isi_tuple_lst, isi_list_lst, isi_dict_lst, isi_lt_lst, isi_int_dk, isi_bool_dk, isi_tuple_dk, isi_list_dk, isi_dict_dk, isi_lt_dk, tup_ty, lenT_lst, lenT_tup, intT, Bool.or_true, Bool.true_or, Bool.or_false, Bool.false_or, Bool.and_true, Bool.true_and, Bool.and_false, Bool.false_and, Z.isNon, not_true_eq_false, not_false_eq_true, Bool.not_eq_true, Bool.false_eq_true, Option.map_some, List.length_cons, List.length_nil, Nat.reduceAdd, ↓reduceIte, List.map_cons, List.map_nil, Nat.reduceSub, List.cons_append, List.nil_append, List.append_nil, List.replicate, List.set_cons_succ, List.set_cons_zero, Nat.reduceLT, gE_0, gE_s, df_0_1, df_1_2, df_2_2, df_3_1, df_4_1, df_5_1, df_6_1, df_7_1, df_8_1, df_10_1, df_14_1, df_15_1, df_16_1, df_17_2, df_18_2, df_25_1, df_25_2, df_26_1, df_27_2, df_28_1, df_29_2, df_30_2, df_31_2, df_32_2, df_33_2, df_34_2, df_35_2, df_36_2, df_37_2, df_38_2, df_39_2, df_40_2, df_41_2, df_42_1, df_43_1, df_44_1, df_45_2, c]) rfl
      · rintro σ s ⟨rfl, a, rfl, hg⟩
        rw [List.length_map, List.length_map, List.take_length, List.drop_length] at *
        have hg : Rw9.go P q = some (Rw9.fo P q) := hg
        obtain ⟨y1, y2⟩ := bd_fo P 200 q hP h1 h2
        have e : Rw9.pIs P q = !decide ((Rw9.fo P q).1 * q.2 < q.1 * (Rw9.fo P q).2) := by
          unfold Rw9.pIs
          rw [if_neg c0, hg]
        have ha := fun st => r_above (k + 3) q (Rw9.fo P q) st (h1.mono (by decide)) (h2.mono (by decide)) (y1.mono (by omega)) (y2.mono (by omega))
        rw [e]
        show exs _ _ _ (unlock _ none) = _
        simp only [unlock]
        generalize Rw9.fo P q = y at *
        exact exs_rt (Q := fun o => o = Z.O.rt (.t (.bl (!decide (y.1 * q.2 < q.1 * y.2)))) s) (d := .t (.bl (!decide (y.1 * q.2 < q.1 * y.2)))) (s1 := s) (by simp -implicitDefEqProofs only [exs, ex, ev, evs, evo, evC, rb_ok, rt_ok, of_some, lift2_t, view_t, subD_tup, subD_lst, at0, at1, at2, at3, subTT, addT, tupD2, fin_rt, fin_nx, cast0, cast1, cast2, cast3, cast4, cast5, Int.reduceLT, Int.reduceLE, Int.reduceEq, Int.reduceNe, decide_not, map_some, take_all, cmp_lt, cmp_le, cmp_gt, cmp_ge, cmp_eq, cmp_ne, tru_bl, setTg_name, setTg_tup, setTg_lst, setTgs_nil, setTgs_cons, decide_eq_true_eq, Option.bind_some, Option.bind_none, bl_not, is_non, isnt_non, cmpIs_tup, cmpIsN_tup, if_tt, if_ff, tru_int, reduceCtorEq, decide_true, decide_false, Bool.not_true, Bool.not_false, mm1, mm2, mm3, mapM1, mapM2, lstD_c0, lstD_t0, lstD_t1, lstD_t2, lstD_t3, isL_last, isi_int_non, isi_bool_non, isi_tuple_non, isi_list_non, isi_dict_non, isi_lt_non, isi_int_bl, isi_bool_bl, isi_tuple_bl, isi_list_bl, isi_dict_bl, isi_lt_bl, isi_int_int, isi_bool_int, isi_tuple_int, isi_list_int, isi_dict_int, isi_lt_int, isi_int_str, isi_bool_str, isi_tuple_str, isi_list_str, isi_dict_str, isi_lt_str, isi_int_tup, isi_bool_tup, isi_tuple_tup, isi_list_tup, isi_dict_tup, isi_lt_tup, isi_int_lst, isi_bool_lst, isi_tuple_lst, isi_list_lst, isi_dict_lst, isi_lt_lst, isi_int_dk, isi_bool_dk, isi_tuple_dk, isi_list_dk, isi_dict_dk, isi_lt_dk, tup_ty, lenT_lst, lenT_tup, intT, Bool.or_true, Bool.true_or, Bool.or_false, Bool.false_or, Bool.and_true, Bool.true_and, Bool.and_false, Bool.false_and, Z.isNon, not_true_eq_false, not_false_eq_true, Bool.not_eq_true, Bool.false_eq_true, Option.map_some, List.length_cons, List.length_nil, Nat.reduceAdd, ↓reduceIte, List.map_cons, List.map_nil, Nat.reduceSub, List.cons_append, List.nil_append, List.append_nil, List.replicate, List.set_cons_succ, List.set_cons_zero, Nat.reduceLT, gE_0, gE_s, df_0_1, df_1_2, df_2_2, df_3_1, df_4_1, df_5_1, df_6_1, df_7_1, df_8_1, df_10_1, df_14_1, df_15_1, df_16_1, df_17_2, df_18_2, df_25_1, df_25_2, df_26_1, df_27_2, df_28_1, df_29_2, df_30_2, df_31_2, df_32_2, df_33_2, df_34_2, df_35_2, df_36_2, df_37_2, df_38_2, df_39_2, df_40_2, df_41_2, df_42_1, df_43_1, df_44_1, df_45_2, ha s]) rfl
end Lw
end Z
end
section
set_option Elab.async false
set_option linter.all false
set_option maxRecDepth 100000
set_option maxHeartbeats 4000000
namespace Z
namespace Lw

open PySem L2 Zr
def oT : Option P2 → T
  | none => .non
  | some x => fr x
theorem bd_low {k : Nat} {p : P2} (h1 : Bd k p.1) (h2 : Bd k p.2) : Bd k (Rw9.low p).1 ∧ Bd k (Rw9.low p).2 :=
  ⟨Nat.lt_of_le_of_lt (Int.natAbs_ediv_le_natAbs ..) h1, Nat.lt_of_le_of_lt (Int.natAbs_ediv_le_natAbs ..) h2⟩
theorem r_stay (k : Nat) (P : List P2) (st : S) (hP : ∀ s ∈ P, Shr s) (hl : P.length ≤ 8) : callN lib.ft lib.g0 (k + 6) 26 [.t (row P)] st = .ok (.t (oT (Rw9.pStay P))) st := by
  rw [callN_succ (F := F26) rfl]; simp -implicitDefEqProofs only [callF, F26, List.length_cons, List.length_nil, Nat.reduceAdd, ↓reduceIte, List.map_cons, List.map_nil, Nat.reduceSub, List.cons_append, List.nil_append, List.append_nil, List.replicate, List.set_cons_succ, List.set_cons_zero, Nat.reduceLT, gE_0, gE_s]
  refine fin_eq (o' := .rt (.t (oT (Rw9.pStay P))) st) ?_ (by rw [fin_rt rfl, take_all])
  refine exs_nx (Q := fun o => o = Z.O.rt (.t (oT (Rw9.pStay P))) st) (σ1 := [some (.t (row P)), none, none, some (.t (fr (1, 0))), some (.t (fr (0, 1)))]) (s1 := st) (by simp -implicitDefEqProofs only [exs, ex, ev, evs, evo, evC, rb_ok, rt_ok, of_some, lift2_t, view_t, subD_tup, subD_lst, at0, at1, at2, at3, subTT, addT, tupD2, fin_rt, fin_nx, cast0, cast1, cast2, cast3, cast4, cast5, Int.reduceLT, Int.reduceLE, Int.reduceEq, Int.reduceNe, decide_not, map_some, take_all, cmp_lt, cmp_le, cmp_gt, cmp_ge, cmp_eq, cmp_ne, tru_bl, setTg_name, setTg_tup, setTg_lst, setTgs_nil, setTgs_cons, decide_eq_true_eq, Option.bind_some, Option.bind_none, bl_not, is_non, isnt_non, cmpIs_tup, cmpIsN_tup, if_tt, if_ff, tru_int, reduceCtorEq, decide_true, decide_false, Bool.not_true, Bool.not_false, mm1, mm2, mm3, mapM1, mapM2, lstD_c0, lstD_t0, lstD_t1, lstD_t2, lstD_t3, isL_last, isi_int_non, isi_bool_non, isi_tuple_non, isi_list_non, isi_dict_non, isi_lt_non, isi_int_bl, isi_bool_bl, isi_tuple_bl, isi_list_bl, isi_dict_bl, isi_lt_bl, isi_int_int, isi_bool_int, isi_tuple_int, isi_list_int, isi_dict_int, isi_lt_int, isi_int_str, isi_bool_str, isi_tuple_str, isi_list_str, isi_dict_str, isi_lt_str, isi_int_tup, isi_bool_tup, isi_tuple_tup, isi_list_tup, isi_dict_tup, isi_lt_tup, isi_int_lst, isi_bool_lst, isi_tuple_lst, isi_list_lst, isi_dict_lst, isi_lt_lst, isi_int_dk, isi_bool_dk, isi_tuple_dk, isi_list_dk, isi_dict_dk, isi_lt_dk, tup_ty, lenT_lst, lenT_tup, intT, Bool.or_true, Bool.true_or, Bool.or_false, Bool.false_or, Bool.and_true, Bool.true_and, Bool.and_false, Bool.false_and, Z.isNon, not_true_eq_false, not_false_eq_true, Bool.not_eq_true, Bool.false_eq_true, Option.map_some, List.length_cons, List.length_nil, Nat.reduceAdd, ↓reduceIte, List.map_cons, List.map_nil, Nat.reduceSub, List.cons_append, List.nil_append, List.append_nil, List.replicate, List.set_cons_succ, List.set_cons_zero, Nat.reduceLT, gE_0, gE_s, df_0_1, df_1_2, df_2_2, df_3_1, df_4_1, df_5_1, df_6_1, df_7_1, df_8_1, df_10_1, df_14_1, df_15_1, df_16_1, df_17_2, df_18_2, df_25_1, df_25_2, df_26_1, df_27_2, df_28_1, df_29_2, df_30_2, df_31_2, df_32_2, df_33_2, df_34_2, df_35_2, df_36_2, df_37_2, df_38_2, df_39_2, df_40_2, df_41_2, df_42_1, df_43_1, df_44_1, df_45_2]) ?_
  refine exs_for (Q := fun o => o = Z.O.rt (.t (oT (Rw9.pStay P))) st) (ds := (P.map fr).map D.t) (u := none) (s1 := st)
    (fun i σ s => s = st ∧ ∃ a, σ = [some (.t (row P)), a, none, some (.t (fr (Rw9.fo (P.take i) (1, 0)))), some (.t (fr (Rw9.fo (P.take i) (0, 1))))])
    (by simp -implicitDefEqProofs only [exs, ex, ev, evs, evo, evC, rb_ok, rt_ok, of_some, lift2_t, view_t, subD_tup, subD_lst, at0, at1, at2, at3, subTT, addT, tupD2, fin_rt, fin_nx, cast0, cast1, cast2, cast3, cast4, cast5, Int.reduceLT, Int.reduceLE, Int.reduceEq, Int.reduceNe, decide_not, map_some, take_all, cmp_lt, cmp_le, cmp_gt, cmp_ge, cmp_eq, cmp_ne, tru_bl, setTg_name, setTg_tup, setTg_lst, setTgs_nil, setTgs_cons, decide_eq_true_eq, Option.bind_some, Option.bind_none, bl_not, is_non, isnt_non, cmpIs_tup, cmpIsN_tup, if_tt, if_ff, tru_int, reduceCtorEq, decide_true, decide_false, Bool.not_true, Bool.not_false, mm1, mm2, mm3, mapM1, mapM2, lstD_c0, lstD_t0, lstD_t1, lstD_t2, lstD_t3, isL_last, isi_int_non, isi_bool_non, isi_tuple_non, isi_list_non, isi_dict_non, isi_lt_non, isi_int_bl, isi_bool_bl, isi_tuple_bl, isi_list_bl, isi_dict_bl, isi_lt_bl, isi_int_int, isi_bool_int, isi_tuple_int, isi_list_int, isi_dict_int, isi_lt_int, isi_int_str, isi_bool_str, isi_tuple_str, isi_list_str, isi_dict_str, isi_lt_str, isi_int_tup, isi_bool_tup, isi_tuple_tup, isi_list_tup, isi_dict_tup, isi_lt_tup, isi_int_lst, isi_bool_lst, isi_tuple_lst, isi_list_lst, isi_dict_lst, isi_lt_lst, isi_int_dk, isi_bool_dk, isi_tuple_dk, isi_list_dk, isi_dict_dk, isi_lt_dk, tup_ty, lenT_lst, lenT_tup, intT, Bool.or_true, Bool.true_or, Bool.or_false, Bool.false_or, Bool.and_true, Bool.true_and, Bool.and_false, Bool.false_and, Z.isNon, not_true_eq_false, not_false_eq_true, Bool.not_eq_true, Bool.false_eq_true, Option.map_some, List.length_cons, List.length_nil, Nat.reduceAdd, ↓reduceIte, List.map_cons, List.map_nil, Nat.reduceSub, List.cons_append, List.nil_append, List.append_nil, List.replicate, List.set_cons_succ, List.set_cons_zero, Nat.reduceLT, gE_0, gE_s, df_0_1, df_1_2, df_2_2, df_3_1, df_4_1, df_5_1, df_6_1, df_7_1, df_8_1, df_10_1, df_14_1, df_15_1, df_16_1, df_17_2, df_18_2, df_25_1, df_25_2, df_26_1, df_27_2, df_28_1, df_29_2, df_30_2, df_31_2, df_32_2, df_33_2, df_34_2, df_35_2, df_36_2, df_37_2, df_38_2, df_39_2, df_40_2, df_41_2, df_42_1, df_43_1, df_44_1, df_45_2, evI, att_row, walk_frs]) ⟨rfl, none, rfl⟩ ?_ ?_
  · rintro j d σ s hd ⟨rfl, a, rfl⟩
    obtain ⟨s', rfl, hp⟩ := item_frs hd
    have hs' := hP s' (List.mem_of_getElem? hp)
    have hlj : (P.take j).length ≤ 8 := by rw [List.length_take]; omega
    have mem := fun z (hz : z ∈ P.take j) => hP z (List.mem_of_mem_take hz)
    obtain ⟨y1, y2⟩ := bd_fo (P.take j) 1 (1, 0) mem (by unfold Bd; decide) (by unfold Bd; decide)
    obtain ⟨z1, z2⟩ := bd_fo (P.take j) 1 (0, 1) mem (by unfold Bd; decide) (by unfold Bd; decide)
    have hb := fun st => r_behind (k + 4) (Rw9.fo (P.take j) (1, 0)) s' st (y1.mono (by omega)) (y2.mono (by omega)) (hs'.b1.mono (by decide)) (hs'.b2.mono (by decide))
    have hc := fun st => r_behind (k + 4) (Rw9.fo (P.take j) (0, 1)) s' st (z1.mono (by omega)) (z2.mono (by omega)) (hs'.b1.mono (by decide)) (hs'.b2.mono (by decide))
    rw [← fo_take hp] at hb hc
    refine .inl ⟨[some (.t (row P)), some (.t (fr s')), none, some (.t (fr (Rw9.fo (P.take (j + 1)) (1, 0)))), some (.t (fr (Rw9.fo (P.take (j + 1)) (0, 1))))], s, .inl ?_, rfl, _, rfl⟩
    rw [turnX_nx (σ1 := [some (.t (row P)), some (.t (fr s')), none, some (.t (fr (Rw9.fo (P.take j) (1, 0)))), some (.t (fr (Rw9.fo (P.take j) (0, 1))))]) rfl]
    clear y1 y2 z1 z2
    generalize Rw9.fo (P.take j) (1, 0) = y at *
    generalize Rw9.fo (P.take j) (0, 1) = z at *
    generalize Rw9.fo (P.take (j + 1)) (1, 0) = y' at *
    generalize Rw9.fo (P.take (j + 1)) (0, 1) = z' at *
    exact exs_nx (Q := fun o => o = Z.O.nx [some (.t (row P)), some (.t (fr s')), none, some (.t (fr y')), some (.t (fr z'))] s) (σ1 := [some (.t (row P)), some (.t (fr s')), none, some (.t (fr y')), some (.t (fr z'))]) (s1 := s) (by simp -implicitDefEqProofs only [exs, ex, ev, evs, evo, evC, rb_ok, rt_ok, of_some, lift2_t, view_t, subD_tup, subD_lst, at0, at1, at2, at3, subTT, addT, tupD2, fin_rt, fin_nx, cast0, cast1, cast2, cast3, cast4, cast5, Int.reduceLT, Int.reduceLE, Int.reduceEq, Int.reduceNe, decide_not, map_some, take_all, cmp_lt, cmp_le, cmp_gt, cmp_ge, cmp_eq, cmp_ne, tru_bl, setTg_name, setTg_tup, setTg_lst, setTgs_nil, setTgs_cons, decide_eq_true_eq, Option.bind_some, Option.bind_none, bl_not, is_non, isnt_non, cmpIs_tup, cmpIsN_tup, if_tt, if_ff, tru_int, reduceCtorEq, decide_true, decide_false, Bool.not_true, Bool.not_false, mm1, mm2, mm3, mapM1, mapM2, lstD_c0, lstD_t0, lstD_t1, lstD_t2, lstD_t3, isL_last, isi_int_non, isi_bool_non, isi_tuple_non, isi_list_non, isi_dict_non, isi_lt_non, isi_int_bl, isi_bool_bl, isi_tuple_bl, isi_list_bl, isi_dict_bl, isi_lt_bl, isi_int_int, isi_bool_int, isi_tuple_int, isi_list_int, isi_dict_int, isi_lt_int, isi_int_str, isi_bool_str, isi_tuple_str, isi_list_str, isi_dict_str, isi_lt_str, isi_int_tup, isi_bool_tup, isi_tuple_tup, isi_list_tup, isi_dict_tup, isi_lt_tup, isi_int_lst, isi_bool_lst, isi_tuple_lst, isi_list_lst, isi_dict_lst, isi_lt_lst, isi_int_dk, isi_bool_dk, isi_tuple_dk, isi_list_dk, isi_dict_dk, isi_lt_dk, tup_ty, lenT_lst, lenT_tup, intT, Bool.or_true, Bool.true_or, Bool.or_false, Bool.false_or, Bool.and_true, Bool.true_and, Bool.and_false, Bool.false_and, Z.isNon, not_true_eq_false, not_false_eq_true, Bool.not_eq_true, Bool.false_eq_true, Option.map_some, List.length_cons, List.length_nil, Nat.reduceAdd, ↓reduceIte, List.map_cons, List.map_nil, Nat.reduceSub, List.cons_append, List.nil_append, List.append_nil, List.replicate, List.set_cons_succ, List.set_cons_zero, Nat.reduceLT, gE_0, gE_s, df_0_1, df_1_2, df_2_2, df_3_1, df_4_1, df_5_1, df_6_1, df_7_1, df_8_1, df_10_1, df_14_1, df_15_1, df_16_1, df_17_2, df_18_2, df_25_1, df_25_2, df_26_1, df_27_2, df_28_1, df_29_2, df_30_2, df_31_2, df_32_2, df_33_2, df_34_2, df_35_2, df_36_2, df_37_2, df_38_2, df_39_2, df_40_2, df_41_2, df_42_1, df_43_1, df_44_1, df_45_2, hb, hc, Nat.reduceLT, and_self]) rfl
  · rintro σ s ⟨rfl, a, rfl⟩
    rw [List.length_map, List.length_map, List.take_length]
    show exs _ _ _ (unlock _ none) = _
    simp only [unlock]
    obtain ⟨y1, y2⟩ := bd_fo P 1 (1, 0) hP (by unfold Bd; decide) (by unfold Bd; decide)
    obtain ⟨z1, z2⟩ := bd_fo P 1 (0, 1) hP (by unfold Bd; decide) (by unfold Bd; decide)
    have em : Rw9.mid P = ((Rw9.fo P (1, 0)).1 - (Rw9.fo P (0, 1)).2, 2 * (Rw9.fo P (1, 0)).2) := rfl
    have ep : Rw9.pStay P = if (Rw9.fo P (1, 0)).2 ≤ 0 then none else if Rw9.pIs' P (Rw9.low (Rw9.mid P)) then some (Rw9.low (Rw9.mid P)) else none := rfl
    have y1 : Bd 153 (Rw9.fo P (1, 0)).1 := y1.mono (by omega)
    have y2 : Bd 153 (Rw9.fo P (1, 0)).2 := y2.mono (by omega)
    have z2 : Bd 153 (Rw9.fo P (0, 1)).2 := z2.mono (by omega)
    generalize Rw9.fo P (1, 0) = y at *
    generalize Rw9.fo P (0, 1) = z at *
    by_cases c : y.2 ≤ 0
    · rw [if_pos c] at ep
      rw [ep]
      exact exs_rt (Q := fun o => o = Z.O.rt (.t (oT none)) s) (d := .t .non) (s1 := s) (by simp -implicitDefEqProofs only [exs, ex, ev, evs, evo, evC, rb_ok, rt_ok, of_some, lift2_t, view_t, subD_tup, subD_lst, at0, at1, at2, at3, subTT, addT, tupD2, fin_rt, fin_nx, cast0, cast1, cast2, cast3, cast4, cast5, Int.reduceLT, Int.reduceLE, Int.reduceEq, Int.reduceNe, decide_not, map_some, take_all, cmp_lt, cmp_le, cmp_gt, cmp_ge, cmp_eq, cmp_ne, tru_bl, setTg_name, setTg_tup, setTg_lst, setTgs_nil, setTgs_cons, decide_eq_true_eq, Option.bind_some, Option.bind_none, bl_not, is_non, isnt_non, cmpIs_tup, cmpIsN_tup, if_tt, if_ff, tru_int, reduceCtorEq, decide_true, decide_false, Bool.not_true, Bool.not_false, mm1, mm2, mm3, mapM1, mapM2, lstD_c0, lstD_t0, lstD_t1, lstD_t2, lstD_t3, isL_last, isi_int_non, isi_bool_non, isi_tuple_non, isi_list_non, isi_dict_non, isi_lt_non, isi_int_bl, isi_bool_bl, isi_tuple_bl, isi_list_bl, isi_dict_bl, isi_lt_bl, isi_int_int, isi_bool_int, isi_tuple_int, isi_list_int, isi_dict_int, isi_lt_int, isi_int_str, isi_bool_str, isi_tuple_str, isi_list_str, isi_dict_str, isi_lt_str, isi_int_tup, isi_bool_tup, isi_tuple_tup, isi_list_tup, isi_dict_tup, isi_lt_tup, isi_int_lst, isi_bool_lst, isi_tuple_lst, isi_list_lst, isi_dict_lst, isi_lt_lst, isi_int_dk, isi_bool_dk, isi_tuple_dk, isi_list_dk, isi_dict_dk, isi_lt_dk, tup_ty, lenT_lst, lenT_tup, intT, Bool.or_true, Bool.true_or, Bool.or_false, Bool.false_or, Bool.and_true, Bool.true_and, Bool.and_false, Bool.false_and, Z.isNon, not_true_eq_false, not_false_eq_true, Bool.not_eq_true, Bool.false_eq_true, Option.map_some, List.length_cons, List.length_nil, Nat.reduceAdd, ↓reduceIte, List.map_cons, List.map_nil, Nat.reduceSub, List.cons_append, List.nil_append, List.append_nil, List.replicate, List.set_cons_succ, List.set_cons_zero, Nat.reduceLT, gE_0, gE_s, df_0_1, df_1_2, df_2_2, df_3_1, df_4_1, df_5_1, df_6_1, df_7_1, df_8_1, df_10_1, df_14_1, df_15_1, df_16_1, df_17_2, df_18_2, df_25_1, df_25_2, df_26_1, df_27_2, df_28_1, df_29_2, df_30_2, df_31_2, df_32_2, df_33_2, df_34_2, df_35_2, df_36_2, df_37_2, df_38_2, df_39_2, df_40_2, df_41_2, df_42_1, df_43_1, df_44_1, df_45_2, c]) rfl
    · rw [if_neg c] at ep
      refine exs_nx (Q := fun o => o = Z.O.rt (.t (oT (Rw9.pStay P))) s) (σ1 := [some (.t (row P)), a, none, some (.t (fr y)), some (.t (fr z))]) (s1 := s) (by simp -implicitDefEqProofs only [exs, ex, ev, evs, evo, evC, rb_ok, rt_ok, of_some, lift2_t, view_t, subD_tup, subD_lst, at0, at1, at2, at3, subTT, addT, tupD2, fin_rt, fin_nx, cast0, cast1, cast2, cast3, cast4, cast5, Int.reduceLT, Int.reduceLE, Int.reduceEq, Int.reduceNe, decide_not, map_some, take_all, cmp_lt, cmp_le, cmp_gt, cmp_ge, cmp_eq, cmp_ne, tru_bl, setTg_name, setTg_tup, setTg_lst, setTgs_nil, setTgs_cons, decide_eq_true_eq, Option.bind_some, Option.bind_none, bl_not, is_non, isnt_non, cmpIs_tup, cmpIsN_tup, if_tt, if_ff, tru_int, reduceCtorEq, decide_true, decide_false, Bool.not_true, Bool.not_false, mm1, mm2, mm3, mapM1, mapM2, lstD_c0, lstD_t0, lstD_t1, lstD_t2, lstD_t3, isL_last, isi_int_non, isi_bool_non, isi_tuple_non, isi_list_non, isi_dict_non, isi_lt_non, isi_int_bl, isi_bool_bl, isi_tuple_bl, isi_list_bl, isi_dict_bl, isi_lt_bl, isi_int_int, isi_bool_int, isi_tuple_int, isi_list_int, isi_dict_int, isi_lt_int, isi_int_str, isi_bool_str, isi_tuple_str, isi_list_str, isi_dict_str, isi_lt_str, isi_int_tup, isi_bool_tup, isi_tuple_tup, isi_list_tup, isi_dict_tup, isi_lt_tup, isi_int_lst, isi_bool_lst, isi_tuple_lst, isi_list_lst, isi_dict_lst, isi_lt_lst, isi_int_dk, isi_bool_dk, isi_tuple_dk, isi_list_dk, isi_dict_dk, isi_lt_dk, tup_ty, lenT_lst, lenT_tup, intT, Bool.or_true, Bool.true_or, Bool.or_false, Bool.false_or, Bool.and_true, Bool.true_and, Bool.and_false, Bool.false_and, Z.isNon, not_true_eq_false, not_false_eq_true, Bool.not_eq_true, Bool.false_eq_true, Option.map_some, List.length_cons, List.length_nil, Nat.reduceAdd, ↓reduceIte, List.map_cons, List.map_nil, Nat.reduceSub, List.cons_append, List.nil_append, List.append_nil, List.replicate, List.set_cons_succ, List.set_cons_zero, Nat.reduceLT, gE_0, gE_s, df_0_1, df_1_2, df_2_2, df_3_1, df_4_1, df_5_1, df_6_1, df_7_1, df_8_1, df_10_1, df_14_1, df_15_1, df_16_1, df_17_2, df_18_2, df_25_1, df_25_2, df_26_1, df_27_2, df_28_1, df_29_2, df_30_2, df_31_2, df_32_2, df_33_2, df_34_2, df_35_2, df_36_2, df_37_2, df_38_2, df_39_2, df_40_2, df_41_2, df_42_1, df_43_1, df_44_1, df_45_2, c]) ?_
      have b2 : Bd 2 2 := by unfold Bd; decide
      have bm1 : Bd 200 (Rw9.mid P).1 := by rw [em]; exact Bd.sub y1 z2 (by decide)
      have bm2 : Bd 200 (Rw9.mid P).2 := by rw [em]; exact (b2.mul y2).mono (by decide)
      have pm : 0 < (Rw9.mid P).2 := by rw [em]; show 0 < 2 * y.2; omega
      have hlw := fun st => r_lowest (k + 4) (Rw9.mid P).1 (Rw9.mid P).2 st pm (bm2.mono (by decide))
      obtain ⟨l1, l2⟩ := bd_low bm1 bm2
      have eL : Rw9.low ((Rw9.mid P).1, (Rw9.mid P).2) = Rw9.low (Rw9.mid P) := rfl
      rw [eL] at hlw
      have hll := Rw9.low_low pm
      have lp := Rw9.low_pos pm
      have his := fun st => r_isstay k (x := fr (Rw9.low (Rw9.mid P))) (p := Rw9.low (Rw9.mid P)) P st (fun k st => r_frac_tup k _ _ st (l2.mono (by decide))) hP hl (by rw [hll]; exact l1) (by rw [hll]; exact l2)
      have hv : isv P (Rw9.low (Rw9.mid P)) = Rw9.pIs' P (Rw9.low (Rw9.mid P)) := by
        unfold isv
        rw [if_neg (by omega), hll]
      rw [hv] at his
      have e1 : (Rw9.mid P).1 = y.1 - z.2 := by rw [em]
      have e2 : (Rw9.mid P).2 = 2 * y.2 := by rw [em]
      rw [e1, e2] at hlw
      have hm := mulT b2 y2 (by decide)
      clear hv hll em eL l1 l2 lp bm1 bm2 e1 e2 pm
      rw [ep]
      generalize Rw9.low (Rw9.mid P) = m at *
      refine exs_nx (Q := fun o => o = Z.O.rt (.t (oT (if Rw9.pIs' P m then some m else none))) s) (σ1 := [some (.t (row P)), a, some (.t (fr m)), some (.t (fr y)), some (.t (fr z))]) (s1 := s) (by simp -implicitDefEqProofs only [exs, ex, ev, evs, evo, evC, rb_ok, rt_ok, of_some, lift2_t, view_t, subD_tup, subD_lst, at0, at1, at2, at3, subTT, addT, tupD2, fin_rt, fin_nx, cast0, cast1, cast2, cast3, cast4, cast5, Int.reduceLT, Int.reduceLE, Int.reduceEq, Int.reduceNe, decide_not, map_some, take_all, cmp_lt, cmp_le, cmp_gt, cmp_ge, cmp_eq, cmp_ne, tru_bl, setTg_name, setTg_tup, setTg_lst, setTgs_nil, setTgs_cons, decide_eq_true_eq, Option.bind_some, Option.bind_none, bl_not, is_non, isnt_non, cmpIs_tup, cmpIsN_tup, if_tt, if_ff, tru_int, reduceCtorEq, decide_true, decide_false, Bool.not_true, Bool.not_false, mm1, mm2, mm3, mapM1, mapM2, lstD_c0, lstD_t0, lstD_t1, lstD_t2, lstD_t3, isL_last, isi_int_non, isi_bool_non, isi_tuple_non, isi_list_non, isi_dict_non, isi_lt_non, isi_int_bl, isi_bool_bl, isi_tuple_bl, isi_list_bl, isi_dict_bl, isi_lt_bl, isi_int_int, isi_bool_int, isi_tuple_int, isi_list_int, isi_dict_int, isi_lt_int, isi_int_str, isi_bool_str, isi_tuple_str, isi_list_str, isi_dict_str, isi_lt_str, isi_int_tup, isi_bool_tup, isi_tuple_tup, isi_list_tup, isi_dict_tup, isi_lt_tup, isi_int_lst, isi_bool_lst, isi_tuple_lst, isi_list_lst, isi_dict_lst, isi_lt_lst, isi_int_dk, isi_bool_dk, isi_tuple_dk, isi_list_dk, isi_dict_dk, isi_lt_dk, tup_ty, lenT_lst, lenT_tup, intT, Bool.or_true, Bool.true_or, Bool.or_false, Bool.false_or, Bool.and_true, Bool.true_and, Bool.and_false, Bool.false_and, Z.isNon, not_true_eq_false, not_false_eq_true, Bool.not_eq_true, Bool.false_eq_true, Option.map_some, List.length_cons, List.length_nil, Nat.reduceAdd, ↓reduceIte, List.map_cons, List.map_nil, Nat.reduceSub, List.cons_append, List.nil_append, List.append_nil, List.replicate, List.set_cons_succ, List.set_cons_zero, Nat.reduceLT, gE_0, gE_s, df_0_1, df_1_2, df_2_2, df_3_1, df_4_1, df_5_1, df_6_1, df_7_1, df_8_1, df_10_1, df_14_1, df_15_1, df_16_1, df_17_2, df_18_2, df_25_1, df_25_2, df_26_1, df_27_2, df_28_1, df_29_2, df_30_2, df_31_2, df_32_2, df_33_2, df_34_2, df_35_2, df_36_2, df_37_2, df_38_2, df_39_2, df_40_2, df_41_2, df_42_1, df_43_1, df_44_1, df_45_2, hlw s, hm]) ?_
      cases hq : Rw9.pIs' P m with
      | true =>
        rw [hq] at his
        exact exs_rt (Q := fun o => o = Z.O.rt (.t (oT (some m))) s) (d := .t (fr m)) (s1 := s) (by simp -implicitDefEqProofs only [exs, ex, ev, evs, evo, evC, rb_ok, rt_ok, of_some, lift2_t, view_t, subD_tup, subD_lst, at0, at1, at2, at3, subTT, addT, tupD2, fin_rt, fin_nx, cast0, cast1, cast2, cast3, cast4, cast5, Int.reduceLT, Int.reduceLE, Int.reduceEq, Int.reduceNe, decide_not, map_some, take_all, cmp_lt, cmp_le, cmp_gt, cmp_ge, cmp_eq, cmp_ne, tru_bl, setTg_name, setTg_tup, setTg_lst, setTgs_nil, setTgs_cons, decide_eq_true_eq, Option.bind_some, Option.bind_none, bl_not, is_non, isnt_non, cmpIs_tup, cmpIsN_tup, if_tt, if_ff, tru_int, reduceCtorEq, decide_true, decide_false, Bool.not_true, Bool.not_false, mm1, mm2, mm3, mapM1, mapM2, lstD_c0, lstD_t0, lstD_t1, lstD_t2, lstD_t3, isL_last, isi_int_non, isi_bool_non, isi_tuple_non, isi_list_non, isi_dict_non, isi_lt_non, isi_int_bl, isi_bool_bl, isi_tuple_bl, isi_list_bl, isi_dict_bl, isi_lt_bl, isi_int_int, isi_bool_int, isi_tuple_int, isi_list_int, isi_dict_int, isi_lt_int, isi_int_str, isi_bool_str, isi_tuple_str, isi_list_str, isi_dict_str, isi_lt_str, isi_int_tup, isi_bool_tup, isi_tuple_tup, isi_list_tup, isi_dict_tup, isi_lt_tup, isi_int_lst, isi_bool_lst, isi_tuple_lst, isi_list_lst, isi_dict_lst, isi_lt_lst, isi_int_dk, isi_bool_dk, isi_tuple_dk, isi_list_dk, isi_dict_dk, isi_lt_dk, tup_ty, lenT_lst, lenT_tup, intT, Bool.or_true, Bool.true_or, Bool.or_false, Bool.false_or, Bool.and_true, Bool.true_and, Bool.and_false, Bool.false_and, Z.isNon, not_true_eq_false, not_false_eq_true, Bool.not_eq_true, Bool.false_eq_true, Option.map_some, List.length_cons, List.length_nil, Nat.reduceAdd, ↓reduceIte, List.map_cons, List.map_nil, Nat.reduceSub, List.cons_append, List.nil_append, List.append_nil, List.replicate, List.set_cons_succ, List.set_cons_zero, Nat.reduceLT, gE_0, gE_s, df_0_1, df_1_2, df_2_2, df_3_1, df_4_1, df_5_1, df_6_1, df_7_1, df_8_1, df_10_1, df_14_1, df_15_1, df_16_1, df_17_2, df_18_2, df_25_1, df_25_2, df_26_1, df_27_2, df_28_1, df_29_2, df_30_2, df_31_2, df_32_2, df_33_2, df_34_2, df_35_2, df_36_2, df_37_2, df_38_2, df_39_2, df_40_2, df_41_2, df_42_1, df_43_1, df_44_1, df_45_2, mth_isstay, his s]) rfl
      | false =>
        rw [hq] at his
        exact exs_rt (Q := fun o => o = Z.O.rt (.t (oT none)) s) (d := .t .non) (s1 := s) (by simp -implicitDefEqProofs only [exs, ex, ev, evs, evo, evC, rb_ok, rt_ok, of_some, lift2_t, view_t, subD_tup, subD_lst, at0, at1, at2, at3, subTT, addT, tupD2, fin_rt, fin_nx, cast0, cast1, cast2, cast3, cast4, cast5, Int.reduceLT, Int.reduceLE, Int.reduceEq, Int.reduceNe, decide_not, map_some, take_all, cmp_lt, cmp_le, cmp_gt, cmp_ge, cmp_eq, cmp_ne, tru_bl, setTg_name, setTg_tup, setTg_lst, setTgs_nil, setTgs_cons, decide_eq_true_eq, Option.bind_some, Option.bind_none, bl_not, is_non, isnt_non, cmpIs_tup, cmpIsN_tup, if_tt, if_ff, tru_int, reduceCtorEq, decide_true, decide_false, Bool.not_true, Bool.not_false, mm1, mm2, mm3, mapM1, mapM2, lstD_c0, lstD_t0, lstD_t1, lstD_t2, lstD_t3, isL_last, isi_int_non, isi_bool_non, isi_tuple_non, isi_list_non, isi_dict_non, isi_lt_non, isi_int_bl, isi_bool_bl, isi_tuple_bl, isi_list_bl, isi_dict_bl, isi_lt_bl, isi_int_int, isi_bool_int, isi_tuple_int, isi_list_int, isi_dict_int, isi_lt_int, isi_int_str, isi_bool_str, isi_tuple_str, isi_list_str, isi_dict_str, isi_lt_str, isi_int_tup, isi_bool_tup, isi_tuple_tup, isi_list_tup, isi_dict_tup, isi_lt_tup, isi_int_lst, isi_bool_lst, isi_tuple_lst, isi_list_lst, isi_dict_lst, isi_lt_lst, isi_int_dk, isi_bool_dk, isi_tuple_dk, isi_list_dk, isi_dict_dk, isi_lt_dk, tup_ty, lenT_lst, lenT_tup, intT, Bool.or_true, Bool.true_or, Bool.or_false, Bool.false_or, Bool.and_true, Bool.true_and, Bool.and_false, Bool.false_and, Z.isNon, not_true_eq_false, not_false_eq_true, Bool.not_eq_true, Bool.false_eq_true, Option.map_some, List.length_cons, List.length_nil, Nat.reduceAdd, ↓reduceIte, List.map_cons, List.map_nil, Nat.reduceSub, List.cons_append, List.nil_append, List.append_nil, List.replicate, List.set_cons_succ, List.set_cons_zero, Nat.reduceLT, gE_0, gE_s, df_0_1, df_1_2, df_2_2, df_3_1, df_4_1, df_5_1, df_6_1, df_7_1, df_8_1, df_10_1, df_14_1, df_15_1, df_16_1, df_17_2, df_18_2, df_25_1, df_25_2, df_26_1, df_27_2, df_28_1, df_29_2, df_30_2, df_31_2, df_32_2, df_33_2, df_34_2, df_35_2, df_36_2, df_37_2, df_38_2, df_39_2, df_40_2, df_41_2, df_42_1, df_43_1, df_44_1, df_45_2, mth_isstay, his s]) rfl
theorem r_unsafe (k : Nat) (P : List P2) (st : S) (hP : ∀ s ∈ P, Shr s) (hl : P.length ≤ 8) (i : Int) (hi : 0 ≤ i) {x : P2} (h : Rw9.pStay P = some x) : callN lib.ft lib.g0 (k + 7) 25 [.t (row P), .t (.int i)] st = .ok (.t .non) st := by
  have hs := fun st => r_stay k P st hP hl
  rw [h] at hs
  have hs : ∀ st, callN lib.ft lib.g0 (k + 6) 26 [.t (row P)] st = .ok (.t (fr x)) st := hs
  have hp := fun st => r_place (k + 4) i st hi
  rw [callN_succ (F := F25) rfl]; simp -implicitDefEqProofs only [callF, F25, List.length_cons, List.length_nil, Nat.reduceAdd, ↓reduceIte, List.map_cons, List.map_nil, Nat.reduceSub, List.cons_append, List.nil_append, List.append_nil, List.replicate, List.set_cons_succ, List.set_cons_zero, Nat.reduceLT, gE_0, gE_s]
  refine fin_eq (o' := .rt (.t .non) st) ?_ (by rw [fin_rt rfl, take_all])
  refine exs_nx (Q := fun o => o = Z.O.rt (.t .non) st) (σ1 := [some (.t (row P)), some (.t (.int i)), none, none]) (s1 := st) (by simp -implicitDefEqProofs only [exs, ex, ev, evs, evo, evC, rb_ok, rt_ok, of_some, lift2_t, view_t, subD_tup, subD_lst, at0, at1, at2, at3, subTT, addT, tupD2, fin_rt, fin_nx, cast0, cast1, cast2, cast3, cast4, cast5, Int.reduceLT, Int.reduceLE, Int.reduceEq, Int.reduceNe, decide_not, map_some, take_all, cmp_lt, cmp_le, cmp_gt, cmp_ge, cmp_eq, cmp_ne, tru_bl, setTg_name, setTg_tup, setTg_lst, setTgs_nil, setTgs_cons, decide_eq_true_eq, Option.bind_some, Option.bind_none, bl_not, is_non, isnt_non, cmpIs_tup, cmpIsN_tup, if_tt, if_ff, tru_int, reduceCtorEq, decide_true, decide_false, Bool.not_true, Bool.not_false, mm1, mm2, mm3, mapM1, mapM2, lstD_c0, lstD_t0, lstD_t1, lstD_t2, lstD_t3, isL_last, isi_int_non, isi_bool_non, isi_tuple_non, isi_list_non, isi_dict_non, isi_lt_non, isi_int_bl, isi_bool_bl, isi_tuple_bl, isi_list_bl, isi_dict_bl, isi_lt_bl, isi_int_int, isi_bool_int, isi_tuple_int, isi_list_int, isi_dict_int, isi_lt_int, isi_int_str, isi_bool_str, isi_tuple_str, isi_list_str, isi_dict_str, isi_lt_str, isi_int_tup, isi_bool_tup, isi_tuple_tup, isi_list_tup, isi_dict_tup, isi_lt_tup, isi_int_lst, isi_bool_lst, isi_tuple_lst, isi_list_lst, isi_dict_lst, isi_lt_lst, isi_int_dk, isi_bool_dk, isi_tuple_dk, isi_list_dk, isi_dict_dk, isi_lt_dk, tup_ty, lenT_lst, lenT_tup, intT, Bool.or_true, Bool.true_or, Bool.or_false, Bool.false_or, Bool.and_true, Bool.true_and, Bool.and_false, Bool.false_and, Z.isNon, not_true_eq_false, not_false_eq_true, Bool.not_eq_true, Bool.false_eq_true, Option.map_some, List.length_cons, List.length_nil, Nat.reduceAdd, ↓reduceIte, List.map_cons, List.map_nil, Nat.reduceSub, List.cons_append, List.nil_append, List.append_nil, List.replicate, List.set_cons_succ, List.set_cons_zero, Nat.reduceLT, gE_0, gE_s, df_0_1, df_1_2, df_2_2, df_3_1, df_4_1, df_5_1, df_6_1, df_7_1, df_8_1, df_10_1, df_14_1, df_15_1, df_16_1, df_17_2, df_18_2, df_25_1, df_25_2, df_26_1, df_27_2, df_28_1, df_29_2, df_30_2, df_31_2, df_32_2, df_33_2, df_34_2, df_35_2, df_36_2, df_37_2, df_38_2, df_39_2, df_40_2, df_41_2, df_42_1, df_43_1, df_44_1, df_45_2, hp st]) ?_
  exact exs_rt (Q := fun o => o = Z.O.rt (.t .non) st) (d := .t .non) (s1 := st) (by simp -implicitDefEqProofs only [exs, ex, ev, evs, evo, evC, rb_ok, rt_ok, of_some, lift2_t, view_t, subD_tup, subD_lst, at0, at1, at2, at3, subTT, addT, tupD2, fin_rt, fin_nx, cast0, cast1, cast2, cast3, cast4, cast5, Int.reduceLT, Int.reduceLE, Int.reduceEq, Int.reduceNe, decide_not, map_some, take_all, cmp_lt, cmp_le, cmp_gt, cmp_ge, cmp_eq, cmp_ne, tru_bl, setTg_name, setTg_tup, setTg_lst, setTgs_nil, setTgs_cons, decide_eq_true_eq, Option.bind_some, Option.bind_none, bl_not, is_non, isnt_non, cmpIs_tup, cmpIsN_tup, if_tt, if_ff, tru_int, reduceCtorEq, decide_true, decide_false, Bool.not_true, Bool.not_false, mm1, mm2, mm3, mapM1, mapM2, lstD_c0, lstD_t0, lstD_t1, lstD_t2, lstD_t3, isL_last, isi_int_non, isi_bool_non, isi_tuple_non, isi_list_non, isi_dict_non, isi_lt_non, isi_int_bl, isi_bool_bl, isi_tuple_bl, isi_list_bl, isi_dict_bl, isi_lt_bl, isi_int_int, isi_bool_int, isi_tuple_int, isi_list_int, isi_dict_int, isi_lt_int, isi_int_str, isi_bool_str, isi_tuple_str, isi_list_str, isi_dict_str, isi_lt_str, isi_int_tup, isi_bool_tup, isi_tuple_tup, isi_list_tup, isi_dict_tup, isi_lt_tup, isi_int_lst, isi_bool_lst, isi_tuple_lst, isi_list_lst, isi_dict_lst, isi_lt_lst, isi_int_dk, isi_bool_dk, isi_tuple_dk, isi_list_dk, isi_dict_dk, isi_lt_dk, tup_ty, lenT_lst, lenT_tup, intT, Bool.or_true, Bool.true_or, Bool.or_false, Bool.false_or, Bool.and_true, Bool.true_and, Bool.and_false, Bool.false_and, Z.isNon, not_true_eq_false, not_false_eq_true, Bool.not_eq_true, Bool.false_eq_true, Option.map_some, List.length_cons, List.length_nil, Nat.reduceAdd, ↓reduceIte, List.map_cons, List.map_nil, Nat.reduceSub, List.cons_append, List.nil_append, List.append_nil, List.replicate, List.set_cons_succ, List.set_cons_zero, Nat.reduceLT, gE_0, gE_s, df_0_1, df_1_2, df_2_2, df_3_1, df_4_1, df_5_1, df_6_1, df_7_1, df_8_1, df_10_1, df_14_1, df_15_1, df_16_1, df_17_2, df_18_2, df_25_1, df_25_2, df_26_1, df_27_2, df_28_1, df_29_2, df_30_2, df_31_2, df_32_2, df_33_2, df_34_2, df_35_2, df_36_2, df_37_2, df_38_2, df_39_2, df_40_2, df_41_2, df_42_1, df_43_1, df_44_1, df_45_2, mth_stay, hs st]) rfl
end Lw
end Z
end
section
set_option Elab.async false
set_option linter.all false
set_option maxRecDepth 100000
set_option maxHeartbeats 4000000
namespace Z
namespace Lw

open PySem L2 Zr
/-! ### Euclid by a while -/
def mu (a b : Nat) : Nat := if b = 0 then 0 else Nat.log2 (a * b) + 1 + (if a < b then 1 else 0)
theorem mu_step {a b : Nat} (h : 0 < b) : mu b (a % b) < mu a b := by
  have hr := Nat.mod_lt a h
  unfold mu
  rw [if_neg (by omega : ¬ b = 0)]
  by_cases r0 : a % b = 0
  · rw [if_pos r0]
    omega
  · rw [if_neg r0, if_neg (by omega : ¬ b < a % b)]
    by_cases c : a < b
    · rw [if_pos c, Nat.mod_eq_of_lt c, Nat.mul_comm]
      omega
    · rw [if_neg c]
      have h2 : 2 * (a % b) ≤ a := by
        have := Nat.div_add_mod a b
        have q : 1 ≤ a / b := (Nat.one_le_div_iff h).mpr (by omega)
        have : b * 1 ≤ b * (a / b) := Nat.mul_le_mul_left _ q
        omega
      have h3 : 2 * (b * (a % b)) ≤ a * b := by
        have := Nat.mul_le_mul_left b h2
        calc 2 * (b * (a % b)) = b * (2 * (a % b)) := by grind
          _ ≤ b * a := this
          _ = a * b := Nat.mul_comm ..
      have hp : b * (a % b) ≠ 0 := Nat.mul_ne_zero (by omega) r0
      have h4 : 2 ^ (Nat.log2 (b * (a % b)) + 1) ≤ a * b := by
        rw [Nat.pow_succ, Nat.mul_comm]
        exact Nat.le_trans (Nat.mul_le_mul_left _ ((Nat.le_log2 hp).mp (Nat.le_refl _))) h3
      have h5 := (Nat.le_log2 (by omega : a * b ≠ 0)).mpr h4
      omega
theorem mu_le {a b : Nat} (ha : a < 2 ^ 400) (hb : b < 2 ^ 400) : mu a b < 1048576 := by
  unfold mu
  have : Nat.log2 (a * b) ≤ 800 := by
    by_cases e : a * b = 0
    · rw [e]; exact Nat.zero_le _
    · have : a * b < 2 ^ 800 := by
        rw [show (800 : Nat) = 400 + 400 from rfl, Nat.pow_add]
        exact Nat.mul_lt_mul'' ha hb
      exact Nat.le_of_lt ((Nat.log2_lt e).mpr this)
  split
  · decide
  · split <;> omega
theorem absT' (i : Int) : biT .abs [.int i] = some (.int (i.natAbs : Int)) := by
  show some (T.int (if i < 0 then -i else i)) = _
  congr 2
  split <;> omega
theorem mod_nat {x y : Nat} (h : 0 < y) : binT .Mod (.int (x : Int)) (.int (y : Int)) = some (.int ((x % y : Nat) : Int)) := by
  rw [modT (by omega), Int.natCast_emod]
theorem r_low (k : Nat) (a b : Int) (st : S) (h0 : 0 < b) (ha : Bd 400 a) (hb : Bd 400 b) : callN lib.ft lib.g0 (k + 1) 32 [.t (.int a), .t (.int b)] st = .ok (.t (fr (Rw9.low (a, b)))) st := by
  have g0 : (0 : Int) < (Int.gcd a b : Nat) := Int.ofNat_lt.mpr (Nat.pos_of_ne_zero fun e => by have := Int.gcd_eq_zero_iff.mp e; omega)
  have g1 : Bd 400 ((Int.gcd a b : Nat) : Int) := by
    have := Nat.le_of_dvd (by omega) (Int.gcd_dvd_natAbs_right (a := a) (b := b))
    unfold Bd at *
    rw [Int.natAbs_natCast]
    omega
  have eb : ((b.natAbs : Nat) : Int) = b := Int.natAbs_of_nonneg (Int.le_of_lt h0)
  have d1 := divT (i := a) g0 g1 (by decide)
  have d2 := divT (i := b) g0 g1 (by decide)
  have eg : Nat.gcd a.natAbs b.natAbs = Int.gcd a b := rfl
  have el : Rw9.low (a, b) = (a / (Int.gcd a b : Nat), b / (Int.gcd a b : Nat)) := rfl
  have hmu := mu_le ha hb
  rw [el]
  generalize Int.gcd a b = g at *
  rw [callN_succ (F := F32) rfl]; simp -implicitDefEqProofs only [callF, F32, List.length_cons, List.length_nil, Nat.reduceAdd, ↓reduceIte, List.map_cons, List.map_nil, Nat.reduceSub, List.cons_append, List.nil_append, List.append_nil, List.replicate, List.set_cons_succ, List.set_cons_zero, Nat.reduceLT, gE_0, gE_s]
  refine fin_eq (o' := .rt (.t (fr (a / (g : Int), b / (g : Int)))) st) ?_ (by rw [fin_rt rfl, take_all])
  refine exs_nx (Q := fun o => o = Z.O.rt (.t (fr (a / (g : Int), b / (g : Int)))) st) (σ1 := [some (.t (.int a)), some (.t (.int b)), some (.t (.int (a.natAbs : Int))), some (.t (.int b))]) (s1 := st) (by simp -implicitDefEqProofs only [exs, ex, ev, evs, evo, evC, rb_ok, rt_ok, of_some, lift2_t, view_t, subD_tup, subD_lst, at0, at1, at2, at3, subTT, addT, tupD2, fin_rt, fin_nx, cast0, cast1, cast2, cast3, cast4, cast5, Int.reduceLT, Int.reduceLE, Int.reduceEq, Int.reduceNe, decide_not, map_some, take_all, cmp_lt, cmp_le, cmp_gt, cmp_ge, cmp_eq, cmp_ne, tru_bl, setTg_name, setTg_tup, setTg_lst, setTgs_nil, setTgs_cons, decide_eq_true_eq, Option.bind_some, Option.bind_none, bl_not, is_non, isnt_non, cmpIs_tup, cmpIsN_tup, if_tt, if_ff, tru_int, reduceCtorEq, decide_true, decide_false, Bool.not_true, Bool.not_false, mm1, mm2, mm3, mapM1, mapM2, lstD_c0, lstD_t0, lstD_t1, lstD_t2, lstD_t3, isL_last, isi_int_non, isi_bool_non, isi_tuple_non, isi_list_non, isi_dict_non, isi_lt_non, isi_int_bl, isi_bool_bl, isi_tuple_bl, isi_list_bl, isi_dict_bl, isi_lt_bl, isi_int_int, isi_bool_int, isi_tuple_int, isi_list_int, isi_dict_int, isi_lt_int, isi_int_str, isi_bool_str, isi_tuple_str, isi_list_str, isi_dict_str, isi_lt_str, isi_int_tup, isi_bool_tup, isi_tuple_tup, isi_list_tup, isi_dict_tup, isi_lt_tup, isi_int_lst, isi_bool_lst, isi_tuple_lst, isi_list_lst, isi_dict_lst, isi_lt_lst, isi_int_dk, isi_bool_dk, isi_tuple_dk, isi_list_dk, isi_dict_dk, isi_lt_dk, tup_ty, lenT_lst, lenT_tup, intT, Bool.or_true, Bool.true_or, Bool.or_false, Bool.false_or, Bool.and_true, Bool.true_and, Bool.and_false, Bool.false_and, Z.isNon, not_true_eq_false, not_false_eq_true, Bool.not_eq_true, Bool.false_eq_true, Option.map_some, List.length_cons, List.length_nil, Nat.reduceAdd, ↓reduceIte, List.map_cons, List.map_nil, Nat.reduceSub, List.cons_append, List.nil_append, List.append_nil, List.replicate, List.set_cons_succ, List.set_cons_zero, Nat.reduceLT, gE_0, gE_s, df_0_1, df_1_2, df_2_2, df_3_1, df_4_1, df_5_1, df_6_1, df_7_1, df_8_1, df_10_1, df_14_1, df_15_1, df_16_1, df_17_2, df_18_2, df_25_1, df_25_2, df_26_1, df_27_2, df_28_1, df_29_2, df_30_2, df_31_2, df_32_2, df_33_2, df_34_2, df_35_2, df_36_2, df_37_2, df_38_2, df_39_2, df_40_2, df_41_2, df_42_1, df_43_1, df_44_1, df_45_2, absT', and_self]) ?_
  refine exs_whl (Q := fun o => o = Z.O.rt (.t (fr (a / (g : Int), b / (g : Int)))) st)
    (fun m σ s => s = st ∧ ∃ x y : Nat, m = mu x y ∧ Nat.gcd x y = g ∧ σ = [some (.t (.int a)), some (.t (.int b)), some (.t (.int (x : Int))), some (.t (.int (y : Int)))]) (mu a.natAbs b.natAbs) hmu
    ⟨rfl, a.natAbs, b.natAbs, rfl, eg, by rw [eb]⟩ ?_ ?_
  · rintro m σ s ⟨rfl, x, y, rfl, hg, rfl⟩
    by_cases c : 0 < y
    · have hm := mod_nat (x := x) c
      refine .inr ⟨s, [some (.t (.int a)), some (.t (.int b)), some (.t (.int (y : Int))), some (.t (.int ((x % y : Nat) : Int)))], s, mu y (x % y), ?_, ?_, ⟨rfl, y, x % y, rfl, ?_, rfl⟩, mu_step c⟩
      · have c' : (0 : Int) < (y : Int) := by omega
        unfold condX
        generalize (y : Int) = Y at *
        simp -implicitDefEqProofs only [exs, ex, ev, evs, evo, evC, rb_ok, rt_ok, of_some, lift2_t, view_t, subD_tup, subD_lst, at0, at1, at2, at3, subTT, addT, tupD2, fin_rt, fin_nx, cast0, cast1, cast2, cast3, cast4, cast5, Int.reduceLT, Int.reduceLE, Int.reduceEq, Int.reduceNe, decide_not, map_some, take_all, cmp_lt, cmp_le, cmp_gt, cmp_ge, cmp_eq, cmp_ne, tru_bl, setTg_name, setTg_tup, setTg_lst, setTgs_nil, setTgs_cons, decide_eq_true_eq, Option.bind_some, Option.bind_none, bl_not, is_non, isnt_non, cmpIs_tup, cmpIsN_tup, if_tt, if_ff, tru_int, reduceCtorEq, decide_true, decide_false, Bool.not_true, Bool.not_false, mm1, mm2, mm3, mapM1, mapM2, lstD_c0, lstD_t0, lstD_t1, lstD_t2, lstD_t3, isL_last, isi_int_non, isi_bool_non, isi_tuple_non, isi_list_non, isi_dict_non, isi_lt_non, isi_int_bl, isi_bool_bl, isi_tuple_bl, isi_list_bl, isi_dict_bl, isi_lt_bl, isi_int_int, isi_bool_int, isi_tuple_int, isi_list_int, isi_dict_int, isi_lt_int, isi_int_str, isi_bool_str, isi_tuple_str, isi_list_str, isi_dict_str, isi_lt_str, isi_int_tup, isi_bool_tup, isi_tuple_tup, isi_list_tup, isi_dict_tup, isi_lt_tup, isi_int_lst, isi_bool_lst, isi_tuple_lst, isi_list_lst, isi_dict_lst, isi_lt_lst, isi_int_dk, isi_bool_dk, isi_tuple_dk, isi_list_dk, isi_dict_dk, isi_lt_dk, tup_ty, lenT_lst, lenT_tup, intT, Bool.or_true, Bool.true_or, Bool.or_false, Bool.false_or, Bool.and_true, Bool.true_and, Bool.and_false, Bool.false_and, Z.isNon, not_true_eq_false, not_false_eq_true, Bool.not_eq_true, Bool.false_eq_true, Option.map_some, List.length_cons, List.length_nil, Nat.reduceAdd, ↓reduceIte, List.map_cons, List.map_nil, Nat.reduceSub, List.cons_append, List.nil_append, List.append_nil, List.replicate, List.set_cons_succ, List.set_cons_zero, Nat.reduceLT, gE_0, gE_s, df_0_1, df_1_2, df_2_2, df_3_1, df_4_1, df_5_1, df_6_1, df_7_1, df_8_1, df_10_1, df_14_1, df_15_1, df_16_1, df_17_2, df_18_2, df_25_1, df_25_2, df_26_1, df_27_2, df_28_1, df_29_2, df_30_2, df_31_2, df_32_2, df_33_2, df_34_2, df_35_2, df_36_2, df_37_2, df_38_2, df_39_2, df_40_2, df_41_2, df_42_1, df_43_1, df_44_1, df_45_2, c']
      · clear hg
        generalize ((x % y : Nat) : Int) = r at *
        generalize (y : Int) = Y at *
        generalize (x : Int) = X at *
        exact exs_nx (Q := fun o => o = Z.O.nx [some (.t (.int a)), some (.t (.int b)), some (.t (.int Y)), some (.t (.int r))] s) (σ1 := [some (.t (.int a)), some (.t (.int b)), some (.t (.int Y)), some (.t (.int r))]) (s1 := s) (by simp -implicitDefEqProofs only [exs, ex, ev, evs, evo, evC, rb_ok, rt_ok, of_some, lift2_t, view_t, subD_tup, subD_lst, at0, at1, at2, at3, subTT, addT, tupD2, fin_rt, fin_nx, cast0, cast1, cast2, cast3, cast4, cast5, Int.reduceLT, Int.reduceLE, Int.reduceEq, Int.reduceNe, decide_not, map_some, take_all, cmp_lt, cmp_le, cmp_gt, cmp_ge, cmp_eq, cmp_ne, tru_bl, setTg_name, setTg_tup, setTg_lst, setTgs_nil, setTgs_cons, decide_eq_true_eq, Option.bind_some, Option.bind_none, bl_not, is_non, isnt_non, cmpIs_tup, cmpIsN_tup, if_tt, if_ff, tru_int, reduceCtorEq, decide_true, decide_false, Bool.not_true, Bool.not_false, mm1, mm2, mm3, mapM1, mapM2, lstD_c0, lstD_t0, lstD_t1, lstD_t2, lstD_t3, isL_last, isi_int_non, isi_bool_non, isi_tuple_non, isi_list_non, isi_dict_non, isi_lt_non, isi_int_bl, isi_bool_bl, isi_tuple_bl, isi_list_bl, isi_dict_bl, isi_lt_bl, isi_int_int, isi_bool_int, isi_tuple_int, isi_list_int, isi_dict_int, isi_lt_int, isi_int_str, isi_bool_str, isi_tuple_str, isi_list_str, isi_dict_str, isi_lt_str, isi_int_tup, isi_bool_tup, isi_tuple_tup, isi_list_tup, isi_dict_tup, isi_lt_tup, isi_int_lst, isi_bool_lst, isi_tuple_lst, isi_list_lst, isi_dict_lst, isi_lt_lst, isi_int_dk, isi_bool_dk, isi_tuple_dk, isi_list_dk, isi_dict_dk, isi_lt_dk, tup_ty, lenT_lst, lenT_tup, intT, Bool.or_true, Bool.true_or, Bool.or_false, Bool.false_or, Bool.and_true, Bool.true_and, Bool.and_false, Bool.false_and, Z.isNon, not_true_eq_false, not_false_eq_true, Bool.not_eq_true, Bool.false_eq_true, Option.map_some, List.length_cons, List.length_nil, Nat.reduceAdd, ↓reduceIte, List.map_cons, List.map_nil, Nat.reduceSub, List.cons_append, List.nil_append, List.append_nil, List.replicate, List.set_cons_succ, List.set_cons_zero, Nat.reduceLT, gE_0, gE_s, df_0_1, df_1_2, df_2_2, df_3_1, df_4_1, df_5_1, df_6_1, df_7_1, df_8_1, df_10_1, df_14_1, df_15_1, df_16_1, df_17_2, df_18_2, df_25_1, df_25_2, df_26_1, df_27_2, df_28_1, df_29_2, df_30_2, df_31_2, df_32_2, df_33_2, df_34_2, df_35_2, df_36_2, df_37_2, df_38_2, df_39_2, df_40_2, df_41_2, df_42_1, df_43_1, df_44_1, df_45_2, hm, and_self]) rfl
      · rw [← hg, Nat.gcd_comm x y, Nat.gcd_rec y x, Nat.gcd_comm]
    · have e : y = 0 := by omega
      subst e
      refine .inl ⟨s, ?_, rfl, x, 0, rfl, hg, rfl⟩
      unfold condX
      generalize (x : Int) = X at *
      simp -implicitDefEqProofs only [exs, ex, ev, evs, evo, evC, rb_ok, rt_ok, of_some, lift2_t, view_t, subD_tup, subD_lst, at0, at1, at2, at3, subTT, addT, tupD2, fin_rt, fin_nx, cast0, cast1, cast2, cast3, cast4, cast5, Int.reduceLT, Int.reduceLE, Int.reduceEq, Int.reduceNe, decide_not, map_some, take_all, cmp_lt, cmp_le, cmp_gt, cmp_ge, cmp_eq, cmp_ne, tru_bl, setTg_name, setTg_tup, setTg_lst, setTgs_nil, setTgs_cons, decide_eq_true_eq, Option.bind_some, Option.bind_none, bl_not, is_non, isnt_non, cmpIs_tup, cmpIsN_tup, if_tt, if_ff, tru_int, reduceCtorEq, decide_true, decide_false, Bool.not_true, Bool.not_false, mm1, mm2, mm3, mapM1, mapM2, lstD_c0, lstD_t0, lstD_t1, lstD_t2, lstD_t3, isL_last, isi_int_non, isi_bool_non, isi_tuple_non, isi_list_non, isi_dict_non, isi_lt_non, isi_int_bl, isi_bool_bl, isi_tuple_bl, isi_list_bl, isi_dict_bl, isi_lt_bl, isi_int_int, isi_bool_int, isi_tuple_int, isi_list_int, isi_dict_int, isi_lt_int, isi_int_str, isi_bool_str, isi_tuple_str, isi_list_str, isi_dict_str, isi_lt_str, isi_int_tup, isi_bool_tup, isi_tuple_tup, isi_list_tup, isi_dict_tup, isi_lt_tup, isi_int_lst, isi_bool_lst, isi_tuple_lst, isi_list_lst, isi_dict_lst, isi_lt_lst, isi_int_dk, isi_bool_dk, isi_tuple_dk, isi_list_dk, isi_dict_dk, isi_lt_dk, tup_ty, lenT_lst, lenT_tup, intT, Bool.or_true, Bool.true_or, Bool.or_false, Bool.false_or, Bool.and_true, Bool.true_and, Bool.and_false, Bool.false_and, Z.isNon, not_true_eq_false, not_false_eq_true, Bool.not_eq_true, Bool.false_eq_true, Option.map_some, List.length_cons, List.length_nil, Nat.reduceAdd, ↓reduceIte, List.map_cons, List.map_nil, Nat.reduceSub, List.cons_append, List.nil_append, List.append_nil, List.replicate, List.set_cons_succ, List.set_cons_zero, Nat.reduceLT, gE_0, gE_s, df_0_1, df_1_2, df_2_2, df_3_1, df_4_1, df_5_1, df_6_1, df_7_1, df_8_1, df_10_1, df_14_1, df_15_1, df_16_1, df_17_2, df_18_2, df_25_1, df_25_2, df_26_1, df_27_2, df_28_1, df_29_2, df_30_2, df_31_2, df_32_2, df_33_2, df_34_2, df_35_2, df_36_2, df_37_2, df_38_2, df_39_2, df_40_2, df_41_2, df_42_1, df_43_1, df_44_1, df_45_2]
  · rintro σ s' s hcond ⟨rfl, x, y, hm, hg, rfl⟩
    have y0 : y = 0 := by
      unfold mu at hm
      by_cases e : y = 0
      · exact e
      · rw [if_neg e] at hm
        omega
    subst y0
    rw [Nat.gcd_zero_right] at hg
    subst hg
    generalize ((0 : Nat) : Int) = y0 at *
    generalize (x : Int) = X at *
    exact exs_rt (Q := fun o => o = Z.O.rt (.t (fr (a / X, b / X))) s) (d := .t (fr (a / X, b / X))) (s1 := s) (by simp -implicitDefEqProofs only [exs, ex, ev, evs, evo, evC, rb_ok, rt_ok, of_some, lift2_t, view_t, subD_tup, subD_lst, at0, at1, at2, at3, subTT, addT, tupD2, fin_rt, fin_nx, cast0, cast1, cast2, cast3, cast4, cast5, Int.reduceLT, Int.reduceLE, Int.reduceEq, Int.reduceNe, decide_not, map_some, take_all, cmp_lt, cmp_le, cmp_gt, cmp_ge, cmp_eq, cmp_ne, tru_bl, setTg_name, setTg_tup, setTg_lst, setTgs_nil, setTgs_cons, decide_eq_true_eq, Option.bind_some, Option.bind_none, bl_not, is_non, isnt_non, cmpIs_tup, cmpIsN_tup, if_tt, if_ff, tru_int, reduceCtorEq, decide_true, decide_false, Bool.not_true, Bool.not_false, mm1, mm2, mm3, mapM1, mapM2, lstD_c0, lstD_t0, lstD_t1, lstD_t2, lstD_t3, isL_last, isi_int_non, isi_bool_non, isi_tuple_non, isi_list_non, isi_dict_non, isi_lt_non, isi_int_bl, isi_bool_bl, isi_tuple_bl, isi_list_bl, isi_dict_bl, isi_lt_bl, isi_int_int, isi_bool_int, isi_tuple_int, isi_list_int, isi_dict_int, isi_lt_int, isi_int_str, isi_bool_str, isi_tuple_str, isi_list_str, isi_dict_str, isi_lt_str, isi_int_tup, isi_bool_tup, isi_tuple_tup, isi_list_tup, isi_dict_tup, isi_lt_tup, isi_int_lst, isi_bool_lst, isi_tuple_lst, isi_list_lst, isi_dict_lst, isi_lt_lst, isi_int_dk, isi_bool_dk, isi_tuple_dk, isi_list_dk, isi_dict_dk, isi_lt_dk, tup_ty, lenT_lst, lenT_tup, intT, Bool.or_true, Bool.true_or, Bool.or_false, Bool.false_or, Bool.and_true, Bool.true_and, Bool.and_false, Bool.false_and, Z.isNon, not_true_eq_false, not_false_eq_true, Bool.not_eq_true, Bool.false_eq_true, Option.map_some, List.length_cons, List.length_nil, Nat.reduceAdd, ↓reduceIte, List.map_cons, List.map_nil, Nat.reduceSub, List.cons_append, List.nil_append, List.append_nil, List.replicate, List.set_cons_succ, List.set_cons_zero, Nat.reduceLT, gE_0, gE_s, df_0_1, df_1_2, df_2_2, df_3_1, df_4_1, df_5_1, df_6_1, df_7_1, df_8_1, df_10_1, df_14_1, df_15_1, df_16_1, df_17_2, df_18_2, df_25_1, df_25_2, df_26_1, df_27_2, df_28_1, df_29_2, df_30_2, df_31_2, df_32_2, df_33_2, df_34_2, df_35_2, df_36_2, df_37_2, df_38_2, df_39_2, df_40_2, df_41_2, df_42_1, df_43_1, df_44_1, df_45_2, d1, d2]) rfl
section
variable (k : Nat) (x y : P2) (st : S) (hx1 : Bd 20 x.1) (hx2 : Bd 20 x.2) (hy1 : Bd 370 y.1) (hy2 : Bd 370 y.2)
include hx1 hx2 hy1 hy2
theorem r_plus (h : 0 < x.2 * y.2) : callN lib.ft lib.g0 (k + 2) 33 [.t (fr x), .t (fr y)] st = .ok (.t (fr (Rw9.low (x.1 * y.2 + y.1 * x.2, x.2 * y.2)))) st := by
  have hl := r_low k _ _ st h (Bd.add ((hx1.mul hy2).mono (by decide)) ((hy1.mul hx2).mono (by decide)) (show 390 + 1 ≤ 400 by decide)) ((hx2.mul hy2).mono (by decide))
  have m1 := mulT hx1 hy2 (by decide)
  have m2 := mulT hy1 hx2 (by decide)
  have m3 := mulT hx2 hy2 (by decide)
  rw [callN_succ (F := F33) rfl]; simp -implicitDefEqProofs only [callF, F33, List.length_cons, List.length_nil, Nat.reduceAdd, ↓reduceIte, List.map_cons, List.map_nil, Nat.reduceSub, List.cons_append, List.nil_append, List.append_nil, List.replicate, List.set_cons_succ, List.set_cons_zero, Nat.reduceLT, gE_0, gE_s]
  simp -implicitDefEqProofs only [exs, ex, ev, evs, evo, evC, rb_ok, rt_ok, of_some, lift2_t, view_t, subD_tup, subD_lst, at0, at1, at2, at3, subTT, addT, tupD2, fin_rt, fin_nx, cast0, cast1, cast2, cast3, cast4, cast5, Int.reduceLT, Int.reduceLE, Int.reduceEq, Int.reduceNe, decide_not, map_some, take_all, cmp_lt, cmp_le, cmp_gt, cmp_ge, cmp_eq, cmp_ne, tru_bl, setTg_name, setTg_tup, setTg_lst, setTgs_nil, setTgs_cons, decide_eq_true_eq, Option.bind_some, Option.bind_none, bl_not, is_non, isnt_non, cmpIs_tup, cmpIsN_tup, if_tt, if_ff, tru_int, reduceCtorEq, decide_true, decide_false, Bool.not_true, Bool.not_false, mm1, mm2, mm3, mapM1, mapM2, lstD_c0, lstD_t0, lstD_t1, lstD_t2, lstD_t3, isL_last, isi_int_non, isi_bool_non, isi_tuple_non, isi_list_non, isi_dict_non, isi_lt_non, isi_int_bl, isi_bool_bl, isi_tuple_bl, isi_list_bl, isi_dict_bl, isi_lt_bl, isi_int_int, isi_bool_int, isi_tuple_int, isi_list_int, isi_dict_int, isi_lt_int, isi_int_str, isi_bool_str, isi_tuple_str, isi_list_str, isi_dict_str, isi_lt_str, isi_int_tup, isi_bool_tup, isi_tuple_tup, isi_list_tup, isi_dict_tup, isi_lt_tup, isi_int_lst, isi_bool_lst, isi_tuple_lst, isi_list_lst, isi_dict_lst, isi_lt_lst, isi_int_dk, isi_bool_dk, isi_tuple_dk, isi_list_dk, isi_dict_dk, isi_lt_dk, tup_ty, lenT_lst, lenT_tup, intT, Bool.or_true, Bool.true_or, Bool.or_false, Bool.false_or, Bool.and_true, Bool.true_and, Bool.and_false, Bool.false_and, Z.isNon, not_true_eq_false, not_false_eq_true, Bool.not_eq_true, Bool.false_eq_true, Option.map_some, List.length_cons, List.length_nil, Nat.reduceAdd, ↓reduceIte, List.map_cons, List.map_nil, Nat.reduceSub, List.cons_append, List.nil_append, List.append_nil, List.replicate, List.set_cons_succ, List.set_cons_zero, Nat.reduceLT, gE_0, gE_s, df_0_1, df_1_2, df_2_2, df_3_1, df_4_1, df_5_1, df_6_1, df_7_1, df_8_1, df_10_1, df_14_1, df_15_1, df_16_1, df_17_2, df_18_2, df_25_1, df_25_2, df_26_1, df_27_2, df_28_1, df_29_2, df_30_2, df_31_2, df_32_2, df_33_2, df_34_2, df_35_2, df_36_2, df_37_2, df_38_2, df_39_2, df_40_2, df_41_2, df_42_1, df_43_1, df_44_1, df_45_2, m1, m2, m3, hl]
theorem r_minus (h : 0 < x.2 * y.2) : callN lib.ft lib.g0 (k + 2) 34 [.t (fr x), .t (fr y)] st = .ok (.t (fr (Rw9.minus x y))) st := by
  have hl := r_low k _ _ st h (Bd.sub ((hx1.mul hy2).mono (by decide)) ((hy1.mul hx2).mono (by decide)) (show 390 + 1 ≤ 400 by decide)) ((hx2.mul hy2).mono (by decide))
  have m1 := mulT hx1 hy2 (by decide)
  have m2 := mulT hy1 hx2 (by decide)
  have m3 := mulT hx2 hy2 (by decide)
  rw [callN_succ (F := F34) rfl]; simp -implicitDefEqProofs only [callF, F34, List.length_cons, List.length_nil, Nat.reduceAdd, ↓reduceIte, List.map_cons, List.map_nil, Nat.reduceSub, List.cons_append, List.nil_append, List.append_nil, List.replicate, List.set_cons_succ, List.set_cons_zero, Nat.reduceLT, gE_0, gE_s]
  simp -implicitDefEqProofs only [exs, ex, ev, evs, evo, evC, rb_ok, rt_ok, of_some, lift2_t, view_t, subD_tup, subD_lst, at0, at1, at2, at3, subTT, addT, tupD2, fin_rt, fin_nx, cast0, cast1, cast2, cast3, cast4, cast5, Int.reduceLT, Int.reduceLE, Int.reduceEq, Int.reduceNe, decide_not, map_some, take_all, cmp_lt, cmp_le, cmp_gt, cmp_ge, cmp_eq, cmp_ne, tru_bl, setTg_name, setTg_tup, setTg_lst, setTgs_nil, setTgs_cons, decide_eq_true_eq, Option.bind_some, Option.bind_none, bl_not, is_non, isnt_non, cmpIs_tup, cmpIsN_tup, if_tt, if_ff, tru_int, reduceCtorEq, decide_true, decide_false, Bool.not_true, Bool.not_false, mm1, mm2, mm3, mapM1, mapM2, lstD_c0, lstD_t0, lstD_t1, lstD_t2, lstD_t3, isL_last, isi_int_non, isi_bool_non, isi_tuple_non, isi_list_non, isi_dict_non, isi_lt_non, isi_int_bl, isi_bool_bl, isi_tuple_bl, isi_list_bl, isi_dict_bl, isi_lt_bl, isi_int_int, isi_bool_int, isi_tuple_int, isi_list_int, isi_dict_int, isi_lt_int, isi_int_str, isi_bool_str, isi_tuple_str, isi_list_str, isi_dict_str, isi_lt_str, isi_int_tup, isi_bool_tup, isi_tuple_tup, isi_list_tup, isi_dict_tup, isi_lt_tup, isi_int_lst, isi_bool_lst, isi_tuple_lst, isi_list_lst, isi_dict_lst, isi_lt_lst, isi_int_dk, isi_bool_dk, isi_tuple_dk, isi_list_dk, isi_dict_dk, isi_lt_dk, tup_ty, lenT_lst, lenT_tup, intT, Bool.or_true, Bool.true_or, Bool.or_false, Bool.false_or, Bool.and_true, Bool.true_and, Bool.and_false, Bool.false_and, Z.isNon, not_true_eq_false, not_false_eq_true, Bool.not_eq_true, Bool.false_eq_true, Option.map_some, List.length_cons, List.length_nil, Nat.reduceAdd, ↓reduceIte, List.map_cons, List.map_nil, Nat.reduceSub, List.cons_append, List.nil_append, List.append_nil, List.replicate, List.set_cons_succ, List.set_cons_zero, Nat.reduceLT, gE_0, gE_s, df_0_1, df_1_2, df_2_2, df_3_1, df_4_1, df_5_1, df_6_1, df_7_1, df_8_1, df_10_1, df_14_1, df_15_1, df_16_1, df_17_2, df_18_2, df_25_1, df_25_2, df_26_1, df_27_2, df_28_1, df_29_2, df_30_2, df_31_2, df_32_2, df_33_2, df_34_2, df_35_2, df_36_2, df_37_2, df_38_2, df_39_2, df_40_2, df_41_2, df_42_1, df_43_1, df_44_1, df_45_2, m1, m2, m3, hl]
  rfl
theorem r_times (h : 0 < x.2 * y.2) : callN lib.ft lib.g0 (k + 2) 35 [.t (fr x), .t (fr y)] st = .ok (.t (fr (Rw9.low (x.1 * y.1, x.2 * y.2)))) st := by
  have hl := r_low k _ _ st h ((hx1.mul hy1).mono (by decide)) ((hx2.mul hy2).mono (by decide))
  have m1 := mulT hx1 hy1 (by decide)
  have m3 := mulT hx2 hy2 (by decide)
  rw [callN_succ (F := F35) rfl]; simp -implicitDefEqProofs only [callF, F35, List.length_cons, List.length_nil, Nat.reduceAdd, ↓reduceIte, List.map_cons, List.map_nil, Nat.reduceSub, List.cons_append, List.nil_append, List.append_nil, List.replicate, List.set_cons_succ, List.set_cons_zero, Nat.reduceLT, gE_0, gE_s]
  simp -implicitDefEqProofs only [exs, ex, ev, evs, evo, evC, rb_ok, rt_ok, of_some, lift2_t, view_t, subD_tup, subD_lst, at0, at1, at2, at3, subTT, addT, tupD2, fin_rt, fin_nx, cast0, cast1, cast2, cast3, cast4, cast5, Int.reduceLT, Int.reduceLE, Int.reduceEq, Int.reduceNe, decide_not, map_some, take_all, cmp_lt, cmp_le, cmp_gt, cmp_ge, cmp_eq, cmp_ne, tru_bl, setTg_name, setTg_tup, setTg_lst, setTgs_nil, setTgs_cons, decide_eq_true_eq, Option.bind_some, Option.bind_none, bl_not, is_non, isnt_non, cmpIs_tup, cmpIsN_tup, if_tt, if_ff, tru_int, reduceCtorEq, decide_true, decide_false, Bool.not_true, Bool.not_false, mm1, mm2, mm3, mapM1, mapM2, lstD_c0, lstD_t0, lstD_t1, lstD_t2, lstD_t3, isL_last, isi_int_non, isi_bool_non, isi_tuple_non, isi_list_non, isi_dict_non, isi_lt_non, isi_int_bl, isi_bool_bl, isi_tuple_bl, isi_list_bl, isi_dict_bl, isi_lt_bl, isi_int_int, isi_bool_int, isi_tuple_int, isi_list_int, isi_dict_int, isi_lt_int, isi_int_str, isi_bool_str, isi_tuple_str, isi_list_str, isi_dict_str, isi_lt_str, isi_int_tup, isi_bool_tup, isi_tuple_tup, isi_list_tup, isi_dict_tup, isi_lt_tup, isi_int_lst, isi_bool_lst, isi_tuple_lst, isi_list_lst, isi_dict_lst, isi_lt_lst, isi_int_dk, isi_bool_dk, isi_tuple_dk, isi_list_dk, isi_dict_dk, isi_lt_dk, tup_ty, lenT_lst, lenT_tup, intT, Bool.or_true, Bool.true_or, Bool.or_false, Bool.false_or, Bool.and_true, Bool.true_and, Bool.and_false, Bool.false_and, Z.isNon, not_true_eq_false, not_false_eq_true, Bool.not_eq_true, Bool.false_eq_true, Option.map_some, List.length_cons, List.length_nil, Nat.reduceAdd, ↓reduceIte, List.map_cons, List.map_nil, Nat.reduceSub, List.cons_append, List.nil_append, List.append_nil, List.replicate, List.set_cons_succ, List.set_cons_zero, Nat.reduceLT, gE_0, gE_s, df_0_1, df_1_2, df_2_2, df_3_1, df_4_1, df_5_1, df_6_1, df_7_1, df_8_1, df_10_1, df_14_1, df_15_1, df_16_1, df_17_2, df_18_2, df_25_1, df_25_2, df_26_1, df_27_2, df_28_1, df_29_2, df_30_2, df_31_2, df_32_2, df_33_2, df_34_2, df_35_2, df_36_2, df_37_2, df_38_2, df_39_2, df_40_2, df_41_2, df_42_1, df_43_1, df_44_1, df_45_2, m1, m3, hl]
theorem r_over (h : 0 < x.2 * y.1) : callN lib.ft lib.g0 (k + 2) 36 [.t (fr x), .t (fr y)] st = .ok (.t (fr (Rw9.over x y))) st := by
  have hl := r_low k _ _ st h ((hx1.mul hy2).mono (by decide)) ((hx2.mul hy1).mono (by decide))
  have m1 := mulT hx1 hy2 (by decide)
  have m3 := mulT hx2 hy1 (by decide)
  rw [callN_succ (F := F36) rfl]; simp -implicitDefEqProofs only [callF, F36, List.length_cons, List.length_nil, Nat.reduceAdd, ↓reduceIte, List.map_cons, List.map_nil, Nat.reduceSub, List.cons_append, List.nil_append, List.append_nil, List.replicate, List.set_cons_succ, List.set_cons_zero, Nat.reduceLT, gE_0, gE_s]
  simp -implicitDefEqProofs only [exs, ex, ev, evs, evo, evC, rb_ok, rt_ok, of_some, lift2_t, view_t, subD_tup, subD_lst, at0, at1, at2, at3, subTT, addT, tupD2, fin_rt, fin_nx, cast0, cast1, cast2, cast3, cast4, cast5, Int.reduceLT, Int.reduceLE, Int.reduceEq, Int.reduceNe, decide_not, map_some, take_all, cmp_lt, cmp_le, cmp_gt, cmp_ge, cmp_eq, cmp_ne, tru_bl, setTg_name, setTg_tup, setTg_lst, setTgs_nil, setTgs_cons, decide_eq_true_eq, Option.bind_some, Option.bind_none, bl_not, is_non, isnt_non, cmpIs_tup, cmpIsN_tup, if_tt, if_ff, tru_int, reduceCtorEq, decide_true, decide_false, Bool.not_true, Bool.not_false, mm1, mm2, mm3, mapM1, mapM2, lstD_c0, lstD_t0, lstD_t1, lstD_t2, lstD_t3, isL_last, isi_int_non, isi_bool_non, isi_tuple_non, isi_list_non, isi_dict_non, isi_lt_non, isi_int_bl, isi_bool_bl, isi_tuple_bl, isi_list_bl, isi_dict_bl, isi_lt_bl, isi_int_int, isi_bool_int, isi_tuple_int, isi_list_int, isi_dict_int, isi_lt_int, isi_int_str, isi_bool_str, isi_tuple_str, isi_list_str, isi_dict_str, isi_lt_str, isi_int_tup, isi_bool_tup, isi_tuple_tup, isi_list_tup, isi_dict_tup, isi_lt_tup, isi_int_lst, isi_bool_lst, isi_tuple_lst, isi_list_lst, isi_dict_lst, isi_lt_lst, isi_int_dk, isi_bool_dk, isi_tuple_dk, isi_list_dk, isi_dict_dk, isi_lt_dk, tup_ty, lenT_lst, lenT_tup, intT, Bool.or_true, Bool.true_or, Bool.or_false, Bool.false_or, Bool.and_true, Bool.true_and, Bool.and_false, Bool.false_and, Z.isNon, not_true_eq_false, not_false_eq_true, Bool.not_eq_true, Bool.false_eq_true, Option.map_some, List.length_cons, List.length_nil, Nat.reduceAdd, ↓reduceIte, List.map_cons, List.map_nil, Nat.reduceSub, List.cons_append, List.nil_append, List.append_nil, List.replicate, List.set_cons_succ, List.set_cons_zero, Nat.reduceLT, gE_0, gE_s, df_0_1, df_1_2, df_2_2, df_3_1, df_4_1, df_5_1, df_6_1, df_7_1, df_8_1, df_10_1, df_14_1, df_15_1, df_16_1, df_17_2, df_18_2, df_25_1, df_25_2, df_26_1, df_27_2, df_28_1, df_29_2, df_30_2, df_31_2, df_32_2, df_33_2, df_34_2, df_35_2, df_36_2, df_37_2, df_38_2, df_39_2, df_40_2, df_41_2, df_42_1, df_43_1, df_44_1, df_45_2, m1, m3, hl]
  rfl
end
theorem r_less (k : Nat) (x y : P2) (st : S) (hx1 : Bd 400 x.1) (hx2 : Bd 400 x.2) (hy1 : Bd 400 y.1) (hy2 : Bd 400 y.2) : callN lib.ft lib.g0 (k + 1) 37 [.t (fr x), .t (fr y)] st = .ok (.t (.bl (decide (x.1 * y.2 < y.1 * x.2)))) st := by
  have m1 := mulT hx1 hy2 (by decide)
  have m2 := mulT hy1 hx2 (by decide)
  rw [callN_succ (F := F37) rfl]; simp -implicitDefEqProofs only [callF, F37, List.length_cons, List.length_nil, Nat.reduceAdd, ↓reduceIte, List.map_cons, List.map_nil, Nat.reduceSub, List.cons_append, List.nil_append, List.append_nil, List.replicate, List.set_cons_succ, List.set_cons_zero, Nat.reduceLT, gE_0, gE_s]
  simp -implicitDefEqProofs only [exs, ex, ev, evs, evo, evC, rb_ok, rt_ok, of_some, lift2_t, view_t, subD_tup, subD_lst, at0, at1, at2, at3, subTT, addT, tupD2, fin_rt, fin_nx, cast0, cast1, cast2, cast3, cast4, cast5, Int.reduceLT, Int.reduceLE, Int.reduceEq, Int.reduceNe, decide_not, map_some, take_all, cmp_lt, cmp_le, cmp_gt, cmp_ge, cmp_eq, cmp_ne, tru_bl, setTg_name, setTg_tup, setTg_lst, setTgs_nil, setTgs_cons, decide_eq_true_eq, Option.bind_some, Option.bind_none, bl_not, is_non, isnt_non, cmpIs_tup, cmpIsN_tup, if_tt, if_ff, tru_int, reduceCtorEq, decide_true, decide_false, Bool.not_true, Bool.not_false, mm1, mm2, mm3, mapM1, mapM2, lstD_c0, lstD_t0, lstD_t1, lstD_t2, lstD_t3, isL_last, isi_int_non, isi_bool_non, isi_tuple_non, isi_list_non, isi_dict_non, isi_lt_non, isi_int_bl, isi_bool_bl, isi_tuple_bl, isi_list_bl, isi_dict_bl, isi_lt_bl, isi_int_int, isi_bool_int, isi_tuple_int, isi_list_int, isi_dict_int, isi_lt_int, isi_int_str, isi_bool_str, isi_tuple_str, isi_list_str, isi_dict_str, isi_lt_str, isi_int_tup, isi_bool_tup, isi_tuple_tup, isi_list_tup, isi_dict_tup, isi_lt_tup, isi_int_lst, isi_bool_lst, isi_tuple_lst, isi_list_lst, isi_dict_lst, isi_lt_lst, isi_int_dk, isi_bool_dk, isi_tuple_dk, isi_list_dk, isi_dict_dk, isi_lt_dk, tup_ty, lenT_lst, lenT_tup, intT, Bool.or_true, Bool.true_or, Bool.or_false, Bool.false_or, Bool.and_true, Bool.true_and, Bool.and_false, Bool.false_and, Z.isNon, not_true_eq_false, not_false_eq_true, Bool.not_eq_true, Bool.false_eq_true, Option.map_some, List.length_cons, List.length_nil, Nat.reduceAdd, ↓reduceIte, List.map_cons, List.map_nil, Nat.reduceSub, List.cons_append, List.nil_append, List.append_nil, List.replicate, List.set_cons_succ, List.set_cons_zero, Nat.reduceLT, gE_0, gE_s, df_0_1, df_1_2, df_2_2, df_3_1, df_4_1, df_5_1, df_6_1, df_7_1, df_8_1, df_10_1, df_14_1, df_15_1, df_16_1, df_17_2, df_18_2, df_25_1, df_25_2, df_26_1, df_27_2, df_28_1, df_29_2, df_30_2, df_31_2, df_32_2, df_33_2, df_34_2, df_35_2, df_36_2, df_37_2, df_38_2, df_39_2, df_40_2, df_41_2, df_42_1, df_43_1, df_44_1, df_45_2, m1, m2]
end Lw
end Z
end
section
set_option Elab.async false
set_option linter.all false
set_option maxRecDepth 100000
set_option maxHeartbeats 4000000
namespace Z
namespace Lw

open PySem L2 Zr
theorem bd_one : Bd 20 (1 : Int) := by unfold Bd; decide
theorem one_ps : Rw9.Ps ((1, 1) : P2) := ⟨by decide, by decide⟩
/-- one step of the law's own way -/
theorem r_step (k : Nat) (s x : P2) (st : S) (hs : Shr s) (hx : Rw9.Ps x) (h1 : Bd 300 x.1) (h2 : Bd 300 x.2) :
    callN lib.ft lib.g0 (k + 2) 36 [.t (fr s), .t (fr x)] st = .ok (.t (fr (Rw9.over s x))) st ∧
    callN lib.ft lib.g0 (k + 2) 34 [.t (fr (1, 1)), .t (fr (Rw9.over s x))] st = .ok (.t (fr (Rw9.minus (1, 1) (Rw9.over s x)))) st := by
  have hp : 0 < s.2 * x.1 := Int.mul_pos hs.sh.2.2 hx.1
  obtain ⟨o1, o2⟩ := bd_low (k := 318) (p := (s.1 * x.2, s.2 * x.1)) (hs.b1.mul h2) (hs.b2.mul h1)
  refine ⟨r_over k s x st (hs.b1.mono (by decide)) (hs.b2.mono (by decide)) (h1.mono (by decide)) (h2.mono (by decide)) hp, ?_⟩
  refine r_minus k (1, 1) (Rw9.over s x) st bd_one bd_one (o1.mono (by decide)) (o2.mono (by decide)) ?_
  show 0 < 1 * (Rw9.over s x).2
  have := Rw9.low_pos (p := (s.1 * x.2, s.2 * x.1)) hp
  have : 0 < (Rw9.over s x).2 := this
  omega
theorem r_gone (k : Nat) (P : List P2) (x : P2) (st : S) (hP : ∀ s ∈ P, Shr s) (hl : P.length ≤ 8) (hx : Rw9.Ps x) (h1 : Bd 140 x.1) (h2 : Bd 140 x.2) :
    callN lib.ft lib.g0 (k + 3) 40 [.t (.lst (P.map fr)), .t (fr x)] st = .ok (.t (oT (Rw9.gone P x))) st := by
  rw [callN_succ (F := F40) rfl]; simp -implicitDefEqProofs only [callF, F40, List.length_cons, List.length_nil, Nat.reduceAdd, ↓reduceIte, List.map_cons, List.map_nil, Nat.reduceSub, List.cons_append, List.nil_append, List.append_nil, List.replicate, List.set_cons_succ, List.set_cons_zero, Nat.reduceLT, gE_0, gE_s]
  refine fin_eq (o' := .rt (.t (oT (Rw9.gone P x))) st) ?_ (by rw [fin_rt rfl, take_all])
  refine exs_for (Q := fun o => o = Z.O.rt (.t (oT (Rw9.gone P x))) st) (ds := (P.map fr).map D.t) (u := none) (s1 := st)
    (fun i σ s => s = st ∧ ∃ a y, σ = [some (.t (.lst (P.map fr))), some (.t (fr y)), a] ∧ Rw9.gone P x = Rw9.gone (P.drop i) y ∧ Rw9.Ps y ∧ Bd (140 + 19 * i) y.1 ∧ Bd (140 + 19 * i) y.2)
    (by simp -implicitDefEqProofs only [exs, ex, ev, evs, evo, evC, rb_ok, rt_ok, of_some, lift2_t, view_t, subD_tup, subD_lst, at0, at1, at2, at3, subTT, addT, tupD2, fin_rt, fin_nx, cast0, cast1, cast2, cast3, cast4, cast5, Int.reduceLT, Int.reduceLE, Int.reduceEq, Int.reduceNe, decide_not, map_some, take_all, cmp_lt, cmp_le, cmp_gt, cmp_ge, cmp_eq, cmp_ne, tru_bl, setTg_name, setTg_tup, setTg_lst, setTgs_nil, setTgs_cons, decide_eq_true_eq, Option.bind_some, Option.bind_none, bl_not, is_non, isnt_non, cmpIs_tup, cmpIsN_tup, if_tt, if_ff, tru_int, reduceCtorEq, decide_true, decide_false, Bool.not_true, Bool.not_false, mm1, mm2, mm3, mapM1, mapM2, lstD_c0, lstD_t0, lstD_t1, lstD_t2, lstD_t3, isL_last, isi_int_non, isi_bool_non, isi_tuple_non, isi_list_non, isi_dict_non, isi_lt_non, isi_int_bl, isi_bool_bl, isi_tuple_bl, isi_list_bl, isi_dict_bl, isi_lt_bl, isi_int_int, isi_bool_int, isi_tuple_int, isi_list_int, isi_dict_int, isi_lt_int, isi_int_str, isi_bool_str, isi_tuple_str, isi_list_str, isi_dict_str, isi_lt_str, isi_int_tup, isi_bool_tup, isi_tuple_tup, isi_list_tup, isi_dict_tup, isi_lt_tup, isi_int_lst, isi_bool_lst, isi_tuple_lst, isi_list_lst, isi_dict_lst, isi_lt_lst, isi_int_dk, isi_bool_dk, isi_tuple_dk, isi_list_dk, isi_dict_dk, isi_lt_dk, tup_ty, lenT_lst, lenT_tup, intT, Bool.or_true, Bool.true_or, Bool.or_false, Bool.false_or, Bool.and_true, Bool.true_and, Bool.and_false, Bool.false_and, Z.isNon, not_true_eq_false, not_false_eq_true, Bool.not_eq_true, Bool.false_eq_true, Option.map_some, List.length_cons, List.length_nil, Nat.reduceAdd, ↓reduceIte, List.map_cons, List.map_nil, Nat.reduceSub, List.cons_append, List.nil_append, List.append_nil, List.replicate, List.set_cons_succ, List.set_cons_zero, Nat.reduceLT, gE_0, gE_s, df_0_1, df_1_2, df_2_2, df_3_1, df_4_1, df_5_1, df_6_1, df_7_1, df_8_1, df_10_1, df_14_1, df_15_1, df_16_1, df_17_2, df_18_2, df_25_1, df_25_2, df_26_1, df_27_2, df_28_1, df_29_2, df_30_2, df_31_2, df_32_2, df_33_2, df_34_2, df_35_2, df_36_2, df_37_2, df_38_2, df_39_2, df_40_2, df_41_2, df_42_1, df_43_1, df_44_1, df_45_2, evI, walk_frs]) ⟨rfl, none, x, rfl, rfl, hx, h1, h2⟩ ?_ ?_
  · rintro j d σ s hd ⟨rfl, a, y, rfl, hg, hy, b1, b2⟩
    obtain ⟨s', rfl, hp⟩ := item_frs hd
    have hs' := hP s' (List.mem_of_getElem? hp)
    obtain ⟨hj, ej⟩ := List.getElem?_eq_some_iff.mp hp
    have ed : P.drop j = s' :: P.drop (j + 1) := by rw [List.drop_eq_getElem_cons hj, ej]
    rw [ed] at hg
    have hg : Rw9.gone P x = if (Rw9.minus (1, 1) (Rw9.over s' y)).1 < 1 then none else Rw9.gone (P.drop (j + 1)) (Rw9.minus (1, 1) (Rw9.over s' y)) := hg
    have hst := fun st => r_step k s' y st hs' hy (b1.mono (by omega)) (b2.mono (by omega))
    have e := Rw9.step_eq hs'.sh hy
    obtain ⟨c1, c2⟩ := bd_beh b1 b2 hs'
    obtain ⟨c1, c2⟩ := bd_low c1 c2
    have cp := Rw9.low_pos (p := Rw9.beh y s') (Int.mul_pos hy.1 hs'.sh.2.2)
    rw [← e] at c1 c2 cp
    clear e
    rw [turnX_nx (σ1 := [some (.t (.lst (P.map fr))), some (.t (fr y)), some (.t (fr s'))]) rfl]
    generalize Rw9.over s' y = o at *
    generalize Rw9.minus (1, 1) o = z at *
    have ho := fun st => (hst st).1
    have hm := fun st => (hst st).2
    clear hst
    by_cases c : z.1 < 1
    · rw [if_pos c] at hg
      refine .inr ⟨.t .non, s, ?_, by rw [hg]; rfl⟩
      refine exs_nx (Q := fun o => o = Z.O.rt (.t .non) s) (σ1 := [some (.t (.lst (P.map fr))), some (.t (fr z)), some (.t (fr s'))]) (s1 := s) (by simp -implicitDefEqProofs only [exs, ex, ev, evs, evo, evC, rb_ok, rt_ok, of_some, lift2_t, view_t, subD_tup, subD_lst, at0, at1, at2, at3, subTT, addT, tupD2, fin_rt, fin_nx, cast0, cast1, cast2, cast3, cast4, cast5, Int.reduceLT, Int.reduceLE, Int.reduceEq, Int.reduceNe, decide_not, map_some, take_all, cmp_lt, cmp_le, cmp_gt, cmp_ge, cmp_eq, cmp_ne, tru_bl, setTg_name, setTg_tup, setTg_lst, setTgs_nil, setTgs_cons, decide_eq_true_eq, Option.bind_some, Option.bind_none, bl_not, is_non, isnt_non, cmpIs_tup, cmpIsN_tup, if_tt, if_ff, tru_int, reduceCtorEq, decide_true, decide_false, Bool.not_true, Bool.not_false, mm1, mm2, mm3, mapM1, mapM2, lstD_c0, lstD_t0, lstD_t1, lstD_t2, lstD_t3, isL_last, isi_int_non, isi_bool_non, isi_tuple_non, isi_list_non, isi_dict_non, isi_lt_non, isi_int_bl, isi_bool_bl, isi_tuple_bl, isi_list_bl, isi_dict_bl, isi_lt_bl, isi_int_int, isi_bool_int, isi_tuple_int, isi_list_int, isi_dict_int, isi_lt_int, isi_int_str, isi_bool_str, isi_tuple_str, isi_list_str, isi_dict_str, isi_lt_str, isi_int_tup, isi_bool_tup, isi_tuple_tup, isi_list_tup, isi_dict_tup, isi_lt_tup, isi_int_lst, isi_bool_lst, isi_tuple_lst, isi_list_lst, isi_dict_lst, isi_lt_lst, isi_int_dk, isi_bool_dk, isi_tuple_dk, isi_list_dk, isi_dict_dk, isi_lt_dk, tup_ty, lenT_lst, lenT_tup, intT, Bool.or_true, Bool.true_or, Bool.or_false, Bool.false_or, Bool.and_true, Bool.true_and, Bool.and_false, Bool.false_and, Z.isNon, not_true_eq_false, not_false_eq_true, Bool.not_eq_true, Bool.false_eq_true, Option.map_some, List.length_cons, List.length_nil, Nat.reduceAdd, ↓reduceIte, List.map_cons, List.map_nil, Nat.reduceSub, List.cons_append, List.nil_append, List.append_nil, List.replicate, List.set_cons_succ, List.set_cons_zero, Nat.reduceLT, gE_0, gE_s, df_0_1, df_1_2, df_2_2, df_3_1, df_4_1, df_5_1, df_6_1, df_7_1, df_8_1, df_10_1, df_14_1, df_15_1, df_16_1, df_17_2, df_18_2, df_25_1, df_25_2, df_26_1, df_27_2, df_28_1, df_29_2, df_30_2, df_31_2, df_32_2, df_33_2, df_34_2, df_35_2, df_36_2, df_37_2, df_38_2, df_39_2, df_40_2, df_41_2, df_42_1, df_43_1, df_44_1, df_45_2, ho s, hm s]) ?_
      exact exs_rt (Q := fun o => o = Z.O.rt (.t .non) s) (d := .t .non) (s1 := s) (by simp -implicitDefEqProofs only [exs, ex, ev, evs, evo, evC, rb_ok, rt_ok, of_some, lift2_t, view_t, subD_tup, subD_lst, at0, at1, at2, at3, subTT, addT, tupD2, fin_rt, fin_nx, cast0, cast1, cast2, cast3, cast4, cast5, Int.reduceLT, Int.reduceLE, Int.reduceEq, Int.reduceNe, decide_not, map_some, take_all, cmp_lt, cmp_le, cmp_gt, cmp_ge, cmp_eq, cmp_ne, tru_bl, setTg_name, setTg_tup, setTg_lst, setTgs_nil, setTgs_cons, decide_eq_true_eq, Option.bind_some, Option.bind_none, bl_not, is_non, isnt_non, cmpIs_tup, cmpIsN_tup, if_tt, if_ff, tru_int, reduceCtorEq, decide_true, decide_false, Bool.not_true, Bool.not_false, mm1, mm2, mm3, mapM1, mapM2, lstD_c0, lstD_t0, lstD_t1, lstD_t2, lstD_t3, isL_last, isi_int_non, isi_bool_non, isi_tuple_non, isi_list_non, isi_dict_non, isi_lt_non, isi_int_bl, isi_bool_bl, isi_tuple_bl, isi_list_bl, isi_dict_bl, isi_lt_bl, isi_int_int, isi_bool_int, isi_tuple_int, isi_list_int, isi_dict_int, isi_lt_int, isi_int_str, isi_bool_str, isi_tuple_str, isi_list_str, isi_dict_str, isi_lt_str, isi_int_tup, isi_bool_tup, isi_tuple_tup, isi_list_tup, isi_dict_tup, isi_lt_tup, isi_int_lst, isi_bool_lst, isi_tuple_lst, isi_list_lst, isi_dict_lst, isi_lt_lst, isi_int_dk, isi_bool_dk, isi_tuple_dk, isi_list_dk, isi_dict_dk, isi_lt_dk, tup_ty, lenT_lst, lenT_tup, intT, Bool.or_true, Bool.true_or, Bool.or_false, Bool.false_or, Bool.and_true, Bool.true_and, Bool.and_false, Bool.false_and, Z.isNon, not_true_eq_false, not_false_eq_true, Bool.not_eq_true, Bool.false_eq_true, Option.map_some, List.length_cons, List.length_nil, Nat.reduceAdd, ↓reduceIte, List.map_cons, List.map_nil, Nat.reduceSub, List.cons_append, List.nil_append, List.append_nil, List.replicate, List.set_cons_succ, List.set_cons_zero, Nat.reduceLT, gE_0, gE_s, df_0_1, df_1_2, df_2_2, df_3_1, df_4_1, df_5_1, df_6_1, df_7_1, df_8_1, df_10_1, df_14_1, df_15_1, df_16_1, df_17_2, df_18_2, df_25_1, df_25_2, df_26_1, df_27_2, df_28_1, df_29_2, df_30_2, df_31_2, df_32_2, df_33_2, df_34_2, df_35_2, df_36_2, df_37_2, df_38_2, df_39_2, df_40_2, df_41_2, df_42_1, df_43_1, df_44_1, df_45_2, c]) rfl
    · rw [if_neg c] at hg
      refine .inl ⟨[some (.t (.lst (P.map fr))), some (.t (fr z)), some (.t (fr s'))], s, .inl ?_, rfl, _, z, rfl, hg, ⟨by omega, cp⟩, c1.mono (by omega), c2.mono (by omega)⟩
      refine exs_nx (Q := fun o => o = Z.O.nx [some (.t (.lst (P.map fr))), some (.t (fr z)), some (.t (fr s'))] s) (σ1 := [some (.t (.lst (P.map fr))), some (.t (fr z)), some (.t (fr s'))]) (s1 := s) (by simp -implicitDefEqProofs only [exs, ex, ev, evs, evo, evC, rb_ok, rt_ok, of_some, lift2_t, view_t, subD_tup, subD_lst, at0, at1, at2, at3, subTT, addT, tupD2, fin_rt, fin_nx, cast0, cast1, cast2, cast3, cast4, cast5, Int.reduceLT, Int.reduceLE, Int.reduceEq, Int.reduceNe, decide_not, map_some, take_all, cmp_lt, cmp_le, cmp_gt, cmp_ge, cmp_eq, cmp_ne, tru_bl, setTg_name, setTg_tup, setTg_lst, setTgs_nil, setTgs_cons, decide_eq_true_eq, Option.bind_some, Option.bind_none, bl_not, is_non, isnt_non, cmpIs_tup, cmpIsN_tup, if_tt, if_ff, tru_int, reduceCtorEq, decide_true, decide_false, Bool.not_true, Bool.not_false, mm1, mm2, mm3, mapM1, mapM2, lstD_c0, lstD_t0, lstD_t1, lstD_t2, lstD_t3, isL_last, isi_int_non, isi_bool_non, isi_tuple_non, isi_list_non, isi_dict_non, isi_lt_non, isi_int_bl, isi_bool_bl, isi_tuple_bl, isi_list_bl, isi_dict_bl, isi_lt_bl, isi_int_int, isi_bool_int, isi_tuple_int, isi_list_int, isi_dict_int, isi_lt_int, isi_int_str, isi_bool_str, isi_tuple_str, isi_list_str, isi_dict_str, isi_lt_str, isi_int_tup, isi_bool_tup, isi_tuple_tup, isi_list_tup, isi_dict_tup, isi_lt_tup, isi_int_lst, isi_bool_lst, isi_tuple_lst, isi_list_lst, isi_dict_lst, isi_lt_lst, isi_int_dk, isi_bool_dk, isi_tuple_dk, isi_list_dk, isi_dict_dk, isi_lt_dk, tup_ty, lenT_lst, lenT_tup, intT, Bool.or_true, Bool.true_or, Bool.or_false, Bool.false_or, Bool.and_true, Bool.true_and, Bool.and_false, Bool.false_and, Z.isNon, not_true_eq_false, not_false_eq_true, Bool.not_eq_true, Bool.false_eq_true, Option.map_some, List.length_cons, List.length_nil, Nat.reduceAdd, ↓reduceIte, List.map_cons, List.map_nil, Nat.reduceSub, List.cons_append, List.nil_append, List.append_nil, List.replicate, List.set_cons_succ, List.set_cons_zero, Nat.reduceLT, gE_0, gE_s, df_0_1, df_1_2, df_2_2, df_3_1, df_4_1, df_5_1, df_6_1, df_7_1, df_8_1, df_10_1, df_14_1, df_15_1, df_16_1, df_17_2, df_18_2, df_25_1, df_25_2, df_26_1, df_27_2, df_28_1, df_29_2, df_30_2, df_31_2, df_32_2, df_33_2, df_34_2, df_35_2, df_36_2, df_37_2, df_38_2, df_39_2, df_40_2, df_41_2, df_42_1, df_43_1, df_44_1, df_45_2, ho s, hm s]) ?_
      exact exs_nx (Q := fun o => o = Z.O.nx [some (.t (.lst (P.map fr))), some (.t (fr z)), some (.t (fr s'))] s) (σ1 := [some (.t (.lst (P.map fr))), some (.t (fr z)), some (.t (fr s'))]) (s1 := s) (by simp -implicitDefEqProofs only [exs, ex, ev, evs, evo, evC, rb_ok, rt_ok, of_some, lift2_t, view_t, subD_tup, subD_lst, at0, at1, at2, at3, subTT, addT, tupD2, fin_rt, fin_nx, cast0, cast1, cast2, cast3, cast4, cast5, Int.reduceLT, Int.reduceLE, Int.reduceEq, Int.reduceNe, decide_not, map_some, take_all, cmp_lt, cmp_le, cmp_gt, cmp_ge, cmp_eq, cmp_ne, tru_bl, setTg_name, setTg_tup, setTg_lst, setTgs_nil, setTgs_cons, decide_eq_true_eq, Option.bind_some, Option.bind_none, bl_not, is_non, isnt_non, cmpIs_tup, cmpIsN_tup, if_tt, if_ff, tru_int, reduceCtorEq, decide_true, decide_false, Bool.not_true, Bool.not_false, mm1, mm2, mm3, mapM1, mapM2, lstD_c0, lstD_t0, lstD_t1, lstD_t2, lstD_t3, isL_last, isi_int_non, isi_bool_non, isi_tuple_non, isi_list_non, isi_dict_non, isi_lt_non, isi_int_bl, isi_bool_bl, isi_tuple_bl, isi_list_bl, isi_dict_bl, isi_lt_bl, isi_int_int, isi_bool_int, isi_tuple_int, isi_list_int, isi_dict_int, isi_lt_int, isi_int_str, isi_bool_str, isi_tuple_str, isi_list_str, isi_dict_str, isi_lt_str, isi_int_tup, isi_bool_tup, isi_tuple_tup, isi_list_tup, isi_dict_tup, isi_lt_tup, isi_int_lst, isi_bool_lst, isi_tuple_lst, isi_list_lst, isi_dict_lst, isi_lt_lst, isi_int_dk, isi_bool_dk, isi_tuple_dk, isi_list_dk, isi_dict_dk, isi_lt_dk, tup_ty, lenT_lst, lenT_tup, intT, Bool.or_true, Bool.true_or, Bool.or_false, Bool.false_or, Bool.and_true, Bool.true_and, Bool.and_false, Bool.false_and, Z.isNon, not_true_eq_false, not_false_eq_true, Bool.not_eq_true, Bool.false_eq_true, Option.map_some, List.length_cons, List.length_nil, Nat.reduceAdd, ↓reduceIte, List.map_cons, List.map_nil, Nat.reduceSub, List.cons_append, List.nil_append, List.append_nil, List.replicate, List.set_cons_succ, List.set_cons_zero, Nat.reduceLT, gE_0, gE_s, df_0_1, df_1_2, df_2_2, df_3_1, df_4_1, df_5_1, df_6_1, df_7_1, df_8_1, df_10_1, df_14_1, df_15_1, df_16_1, df_17_2, df_18_2, df_25_1, df_25_2, df_26_1, df_27_2, df_28_1, df_29_2, df_30_2, df_31_2, df_32_2, df_33_2, df_34_2, df_35_2, df_36_2, df_37_2, df_38_2, df_39_2, df_40_2, df_41_2, df_42_1, df_43_1, df_44_1, df_45_2, c]) rfl
  · rintro σ s ⟨rfl, a, y, rfl, hg, hy, b1, b2⟩
    rw [List.length_map, List.length_map, List.drop_length] at hg
    have hg : Rw9.gone P x = some y := hg
    rw [hg]
    show exs _ _ _ (unlock _ none) = _
    simp only [unlock]
    exact exs_rt (Q := fun o => o = Z.O.rt (.t (oT (some y))) s) (d := .t (fr y)) (s1 := s) (by simp -implicitDefEqProofs only [exs, ex, ev, evs, evo, evC, rb_ok, rt_ok, of_some, lift2_t, view_t, subD_tup, subD_lst, at0, at1, at2, at3, subTT, addT, tupD2, fin_rt, fin_nx, cast0, cast1, cast2, cast3, cast4, cast5, Int.reduceLT, Int.reduceLE, Int.reduceEq, Int.reduceNe, decide_not, map_some, take_all, cmp_lt, cmp_le, cmp_gt, cmp_ge, cmp_eq, cmp_ne, tru_bl, setTg_name, setTg_tup, setTg_lst, setTgs_nil, setTgs_cons, decide_eq_true_eq, Option.bind_some, Option.bind_none, bl_not, is_non, isnt_non, cmpIs_tup, cmpIsN_tup, if_tt, if_ff, tru_int, reduceCtorEq, decide_true, decide_false, Bool.not_true, Bool.not_false, mm1, mm2, mm3, mapM1, mapM2, lstD_c0, lstD_t0, lstD_t1, lstD_t2, lstD_t3, isL_last, isi_int_non, isi_bool_non, isi_tuple_non, isi_list_non, isi_dict_non, isi_lt_non, isi_int_bl, isi_bool_bl, isi_tuple_bl, isi_list_bl, isi_dict_bl, isi_lt_bl, isi_int_int, isi_bool_int, isi_tuple_int, isi_list_int, isi_dict_int, isi_lt_int, isi_int_str, isi_bool_str, isi_tuple_str, isi_list_str, isi_dict_str, isi_lt_str, isi_int_tup, isi_bool_tup, isi_tuple_tup, isi_list_tup, isi_dict_tup, isi_lt_tup, isi_int_lst, isi_bool_lst, isi_tuple_lst, isi_list_lst, isi_dict_lst, isi_lt_lst, isi_int_dk, isi_bool_dk, isi_tuple_dk, isi_list_dk, isi_dict_dk, isi_lt_dk, tup_ty, lenT_lst, lenT_tup, intT, Bool.or_true, Bool.true_or, Bool.or_false, Bool.false_or, Bool.and_true, Bool.true_and, Bool.and_false, Bool.false_and, Z.isNon, not_true_eq_false, not_false_eq_true, Bool.not_eq_true, Bool.false_eq_true, Option.map_some, List.length_cons, List.length_nil, Nat.reduceAdd, ↓reduceIte, List.map_cons, List.map_nil, Nat.reduceSub, List.cons_append, List.nil_append, List.append_nil, List.replicate, List.set_cons_succ, List.set_cons_zero, Nat.reduceLT, gE_0, gE_s, df_0_1, df_1_2, df_2_2, df_3_1, df_4_1, df_5_1, df_6_1, df_7_1, df_8_1, df_10_1, df_14_1, df_15_1, df_16_1, df_17_2, df_18_2, df_25_1, df_25_2, df_26_1, df_27_2, df_28_1, df_29_2, df_30_2, df_31_2, df_32_2, df_33_2, df_34_2, df_35_2, df_36_2, df_37_2, df_38_2, df_39_2, df_40_2, df_41_2, df_42_1, df_43_1, df_44_1, df_45_2]) rfl
/-- what gone comes to is not long -/
theorem bd_gone : ∀ (P : List P2) (k : Nat) (x z : P2), (∀ s ∈ P, Shr s) → Rw9.Ps x → Bd k x.1 → Bd k x.2 → Rw9.gone P x = some z → Bd (k + 19 * P.length) z.1 ∧ Bd (k + 19 * P.length) z.2 ∧ Rw9.Ps z
  | [], k, x, z, _, hx, h1, h2, h => by cases h; exact ⟨h1, h2, hx⟩
  | s :: r, k, x, z, hP, hx, h1, h2, h => by
    have hs := hP s List.mem_cons_self
    unfold Rw9.gone at h
    have e := Rw9.step_eq hs.sh hx
    rw [e] at h
    split at h
    · cases h
    · next c =>
      obtain ⟨c1, c2⟩ := bd_beh h1 h2 hs
      obtain ⟨c1, c2⟩ := bd_low c1 c2
      have cp := Rw9.low_pos (p := Rw9.beh x s) (Int.mul_pos hx.1 hs.sh.2.2)
      obtain ⟨d1, d2, d3⟩ := bd_gone r (k + 19) _ z (fun w hw => hP w (List.mem_cons_of_mem _ hw)) ⟨by omega, cp⟩ c1 c2 h
      rw [List.length_cons]
      exact ⟨d1.mono (by omega), d2.mono (by omega), d3⟩
theorem r_wis (k : Nat) (P : List P2) (x : P2) (st : S) (hP : ∀ s ∈ P, Shr s) (hl : P.length ≤ 8) (hx : 0 < x.2) (h1 : Bd 140 x.1) (h2 : Bd 140 x.2) :
    callN lib.ft lib.g0 (k + 4) 41 [.t (.lst (P.map fr)), .t (fr x)] st = .ok (.t (.bl (Rw9.wIs P x))) st := by
  rw [callN_succ (F := F41) rfl]; simp -implicitDefEqProofs only [callF, F41, List.length_cons, List.length_nil, Nat.reduceAdd, ↓reduceIte, List.map_cons, List.map_nil, Nat.reduceSub, List.cons_append, List.nil_append, List.append_nil, List.replicate, List.set_cons_succ, List.set_cons_zero, Nat.reduceLT, gE_0, gE_s]
  refine fin_eq (o' := .rt (.t (.bl (Rw9.wIs P x))) st) ?_ (by rw [fin_rt rfl, take_all])
  have hle := fun st => r_less (k + 2) (1, 1) x st (bd_one.mono (by decide)) (bd_one.mono (by decide)) (h1.mono (by decide)) (h2.mono (by decide))
  have hle : ∀ st, callN lib.ft lib.g0 (k + 3) 37 [.t (fr (1, 1)), .t (fr x)] st = .ok (.t (.bl (decide (1 * x.2 < x.1 * 1)))) st := hle
  by_cases c : x.1 < 1
  · have e : Rw9.wIs P x = false := by
      unfold Rw9.wIs
      rw [if_pos (Or.inl c)]
    rw [e]
    exact exs_rt (Q := fun o => o = Z.O.rt (.t (.bl false)) st) (d := .t (.bl false)) (s1 := st) (by simp -implicitDefEqProofs only [exs, ex, ev, evs, evo, evC, rb_ok, rt_ok, of_some, lift2_t, view_t, subD_tup, subD_lst, at0, at1, at2, at3, subTT, addT, tupD2, fin_rt, fin_nx, cast0, cast1, cast2, cast3, cast4, cast5, Int.reduceLT, Int.reduceLE, Int.reduceEq, Int.reduceNe, decide_not, map_some, take_all, cmp_lt, cmp_le, cmp_gt, cmp_ge, cmp_eq, cmp_ne, tru_bl, setTg_name, setTg_tup, setTg_lst, setTgs_nil, setTgs_cons, decide_eq_true_eq, Option.bind_some, Option.bind_none, bl_not, is_non, isnt_non, cmpIs_tup, cmpIsN_tup, if_tt, if_ff, tru_int, reduceCtorEq, decide_true, decide_false, Bool.not_true, Bool.not_false, mm1, mm2, mm3, mapM1, mapM2, lstD_c0, lstD_t0, lstD_t1, lstD_t2, lstD_t3, isL_last, isi_int_non, isi_bool_non, isi_tuple_non, isi_list_non, isi_dict_non, isi_lt_non, isi_int_bl, isi_bool_bl, isi_tuple_bl, isi_list_bl, isi_dict_bl, isi_lt_bl, isi_int_int, isi_bool_int, isi_tuple_int, isi_list_int, isi_dict_int, isi_lt_int, isi_int_str, isi_bool_str, isi_tuple_str, isi_list_str, isi_dict_str, isi_lt_str, isi_int_tup, isi_bool_tup, isi_tuple_tup, isi_list_tup, isi_dict_tup, isi_lt_tup, isi_int_lst, isi_bool_lst, isi_tuple_lst, isi_list_lst, isi_dict_lst, isi_lt_lst, isi_int_dk, isi_bool_dk, isi_tuple_dk, isi_list_dk, isi_dict_dk, isi_lt_dk, tup_ty, lenT_lst, lenT_tup, intT, Bool.or_true, Bool.true_or, Bool.or_false, Bool.false_or, Bool.and_true, Bool.true_and, Bool.and_false, Bool.false_and, Z.isNon, not_true_eq_false, not_false_eq_true, Bool.not_eq_true, Bool.false_eq_true, Option.map_some, List.length_cons, List.length_nil, Nat.reduceAdd, ↓reduceIte, List.map_cons, List.map_nil, Nat.reduceSub, List.cons_append, List.nil_append, List.append_nil, List.replicate, List.set_cons_succ, List.set_cons_zero, Nat.reduceLT, gE_0, gE_s, df_0_1, df_1_2, df_2_2, df_3_1, df_4_1, df_5_1, df_6_1, df_7_1, df_8_1, df_10_1, df_14_1, df_15_1, df_16_1, df_17_2, df_18_2, df_25_1, df_25_2, df_26_1, df_27_2, df_28_1, df_29_2, df_30_2, df_31_2, df_32_2, df_33_2, df_34_2, df_35_2, df_36_2, df_37_2, df_38_2, df_39_2, df_40_2, df_41_2, df_42_1, df_43_1, df_44_1, df_45_2, c]) rfl
  · by_cases c2 : 1 * x.2 < x.1 * 1
    · have e : Rw9.wIs P x = false := by
        unfold Rw9.wIs
        rw [if_pos (Or.inr c2)]
      rw [e]
      rw [decide_eq_true c2] at hle
      exact exs_rt (Q := fun o => o = Z.O.rt (.t (.bl false)) st) (d := .t (.bl false)) (s1 := st) (by simp -implicitDefEqProofs only [exs, ex, ev, evs, evo, evC, rb_ok, rt_ok, of_some, lift2_t, view_t, subD_tup, subD_lst, at0, at1, at2, at3, subTT, addT, tupD2, fin_rt, fin_nx, cast0, cast1, cast2, cast3, cast4, cast5, Int.reduceLT, Int.reduceLE, Int.reduceEq, Int.reduceNe, decide_not, map_some, take_all, cmp_lt, cmp_le, cmp_gt, cmp_ge, cmp_eq, cmp_ne, tru_bl, setTg_name, setTg_tup, setTg_lst, setTgs_nil, setTgs_cons, decide_eq_true_eq, Option.bind_some, Option.bind_none, bl_not, is_non, isnt_non, cmpIs_tup, cmpIsN_tup, if_tt, if_ff, tru_int, reduceCtorEq, decide_true, decide_false, Bool.not_true, Bool.not_false, mm1, mm2, mm3, mapM1, mapM2, lstD_c0, lstD_t0, lstD_t1, lstD_t2, lstD_t3, isL_last, isi_int_non, isi_bool_non, isi_tuple_non, isi_list_non, isi_dict_non, isi_lt_non, isi_int_bl, isi_bool_bl, isi_tuple_bl, isi_list_bl, isi_dict_bl, isi_lt_bl, isi_int_int, isi_bool_int, isi_tuple_int, isi_list_int, isi_dict_int, isi_lt_int, isi_int_str, isi_bool_str, isi_tuple_str, isi_list_str, isi_dict_str, isi_lt_str, isi_int_tup, isi_bool_tup, isi_tuple_tup, isi_list_tup, isi_dict_tup, isi_lt_tup, isi_int_lst, isi_bool_lst, isi_tuple_lst, isi_list_lst, isi_dict_lst, isi_lt_lst, isi_int_dk, isi_bool_dk, isi_tuple_dk, isi_list_dk, isi_dict_dk, isi_lt_dk, tup_ty, lenT_lst, lenT_tup, intT, Bool.or_true, Bool.true_or, Bool.or_false, Bool.false_or, Bool.and_true, Bool.true_and, Bool.and_false, Bool.false_and, Z.isNon, not_true_eq_false, not_false_eq_true, Bool.not_eq_true, Bool.false_eq_true, Option.map_some, List.length_cons, List.length_nil, Nat.reduceAdd, ↓reduceIte, List.map_cons, List.map_nil, Nat.reduceSub, List.cons_append, List.nil_append, List.append_nil, List.replicate, List.set_cons_succ, List.set_cons_zero, Nat.reduceLT, gE_0, gE_s, df_0_1, df_1_2, df_2_2, df_3_1, df_4_1, df_5_1, df_6_1, df_7_1, df_8_1, df_10_1, df_14_1, df_15_1, df_16_1, df_17_2, df_18_2, df_25_1, df_25_2, df_26_1, df_27_2, df_28_1, df_29_2, df_30_2, df_31_2, df_32_2, df_33_2, df_34_2, df_35_2, df_36_2, df_37_2, df_38_2, df_39_2, df_40_2, df_41_2, df_42_1, df_43_1, df_44_1, df_45_2, c, hle st]) rfl
    · have e : Rw9.wIs P x = match Rw9.gone P x with
          | none => false
          | some z => !decide (z.1 * x.2 < x.1 * z.2) := by
        unfold Rw9.wIs
        rw [if_neg (by omega)]
        try rfl
      rw [decide_eq_false c2] at hle
      have hx' : Rw9.Ps x := ⟨by omega, hx⟩
      have hg := fun st => r_gone k P x st hP hl hx' h1 h2
      refine exs_nx (Q := fun o => o = Z.O.rt (.t (.bl (Rw9.wIs P x))) st) (σ1 := [some (.t (.lst (P.map fr))), some (.t (fr x)), none]) (s1 := st) (by simp -implicitDefEqProofs only [exs, ex, ev, evs, evo, evC, rb_ok, rt_ok, of_some, lift2_t, view_t, subD_tup, subD_lst, at0, at1, at2, at3, subTT, addT, tupD2, fin_rt, fin_nx, cast0, cast1, cast2, cast3, cast4, cast5, Int.reduceLT, Int.reduceLE, Int.reduceEq, Int.reduceNe, decide_not, map_some, take_all, cmp_lt, cmp_le, cmp_gt, cmp_ge, cmp_eq, cmp_ne, tru_bl, setTg_name, setTg_tup, setTg_lst, setTgs_nil, setTgs_cons, decide_eq_true_eq, Option.bind_some, Option.bind_none, bl_not, is_non, isnt_non, cmpIs_tup, cmpIsN_tup, if_tt, if_ff, tru_int, reduceCtorEq, decide_true, decide_false, Bool.not_true, Bool.not_false, mm1, mm2, mm3, mapM1, mapM2, lstD_c0, lstD_t0, lstD_t1, lstD_t2, lstD_t3, isL_last, isi_int_non, isi_bool_non, isi_tuple_non, isi_list_non, isi_dict_non, isi_lt_non, isi_int_bl, isi_bool_bl, isi_tuple_bl, isi_list_bl, isi_dict_bl, isi_lt_bl, isi_int_int, isi_bool_int, isi_tuple_int, isi_list_int, isi_dict_int, isi_lt_int, isi_int_str, isi_bool_str, isi_tuple_str, isi_list_str, isi_dict_str, isi_lt_str, isi_int_tup, isi_bool_tup, isi_tuple_tup, isi_list_tup, isi_dict_tup, isi_lt_tup, isi_int_lst, isi_bool_lst, isi_tuple_lst, isi_list_lst, isi_dict_lst, isi_lt_lst, isi_int_dk, isi_bool_dk, isi_tuple_dk, isi_list_dk, isi_dict_dk, isi_lt_dk, tup_ty, lenT_lst, lenT_tup, intT, Bool.or_true, Bool.true_or, Bool.or_false, Bool.false_or, Bool.and_true, Bool.true_and, Bool.and_false, Bool.false_and, Z.isNon, not_true_eq_false, not_false_eq_true, Bool.not_eq_true, Bool.false_eq_true, Option.map_some, List.length_cons, List.length_nil, Nat.reduceAdd, ↓reduceIte, List.map_cons, List.map_nil, Nat.reduceSub, List.cons_append, List.nil_append, List.append_nil, List.replicate, List.set_cons_succ, List.set_cons_zero, Nat.reduceLT, gE_0, gE_s, df_0_1, df_1_2, df_2_2, df_3_1, df_4_1, df_5_1, df_6_1, df_7_1, df_8_1, df_10_1, df_14_1, df_15_1, df_16_1, df_17_2, df_18_2, df_25_1, df_25_2, df_26_1, df_27_2, df_28_1, df_29_2, df_30_2, df_31_2, df_32_2, df_33_2, df_34_2, df_35_2, df_36_2, df_37_2, df_38_2, df_39_2, df_40_2, df_41_2, df_42_1, df_43_1, df_44_1, df_45_2, c, hle st]) ?_
      rw [e]
      cases hz : Rw9.gone P x with
      | none =>
        rw [hz] at hg
        have hg : ∀ st, callN lib.ft lib.g0 (k + 3) 40 [.t (.lst (P.map fr)), .t (fr x)] st = .ok (.t .non) st := hg
        refine exs_nx (Q := fun o => o = Z.O.rt (.t (.bl false)) st) (σ1 := [some (.t (.lst (P.map fr))), some (.t (fr x)), some (.t .non)]) (s1 := st) (by simp -implicitDefEqProofs only [exs, ex, ev, evs, evo, evC, rb_ok, rt_ok, of_some, lift2_t, view_t, subD_tup, subD_lst, at0, at1, at2, at3, subTT, addT, tupD2, fin_rt, fin_nx, cast0, cast1, cast2, cast3, cast4, cast5, Int.reduceLT, Int.reduceLE, Int.reduceEq, Int.reduceNe, decide_not, map_some, take_all, cmp_lt, cmp_le, cmp_gt, cmp_ge, cmp_eq, cmp_ne, tru_bl, setTg_name, setTg_tup, setTg_lst, setTgs_nil, setTgs_cons, decide_eq_true_eq, Option.bind_some, Option.bind_none, bl_not, is_non, isnt_non, cmpIs_tup, cmpIsN_tup, if_tt, if_ff, tru_int, reduceCtorEq, decide_true, decide_false, Bool.not_true, Bool.not_false, mm1, mm2, mm3, mapM1, mapM2, lstD_c0, lstD_t0, lstD_t1, lstD_t2, lstD_t3, isL_last, isi_int_non, isi_bool_non, isi_tuple_non, isi_list_non, isi_dict_non, isi_lt_non, isi_int_bl, isi_bool_bl, isi_tuple_bl, isi_list_bl, isi_dict_bl, isi_lt_bl, isi_int_int, isi_bool_int, isi_tuple_int, isi_list_int, isi_dict_int, isi_lt_int, isi_int_str, isi_bool_str, isi_tuple_str, isi_list_str, isi_dict_str, isi_lt_str, isi_int_tup, isi_bool_tup, isi_tuple_tup, isi_list_tup, isi_dict_tup, isi_lt_tup, isi_int_lst, isi_bool_lst, isi_tuple_lst, isi_list_lst, isi_dict_lst, isi_lt_lst, isi_int_dk, isi_bool_dk, isi_tuple_dk, isi_list_dk, isi_dict_dk, isi_lt_dk, tup_ty, lenT_lst, lenT_tup, intT, Bool.or_true, Bool.true_or, Bool.or_false, Bool.false_or, Bool.and_true, Bool.true_and, Bool.and_false, Bool.false_and, Z.isNon, not_true_eq_false, not_false_eq_true, Bool.not_eq_true, Bool.false_eq_true, Option.map_some, List.length_cons, List.length_nil, Nat.reduceAdd, ↓reduceIte, List.map_cons, List.map_nil, Nat.reduceSub, List.cons_append, List.nil_append, List.append_nil, List.replicate, List.set_cons_succ, List.set_cons_zero, Nat.reduceLT, gE_0, gE_s, df_0_1, df_1_2, df_2_2, df_3_1, df_4_1, df_5_1, df_6_1, df_7_1, df_8_1, df_10_1, df_14_1, df_15_1, df_16_1, df_17_2, df_18_2, df_25_1, df_25_2, df_26_1, df_27_2, df_28_1, df_29_2, df_30_2, df_31_2, df_32_2, df_33_2, df_34_2, df_35_2, df_36_2, df_37_2, df_38_2, df_39_2, df_40_2, df_41_2, df_42_1, df_43_1, df_44_1, df_45_2, hg st]) ?_
        exact exs_rt (Q := fun o => o = Z.O.rt (.t (.bl false)) st) (d := .t (.bl false)) (s1 := st) (by simp -implicitDefEqProofs only [exs, ex, ev, evs, evo, evC, rb_ok, rt_ok, of_some, lift2_t, view_t, subD_tup, subD_lst, at0, at1, at2, at3, subTT, addT, tupD2, fin_rt, fin_nx, cast0, cast1, cast2, cast3, cast4, cast5, Int.reduceLT, Int.reduceLE, Int.reduceEq, Int.reduceNe, decide_not, map_some, take_all, cmp_lt, cmp_le, cmp_gt, cmp_ge, cmp_eq, cmp_ne, tru_bl, setTg_name, setTg_tup, setTg_lst, setTgs_nil, setTgs_cons, decide_eq_true_eq, Option.bind_some, Option.bind_none, bl_not, is_non, isnt_non, cmpIs_tup, cmpIsN_tup, if_tt, if_ff, tru_int, reduceCtorEq, decide_true, decide_false, Bool.not_true, Bool.not_false, mm1, mm2, mm3, mapM1, mapM2, lstD_c0, lstD_t0, lstD_t1, lstD_t2, lstD_t3, isL_last, isi_int_non, isi_bool_non, isi_tuple_non, isi_list_non, isi_dict_non, isi_lt_non, isi_int_bl, isi_bool_bl, isi_tuple_bl, isi_list_bl, isi_dict_bl, isi_lt_bl, isi_int_int, isi_bool_int, isi_tuple_int, isi_list_int, isi_dict_int, isi_lt_int, isi_int_str, isi_bool_str, isi_tuple_str, isi_list_str, isi_dict_str, isi_lt_str, isi_int_tup, isi_bool_tup, isi_tuple_tup, isi_list_tup, isi_dict_tup, isi_lt_tup, isi_int_lst, isi_bool_lst, isi_tuple_lst, isi_list_lst, isi_dict_lst, isi_lt_lst, isi_int_dk, isi_bool_dk, isi_tuple_dk, isi_list_dk, isi_dict_dk, isi_lt_dk, tup_ty, lenT_lst, lenT_tup, intT, Bool.or_true, Bool.true_or, Bool.or_false, Bool.false_or, Bool.and_true, Bool.true_and, Bool.and_false, Bool.false_and, Z.isNon, not_true_eq_false, not_false_eq_true, Bool.not_eq_true, Bool.false_eq_true, Option.map_some, List.length_cons, List.length_nil, Nat.reduceAdd, ↓reduceIte, List.map_cons, List.map_nil, Nat.reduceSub, List.cons_append, List.nil_append, List.append_nil, List.replicate, List.set_cons_succ, List.set_cons_zero, Nat.reduceLT, gE_0, gE_s, df_0_1, df_1_2, df_2_2, df_3_1, df_4_1, df_5_1, df_6_1, df_7_1, df_8_1, df_10_1, df_14_1, df_15_1, df_16_1, df_17_2, df_18_2, df_25_1, df_25_2, df_26_1, df_27_2, df_28_1, df_29_2, df_30_2, df_31_2, df_32_2, df_33_2, df_34_2, df_35_2, df_36_2, df_37_2, df_38_2, df_39_2, df_40_2, df_41_2, df_42_1, df_43_1, df_44_1, df_45_2]) rfl
      | some z =>
        rw [hz] at hg
        have hg : ∀ st, callN lib.ft lib.g0 (k + 3) 40 [.t (.lst (P.map fr)), .t (fr x)] st = .ok (.t (fr z)) st := hg
        obtain ⟨z1, z2, _⟩ := bd_gone P 140 x z hP hx' h1 h2 hz
        have hl2 := fun st => r_less (k + 2) z x st (z1.mono (by omega)) (z2.mono (by omega)) (h1.mono (by decide)) (h2.mono (by decide))
        refine exs_nx (Q := fun o => o = Z.O.rt (.t (.bl (!decide (z.1 * x.2 < x.1 * z.2)))) st) (σ1 := [some (.t (.lst (P.map fr))), some (.t (fr x)), some (.t (fr z))]) (s1 := st) (by simp -implicitDefEqProofs only [exs, ex, ev, evs, evo, evC, rb_ok, rt_ok, of_some, lift2_t, view_t, subD_tup, subD_lst, at0, at1, at2, at3, subTT, addT, tupD2, fin_rt, fin_nx, cast0, cast1, cast2, cast3, cast4, cast5, Int.reduceLT, Int.reduceLE, Int.reduceEq, Int.reduceNe, decide_not, map_some, take_all, cmp_lt, cmp_le, cmp_gt, cmp_ge, cmp_eq, cmp_ne, tru_bl, setTg_name, setTg_tup, setTg_lst, setTgs_nil, setTgs_cons, decide_eq_true_eq, Option.bind_some, Option.bind_none, bl_not, is_non, isnt_non, cmpIs_tup, cmpIsN_tup, if_tt, if_ff, tru_int, reduceCtorEq, decide_true, decide_false, Bool.not_true, Bool.not_false, mm1, mm2, mm3, mapM1, mapM2, lstD_c0, lstD_t0, lstD_t1, lstD_t2, lstD_t3, isL_last, isi_int_non, isi_bool_non, isi_tuple_non, isi_list_non, isi_dict_non, isi_lt_non, isi_int_bl, isi_bool_bl, isi_tuple_bl, isi_list_bl, isi_dict_bl, isi_lt_bl, isi_int_int, isi_bool_int, isi_tuple_int, isi_list_int, isi_dict_int, isi_lt_int, isi_int_str, isi_bool_str, isi_tuple_str, isi_list_str, isi_dict_str, isi_lt_str, isi_int_tup, isi_bool_tup, isi_tuple_tup, isi_list_tup, isi_dict_tup, isi_lt_tup, isi_int_lst, isi_bool_lst, isi_tuple_lst, isi_list_lst, isi_dict_lst, isi_lt_lst, isi_int_dk, isi_bool_dk, isi_tuple_dk, isi_list_dk, isi_dict_dk, isi_lt_dk, tup_ty, lenT_lst, lenT_tup, intT, Bool.or_true, Bool.true_or, Bool.or_false, Bool.false_or, Bool.and_true, Bool.true_and, Bool.and_false, Bool.false_and, Z.isNon, not_true_eq_false, not_false_eq_true, Bool.not_eq_true, Bool.false_eq_true, Option.map_some, List.length_cons, List.length_nil, Nat.reduceAdd, ↓reduceIte, List.map_cons, List.map_nil, Nat.reduceSub, List.cons_append, List.nil_append, List.append_nil, List.replicate, List.set_cons_succ, List.set_cons_zero, Nat.reduceLT, gE_0, gE_s, df_0_1, df_1_2, df_2_2, df_3_1, df_4_1, df_5_1, df_6_1, df_7_1, df_8_1, df_10_1, df_14_1, df_15_1, df_16_1, df_17_2, df_18_2, df_25_1, df_25_2, df_26_1, df_27_2, df_28_1, df_29_2, df_30_2, df_31_2, df_32_2, df_33_2, df_34_2, df_35_2, df_36_2, df_37_2, df_38_2, df_39_2, df_40_2, df_41_2, df_42_1, df_43_1, df_44_1, df_45_2, hg st]) ?_
        exact exs_rt (Q := fun o => o = Z.O.rt (.t (.bl (!decide (z.1 * x.2 < x.1 * z.2)))) st) (d := .t (.bl (!decide (z.1 * x.2 < x.1 * z.2)))) (s1 := st) (by simp -implicitDefEqProofs only [exs, ex, ev, evs, evo, evC, rb_ok, rt_ok, of_some, lift2_t, view_t, subD_tup, subD_lst, at0, at1, at2, at3, subTT, addT, tupD2, fin_rt, fin_nx, cast0, cast1, cast2, cast3, cast4, cast5, Int.reduceLT, Int.reduceLE, Int.reduceEq, Int.reduceNe, decide_not, map_some, take_all, cmp_lt, cmp_le, cmp_gt, cmp_ge, cmp_eq, cmp_ne, tru_bl, setTg_name, setTg_tup, setTg_lst, setTgs_nil, setTgs_cons, decide_eq_true_eq, Option.bind_some, Option.bind_none, bl_not, is_non, isnt_non, cmpIs_tup, cmpIsN_tup, if_tt, if_ff, tru_int, reduceCtorEq, decide_true, decide_false, Bool.not_true, Bool.not_false, mm1, mm2, mm3, mapM1, mapM2, lstD_c0, lstD_t0, lstD_t1, lstD_t2, lstD_t3, isL_last, isi_int_non, isi_bool_non, isi_tuple_non, isi_list_non, isi_dict_non, isi_lt_non, isi_int_bl, isi_bool_bl, isi_tuple_bl, isi_list_bl, isi_dict_bl, isi_lt_bl, isi_int_int, isi_bool_int, isi_tuple_int, isi_list_int, isi_dict_int, isi_lt_int, isi_int_str, isi_bool_str, isi_tuple_str, isi_list_str, isi_dict_str, isi_lt_str, isi_int_tup, isi_bool_tup, isi_tuple_tup, isi_list_tup, isi_dict_tup, isi_lt_tup, isi_int_lst, isi_bool_lst, isi_tuple_lst, isi_list_lst, isi_dict_lst, isi_lt_lst, isi_int_dk, isi_bool_dk, isi_tuple_dk, isi_list_dk, isi_dict_dk, isi_lt_dk, tup_ty, lenT_lst, lenT_tup, intT, Bool.or_true, Bool.true_or, Bool.or_false, Bool.false_or, Bool.and_true, Bool.true_and, Bool.and_false, Bool.false_and, Z.isNon, not_true_eq_false, not_false_eq_true, Bool.not_eq_true, Bool.false_eq_true, Option.map_some, List.length_cons, List.length_nil, Nat.reduceAdd, ↓reduceIte, List.map_cons, List.map_nil, Nat.reduceSub, List.cons_append, List.nil_append, List.append_nil, List.replicate, List.set_cons_succ, List.set_cons_zero, Nat.reduceLT, gE_0, gE_s, df_0_1, df_1_2, df_2_2, df_3_1, df_4_1, df_5_1, df_6_1, df_7_1, df_8_1, df_10_1, df_14_1, df_15_1, df_16_1, df_17_2, df_18_2, df_25_1, df_25_2, df_26_1, df_27_2, df_28_1, df_29_2, df_30_2, df_31_2, df_32_2, df_33_2, df_34_2, df_35_2, df_36_2, df_37_2, df_38_2, df_39_2, df_40_2, df_41_2, df_42_1, df_43_1, df_44_1, df_45_2, hl2 st]) rfl
end Lw
end Z
end
section
set_option Elab.async false
set_option linter.all false
set_option maxRecDepth 100000
set_option maxHeartbeats 4000000
namespace Z
namespace Lw

open PySem L2 Zr
theorem mulC {k l : Nat} {i j : Int} (h : Bd k i) (h' : Bd l j) (hl : k + l < 1000000) : Z.binT .Mult (.int j) (.int i) = some (.int (i * j)) := by
  rw [Int.mul_comm]
  exact mulT h' h (by omega)
theorem r_wstay (k : Nat) (P : List P2) (st : S) (hP : ∀ s ∈ P, Shr s) (hn : P ≠ []) (hl : P.length ≤ 7) :
    callN lib.ft lib.g0 (k + 5) 43 [.t (.lst (P.map fr))] st = .ok (.t (oT (Rw9.wStay P))) st := by
  rw [callN_succ (F := F43) rfl]; simp -implicitDefEqProofs only [callF, F43, List.length_cons, List.length_nil, Nat.reduceAdd, ↓reduceIte, List.map_cons, List.map_nil, Nat.reduceSub, List.cons_append, List.nil_append, List.append_nil, List.replicate, List.set_cons_succ, List.set_cons_zero, Nat.reduceLT, gE_0, gE_s]
  refine fin_eq (o' := .rt (.t (oT (Rw9.wStay P))) st) ?_ (by rw [fin_rt rfl, take_all])
  have hg : ∀ st, callN lib.ft lib.g0 (k + 4) 40 [.t (.lst (P.map fr)), .t (fr (1, 1))] st = .ok (.t (oT (Rw9.gone P (1, 1)))) st := fun st => r_gone (k + 1) P (1, 1) st hP (by omega) one_ps (bd_one.mono (by decide)) (bd_one.mono (by decide))
  cases hz : Rw9.gone P (1, 1) with
  | none =>
    have e : Rw9.wStay P = none := by
      unfold Rw9.wStay
      rw [hz]
    rw [e]
    rw [hz] at hg
    have hg : ∀ st, callN lib.ft lib.g0 (k + 4) 40 [.t (.lst (P.map fr)), .t (fr (1, 1))] st = .ok (.t .non) st := hg
    exact exs_rt (Q := fun o => o = Z.O.rt (.t (oT none)) st) (d := .t .non) (s1 := st) (by simp -implicitDefEqProofs only [exs, ex, ev, evs, evo, evC, rb_ok, rt_ok, of_some, lift2_t, view_t, subD_tup, subD_lst, at0, at1, at2, at3, subTT, addT, tupD2, fin_rt, fin_nx, cast0, cast1, cast2, cast3, cast4, cast5, Int.reduceLT, Int.reduceLE, Int.reduceEq, Int.reduceNe, decide_not, map_some, take_all, cmp_lt, cmp_le, cmp_gt, cmp_ge, cmp_eq, cmp_ne, tru_bl, setTg_name, setTg_tup, setTg_lst, setTgs_nil, setTgs_cons, decide_eq_true_eq, Option.bind_some, Option.bind_none, bl_not, is_non, isnt_non, cmpIs_tup, cmpIsN_tup, if_tt, if_ff, tru_int, reduceCtorEq, decide_true, decide_false, Bool.not_true, Bool.not_false, mm1, mm2, mm3, mapM1, mapM2, lstD_c0, lstD_t0, lstD_t1, lstD_t2, lstD_t3, isL_last, isi_int_non, isi_bool_non, isi_tuple_non, isi_list_non, isi_dict_non, isi_lt_non, isi_int_bl, isi_bool_bl, isi_tuple_bl, isi_list_bl, isi_dict_bl, isi_lt_bl, isi_int_int, isi_bool_int, isi_tuple_int, isi_list_int, isi_dict_int, isi_lt_int, isi_int_str, isi_bool_str, isi_tuple_str, isi_list_str, isi_dict_str, isi_lt_str, isi_int_tup, isi_bool_tup, isi_tuple_tup, isi_list_tup, isi_dict_tup, isi_lt_tup, isi_int_lst, isi_bool_lst, isi_tuple_lst, isi_list_lst, isi_dict_lst, isi_lt_lst, isi_int_dk, isi_bool_dk, isi_tuple_dk, isi_list_dk, isi_dict_dk, isi_lt_dk, tup_ty, lenT_lst, lenT_tup, intT, Bool.or_true, Bool.true_or, Bool.or_false, Bool.false_or, Bool.and_true, Bool.true_and, Bool.and_false, Bool.false_and, Z.isNon, not_true_eq_false, not_false_eq_true, Bool.not_eq_true, Bool.false_eq_true, Option.map_some, List.length_cons, List.length_nil, Nat.reduceAdd, ↓reduceIte, List.map_cons, List.map_nil, Nat.reduceSub, List.cons_append, List.nil_append, List.append_nil, List.replicate, List.set_cons_succ, List.set_cons_zero, Nat.reduceLT, gE_0, gE_s, df_0_1, df_1_2, df_2_2, df_3_1, df_4_1, df_5_1, df_6_1, df_7_1, df_8_1, df_10_1, df_14_1, df_15_1, df_16_1, df_17_2, df_18_2, df_25_1, df_25_2, df_26_1, df_27_2, df_28_1, df_29_2, df_30_2, df_31_2, df_32_2, df_33_2, df_34_2, df_35_2, df_36_2, df_37_2, df_38_2, df_39_2, df_40_2, df_41_2, df_42_1, df_43_1, df_44_1, df_45_2, hg st]) rfl
  | some v =>
    have e : Rw9.wStay P = if Rw9.wIs P (Rw9.wX P v) then some (Rw9.wX P v) else none := by
      unfold Rw9.wStay
      rw [hz]
    rw [hz] at hg
    have hg : ∀ st, callN lib.ft lib.g0 (k + 4) 40 [.t (.lst (P.map fr)), .t (fr (1, 1))] st = .ok (.t (fr v)) st := hg
    obtain ⟨v1, v2, vp⟩ := bd_gone P 1 (1, 1) v hP one_ps (by unfold Bd; decide) (by unfold Bd; decide) hz
    have hsh : ∀ s ∈ P, Rw9.Sh s := fun s h => (hP s h).sh
    have cpos : 0 < (Rw9.fo P (1, 0)).2 := by
      have hz' := hz
      rw [Rw9.gone_go hsh one_ps (by decide)] at hz'
      cases hgo : Rw9.go P (1, 1) with
      | none => rw [hgo] at hz'; cases hz'
      | some u => exact (Rw9.way_of hsh one_ps hgo).c hn
    refine exs_nx (Q := fun o => o = Z.O.rt (.t (oT (Rw9.wStay P))) st) (σ1 := [some (.t (.lst (P.map fr))), none, none, none, none, none, none, none, none, none]) (s1 := st) (by simp -implicitDefEqProofs only [exs, ex, ev, evs, evo, evC, rb_ok, rt_ok, of_some, lift2_t, view_t, subD_tup, subD_lst, at0, at1, at2, at3, subTT, addT, tupD2, fin_rt, fin_nx, cast0, cast1, cast2, cast3, cast4, cast5, Int.reduceLT, Int.reduceLE, Int.reduceEq, Int.reduceNe, decide_not, map_some, take_all, cmp_lt, cmp_le, cmp_gt, cmp_ge, cmp_eq, cmp_ne, tru_bl, setTg_name, setTg_tup, setTg_lst, setTgs_nil, setTgs_cons, decide_eq_true_eq, Option.bind_some, Option.bind_none, bl_not, is_non, isnt_non, cmpIs_tup, cmpIsN_tup, if_tt, if_ff, tru_int, reduceCtorEq, decide_true, decide_false, Bool.not_true, Bool.not_false, mm1, mm2, mm3, mapM1, mapM2, lstD_c0, lstD_t0, lstD_t1, lstD_t2, lstD_t3, isL_last, isi_int_non, isi_bool_non, isi_tuple_non, isi_list_non, isi_dict_non, isi_lt_non, isi_int_bl, isi_bool_bl, isi_tuple_bl, isi_list_bl, isi_dict_bl, isi_lt_bl, isi_int_int, isi_bool_int, isi_tuple_int, isi_list_int, isi_dict_int, isi_lt_int, isi_int_str, isi_bool_str, isi_tuple_str, isi_list_str, isi_dict_str, isi_lt_str, isi_int_tup, isi_bool_tup, isi_tuple_tup, isi_list_tup, isi_dict_tup, isi_lt_tup, isi_int_lst, isi_bool_lst, isi_tuple_lst, isi_list_lst, isi_dict_lst, isi_lt_lst, isi_int_dk, isi_bool_dk, isi_tuple_dk, isi_list_dk, isi_dict_dk, isi_lt_dk, tup_ty, lenT_lst, lenT_tup, intT, Bool.or_true, Bool.true_or, Bool.or_false, Bool.false_or, Bool.and_true, Bool.true_and, Bool.and_false, Bool.false_and, Z.isNon, not_true_eq_false, not_false_eq_true, Bool.not_eq_true, Bool.false_eq_true, Option.map_some, List.length_cons, List.length_nil, Nat.reduceAdd, ↓reduceIte, List.map_cons, List.map_nil, Nat.reduceSub, List.cons_append, List.nil_append, List.append_nil, List.replicate, List.set_cons_succ, List.set_cons_zero, Nat.reduceLT, gE_0, gE_s, df_0_1, df_1_2, df_2_2, df_3_1, df_4_1, df_5_1, df_6_1, df_7_1, df_8_1, df_10_1, df_14_1, df_15_1, df_16_1, df_17_2, df_18_2, df_25_1, df_25_2, df_26_1, df_27_2, df_28_1, df_29_2, df_30_2, df_31_2, df_32_2, df_33_2, df_34_2, df_35_2, df_36_2, df_37_2, df_38_2, df_39_2, df_40_2, df_41_2, df_42_1, df_43_1, df_44_1, df_45_2, hg st]) ?_
    refine exs_nx (Q := fun o => o = Z.O.rt (.t (oT (Rw9.wStay P))) st) (σ1 := [some (.t (.lst (P.map fr))), none, some (.t (.int 1)), some (.t (.int 0)), some (.t (.int 0)), some (.t (.int 1)), none, none, none, none]) (s1 := st) (by simp -implicitDefEqProofs only [exs, ex, ev, evs, evo, evC, rb_ok, rt_ok, of_some, lift2_t, view_t, subD_tup, subD_lst, at0, at1, at2, at3, subTT, addT, tupD2, fin_rt, fin_nx, cast0, cast1, cast2, cast3, cast4, cast5, Int.reduceLT, Int.reduceLE, Int.reduceEq, Int.reduceNe, decide_not, map_some, take_all, cmp_lt, cmp_le, cmp_gt, cmp_ge, cmp_eq, cmp_ne, tru_bl, setTg_name, setTg_tup, setTg_lst, setTgs_nil, setTgs_cons, decide_eq_true_eq, Option.bind_some, Option.bind_none, bl_not, is_non, isnt_non, cmpIs_tup, cmpIsN_tup, if_tt, if_ff, tru_int, reduceCtorEq, decide_true, decide_false, Bool.not_true, Bool.not_false, mm1, mm2, mm3, mapM1, mapM2, lstD_c0, lstD_t0, lstD_t1, lstD_t2, lstD_t3, isL_last, isi_int_non, isi_bool_non, isi_tuple_non, isi_list_non, isi_dict_non, isi_lt_non, isi_int_bl, isi_bool_bl, isi_tuple_bl, isi_list_bl, isi_dict_bl, isi_lt_bl, isi_int_int, isi_bool_int, isi_tuple_int, isi_list_int, isi_dict_int, isi_lt_int, isi_int_str, isi_bool_str, isi_tuple_str, isi_list_str, isi_dict_str, isi_lt_str, isi_int_tup, isi_bool_tup, isi_tuple_tup, isi_list_tup, isi_dict_tup, isi_lt_tup, isi_int_lst, isi_bool_lst, isi_tuple_lst, isi_list_lst, isi_dict_lst, isi_lt_lst, isi_int_dk, isi_bool_dk, isi_tuple_dk, isi_list_dk, isi_dict_dk, isi_lt_dk, tup_ty, lenT_lst, lenT_tup, intT, Bool.or_true, Bool.true_or, Bool.or_false, Bool.false_or, Bool.and_true, Bool.true_and, Bool.and_false, Bool.false_and, Z.isNon, not_true_eq_false, not_false_eq_true, Bool.not_eq_true, Bool.false_eq_true, Option.map_some, List.length_cons, List.length_nil, Nat.reduceAdd, ↓reduceIte, List.map_cons, List.map_nil, Nat.reduceSub, List.cons_append, List.nil_append, List.append_nil, List.replicate, List.set_cons_succ, List.set_cons_zero, Nat.reduceLT, gE_0, gE_s, df_0_1, df_1_2, df_2_2, df_3_1, df_4_1, df_5_1, df_6_1, df_7_1, df_8_1, df_10_1, df_14_1, df_15_1, df_16_1, df_17_2, df_18_2, df_25_1, df_25_2, df_26_1, df_27_2, df_28_1, df_29_2, df_30_2, df_31_2, df_32_2, df_33_2, df_34_2, df_35_2, df_36_2, df_37_2, df_38_2, df_39_2, df_40_2, df_41_2, df_42_1, df_43_1, df_44_1, df_45_2]) ?_
    refine exs_for (Q := fun o => o = Z.O.rt (.t (oT (Rw9.wStay P))) st) (ds := (P.map fr).map D.t) (u := none) (s1 := st)
      (fun i σ s => s = st ∧ ∃ a b c d, σ = [some (.t (.lst (P.map fr))), none, some (.t (.int (Rw9.fo (P.take i) (1, 0)).1)), some (.t (.int (Rw9.fo (P.take i) (0, 1)).1)), some (.t (.int (Rw9.fo (P.take i) (1, 0)).2)), some (.t (.int (Rw9.fo (P.take i) (0, 1)).2)), a, b, c, d])
      (by simp -implicitDefEqProofs only [exs, ex, ev, evs, evo, evC, rb_ok, rt_ok, of_some, lift2_t, view_t, subD_tup, subD_lst, at0, at1, at2, at3, subTT, addT, tupD2, fin_rt, fin_nx, cast0, cast1, cast2, cast3, cast4, cast5, Int.reduceLT, Int.reduceLE, Int.reduceEq, Int.reduceNe, decide_not, map_some, take_all, cmp_lt, cmp_le, cmp_gt, cmp_ge, cmp_eq, cmp_ne, tru_bl, setTg_name, setTg_tup, setTg_lst, setTgs_nil, setTgs_cons, decide_eq_true_eq, Option.bind_some, Option.bind_none, bl_not, is_non, isnt_non, cmpIs_tup, cmpIsN_tup, if_tt, if_ff, tru_int, reduceCtorEq, decide_true, decide_false, Bool.not_true, Bool.not_false, mm1, mm2, mm3, mapM1, mapM2, lstD_c0, lstD_t0, lstD_t1, lstD_t2, lstD_t3, isL_last, isi_int_non, isi_bool_non, isi_tuple_non, isi_list_non, isi_dict_non, isi_lt_non, isi_int_bl, isi_bool_bl, isi_tuple_bl, isi_list_bl, isi_dict_bl, isi_lt_bl, isi_int_int, isi_bool_int, isi_tuple_int, isi_list_int, isi_dict_int, isi_lt_int, isi_int_str, isi_bool_str, isi_tuple_str, isi_list_str, isi_dict_str, isi_lt_str, isi_int_tup, isi_bool_tup, isi_tuple_tup, isi_list_tup, isi_dict_tup, isi_lt_tup, isi_int_lst, isi_bool_lst, isi_tuple_lst, isi_list_lst, isi_dict_lst, isi_lt_lst, isi_int_dk, isi_bool_dk, isi_tuple_dk, isi_list_dk, isi_dict_dk, isi_lt_dk, tup_ty, lenT_lst, lenT_tup, intT, Bool.or_true, Bool.true_or, Bool.or_false, Bool.false_or, Bool.and_true, Bool.true_and, Bool.and_false, Bool.false_and, Z.isNon, not_true_eq_false, not_false_eq_true, Bool.not_eq_true, Bool.false_eq_true, Option.map_some, List.length_cons, List.length_nil, Nat.reduceAdd, ↓reduceIte, List.map_cons, List.map_nil, Nat.reduceSub, List.cons_append, List.nil_append, List.append_nil, List.replicate, List.set_cons_succ, List.set_cons_zero, Nat.reduceLT, gE_0, gE_s, df_0_1, df_1_2, df_2_2, df_3_1, df_4_1, df_5_1, df_6_1, df_7_1, df_8_1, df_10_1, df_14_1, df_15_1, df_16_1, df_17_2, df_18_2, df_25_1, df_25_2, df_26_1, df_27_2, df_28_1, df_29_2, df_30_2, df_31_2, df_32_2, df_33_2, df_34_2, df_35_2, df_36_2, df_37_2, df_38_2, df_39_2, df_40_2, df_41_2, df_42_1, df_43_1, df_44_1, df_45_2, evI, walk_frs]) ⟨rfl, none, none, none, none, rfl⟩ ?_ ?_
    · rintro j d0 σ s hd ⟨rfl, a, b, c, d, rfl⟩
      obtain ⟨s', rfl, hp⟩ := item_frs hd
      have hs' := hP s' (List.mem_of_getElem? hp)
      have hlj : (P.take j).length ≤ 7 := by rw [List.length_take]; omega
      have mem := fun z (hz : z ∈ P.take j) => hP z (List.mem_of_mem_take hz)
      obtain ⟨y1, y2⟩ := bd_fo (P.take j) 1 (1, 0) mem (by unfold Bd; decide) (by unfold Bd; decide)
      obtain ⟨z1, z2⟩ := bd_fo (P.take j) 1 (0, 1) mem (by unfold Bd; decide) (by unfold Bd; decide)
      have e1 := fo_take hp (1, 0)
      have e2 := fo_take hp (0, 1)
      have m1 := mulC y1 hs'.b2 (by omega)
      have m2 := mulC y2 hs'.b1 (by omega)
      have m3 := mulC z1 hs'.b2 (by omega)
      have m4 := mulC z2 hs'.b1 (by omega)
      rw [turnX_nx (σ1 := [some (.t (.lst (P.map fr))), none, some (.t (.int (Rw9.fo (P.take j) (1, 0)).1)), some (.t (.int (Rw9.fo (P.take j) (0, 1)).1)), some (.t (.int (Rw9.fo (P.take j) (1, 0)).2)), some (.t (.int (Rw9.fo (P.take j) (0, 1)).2)), some (.t (.int s'.1)), some (.t (.int s'.2)), c, d]) rfl]
      rw [e1, e2]
      clear e1 e2 y1 y2 z1 z2 mem
      generalize Rw9.fo (P.take j) (1, 0) = y at *
      generalize Rw9.fo (P.take j) (0, 1) = z at *
      refine .inl ⟨[some (.t (.lst (P.map fr))), none, some (.t (.int (y.1 * s'.2 - y.2 * s'.1))), some (.t (.int (z.1 * s'.2 - z.2 * s'.1))), some (.t (.int (y.1 * s'.2))), some (.t (.int (z.1 * s'.2))), some (.t (.int s'.1)), some (.t (.int s'.2)), some (.t (.int (y.1 * s'.2 - y.2 * s'.1))), some (.t (.int (z.1 * s'.2 - z.2 * s'.1)))], s, .inl ?_, rfl, _, _, _, _, rfl⟩
      refine exs_nx (Q := fun o => o = Z.O.nx [some (.t (.lst (P.map fr))), none, some (.t (.int (y.1 * s'.2 - y.2 * s'.1))), some (.t (.int (z.1 * s'.2 - z.2 * s'.1))), some (.t (.int (y.1 * s'.2))), some (.t (.int (z.1 * s'.2))), some (.t (.int s'.1)), some (.t (.int s'.2)), some (.t (.int (y.1 * s'.2 - y.2 * s'.1))), some (.t (.int (z.1 * s'.2 - z.2 * s'.1)))] s)
        (σ1 := [some (.t (.lst (P.map fr))), none, some (.t (.int y.1)), some (.t (.int z.1)), some (.t (.int y.2)), some (.t (.int z.2)), some (.t (.int s'.1)), some (.t (.int s'.2)), some (.t (.int (y.1 * s'.2 - y.2 * s'.1))), some (.t (.int (z.1 * s'.2 - z.2 * s'.1)))]) (s1 := s) (by simp -implicitDefEqProofs only [exs, ex, ev, evs, evo, evC, rb_ok, rt_ok, of_some, lift2_t, view_t, subD_tup, subD_lst, at0, at1, at2, at3, subTT, addT, tupD2, fin_rt, fin_nx, cast0, cast1, cast2, cast3, cast4, cast5, Int.reduceLT, Int.reduceLE, Int.reduceEq, Int.reduceNe, decide_not, map_some, take_all, cmp_lt, cmp_le, cmp_gt, cmp_ge, cmp_eq, cmp_ne, tru_bl, setTg_name, setTg_tup, setTg_lst, setTgs_nil, setTgs_cons, decide_eq_true_eq, Option.bind_some, Option.bind_none, bl_not, is_non, isnt_non, cmpIs_tup, cmpIsN_tup, if_tt, if_ff, tru_int, reduceCtorEq, decide_true, decide_false, Bool.not_true, Bool.not_false, mm1, mm2, mm3, mapM1, mapM2, lstD_c0, lstD_t0, lstD_t1, lstD_t2, lstD_t3, isL_last, isi_int_non, isi_bool_non, isi_tuple_non, isi_list_non, isi_dict_non, isi_lt_non, isi_int_bl, isi_bool_bl, isi_tuple_bl, isi_list_bl, isi_dict_bl, isi_lt_bl, isi_int_int, isi_bool_int, isi_tuple_int, isi_list_int, isi_dict_int, isi_lt_int, isi_int_str, isi_bool_str, isi_tuple_str, isi_list_str, isi_dict_str, isi_lt_str, isi_int_tup, isi_bool_tup, isi_tuple_tup, isi_list_tup, isi_dict_tup, isi_lt_tup, isi_int_lst, isi_bool_lst, isi_tuple_lst, isi_list_lst, isi_dict_lst, isi_lt_lst, isi_int_dk, isi_bool_dk, isi_tuple_dk, isi_list_dk, isi_dict_dk, isi_lt_dk, tup_ty, lenT_lst, lenT_tup, intT, Bool.or_true, Bool.true_or, Bool.or_false, Bool.false_or, Bool.and_true, Bool.true_and, Bool.and_false, Bool.false_and, Z.isNon, not_true_eq_false, not_false_eq_true, Bool.not_eq_true, Bool.false_eq_true, Option.map_some, List.length_cons, List.length_nil, Nat.reduceAdd, ↓reduceIte, List.map_cons, List.map_nil, Nat.reduceSub, List.cons_append, List.nil_append, List.append_nil, List.replicate, List.set_cons_succ, List.set_cons_zero, Nat.reduceLT, gE_0, gE_s, df_0_1, df_1_2, df_2_2, df_3_1, df_4_1, df_5_1, df_6_1, df_7_1, df_8_1, df_10_1, df_14_1, df_15_1, df_16_1, df_17_2, df_18_2, df_25_1, df_25_2, df_26_1, df_27_2, df_28_1, df_29_2, df_30_2, df_31_2, df_32_2, df_33_2, df_34_2, df_35_2, df_36_2, df_37_2, df_38_2, df_39_2, df_40_2, df_41_2, df_42_1, df_43_1, df_44_1, df_45_2, m1, m2, m3, m4, and_self]) ?_
      exact exs_nx (Q := fun o => o = Z.O.nx [some (.t (.lst (P.map fr))), none, some (.t (.int (y.1 * s'.2 - y.2 * s'.1))), some (.t (.int (z.1 * s'.2 - z.2 * s'.1))), some (.t (.int (y.1 * s'.2))), some (.t (.int (z.1 * s'.2))), some (.t (.int s'.1)), some (.t (.int s'.2)), some (.t (.int (y.1 * s'.2 - y.2 * s'.1))), some (.t (.int (z.1 * s'.2 - z.2 * s'.1)))] s)
        (σ1 := [some (.t (.lst (P.map fr))), none, some (.t (.int (y.1 * s'.2 - y.2 * s'.1))), some (.t (.int (z.1 * s'.2 - z.2 * s'.1))), some (.t (.int (y.1 * s'.2))), some (.t (.int (z.1 * s'.2))), some (.t (.int s'.1)), some (.t (.int s'.2)), some (.t (.int (y.1 * s'.2 - y.2 * s'.1))), some (.t (.int (z.1 * s'.2 - z.2 * s'.1)))]) (s1 := s) (by simp -implicitDefEqProofs only [exs, ex, ev, evs, evo, evC, rb_ok, rt_ok, of_some, lift2_t, view_t, subD_tup, subD_lst, at0, at1, at2, at3, subTT, addT, tupD2, fin_rt, fin_nx, cast0, cast1, cast2, cast3, cast4, cast5, Int.reduceLT, Int.reduceLE, Int.reduceEq, Int.reduceNe, decide_not, map_some, take_all, cmp_lt, cmp_le, cmp_gt, cmp_ge, cmp_eq, cmp_ne, tru_bl, setTg_name, setTg_tup, setTg_lst, setTgs_nil, setTgs_cons, decide_eq_true_eq, Option.bind_some, Option.bind_none, bl_not, is_non, isnt_non, cmpIs_tup, cmpIsN_tup, if_tt, if_ff, tru_int, reduceCtorEq, decide_true, decide_false, Bool.not_true, Bool.not_false, mm1, mm2, mm3, mapM1, mapM2, lstD_c0, lstD_t0, lstD_t1, lstD_t2, lstD_t3, isL_last, isi_int_non, isi_bool_non, isi_tuple_non, isi_list_non, isi_dict_non, isi_lt_non, isi_int_bl, isi_bool_bl, isi_tuple_bl, isi_list_bl, isi_dict_bl, isi_lt_bl, isi_int_int, isi_bool_int, isi_tuple_int, isi_list_int, isi_dict_int, isi_lt_int, isi_int_str, isi_bool_str, isi_tuple_str, isi_list_str, isi_dict_str, isi_lt_str, isi_int_tup, isi_bool_tup, isi_tuple_tup, isi_list_tup, isi_dict_tup, isi_lt_tup, isi_int_lst, isi_bool_lst, isi_tuple_lst, isi_list_lst, isi_dict_lst, isi_lt_lst, isi_int_dk, isi_bool_dk, isi_tuple_dk, isi_list_dk, isi_dict_dk, isi_lt_dk, tup_ty, lenT_lst, lenT_tup, intT, Bool.or_true, Bool.true_or, Bool.or_false, Bool.false_or, Bool.and_true, Bool.true_and, Bool.and_false, Bool.false_and, Z.isNon, not_true_eq_false, not_false_eq_true, Bool.not_eq_true, Bool.false_eq_true, Option.map_some, List.length_cons, List.length_nil, Nat.reduceAdd, ↓reduceIte, List.map_cons, List.map_nil, Nat.reduceSub, List.cons_append, List.nil_append, List.append_nil, List.replicate, List.set_cons_succ, List.set_cons_zero, Nat.reduceLT, gE_0, gE_s, df_0_1, df_1_2, df_2_2, df_3_1, df_4_1, df_5_1, df_6_1, df_7_1, df_8_1, df_10_1, df_14_1, df_15_1, df_16_1, df_17_2, df_18_2, df_25_1, df_25_2, df_26_1, df_27_2, df_28_1, df_29_2, df_30_2, df_31_2, df_32_2, df_33_2, df_34_2, df_35_2, df_36_2, df_37_2, df_38_2, df_39_2, df_40_2, df_41_2, df_42_1, df_43_1, df_44_1, df_45_2, m1, m3]) rfl
    · rintro σ s ⟨rfl, a, b, c, d, rfl⟩
      rw [List.length_map, List.length_map, List.take_length]
      show exs _ _ _ (unlock _ none) = _
      simp only [unlock]
      obtain ⟨y1, y2⟩ := bd_fo P 1 (1, 0) hP (by unfold Bd; decide) (by unfold Bd; decide)
      obtain ⟨z1, z2⟩ := bd_fo P 1 (0, 1) hP (by unfold Bd; decide) (by unfold Bd; decide)
      have em : Rw9.mid P = ((Rw9.fo P (1, 0)).1 - (Rw9.fo P (0, 1)).2, 2 * (Rw9.fo P (1, 0)).2) := rfl
      have y1 : Bd 134 (Rw9.fo P (1, 0)).1 := y1.mono (by omega)
      have y2 : Bd 134 (Rw9.fo P (1, 0)).2 := y2.mono (by omega)
      have z2 : Bd 134 (Rw9.fo P (0, 1)).2 := z2.mono (by omega)
      have b2 : Bd 2 2 := by unfold Bd; decide
      have bm1 : Bd 140 (Rw9.mid P).1 := by rw [em]; exact Bd.sub y1 z2 (by decide)
      have bm2 : Bd 140 (Rw9.mid P).2 := by rw [em]; exact (b2.mul y2).mono (by decide)
      have pm : 0 < (Rw9.mid P).2 := by rw [em]; show 0 < 2 * _; omega
      obtain ⟨l1, l2⟩ := bd_low bm1 bm2
      have lp := Rw9.low_pos pm
      have hlw : ∀ st, callN lib.ft lib.g0 (k + 4) 32 [.t (.int (Rw9.mid P).1), .t (.int (Rw9.mid P).2)] st = .ok (.t (fr (Rw9.low (Rw9.mid P)))) st := fun st => r_low (k + 3) (Rw9.mid P).1 (Rw9.mid P).2 st pm (bm1.mono (by decide)) (bm2.mono (by decide))
      have e1 : (Rw9.mid P).1 = (Rw9.fo P (1, 0)).1 - (Rw9.fo P (0, 1)).2 := by rw [em]
      have e2 : (Rw9.mid P).2 = 2 * (Rw9.fo P (1, 0)).2 := by rw [em]
      rw [e1, e2] at hlw
      have hm := mulT b2 y2 (by decide)
      have hin := in_frs (0, 1) P
      have hX : Bd 140 (Rw9.wX P v).1 ∧ Bd 140 (Rw9.wX P v).2 ∧ 0 < (Rw9.wX P v).2 := by
        unfold Rw9.wX
        split
        · exact ⟨v1.mono (by omega), v2.mono (by omega), vp.2⟩
        · exact ⟨l1, l2, lp⟩
      have his := fun st => r_wis k P (Rw9.wX P v) st hP (by omega) hX.2.2 hX.1 hX.2.1
      rw [e]
      have st4 : ex { lib.g0 with call := callN lib.ft lib.g0 (k + 4) } (.set (.name 1) (.ite (.cmp .In (.tup (.cons (.con (.int 0)) (.cons (.con (.int 1)) .nil))) (.var 0)) (.call 40 (.cons (.var 0) (.cons (.tup (.cons (.con (.int 1)) (.cons (.con (.int 1)) .nil))) .nil))) (.call 32 (.cons (.bin .Sub (.var 2) (.var 5)) (.cons (.bin .Mult (.con (.int 2)) (.var 4)) .nil)))))
          [some (.t (.lst (P.map fr))), none, some (.t (.int (Rw9.fo P (1, 0)).1)), some (.t (.int (Rw9.fo P (0, 1)).1)), some (.t (.int (Rw9.fo P (1, 0)).2)), some (.t (.int (Rw9.fo P (0, 1)).2)), a, b, c, d] s
          = .nx [some (.t (.lst (P.map fr))), some (.t (fr (Rw9.wX P v))), some (.t (.int (Rw9.fo P (1, 0)).1)), some (.t (.int (Rw9.fo P (0, 1)).1)), some (.t (.int (Rw9.fo P (1, 0)).2)), some (.t (.int (Rw9.fo P (0, 1)).2)), a, b, c, d] s := by
        unfold Rw9.wX
        generalize Rw9.fo P (1, 0) = y at *
        generalize Rw9.fo P (0, 1) = z at *
        generalize Rw9.low (Rw9.mid P) = m at *
        by_cases hmem : (0, 1) ∈ P
        · rw [decide_eq_true hmem] at hin
          rw [if_pos hmem]
          simp -implicitDefEqProofs only [exs, ex, ev, evs, evo, evC, rb_ok, rt_ok, of_some, lift2_t, view_t, subD_tup, subD_lst, at0, at1, at2, at3, subTT, addT, tupD2, fin_rt, fin_nx, cast0, cast1, cast2, cast3, cast4, cast5, Int.reduceLT, Int.reduceLE, Int.reduceEq, Int.reduceNe, decide_not, map_some, take_all, cmp_lt, cmp_le, cmp_gt, cmp_ge, cmp_eq, cmp_ne, tru_bl, setTg_name, setTg_tup, setTg_lst, setTgs_nil, setTgs_cons, decide_eq_true_eq, Option.bind_some, Option.bind_none, bl_not, is_non, isnt_non, cmpIs_tup, cmpIsN_tup, if_tt, if_ff, tru_int, reduceCtorEq, decide_true, decide_false, Bool.not_true, Bool.not_false, mm1, mm2, mm3, mapM1, mapM2, lstD_c0, lstD_t0, lstD_t1, lstD_t2, lstD_t3, isL_last, isi_int_non, isi_bool_non, isi_tuple_non, isi_list_non, isi_dict_non, isi_lt_non, isi_int_bl, isi_bool_bl, isi_tuple_bl, isi_list_bl, isi_dict_bl, isi_lt_bl, isi_int_int, isi_bool_int, isi_tuple_int, isi_list_int, isi_dict_int, isi_lt_int, isi_int_str, isi_bool_str, isi_tuple_str, isi_list_str, isi_dict_str, isi_lt_str, isi_int_tup, isi_bool_tup, isi_tuple_tup, isi_list_tup, isi_dict_tup, isi_lt_tup, isi_int_lst, isi_bool_lst, isi_tuple_lst, isi_list_lst, isi_dict_lst, isi_lt_lst, isi_int_dk, isi_bool_dk, isi_tuple_dk, isi_list_dk, isi_dict_dk, isi_lt_dk, tup_ty, lenT_lst, lenT_tup, intT, Bool.or_true, Bool.true_or, Bool.or_false, Bool.false_or, Bool.and_true, Bool.true_and, Bool.and_false, Bool.false_and, Z.isNon, not_true_eq_false, not_false_eq_true, Bool.not_eq_true, Bool.false_eq_true, Option.map_some, List.length_cons, List.length_nil, Nat.reduceAdd, ↓reduceIte, List.map_cons, List.map_nil, Nat.reduceSub, List.cons_append, List.nil_append, List.append_nil, List.replicate, List.set_cons_succ, List.set_cons_zero, Nat.reduceLT, gE_0, gE_s, df_0_1, df_1_2, df_2_2, df_3_1, df_4_1, df_5_1, df_6_1, df_7_1, df_8_1, df_10_1, df_14_1, df_15_1, df_16_1, df_17_2, df_18_2, df_25_1, df_25_2, df_26_1, df_27_2, df_28_1, df_29_2, df_30_2, df_31_2, df_32_2, df_33_2, df_34_2, df_35_2, df_36_2, df_37_2, df_38_2, df_39_2, df_40_2, df_41_2, df_42_1, df_43_1, df_44_1, df_45_2, hin, hg s]
        · rw [decide_eq_false hmem] at hin
          rw [if_neg hmem]
          simp -implicitDefEqProofs only [exs, ex, ev, evs, evo, evC, rb_ok, rt_ok, of_some, lift2_t, view_t, subD_tup, subD_lst, at0, at1, at2, at3, subTT, addT, tupD2, fin_rt, fin_nx, cast0, cast1, cast2, cast3, cast4, cast5, Int.reduceLT, Int.reduceLE, Int.reduceEq, Int.reduceNe, decide_not, map_some, take_all, cmp_lt, cmp_le, cmp_gt, cmp_ge, cmp_eq, cmp_ne, tru_bl, setTg_name, setTg_tup, setTg_lst, setTgs_nil, setTgs_cons, decide_eq_true_eq, Option.bind_some, Option.bind_none, bl_not, is_non, isnt_non, cmpIs_tup, cmpIsN_tup, if_tt, if_ff, tru_int, reduceCtorEq, decide_true, decide_false, Bool.not_true, Bool.not_false, mm1, mm2, mm3, mapM1, mapM2, lstD_c0, lstD_t0, lstD_t1, lstD_t2, lstD_t3, isL_last, isi_int_non, isi_bool_non, isi_tuple_non, isi_list_non, isi_dict_non, isi_lt_non, isi_int_bl, isi_bool_bl, isi_tuple_bl, isi_list_bl, isi_dict_bl, isi_lt_bl, isi_int_int, isi_bool_int, isi_tuple_int, isi_list_int, isi_dict_int, isi_lt_int, isi_int_str, isi_bool_str, isi_tuple_str, isi_list_str, isi_dict_str, isi_lt_str, isi_int_tup, isi_bool_tup, isi_tuple_tup, isi_list_tup, isi_dict_tup, isi_lt_tup, isi_int_lst, isi_bool_lst, isi_tuple_lst, isi_list_lst, isi_dict_lst, isi_lt_lst, isi_int_dk, isi_bool_dk, isi_tuple_dk, isi_list_dk, isi_dict_dk, isi_lt_dk, tup_ty, lenT_lst, lenT_tup, intT, Bool.or_true, Bool.true_or, Bool.or_false, Bool.false_or, Bool.and_true, Bool.true_and, Bool.and_false, Bool.false_and, Z.isNon, not_true_eq_false, not_false_eq_true, Bool.not_eq_true, Bool.false_eq_true, Option.map_some, List.length_cons, List.length_nil, Nat.reduceAdd, ↓reduceIte, List.map_cons, List.map_nil, Nat.reduceSub, List.cons_append, List.nil_append, List.append_nil, List.replicate, List.set_cons_succ, List.set_cons_zero, Nat.reduceLT, gE_0, gE_s, df_0_1, df_1_2, df_2_2, df_3_1, df_4_1, df_5_1, df_6_1, df_7_1, df_8_1, df_10_1, df_14_1, df_15_1, df_16_1, df_17_2, df_18_2, df_25_1, df_25_2, df_26_1, df_27_2, df_28_1, df_29_2, df_30_2, df_31_2, df_32_2, df_33_2, df_34_2, df_35_2, df_36_2, df_37_2, df_38_2, df_39_2, df_40_2, df_41_2, df_42_1, df_43_1, df_44_1, df_45_2, hin, hm, hlw s]
      refine exs_nx (Q := fun o => o = Z.O.rt (.t (oT (if Rw9.wIs P (Rw9.wX P v) then some (Rw9.wX P v) else none))) s) (h := st4) ?_
      generalize Rw9.wX P v = m at *
      generalize Rw9.fo P (1, 0) = y at *
      generalize Rw9.fo P (0, 1) = z at *
      cases hq : Rw9.wIs P m with
      | true =>
        rw [hq] at his
        exact exs_rt (Q := fun o => o = Z.O.rt (.t (oT (some m))) s) (d := .t (fr m)) (s1 := s) (by simp -implicitDefEqProofs only [exs, ex, ev, evs, evo, evC, rb_ok, rt_ok, of_some, lift2_t, view_t, subD_tup, subD_lst, at0, at1, at2, at3, subTT, addT, tupD2, fin_rt, fin_nx, cast0, cast1, cast2, cast3, cast4, cast5, Int.reduceLT, Int.reduceLE, Int.reduceEq, Int.reduceNe, decide_not, map_some, take_all, cmp_lt, cmp_le, cmp_gt, cmp_ge, cmp_eq, cmp_ne, tru_bl, setTg_name, setTg_tup, setTg_lst, setTgs_nil, setTgs_cons, decide_eq_true_eq, Option.bind_some, Option.bind_none, bl_not, is_non, isnt_non, cmpIs_tup, cmpIsN_tup, if_tt, if_ff, tru_int, reduceCtorEq, decide_true, decide_false, Bool.not_true, Bool.not_false, mm1, mm2, mm3, mapM1, mapM2, lstD_c0, lstD_t0, lstD_t1, lstD_t2, lstD_t3, isL_last, isi_int_non, isi_bool_non, isi_tuple_non, isi_list_non, isi_dict_non, isi_lt_non, isi_int_bl, isi_bool_bl, isi_tuple_bl, isi_list_bl, isi_dict_bl, isi_lt_bl, isi_int_int, isi_bool_int, isi_tuple_int, isi_list_int, isi_dict_int, isi_lt_int, isi_int_str, isi_bool_str, isi_tuple_str, isi_list_str, isi_dict_str, isi_lt_str, isi_int_tup, isi_bool_tup, isi_tuple_tup, isi_list_tup, isi_dict_tup, isi_lt_tup, isi_int_lst, isi_bool_lst, isi_tuple_lst, isi_list_lst, isi_dict_lst, isi_lt_lst, isi_int_dk, isi_bool_dk, isi_tuple_dk, isi_list_dk, isi_dict_dk, isi_lt_dk, tup_ty, lenT_lst, lenT_tup, intT, Bool.or_true, Bool.true_or, Bool.or_false, Bool.false_or, Bool.and_true, Bool.true_and, Bool.and_false, Bool.false_and, Z.isNon, not_true_eq_false, not_false_eq_true, Bool.not_eq_true, Bool.false_eq_true, Option.map_some, List.length_cons, List.length_nil, Nat.reduceAdd, ↓reduceIte, List.map_cons, List.map_nil, Nat.reduceSub, List.cons_append, List.nil_append, List.append_nil, List.replicate, List.set_cons_succ, List.set_cons_zero, Nat.reduceLT, gE_0, gE_s, df_0_1, df_1_2, df_2_2, df_3_1, df_4_1, df_5_1, df_6_1, df_7_1, df_8_1, df_10_1, df_14_1, df_15_1, df_16_1, df_17_2, df_18_2, df_25_1, df_25_2, df_26_1, df_27_2, df_28_1, df_29_2, df_30_2, df_31_2, df_32_2, df_33_2, df_34_2, df_35_2, df_36_2, df_37_2, df_38_2, df_39_2, df_40_2, df_41_2, df_42_1, df_43_1, df_44_1, df_45_2, his s]) rfl
      | false =>
        rw [hq] at his
        exact exs_rt (Q := fun o => o = Z.O.rt (.t (oT none)) s) (d := .t .non) (s1 := s) (by simp -implicitDefEqProofs only [exs, ex, ev, evs, evo, evC, rb_ok, rt_ok, of_some, lift2_t, view_t, subD_tup, subD_lst, at0, at1, at2, at3, subTT, addT, tupD2, fin_rt, fin_nx, cast0, cast1, cast2, cast3, cast4, cast5, Int.reduceLT, Int.reduceLE, Int.reduceEq, Int.reduceNe, decide_not, map_some, take_all, cmp_lt, cmp_le, cmp_gt, cmp_ge, cmp_eq, cmp_ne, tru_bl, setTg_name, setTg_tup, setTg_lst, setTgs_nil, setTgs_cons, decide_eq_true_eq, Option.bind_some, Option.bind_none, bl_not, is_non, isnt_non, cmpIs_tup, cmpIsN_tup, if_tt, if_ff, tru_int, reduceCtorEq, decide_true, decide_false, Bool.not_true, Bool.not_false, mm1, mm2, mm3, mapM1, mapM2, lstD_c0, lstD_t0, lstD_t1, lstD_t2, lstD_t3, isL_last, isi_int_non, isi_bool_non, isi_tuple_non, isi_list_non, isi_dict_non, isi_lt_non, isi_int_bl, isi_bool_bl, isi_tuple_bl, isi_list_bl, isi_dict_bl, isi_lt_bl, isi_int_int, isi_bool_int, isi_tuple_int, isi_list_int, isi_dict_int, isi_lt_int, isi_int_str, isi_bool_str, isi_tuple_str, isi_list_str, isi_dict_str, isi_lt_str, isi_int_tup, isi_bool_tup, isi_tuple_tup, isi_list_tup, isi_dict_tup, isi_lt_tup, isi_int_lst, isi_bool_lst, isi_tuple_lst, isi_list_lst, isi_dict_lst, isi_lt_lst, isi_int_dk, isi_bool_dk, isi_tuple_dk, isi_list_dk, isi_dict_dk, isi_lt_dk, tup_ty, lenT_lst, lenT_tup, intT, Bool.or_true, Bool.true_or, Bool.or_false, Bool.false_or, Bool.and_true, Bool.true_and, Bool.and_false, Bool.false_and, Z.isNon, not_true_eq_false, not_false_eq_true, Bool.not_eq_true, Bool.false_eq_true, Option.map_some, List.length_cons, List.length_nil, Nat.reduceAdd, ↓reduceIte, List.map_cons, List.map_nil, Nat.reduceSub, List.cons_append, List.nil_append, List.append_nil, List.replicate, List.set_cons_succ, List.set_cons_zero, Nat.reduceLT, gE_0, gE_s, df_0_1, df_1_2, df_2_2, df_3_1, df_4_1, df_5_1, df_6_1, df_7_1, df_8_1, df_10_1, df_14_1, df_15_1, df_16_1, df_17_2, df_18_2, df_25_1, df_25_2, df_26_1, df_27_2, df_28_1, df_29_2, df_30_2, df_31_2, df_32_2, df_33_2, df_34_2, df_35_2, df_36_2, df_37_2, df_38_2, df_39_2, df_40_2, df_41_2, df_42_1, df_43_1, df_44_1, df_45_2, his s]) rfl
end Lw
end Z
end
section
set_option Elab.async false
set_option linter.all false
set_option maxRecDepth 100000
set_option maxHeartbeats 4000000
namespace Z
namespace Lw

open PySem L2 Zr
/-! ### the spring -/
abbrev spr (G : List Int) (f : Int) (sm : List Int) (n : Int) (rest : S) : S := C.l (G.map fun i => D.t (.int i)) :: C.l [.c 0, .t (.int f), .t (.lst (sm.map T.int)), .t (.int n)] :: rest
theorem sub_c1 (a : C) (ds : List D) (rest : S) (i : Int) : subD (a :: .l ds :: rest) (.c 1) (.t (.int i)) = atI ds i := (rfl)
theorem set_c13 (a : C) (w x y z : D) (rest : S) (u : T) : setSubD (a :: .l [w, x, y, z] :: rest) (.c 1) (.t (.int 3)) (.t u) = some (a :: .l [w, x, y, .t u] :: rest) := by rfl
theorem set_c11 (a : C) (w x y z : D) (rest : S) (u : T) : setSubD (a :: .l [w, x, y, z] :: rest) (.c 1) (.t (.int 1)) (.t u) = some (a :: .l [w, .t u, y, z] :: rest) := by rfl
theorem view_c0 (G : List Int) (rest : S) : view (C.l (G.map fun i => D.t (.int i)) :: rest) (.c 0) = some (.lst (G.map T.int)) := by
  show (trees (G.map fun i => D.t (.int i))).map T.lst = _
  have : (G.map fun i => D.t (.int i)) = (G.map T.int).map D.t := by rw [List.map_map]; rfl
  rw [this, trees_map]
  rfl
theorem lift2_c0 (G : List Int) (rest : S) (f : T → T → Option T) (y : T) : lift2 (C.l (G.map fun i => D.t (.int i)) :: rest) f (.c 0) (.t y) = (f (.lst (G.map T.int)) y).map D.t := by
  show ((view (C.l (G.map fun i => D.t (.int i)) :: rest) (.c 0)).bind fun x => (some y).bind fun y => (f x y).map D.t) = _
  rw [view_c0]
  rfl
theorem cmp_ints (G : List Int) : cmpable (.lst (G.map T.int)) = true := by
  have h1 : ∀ G : List Int, isDs (G.map T.int) = true := by
    intro G
    induction G with
    | nil => rfl
    | cons a r ih => show (isD (.int a) && isDs (r.map T.int)) = true; rw [ih]; rfl
  have h2 : ∀ G : List Int, PyData.canLayAll0 (pys (G.map T.int)) = true := by
    intro G
    induction G with
    | nil => rfl
    | cons a r ih => show (PyData.canLay0 (.int a) && PyData.canLayAll0 (pys (r.map T.int))) = true; rw [ih]; rfl
  have h3 : ∀ G : List Int, PyData.depthAll (pys (G.map T.int)) ≤ 0 := by
    intro G
    induction G with
    | nil => exact Nat.le_refl _
    | cons a r ih => show max (PyData.depth (.int a)) (PyData.depthAll (pys (r.map T.int))) ≤ 0; exact Nat.max_le.mpr ⟨Nat.le_refl _, ih⟩
  show (isDs (G.map T.int) && (PyData.canLay0 (.list (pys (G.map T.int))) && decide (PyData.depth (.list (pys (G.map T.int))) ≤ 64))) = true
  have := h3 G
  rw [h1, PyData.canLay0.eq_5, h2, PyData.depth.eq_1]
  simp
  omega
theorem eq_nil_ints (G : List Int) : eqT (.lst (G.map T.int)) (.lst []) = some (decide (G = [])) := by
  unfold eqT
  have h : cmpable (.lst []) = true := cmp_ints []
  rw [cmp_ints, h]
  show some (PyData.eqv (.list (pys (G.map T.int))) (.list [])) = _
  rw [PyData.eqv.eq_7]
  cases G with
  | nil => rfl
  | cons a r =>
    show some (PyData.eqvAll (py (.int a) :: pys (r.map T.int)) []) = _
    rw [PyData.eqvAll.eq_4]
    · simp
    all_goals (intros; simp_all)
theorem cmp_eq_nil (G : List Int) : cmpT .Eq (.lst (G.map T.int)) (.lst []) = some (decide (G = [])) := eq_nil_ints G
theorem cmp_ne_nil (G : List Int) : cmpT .NotEq (.lst (G.map T.int)) (.lst []) = some (!decide (G = [])) := by
  show (eqT (.lst (G.map T.int)) (.lst [])).map (!·) = _
  rw [eq_nil_ints]
  rfl
theorem pop_c0 (g : Int) (r : List D) (rest : S) : popD (C.l (.t (.int g) :: r) :: rest) (.c 0) (.t (.int 0)) = .ok (.t (.int g)) (C.l r :: rest) := by
  have e : seqIndex? 0 (List.length (D.t (.int g) :: r)) = some 0 := by
    unfold seqIndex?
    simp
  show (if -9223372036854775808 ≤ (0 : Int) ∧ (0 : Int) < 9223372036854775808 then (match seqIndex? 0 (List.length (D.t (.int g) :: r)) with
      | some k => (match (D.t (.int g) :: r)[k]? with
        | some y => R.ok y ((C.l (.t (.int g) :: r) :: rest).set 0 (.l ((D.t (.int g) :: r).eraseIdx k)))
        | none => .no)
      | none => .no) else .no) = _
  rw [e, if_pos (by decide)]
  rfl
theorem pop_spr (g : Int) (r : List Int) (f : Int) (sm : List Int) (n : Int) (rest : S) : popD (spr (g :: r) f sm n rest) (.c 0) (.t (.int 0)) = .ok (.t (.int g)) (spr r f sm n rest) := pop_c0 g _ _
theorem isL_c0 (ds : List D) (rest : S) : isL (C.l ds :: rest) (.c 0) = true := (rfl)
theorem powT5 {i : Int} (h : i.natAbs < 2 ^ 64) : Z.binT .Pow (.int i) (.int 5) = some (.int (i ^ 5)) := by
  show (if 0 ≤ (5 : Int) ∧ (5 : Int) ≤ 1000000 ∧ i.natAbs < 2 ^ 64 then some (T.int (i ^ (5 : Int).toNat)) else none) = _
  rw [if_pos ⟨by decide, by decide, h⟩]
  rfl
theorem at_ints {sm : List Int} {i : Int} (h0 : 0 ≤ i) (h1 : i < sm.length) : ∃ c, atI (sm.map T.int) i = some (.int c) := by
  unfold atI
  rw [ixN_lt h0 (by rw [List.length_map]; exact h1)]
  have : i.toNat < sm.length := by omega
  exact ⟨sm[i.toNat], by show (sm.map T.int)[i.toNat]? = _; rw [List.getElem?_map, List.getElem?_eq_getElem this]; rfl⟩
theorem take_spr (G G' : List Int) (f f' n n' : Int) (sm : List Int) (rest : S) : (spr G' f' sm n' rest).take (spr G f sm n rest).length = spr G' f' sm n' rest := by
  refine List.take_of_length_le ?_
  show rest.length + 1 + 1 ≤ rest.length + 1 + 1
  exact Nat.le_refl _
theorem r_take (k : Nat) (m : Int) (G : List Int) (f : Int) (sm : List Int) (n : Int) (rest : S) (hm : 0 < m) (hb : Bd 300 m) (h0 : 0 ≤ n) (hn : n < 1000000) :
    ∃ v G' f', callN lib.ft lib.g0 (k + 1) 29 [.c 1, .t (.int m)] (spr G f sm n rest) = .ok (.t (.int v)) (spr G' f' sm (n + 1) rest) ∧ 0 ≤ v ∧ v < m := by
  have key : ∃ v G' f', exs { lib.g0 with call := callN lib.ft lib.g0 k } F29.body [some (.c 1), some (.t (.int m)), none, none, none, none] (spr G f sm n rest) = .rt (.t (.int v)) (spr G' f' sm (n + 1) rest) ∧ 0 ≤ v ∧ v < m := by
    unfold F29
    dsimp only
    refine exs_nx (Q := fun o => ∃ v G' f', o = Z.O.rt (.t (.int v)) (spr G' f' sm (n + 1) rest) ∧ 0 ≤ v ∧ v < m) (σ1 := [some (.c 1), some (.t (.int m)), none, none, none, none]) (s1 := spr G f sm (n + 1) rest) (by simp -implicitDefEqProofs only [exs, ex, ev, evs, evo, evC, rb_ok, rt_ok, of_some, lift2_t, view_t, subD_tup, subD_lst, at0, at1, at2, at3, subTT, addT, tupD2, fin_rt, fin_nx, cast0, cast1, cast2, cast3, cast4, cast5, Int.reduceLT, Int.reduceLE, Int.reduceEq, Int.reduceNe, decide_not, map_some, take_all, cmp_lt, cmp_le, cmp_gt, cmp_ge, cmp_eq, cmp_ne, tru_bl, setTg_name, setTg_tup, setTg_lst, setTgs_nil, setTgs_cons, decide_eq_true_eq, Option.bind_some, Option.bind_none, bl_not, is_non, isnt_non, cmpIs_tup, cmpIsN_tup, if_tt, if_ff, tru_int, reduceCtorEq, decide_true, decide_false, Bool.not_true, Bool.not_false, mm1, mm2, mm3, mapM1, mapM2, lstD_c0, lstD_t0, lstD_t1, lstD_t2, lstD_t3, isL_last, isi_int_non, isi_bool_non, isi_tuple_non, isi_list_non, isi_dict_non, isi_lt_non, isi_int_bl, isi_bool_bl, isi_tuple_bl, isi_list_bl, isi_dict_bl, isi_lt_bl, isi_int_int, isi_bool_int, isi_tuple_int, isi_list_int, isi_dict_int, isi_lt_int, isi_int_str, isi_bool_str, isi_tuple_str, isi_list_str, isi_dict_str, isi_lt_str, isi_int_tup, isi_bool_tup, isi_tuple_tup, isi_list_tup, isi_dict_tup, isi_lt_tup, isi_int_lst, isi_bool_lst, isi_tuple_lst, isi_list_lst, isi_dict_lst, isi_lt_lst, isi_int_dk, isi_bool_dk, isi_tuple_dk, isi_list_dk, isi_dict_dk, isi_lt_dk, tup_ty, lenT_lst, lenT_tup, intT, Bool.or_true, Bool.true_or, Bool.or_false, Bool.false_or, Bool.and_true, Bool.true_and, Bool.and_false, Bool.false_and, Z.isNon, not_true_eq_false, not_false_eq_true, Bool.not_eq_true, Bool.false_eq_true, Option.map_some, List.length_cons, List.length_nil, Nat.reduceAdd, ↓reduceIte, List.map_cons, List.map_nil, Nat.reduceSub, List.cons_append, List.nil_append, List.append_nil, List.replicate, List.set_cons_succ, List.set_cons_zero, Nat.reduceLT, gE_0, gE_s, df_0_1, df_1_2, df_2_2, df_3_1, df_4_1, df_5_1, df_6_1, df_7_1, df_8_1, df_10_1, df_14_1, df_15_1, df_16_1, df_17_2, df_18_2, df_25_1, df_25_2, df_26_1, df_27_2, df_28_1, df_29_2, df_30_2, df_31_2, df_32_2, df_33_2, df_34_2, df_35_2, df_36_2, df_37_2, df_38_2, df_39_2, df_40_2, df_41_2, df_42_1, df_43_1, df_44_1, df_45_2, sub_c1, set_c13]) ?_
    have hn0 : 0 ≤ n + 1 := by omega
    have hn1 : n + 1 < 1000001 := by omega
    generalize n + 1 = n' at *
    clear h0 hn
    have tk2 : ∃ G' f', ex { lib.g0 with call := callN lib.ft lib.g0 k } (.ife (.and (.cmp .Eq (.sub (.var 0) (.con (.int 1))) (.con (.int 0))) (.one (.cmp .NotEq (.sub (.var 0) (.con (.int 0))) (.lst false .nil)))) (.cons (.setSub (.var 0) (.con (.int 1)) (.pop (.sub (.var 0) (.con (.int 0))) (.con (.int 0)))) .nil) .nil) [some (.c 1), some (.t (.int m)), none, none, none, none] (spr G f sm n' rest) = .nx [some (.c 1), some (.t (.int m)), none, none, none, none] (spr G' f' sm n' rest) := by
      by_cases c : f = 0
      · subst c
        cases G with
        | nil =>
          have hne : cmpT .NotEq (.lst (([] : List Int).map T.int)) (.lst []) = some false := by
            rw [cmp_ne_nil]
            rfl
          exact ⟨[], 0, by simp -implicitDefEqProofs only [exs, ex, ev, evs, evo, evC, rb_ok, rt_ok, of_some, lift2_t, view_t, subD_tup, subD_lst, at0, at1, at2, at3, subTT, addT, tupD2, fin_rt, fin_nx, cast0, cast1, cast2, cast3, cast4, cast5, Int.reduceLT, Int.reduceLE, Int.reduceEq, Int.reduceNe, decide_not, map_some, take_all, cmp_lt, cmp_le, cmp_gt, cmp_ge, cmp_eq, cmp_ne, tru_bl, setTg_name, setTg_tup, setTg_lst, setTgs_nil, setTgs_cons, decide_eq_true_eq, Option.bind_some, Option.bind_none, bl_not, is_non, isnt_non, cmpIs_tup, cmpIsN_tup, if_tt, if_ff, tru_int, reduceCtorEq, decide_true, decide_false, Bool.not_true, Bool.not_false, mm1, mm2, mm3, mapM1, mapM2, lstD_c0, lstD_t0, lstD_t1, lstD_t2, lstD_t3, isL_last, isi_int_non, isi_bool_non, isi_tuple_non, isi_list_non, isi_dict_non, isi_lt_non, isi_int_bl, isi_bool_bl, isi_tuple_bl, isi_list_bl, isi_dict_bl, isi_lt_bl, isi_int_int, isi_bool_int, isi_tuple_int, isi_list_int, isi_dict_int, isi_lt_int, isi_int_str, isi_bool_str, isi_tuple_str, isi_list_str, isi_dict_str, isi_lt_str, isi_int_tup, isi_bool_tup, isi_tuple_tup, isi_list_tup, isi_dict_tup, isi_lt_tup, isi_int_lst, isi_bool_lst, isi_tuple_lst, isi_list_lst, isi_dict_lst, isi_lt_lst, isi_int_dk, isi_bool_dk, isi_tuple_dk, isi_list_dk, isi_dict_dk, isi_lt_dk, tup_ty, lenT_lst, lenT_tup, intT, Bool.or_true, Bool.true_or, Bool.or_false, Bool.false_or, Bool.and_true, Bool.true_and, Bool.and_false, Bool.false_and, Z.isNon, not_true_eq_false, not_false_eq_true, Bool.not_eq_true, Bool.false_eq_true, Option.map_some, List.length_cons, List.length_nil, Nat.reduceAdd, ↓reduceIte, List.map_cons, Nat.reduceSub, List.cons_append, List.nil_append, List.append_nil, List.replicate, List.set_cons_succ, List.set_cons_zero, Nat.reduceLT, gE_0, gE_s, df_0_1, df_1_2, df_2_2, df_3_1, df_4_1, df_5_1, df_6_1, df_7_1, df_8_1, df_10_1, df_14_1, df_15_1, df_16_1, df_17_2, df_18_2, df_25_1, df_25_2, df_26_1, df_27_2, df_28_1, df_29_2, df_30_2, df_31_2, df_32_2, df_33_2, df_34_2, df_35_2, df_36_2, df_37_2, df_38_2, df_39_2, df_40_2, df_41_2, df_42_1, df_43_1, df_44_1, df_45_2, sub_c1, lift2_c0, hne]⟩
        | cons g r =>
          have hne : cmpT .NotEq (.lst ((g :: r).map T.int)) (.lst []) = some true := by
            rw [cmp_ne_nil]
            rfl
          exact ⟨r, g, by simp -implicitDefEqProofs only [exs, ex, ev, evs, evo, evC, rb_ok, rt_ok, of_some, lift2_t, view_t, subD_tup, subD_lst, at0, at1, at2, at3, subTT, addT, tupD2, fin_rt, fin_nx, cast0, cast1, cast2, cast3, cast4, cast5, Int.reduceLT, Int.reduceLE, Int.reduceEq, Int.reduceNe, decide_not, map_some, take_all, cmp_lt, cmp_le, cmp_gt, cmp_ge, cmp_eq, cmp_ne, tru_bl, setTg_name, setTg_tup, setTg_lst, setTgs_nil, setTgs_cons, decide_eq_true_eq, Option.bind_some, Option.bind_none, bl_not, is_non, isnt_non, cmpIs_tup, cmpIsN_tup, if_tt, if_ff, tru_int, reduceCtorEq, decide_true, decide_false, Bool.not_true, Bool.not_false, mm1, mm2, mm3, mapM1, mapM2, lstD_c0, lstD_t0, lstD_t1, lstD_t2, lstD_t3, isL_last, isi_int_non, isi_bool_non, isi_tuple_non, isi_list_non, isi_dict_non, isi_lt_non, isi_int_bl, isi_bool_bl, isi_tuple_bl, isi_list_bl, isi_dict_bl, isi_lt_bl, isi_int_int, isi_bool_int, isi_tuple_int, isi_list_int, isi_dict_int, isi_lt_int, isi_int_str, isi_bool_str, isi_tuple_str, isi_list_str, isi_dict_str, isi_lt_str, isi_int_tup, isi_bool_tup, isi_tuple_tup, isi_list_tup, isi_dict_tup, isi_lt_tup, isi_int_lst, isi_bool_lst, isi_tuple_lst, isi_list_lst, isi_dict_lst, isi_lt_lst, isi_int_dk, isi_bool_dk, isi_tuple_dk, isi_list_dk, isi_dict_dk, isi_lt_dk, tup_ty, lenT_lst, lenT_tup, intT, Bool.or_true, Bool.true_or, Bool.or_false, Bool.false_or, Bool.and_true, Bool.true_and, Bool.and_false, Bool.false_and, Z.isNon, not_true_eq_false, not_false_eq_true, Bool.not_eq_true, Bool.false_eq_true, Option.map_some, List.length_cons, List.length_nil, Nat.reduceAdd, ↓reduceIte, List.map_nil, Nat.reduceSub, List.cons_append, List.nil_append, List.append_nil, List.replicate, List.set_cons_succ, List.set_cons_zero, Nat.reduceLT, gE_0, gE_s, df_0_1, df_1_2, df_2_2, df_3_1, df_4_1, df_5_1, df_6_1, df_7_1, df_8_1, df_10_1, df_14_1, df_15_1, df_16_1, df_17_2, df_18_2, df_25_1, df_25_2, df_26_1, df_27_2, df_28_1, df_29_2, df_30_2, df_31_2, df_32_2, df_33_2, df_34_2, df_35_2, df_36_2, df_37_2, df_38_2, df_39_2, df_40_2, df_41_2, df_42_1, df_43_1, df_44_1, df_45_2, sub_c1, lift2_c0, hne, isL_c0, pop_spr, set_c11]⟩
      · exact ⟨G, f, by simp -implicitDefEqProofs only [exs, ex, ev, evs, evo, evC, rb_ok, rt_ok, of_some, lift2_t, view_t, subD_tup, subD_lst, at0, at1, at2, at3, subTT, addT, tupD2, fin_rt, fin_nx, cast0, cast1, cast2, cast3, cast4, cast5, Int.reduceLT, Int.reduceLE, Int.reduceEq, Int.reduceNe, decide_not, map_some, take_all, cmp_lt, cmp_le, cmp_gt, cmp_ge, cmp_eq, cmp_ne, tru_bl, setTg_name, setTg_tup, setTg_lst, setTgs_nil, setTgs_cons, decide_eq_true_eq, Option.bind_some, Option.bind_none, bl_not, is_non, isnt_non, cmpIs_tup, cmpIsN_tup, if_tt, if_ff, tru_int, reduceCtorEq, decide_true, decide_false, Bool.not_true, Bool.not_false, mm1, mm2, mm3, mapM1, mapM2, lstD_c0, lstD_t0, lstD_t1, lstD_t2, lstD_t3, isL_last, isi_int_non, isi_bool_non, isi_tuple_non, isi_list_non, isi_dict_non, isi_lt_non, isi_int_bl, isi_bool_bl, isi_tuple_bl, isi_list_bl, isi_dict_bl, isi_lt_bl, isi_int_int, isi_bool_int, isi_tuple_int, isi_list_int, isi_dict_int, isi_lt_int, isi_int_str, isi_bool_str, isi_tuple_str, isi_list_str, isi_dict_str, isi_lt_str, isi_int_tup, isi_bool_tup, isi_tuple_tup, isi_list_tup, isi_dict_tup, isi_lt_tup, isi_int_lst, isi_bool_lst, isi_tuple_lst, isi_list_lst, isi_dict_lst, isi_lt_lst, isi_int_dk, isi_bool_dk, isi_tuple_dk, isi_list_dk, isi_dict_dk, isi_lt_dk, tup_ty, lenT_lst, lenT_tup, intT, Bool.or_true, Bool.true_or, Bool.or_false, Bool.false_or, Bool.and_true, Bool.true_and, Bool.and_false, Bool.false_and, Z.isNon, not_true_eq_false, not_false_eq_true, Bool.not_eq_true, Bool.false_eq_true, Option.map_some, List.length_cons, List.length_nil, Nat.reduceAdd, ↓reduceIte, List.map_cons, List.map_nil, Nat.reduceSub, List.cons_append, List.nil_append, List.append_nil, List.replicate, List.set_cons_succ, List.set_cons_zero, Nat.reduceLT, gE_0, gE_s, df_0_1, df_1_2, df_2_2, df_3_1, df_4_1, df_5_1, df_6_1, df_7_1, df_8_1, df_10_1, df_14_1, df_15_1, df_16_1, df_17_2, df_18_2, df_25_1, df_25_2, df_26_1, df_27_2, df_28_1, df_29_2, df_30_2, df_31_2, df_32_2, df_33_2, df_34_2, df_35_2, df_36_2, df_37_2, df_38_2, df_39_2, df_40_2, df_41_2, df_42_1, df_43_1, df_44_1, df_45_2, sub_c1, c]⟩
    obtain ⟨G', f', e2⟩ := tk2
    refine exs_nx (Q := fun o => ∃ v G' f', o = Z.O.rt (.t (.int v)) (spr G' f' sm n' rest) ∧ 0 ≤ v ∧ v < m) (h := e2) ?_
    clear e2
    by_cases c : 0 < f'
    · refine exs_rt (Q := fun o => ∃ v G' f', o = Z.O.rt (.t (.int v)) (spr G' f' sm n' rest) ∧ 0 ≤ v ∧ v < m) (d := .t (.int (f' % m))) (s1 := spr G' (f' / m) sm n' rest) ?_ ⟨_, _, _, rfl, Int.emod_nonneg _ (by omega), Int.emod_lt_of_pos _ hm⟩
      have q1 := modT (i := f') hm
      have q2 := divT (i := f') hm hb (by decide)
      simp -implicitDefEqProofs only [exs, ex, ev, evs, evo, evC, rb_ok, rt_ok, of_some, lift2_t, view_t, subD_tup, subD_lst, at0, at1, at2, at3, subTT, addT, tupD2, fin_rt, fin_nx, cast0, cast1, cast2, cast3, cast4, cast5, Int.reduceLT, Int.reduceLE, Int.reduceEq, Int.reduceNe, decide_not, map_some, take_all, cmp_lt, cmp_le, cmp_gt, cmp_ge, cmp_eq, cmp_ne, tru_bl, setTg_name, setTg_tup, setTg_lst, setTgs_nil, setTgs_cons, decide_eq_true_eq, Option.bind_some, Option.bind_none, bl_not, is_non, isnt_non, cmpIs_tup, cmpIsN_tup, if_tt, if_ff, tru_int, reduceCtorEq, decide_true, decide_false, Bool.not_true, Bool.not_false, mm1, mm2, mm3, mapM1, mapM2, lstD_c0, lstD_t0, lstD_t1, lstD_t2, lstD_t3, isL_last, isi_int_non, isi_bool_non, isi_tuple_non, isi_list_non, isi_dict_non, isi_lt_non, isi_int_bl, isi_bool_bl, isi_tuple_bl, isi_list_bl, isi_dict_bl, isi_lt_bl, isi_int_int, isi_bool_int, isi_tuple_int, isi_list_int, isi_dict_int, isi_lt_int, isi_int_str, isi_bool_str, isi_tuple_str, isi_list_str, isi_dict_str, isi_lt_str, isi_int_tup, isi_bool_tup, isi_tuple_tup, isi_list_tup, isi_dict_tup, isi_lt_tup, isi_int_lst, isi_bool_lst, isi_tuple_lst, isi_list_lst, isi_dict_lst, isi_lt_lst, isi_int_dk, isi_bool_dk, isi_tuple_dk, isi_list_dk, isi_dict_dk, isi_lt_dk, tup_ty, lenT_lst, lenT_tup, intT, Bool.or_true, Bool.true_or, Bool.or_false, Bool.false_or, Bool.and_true, Bool.true_and, Bool.and_false, Bool.false_and, Z.isNon, not_true_eq_false, not_false_eq_true, Bool.not_eq_true, Bool.false_eq_true, Option.map_some, List.length_cons, List.length_nil, Nat.reduceAdd, ↓reduceIte, List.map_cons, List.map_nil, Nat.reduceSub, List.cons_append, List.nil_append, List.append_nil, List.replicate, List.set_cons_succ, List.set_cons_zero, Nat.reduceLT, gE_0, gE_s, df_0_1, df_1_2, df_2_2, df_3_1, df_4_1, df_5_1, df_6_1, df_7_1, df_8_1, df_10_1, df_14_1, df_15_1, df_16_1, df_17_2, df_18_2, df_25_1, df_25_2, df_26_1, df_27_2, df_28_1, df_29_2, df_30_2, df_31_2, df_32_2, df_33_2, df_34_2, df_35_2, df_36_2, df_37_2, df_38_2, df_39_2, df_40_2, df_41_2, df_42_1, df_43_1, df_44_1, df_45_2, sub_c1, c, q1, q2, set_c11]
    · refine exs_nx (Q := fun o => ∃ v G' f', o = Z.O.rt (.t (.int v)) (spr G' f' sm n' rest) ∧ 0 ≤ v ∧ v < m) (σ1 := [some (.c 1), some (.t (.int m)), none, none, none, none]) (s1 := spr G' f' sm n' rest) (by simp -implicitDefEqProofs only [exs, ex, ev, evs, evo, evC, rb_ok, rt_ok, of_some, lift2_t, view_t, subD_tup, subD_lst, at0, at1, at2, at3, subTT, addT, tupD2, fin_rt, fin_nx, cast0, cast1, cast2, cast3, cast4, cast5, Int.reduceLT, Int.reduceLE, Int.reduceEq, Int.reduceNe, decide_not, map_some, take_all, cmp_lt, cmp_le, cmp_gt, cmp_ge, cmp_eq, cmp_ne, tru_bl, setTg_name, setTg_tup, setTg_lst, setTgs_nil, setTgs_cons, decide_eq_true_eq, Option.bind_some, Option.bind_none, bl_not, is_non, isnt_non, cmpIs_tup, cmpIsN_tup, if_tt, if_ff, tru_int, reduceCtorEq, decide_true, decide_false, Bool.not_true, Bool.not_false, mm1, mm2, mm3, mapM1, mapM2, lstD_c0, lstD_t0, lstD_t1, lstD_t2, lstD_t3, isL_last, isi_int_non, isi_bool_non, isi_tuple_non, isi_list_non, isi_dict_non, isi_lt_non, isi_int_bl, isi_bool_bl, isi_tuple_bl, isi_list_bl, isi_dict_bl, isi_lt_bl, isi_int_int, isi_bool_int, isi_tuple_int, isi_list_int, isi_dict_int, isi_lt_int, isi_int_str, isi_bool_str, isi_tuple_str, isi_list_str, isi_dict_str, isi_lt_str, isi_int_tup, isi_bool_tup, isi_tuple_tup, isi_list_tup, isi_dict_tup, isi_lt_tup, isi_int_lst, isi_bool_lst, isi_tuple_lst, isi_list_lst, isi_dict_lst, isi_lt_lst, isi_int_dk, isi_bool_dk, isi_tuple_dk, isi_list_dk, isi_dict_dk, isi_lt_dk, tup_ty, lenT_lst, lenT_tup, intT, Bool.or_true, Bool.true_or, Bool.or_false, Bool.false_or, Bool.and_true, Bool.true_and, Bool.and_false, Bool.false_and, Z.isNon, not_true_eq_false, not_false_eq_true, Bool.not_eq_true, Bool.false_eq_true, Option.map_some, List.length_cons, List.length_nil, Nat.reduceAdd, ↓reduceIte, List.map_cons, List.map_nil, Nat.reduceSub, List.cons_append, List.nil_append, List.append_nil, List.replicate, List.set_cons_succ, List.set_cons_zero, Nat.reduceLT, gE_0, gE_s, df_0_1, df_1_2, df_2_2, df_3_1, df_4_1, df_5_1, df_6_1, df_7_1, df_8_1, df_10_1, df_14_1, df_15_1, df_16_1, df_17_2, df_18_2, df_25_1, df_25_2, df_26_1, df_27_2, df_28_1, df_29_2, df_30_2, df_31_2, df_32_2, df_33_2, df_34_2, df_35_2, df_36_2, df_37_2, df_38_2, df_39_2, df_40_2, df_41_2, df_42_1, df_43_1, df_44_1, df_45_2, sub_c1, c]) ?_
      have bn : Bd 20 n' := by
        unfold Bd
        have : (2 : Nat) ^ 20 = 1048576 := by decide
        omega
      have tk4 : ∃ x, ex { lib.g0 with call := callN lib.ft lib.g0 k } (.set (.name 2) (.ite (.cmp .Eq (.sub (.var 0) (.con (.int 2))) (.lst false .nil)) (.bin .Mult (.con (.int 13)) (.sub (.var 0) (.con (.int 3)))) (.sub (.sub (.var 0) (.con (.int 2))) (.bin .Mod (.bi .int (.cons (.sub (.var 0) (.con (.int 3))) .nil)) (.bi .len (.cons (.sub (.var 0) (.con (.int 2))) .nil)))))) [some (.c 1), some (.t (.int m)), none, none, none, none] (spr G' f' sm n' rest) = .nx [some (.c 1), some (.t (.int m)), some (.t (.int x)), none, none, none] (spr G' f' sm n' rest) := by
        by_cases cs : sm = []
        · subst cs
          have h13 : Bd 4 13 := by unfold Bd; decide
          have q := mulT h13 bn (by decide)
          have hq : cmpT .Eq (.lst (([] : List Int).map T.int)) (.lst []) = some true := by rw [cmp_eq_nil]; rfl
          exact ⟨13 * n', by simp -implicitDefEqProofs only [exs, ex, ev, evs, evo, evC, rb_ok, rt_ok, of_some, lift2_t, view_t, subD_tup, subD_lst, at0, at1, at2, at3, subTT, addT, tupD2, fin_rt, fin_nx, cast0, cast1, cast2, cast3, cast4, cast5, Int.reduceLT, Int.reduceLE, Int.reduceEq, Int.reduceNe, decide_not, map_some, take_all, cmp_lt, cmp_le, cmp_gt, cmp_ge, cmp_eq, cmp_ne, tru_bl, setTg_name, setTg_tup, setTg_lst, setTgs_nil, setTgs_cons, decide_eq_true_eq, Option.bind_some, Option.bind_none, bl_not, is_non, isnt_non, cmpIs_tup, cmpIsN_tup, if_tt, if_ff, tru_int, reduceCtorEq, decide_true, decide_false, Bool.not_true, Bool.not_false, mm1, mm2, mm3, mapM1, mapM2, lstD_c0, lstD_t0, lstD_t1, lstD_t2, lstD_t3, isL_last, isi_int_non, isi_bool_non, isi_tuple_non, isi_list_non, isi_dict_non, isi_lt_non, isi_int_bl, isi_bool_bl, isi_tuple_bl, isi_list_bl, isi_dict_bl, isi_lt_bl, isi_int_int, isi_bool_int, isi_tuple_int, isi_list_int, isi_dict_int, isi_lt_int, isi_int_str, isi_bool_str, isi_tuple_str, isi_list_str, isi_dict_str, isi_lt_str, isi_int_tup, isi_bool_tup, isi_tuple_tup, isi_list_tup, isi_dict_tup, isi_lt_tup, isi_int_lst, isi_bool_lst, isi_tuple_lst, isi_list_lst, isi_dict_lst, isi_lt_lst, isi_int_dk, isi_bool_dk, isi_tuple_dk, isi_list_dk, isi_dict_dk, isi_lt_dk, tup_ty, lenT_lst, lenT_tup, intT, Bool.or_true, Bool.true_or, Bool.or_false, Bool.false_or, Bool.and_true, Bool.true_and, Bool.and_false, Bool.false_and, Z.isNon, not_true_eq_false, not_false_eq_true, Bool.not_eq_true, Bool.false_eq_true, Option.map_some, List.length_cons, List.length_nil, Nat.reduceAdd, ↓reduceIte, List.map_cons, Nat.reduceSub, List.cons_append, List.nil_append, List.append_nil, List.replicate, List.set_cons_succ, List.set_cons_zero, Nat.reduceLT, gE_0, gE_s, df_0_1, df_1_2, df_2_2, df_3_1, df_4_1, df_5_1, df_6_1, df_7_1, df_8_1, df_10_1, df_14_1, df_15_1, df_16_1, df_17_2, df_18_2, df_25_1, df_25_2, df_26_1, df_27_2, df_28_1, df_29_2, df_30_2, df_31_2, df_32_2, df_33_2, df_34_2, df_35_2, df_36_2, df_37_2, df_38_2, df_39_2, df_40_2, df_41_2, df_42_1, df_43_1, df_44_1, df_45_2, sub_c1, hq, q]⟩
        · have hq : cmpT .Eq (.lst (sm.map T.int)) (.lst []) = some false := by rw [cmp_eq_nil, decide_eq_false cs]
          have hl : (0 : Int) < sm.length := by
            have := List.length_pos_iff.mpr cs
            omega
          obtain ⟨x, hx⟩ := at_ints (sm := sm) (Int.emod_nonneg n' (by omega : (sm.length : Int) ≠ 0)) (Int.emod_lt_of_pos n' hl)
          have q := modT (i := n') hl
          have hlen : biT .len [.lst (sm.map T.int)] = some (.int (sm.length : Int)) := by rw [lenT_lst, List.length_map]
          generalize (sm.length : Int) = L at *
          exact ⟨x, by simp -implicitDefEqProofs only [exs, ex, ev, evs, evo, evC, rb_ok, rt_ok, of_some, lift2_t, view_t, subD_tup, subD_lst, at0, at1, at2, at3, subTT, addT, tupD2, fin_rt, fin_nx, cast0, cast1, cast2, cast3, cast4, cast5, Int.reduceLT, Int.reduceLE, Int.reduceEq, Int.reduceNe, decide_not, map_some, take_all, cmp_lt, cmp_le, cmp_gt, cmp_ge, cmp_eq, cmp_ne, tru_bl, setTg_name, setTg_tup, setTg_lst, setTgs_nil, setTgs_cons, decide_eq_true_eq, Option.bind_some, Option.bind_none, bl_not, is_non, isnt_non, cmpIs_tup, cmpIsN_tup, if_tt, if_ff, tru_int, reduceCtorEq, decide_true, decide_false, Bool.not_true, Bool.not_false, mm1, mm2, mm3, mapM1, mapM2, lstD_c0, lstD_t0, lstD_t1, lstD_t2, lstD_t3, isL_last, isi_int_non, isi_bool_non, isi_tuple_non, isi_list_non, isi_dict_non, isi_lt_non, isi_int_bl, isi_bool_bl, isi_tuple_bl, isi_list_bl, isi_dict_bl, isi_lt_bl, isi_int_int, isi_bool_int, isi_tuple_int, isi_list_int, isi_dict_int, isi_lt_int, isi_int_str, isi_bool_str, isi_tuple_str, isi_list_str, isi_dict_str, isi_lt_str, isi_int_tup, isi_bool_tup, isi_tuple_tup, isi_list_tup, isi_dict_tup, isi_lt_tup, isi_int_lst, isi_bool_lst, isi_tuple_lst, isi_list_lst, isi_dict_lst, isi_lt_lst, isi_int_dk, isi_bool_dk, isi_tuple_dk, isi_list_dk, isi_dict_dk, isi_lt_dk, tup_ty, lenT_tup, intT, Bool.or_true, Bool.true_or, Bool.or_false, Bool.false_or, Bool.and_true, Bool.true_and, Bool.and_false, Bool.false_and, Z.isNon, not_true_eq_false, not_false_eq_true, Bool.not_eq_true, Bool.false_eq_true, Option.map_some, List.length_cons, List.length_nil, Nat.reduceAdd, ↓reduceIte, List.map_cons, List.map_nil, Nat.reduceSub, List.cons_append, List.nil_append, List.append_nil, List.replicate, List.set_cons_succ, List.set_cons_zero, Nat.reduceLT, gE_0, gE_s, df_0_1, df_1_2, df_2_2, df_3_1, df_4_1, df_5_1, df_6_1, df_7_1, df_8_1, df_10_1, df_14_1, df_15_1, df_16_1, df_17_2, df_18_2, df_25_1, df_25_2, df_26_1, df_27_2, df_28_1, df_29_2, df_30_2, df_31_2, df_32_2, df_33_2, df_34_2, df_35_2, df_36_2, df_37_2, df_38_2, df_39_2, df_40_2, df_41_2, df_42_1, df_43_1, df_44_1, df_45_2, sub_c1, hq, hlen, q, hx]⟩
      obtain ⟨x, e4⟩ := tk4
      refine exs_nx (Q := fun o => ∃ v G' f', o = Z.O.rt (.t (.int v)) (spr G' f' sm n' rest) ∧ 0 ≤ v ∧ v < m) (h := e4) ?_
      clear e4
      have h7907 : Bd 13 7907 := by unfold Bd; decide
      have h6007 : Bd 13 6007 := by unfold Bd; decide
      have q1 := modT (i := x) (show (0 : Int) < 1000003 by decide)
      have q2 := mulT h7907 bn (by decide)
      have b1 := Int.emod_nonneg x (show (1000003 : Int) ≠ 0 by decide)
      have b2 := Int.emod_lt_of_pos x (show (0 : Int) < 1000003 by decide)
      have q3 : Z.binT .Pow (.int (x % 1000003 + 7907 * n' + 11)) (.int 5) = some (.int ((x % 1000003 + 7907 * n' + 11) ^ 5)) := powT5 (by
        have : (2 : Nat) ^ 64 = 18446744073709551616 := by decide
        omega)
      have q4 := modT (i := (x % 1000003 + 7907 * n' + 11) ^ 5) (show (0 : Int) < 2147483629 by decide)
      have b3 := Int.emod_nonneg ((x % 1000003 + 7907 * n' + 11) ^ 5) (show (2147483629 : Int) ≠ 0 by decide)
      have b4 := Int.emod_lt_of_pos ((x % 1000003 + 7907 * n' + 11) ^ 5) (show (0 : Int) < 2147483629 by decide)
      refine exs_nx (Q := fun o => ∃ v G' f', o = Z.O.rt (.t (.int v)) (spr G' f' sm n' rest) ∧ 0 ≤ v ∧ v < m) (σ1 := [some (.c 1), some (.t (.int m)), some (.t (.int x)), some (.t (.int ((x % 1000003 + 7907 * n' + 11) ^ 5 % 2147483629))), none, none]) (s1 := spr G' f' sm n' rest) (by simp -implicitDefEqProofs only [exs, ex, ev, evs, evo, evC, rb_ok, rt_ok, of_some, lift2_t, view_t, subD_tup, subD_lst, at0, at1, at2, at3, subTT, addT, tupD2, fin_rt, fin_nx, cast0, cast1, cast2, cast3, cast4, cast5, Int.reduceLT, Int.reduceLE, Int.reduceEq, Int.reduceNe, decide_not, map_some, take_all, cmp_lt, cmp_le, cmp_gt, cmp_ge, cmp_eq, cmp_ne, tru_bl, setTg_name, setTg_tup, setTg_lst, setTgs_nil, setTgs_cons, decide_eq_true_eq, Option.bind_some, Option.bind_none, bl_not, is_non, isnt_non, cmpIs_tup, cmpIsN_tup, if_tt, if_ff, tru_int, reduceCtorEq, decide_true, decide_false, Bool.not_true, Bool.not_false, mm1, mm2, mm3, mapM1, mapM2, lstD_c0, lstD_t0, lstD_t1, lstD_t2, lstD_t3, isL_last, isi_int_non, isi_bool_non, isi_tuple_non, isi_list_non, isi_dict_non, isi_lt_non, isi_int_bl, isi_bool_bl, isi_tuple_bl, isi_list_bl, isi_dict_bl, isi_lt_bl, isi_int_int, isi_bool_int, isi_tuple_int, isi_list_int, isi_dict_int, isi_lt_int, isi_int_str, isi_bool_str, isi_tuple_str, isi_list_str, isi_dict_str, isi_lt_str, isi_int_tup, isi_bool_tup, isi_tuple_tup, isi_list_tup, isi_dict_tup, isi_lt_tup, isi_int_lst, isi_bool_lst, isi_tuple_lst, isi_list_lst, isi_dict_lst, isi_lt_lst, isi_int_dk, isi_bool_dk, isi_tuple_dk, isi_list_dk, isi_dict_dk, isi_lt_dk, tup_ty, lenT_lst, lenT_tup, intT, Bool.or_true, Bool.true_or, Bool.or_false, Bool.false_or, Bool.and_true, Bool.true_and, Bool.and_false, Bool.false_and, Z.isNon, not_true_eq_false, not_false_eq_true, Bool.not_eq_true, Bool.false_eq_true, Option.map_some, List.length_cons, List.length_nil, Nat.reduceAdd, ↓reduceIte, List.map_cons, List.map_nil, Nat.reduceSub, List.cons_append, List.nil_append, List.append_nil, List.replicate, List.set_cons_succ, List.set_cons_zero, Nat.reduceLT, gE_0, gE_s, df_0_1, df_1_2, df_2_2, df_3_1, df_4_1, df_5_1, df_6_1, df_7_1, df_8_1, df_10_1, df_14_1, df_15_1, df_16_1, df_17_2, df_18_2, df_25_1, df_25_2, df_26_1, df_27_2, df_28_1, df_29_2, df_30_2, df_31_2, df_32_2, df_33_2, df_34_2, df_35_2, df_36_2, df_37_2, df_38_2, df_39_2, df_40_2, df_41_2, df_42_1, df_43_1, df_44_1, df_45_2, sub_c1, q1, q2, q3, q4]) ?_
      clear q1 q2 q3 q4 b1 b2
      generalize (x % 1000003 + 7907 * n' + 11) ^ 5 % 2147483629 = y at *
      have by_ : Bd 31 y := by
        unfold Bd
        have : (2 : Nat) ^ 31 = 2147483648 := by decide
        omega
      have h48 : Bd 16 48271 := by unfold Bd; decide
      have q1 := mulT by_ h48 (by decide)
      have q2 := mulT h6007 bn (by decide)
      have q3 := modT (i := y * 48271 + 6007 * n') (show (0 : Int) < 2147483587 by decide)
      have b5 := Int.emod_nonneg (y * 48271 + 6007 * n') (show (2147483587 : Int) ≠ 0 by decide)
      have b6 := Int.emod_lt_of_pos (y * 48271 + 6007 * n') (show (0 : Int) < 2147483587 by decide)
      refine exs_nx (Q := fun o => ∃ v G' f', o = Z.O.rt (.t (.int v)) (spr G' f' sm n' rest) ∧ 0 ≤ v ∧ v < m) (σ1 := [some (.c 1), some (.t (.int m)), some (.t (.int x)), some (.t (.int y)), some (.t (.int ((y * 48271 + 6007 * n') % 2147483587))), none]) (s1 := spr G' f' sm n' rest) (by simp -implicitDefEqProofs only [exs, ex, ev, evs, evo, evC, rb_ok, rt_ok, of_some, lift2_t, view_t, subD_tup, subD_lst, at0, at1, at2, at3, subTT, addT, tupD2, fin_rt, fin_nx, cast0, cast1, cast2, cast3, cast4, cast5, Int.reduceLT, Int.reduceLE, Int.reduceEq, Int.reduceNe, decide_not, map_some, take_all, cmp_lt, cmp_le, cmp_gt, cmp_ge, cmp_eq, cmp_ne, tru_bl, setTg_name, setTg_tup, setTg_lst, setTgs_nil, setTgs_cons, decide_eq_true_eq, Option.bind_some, Option.bind_none, bl_not, is_non, isnt_non, cmpIs_tup, cmpIsN_tup, if_tt, if_ff, tru_int, reduceCtorEq, decide_true, decide_false, Bool.not_true, Bool.not_false, mm1, mm2, mm3, mapM1, mapM2, lstD_c0, lstD_t0, lstD_t1, lstD_t2, lstD_t3, isL_last, isi_int_non, isi_bool_non, isi_tuple_non, isi_list_non, isi_dict_non, isi_lt_non, isi_int_bl, isi_bool_bl, isi_tuple_bl, isi_list_bl, isi_dict_bl, isi_lt_bl, isi_int_int, isi_bool_int, isi_tuple_int, isi_list_int, isi_dict_int, isi_lt_int, isi_int_str, isi_bool_str, isi_tuple_str, isi_list_str, isi_dict_str, isi_lt_str, isi_int_tup, isi_bool_tup, isi_tuple_tup, isi_list_tup, isi_dict_tup, isi_lt_tup, isi_int_lst, isi_bool_lst, isi_tuple_lst, isi_list_lst, isi_dict_lst, isi_lt_lst, isi_int_dk, isi_bool_dk, isi_tuple_dk, isi_list_dk, isi_dict_dk, isi_lt_dk, tup_ty, lenT_lst, lenT_tup, intT, Bool.or_true, Bool.true_or, Bool.or_false, Bool.false_or, Bool.and_true, Bool.true_and, Bool.and_false, Bool.false_and, Z.isNon, not_true_eq_false, not_false_eq_true, Bool.not_eq_true, Bool.false_eq_true, Option.map_some, List.length_cons, List.length_nil, Nat.reduceAdd, ↓reduceIte, List.map_cons, List.map_nil, Nat.reduceSub, List.cons_append, List.nil_append, List.append_nil, List.replicate, List.set_cons_succ, List.set_cons_zero, Nat.reduceLT, gE_0, gE_s, df_0_1, df_1_2, df_2_2, df_3_1, df_4_1, df_5_1, df_6_1, df_7_1, df_8_1, df_10_1, df_14_1, df_15_1, df_16_1, df_17_2, df_18_2, df_25_1, df_25_2, df_26_1, df_27_2, df_28_1, df_29_2, df_30_2, df_31_2, df_32_2, df_33_2, df_34_2, df_35_2, df_36_2, df_37_2, df_38_2, df_39_2, df_40_2, df_41_2, df_42_1, df_43_1, df_44_1, df_45_2, sub_c1, q1, q2, q3]) ?_
      clear q1 q2 q3 b3 b4
      generalize (y * 48271 + 6007 * n') % 2147483587 = z at *
      have bz : Bd 31 z := by
        unfold Bd
        have : (2 : Nat) ^ 31 = 2147483648 := by decide
        omega
      have h69 : Bd 17 69621 := by unfold Bd; decide
      have h5 : Bd 3 5 := by unfold Bd; decide
      have q1 := mulT bz h69 (by decide)
      have q2 := modT (i := z * 69621 + 17) (show (0 : Int) < 1000000007 by decide)
      have q3 := divT (i := (z * 69621 + 17) % 1000000007) (show (0 : Int) < 5 by decide) h5 (by decide)
      have q4 := modT (i := (z * 69621 + 17) % 1000000007 / 5) hm
      exact exs_rt (Q := fun o => ∃ v G' f', o = Z.O.rt (.t (.int v)) (spr G' f' sm n' rest) ∧ 0 ≤ v ∧ v < m) (d := .t (.int ((z * 69621 + 17) % 1000000007 / 5 % m))) (s1 := spr G' f' sm n' rest) (by simp -implicitDefEqProofs only [exs, ex, ev, evs, evo, evC, rb_ok, rt_ok, of_some, lift2_t, view_t, subD_tup, subD_lst, at0, at1, at2, at3, subTT, addT, tupD2, fin_rt, fin_nx, cast0, cast1, cast2, cast3, cast4, cast5, Int.reduceLT, Int.reduceLE, Int.reduceEq, Int.reduceNe, decide_not, map_some, take_all, cmp_lt, cmp_le, cmp_gt, cmp_ge, cmp_eq, cmp_ne, tru_bl, setTg_name, setTg_tup, setTg_lst, setTgs_nil, setTgs_cons, decide_eq_true_eq, Option.bind_some, Option.bind_none, bl_not, is_non, isnt_non, cmpIs_tup, cmpIsN_tup, if_tt, if_ff, tru_int, reduceCtorEq, decide_true, decide_false, Bool.not_true, Bool.not_false, mm1, mm2, mm3, mapM1, mapM2, lstD_c0, lstD_t0, lstD_t1, lstD_t2, lstD_t3, isL_last, isi_int_non, isi_bool_non, isi_tuple_non, isi_list_non, isi_dict_non, isi_lt_non, isi_int_bl, isi_bool_bl, isi_tuple_bl, isi_list_bl, isi_dict_bl, isi_lt_bl, isi_int_int, isi_bool_int, isi_tuple_int, isi_list_int, isi_dict_int, isi_lt_int, isi_int_str, isi_bool_str, isi_tuple_str, isi_list_str, isi_dict_str, isi_lt_str, isi_int_tup, isi_bool_tup, isi_tuple_tup, isi_list_tup, isi_dict_tup, isi_lt_tup, isi_int_lst, isi_bool_lst, isi_tuple_lst, isi_list_lst, isi_dict_lst, isi_lt_lst, isi_int_dk, isi_bool_dk, isi_tuple_dk, isi_list_dk, isi_dict_dk, isi_lt_dk, tup_ty, lenT_lst, lenT_tup, intT, Bool.or_true, Bool.true_or, Bool.or_false, Bool.false_or, Bool.and_true, Bool.true_and, Bool.and_false, Bool.false_and, Z.isNon, not_true_eq_false, not_false_eq_true, Bool.not_eq_true, Bool.false_eq_true, Option.map_some, List.length_cons, List.length_nil, Nat.reduceAdd, ↓reduceIte, List.map_cons, List.map_nil, Nat.reduceSub, List.cons_append, List.nil_append, List.append_nil, List.replicate, List.set_cons_succ, List.set_cons_zero, Nat.reduceLT, gE_0, gE_s, df_0_1, df_1_2, df_2_2, df_3_1, df_4_1, df_5_1, df_6_1, df_7_1, df_8_1, df_10_1, df_14_1, df_15_1, df_16_1, df_17_2, df_18_2, df_25_1, df_25_2, df_26_1, df_27_2, df_28_1, df_29_2, df_30_2, df_31_2, df_32_2, df_33_2, df_34_2, df_35_2, df_36_2, df_37_2, df_38_2, df_39_2, df_40_2, df_41_2, df_42_1, df_43_1, df_44_1, df_45_2, sub_c1, q1, q2, q3, q4]) ⟨_, _, _, rfl, Int.emod_nonneg _ (by omega), Int.emod_lt_of_pos _ hm⟩
  obtain ⟨v, G', f', e, h1, h2⟩ := key
  refine ⟨v, G', f', ?_, h1, h2⟩
  rw [callN_succ (F := F29) rfl, callF_eq rfl]
  exact fin_eq e (by rw [fin_rt rfl, take_spr])
end Lw
end Z
end
section
set_option Elab.async false
set_option linter.all false
set_option maxRecDepth 100000
set_option maxHeartbeats 4000000
namespace Z
namespace Lw

open PySem L2 Zr
/-! ### what is drawn -/
def sp (G : List Int) (f : Int) (sm : List Int) (n : Int) (rest : S) : S := spr G f sm n rest
theorem sp_take (G G' : List Int) (f f' n n' : Int) (sm : List Int) (rest : S) : (sp G' f' sm n' rest).take (sp G f sm n rest).length = sp G' f' sm n' rest := take_spr ..
theorem tk (k : Nat) (m : Int) (G : List Int) (f : Int) (sm : List Int) (n : Int) (rest : S) (hm : 0 < m) (hb : Bd 300 m) (h0 : 0 ≤ n) (hn : n < 1000000) :
    ∃ v G' f', callN lib.ft lib.g0 (k + 1) 29 [.c 1, .t (.int m)] (sp G f sm n rest) = .ok (.t (.int v)) (sp G' f' sm (n + 1) rest) ∧ 0 ≤ v ∧ v < m := r_take k m G f sm n rest hm hb h0 hn
theorem bd_lit {k : Nat} {i : Int} (n : Nat) (h : i.natAbs ≤ n) (h2 : n < 2 ^ k) : Bd k i := Nat.lt_of_le_of_lt h h2
theorem r_one (k : Nat) (xs : List T) (G : List Int) (f : Int) (sm : List Int) (n : Int) (rest : S) (hx : xs ≠ []) (hl : xs.length < 100) (h0 : 0 ≤ n) (hn : n < 1000000) :
    ∃ x G' f', callN lib.ft lib.g0 (k + 2) 30 [.c 1, .t (.lst xs)] (sp G f sm n rest) = .ok (.t x) (sp G' f' sm (n + 1) rest) ∧ x ∈ xs := by
  have hp : 0 < xs.length := List.length_pos_iff.mpr hx
  obtain ⟨v, G', f', e, h1, h2⟩ := tk k (xs.length : Int) G f sm n rest (by omega) (bd_lit 100 (by omega) (by decide)) h0 hn
  have hv : v.toNat < xs.length := by omega
  have ha : atI xs v = some xs[v.toNat] := by
    unfold atI
    rw [ixN_lt h1 h2]
    exact List.getElem?_eq_getElem hv
  refine ⟨xs[v.toNat], G', f', ?_, List.getElem_mem hv⟩
  generalize xs[v.toNat] = x at *
  rw [callN_succ (F := F30) rfl]; simp -implicitDefEqProofs only [callF, F30, List.length_cons, List.length_nil, Nat.reduceAdd, ↓reduceIte, List.map_cons, List.map_nil, Nat.reduceSub, List.cons_append, List.nil_append, List.append_nil, List.replicate, List.set_cons_succ, List.set_cons_zero, Nat.reduceLT, gE_0, gE_s]
  have hlen : biT .len [.lst xs] = some (.int (xs.length : Int)) := lenT_lst xs
  clear hv h1 h2 hp hl
  generalize (xs.length : Int) = L at *
  refine fin_eq (o' := .rt (.t x) (sp G' f' sm (n + 1) rest)) ?_ (by rw [fin_rt rfl, sp_take])
  exact exs_rt (Q := fun o => o = Z.O.rt (.t x) (sp G' f' sm (n + 1) rest)) (d := .t x) (s1 := sp G' f' sm (n + 1) rest) (by simp -implicitDefEqProofs only [exs, ex, ev, evs, evo, evC, rb_ok, rt_ok, of_some, lift2_t, view_t, subD_tup, subD_lst, at0, at1, at2, at3, subTT, addT, tupD2, fin_rt, fin_nx, cast0, cast1, cast2, cast3, cast4, cast5, Int.reduceLT, Int.reduceLE, Int.reduceEq, Int.reduceNe, decide_not, map_some, take_all, cmp_lt, cmp_le, cmp_gt, cmp_ge, cmp_eq, cmp_ne, tru_bl, setTg_name, setTg_tup, setTg_lst, setTgs_nil, setTgs_cons, decide_eq_true_eq, Option.bind_some, Option.bind_none, bl_not, is_non, isnt_non, cmpIs_tup, cmpIsN_tup, if_tt, if_ff, tru_int, reduceCtorEq, decide_true, decide_false, Bool.not_true, Bool.not_false, mm1, mm2, mm3, mapM1, mapM2, lstD_c0, lstD_t0, lstD_t1, lstD_t2, lstD_t3, isL_last, isi_int_non, isi_bool_non, isi_tuple_non, isi_list_non, isi_dict_non, isi_lt_non, isi_int_bl, isi_bool_bl, isi_tuple_bl, isi_list_bl, isi_dict_bl, isi_lt_bl, isi_int_int, isi_bool_int, isi_tuple_int, isi_list_int, isi_dict_int, isi_lt_int, isi_int_str, isi_bool_str, isi_tuple_str, isi_list_str, isi_dict_str, isi_lt_str, isi_int_tup, isi_bool_tup, isi_tuple_tup, isi_list_tup, isi_dict_tup, isi_lt_tup, isi_int_lst, isi_bool_lst, isi_tuple_lst, isi_list_lst, isi_dict_lst, isi_lt_lst, isi_int_dk, isi_bool_dk, isi_tuple_dk, isi_list_dk, isi_dict_dk, isi_lt_dk, tup_ty, lenT_tup, intT, Bool.or_true, Bool.true_or, Bool.or_false, Bool.false_or, Bool.and_true, Bool.true_and, Bool.and_false, Bool.false_and, Z.isNon, not_true_eq_false, not_false_eq_true, Bool.not_eq_true, Bool.false_eq_true, Option.map_some, List.length_cons, List.length_nil, Nat.reduceAdd, ↓reduceIte, List.map_cons, List.map_nil, Nat.reduceSub, List.cons_append, List.nil_append, List.append_nil, List.replicate, List.set_cons_succ, List.set_cons_zero, Nat.reduceLT, gE_0, gE_s, df_0_1, df_1_2, df_2_2, df_3_1, df_4_1, df_5_1, df_6_1, df_7_1, df_8_1, df_10_1, df_14_1, df_15_1, df_16_1, df_17_2, df_18_2, df_25_1, df_25_2, df_26_1, df_27_2, df_28_1, df_29_2, df_30_2, df_31_2, df_32_2, df_33_2, df_34_2, df_35_2, df_36_2, df_37_2, df_38_2, df_39_2, df_40_2, df_41_2, df_42_1, df_43_1, df_44_1, df_45_2, hlen, e, ha]) rfl
/-! ### shares -/
theorem shr_low {a b : Int} (h0 : 0 ≤ a) (h1 : a ≤ b) (h2 : 0 < b) (h3 : b < 200) : Shr (Rw9.low (a, b)) := by
  have hp : 0 < ((a, b) : P2).2 := h2
  have b1 : Bd 18 a := bd_lit 200 (by omega) (by decide)
  have b2 : Bd 18 b := bd_lit 200 (by omega) (by decide)
  obtain ⟨l1, l2⟩ := bd_low (p := (a, b)) b1 b2
  exact ⟨⟨Rw9.low_nonneg hp h0, Rw9.low_le hp h1, Rw9.low_pos hp⟩, Rw9.low_low hp, l1, l2⟩
theorem eq_any : cmpT .Eq (.str "any") (.str "any") = some true := by decide +kernel
theorem eq_small_any : cmpT .Eq (.str "small") (.str "any") = some false := by decide +kernel
theorem eq_small : cmpT .Eq (.str "small") (.str "small") = some true := by decide +kernel
theorem r_any (k : Nat) (G : List Int) (f : Int) (sm : List Int) (n : Int) (rest : S) (h0 : 0 ≤ n) (hn : n < 990000) :
    ∃ p G' f', callN lib.ft lib.g0 (k + 2) 38 [.c 1, .t (.str "any")] (sp G f sm n rest) = .ok (.t (fr p)) (sp G' f' sm (n + 1 + 1) rest) ∧ Shr p := by
  obtain ⟨v, G1, f1, e1, v1, v2⟩ := tk k 12 G f sm n rest (by decide) (bd_lit 100 (by decide) (by decide)) h0 (by omega)
  have hn1 : n + 1 < 1000001 := by omega
  obtain ⟨w, G2, f2, e2, w1, w2⟩ := tk k (1 + v + 1) G1 f1 sm (n + 1) rest (by omega) (bd_lit 100 (by omega) (by decide)) (by omega) (by omega)
  have hl := fun st => r_low k w (1 + v) st (by omega) (bd_lit 100 (by omega) (by decide)) (bd_lit 100 (by omega) (by decide))
  refine ⟨Rw9.low (w, 1 + v), G2, f2, ?_, shr_low w1 (by omega) (by omega) (by omega)⟩
  clear v1 v2 w1 w2 h0 hn hn1
  generalize Rw9.low (w, 1 + v) = p at *
  generalize n + 1 + 1 = n2 at *
  generalize n + 1 = n1 at *
  rw [callN_succ (F := F38) rfl]; simp -implicitDefEqProofs only [callF, F38, List.length_cons, List.length_nil, Nat.reduceAdd, ↓reduceIte, List.map_cons, List.map_nil, Nat.reduceSub, List.cons_append, List.nil_append, List.append_nil, List.replicate, List.set_cons_succ, List.set_cons_zero, Nat.reduceLT, gE_0, gE_s]
  refine fin_eq (o' := .rt (.t (fr p)) (sp G2 f2 sm n2 rest)) ?_ (by rw [fin_rt rfl, sp_take])
  refine exs_rt (Q := fun o => o = Z.O.rt (.t (fr p)) (sp G2 f2 sm n2 rest)) (d := .t (fr p)) (s1 := sp G2 f2 sm n2 rest) ?_ rfl
  simp -implicitDefEqProofs only [exs, ex, ev, evs, evo, evC, rb_ok, rt_ok, of_some, lift2_t, view_t, subD_tup, subD_lst, at0, at1, at2, at3, subTT, addT, tupD2, fin_rt, fin_nx, cast0, cast1, cast2, cast3, cast4, cast5, Int.reduceLT, Int.reduceLE, Int.reduceEq, Int.reduceNe, decide_not, map_some, take_all, cmp_lt, cmp_le, cmp_gt, cmp_ge, cmp_eq, cmp_ne, tru_bl, setTg_name, setTg_tup, setTg_lst, setTgs_nil, setTgs_cons, decide_eq_true_eq, Option.bind_some, Option.bind_none, bl_not, is_non, isnt_non, cmpIs_tup, cmpIsN_tup, if_tt, if_ff, tru_int, reduceCtorEq, decide_true, decide_false, Bool.not_true, Bool.not_false, mm1, mm2, mm3, mapM1, mapM2, lstD_c0, lstD_t0, lstD_t1, lstD_t2, lstD_t3, isL_last, isi_int_non, isi_bool_non, isi_tuple_non, isi_list_non, isi_dict_non, isi_lt_non, isi_int_bl, isi_bool_bl, isi_tuple_bl, isi_list_bl, isi_dict_bl, isi_lt_bl, isi_int_int, isi_bool_int, isi_tuple_int, isi_list_int, isi_dict_int, isi_lt_int, isi_int_str, isi_bool_str, isi_tuple_str, isi_list_str, isi_dict_str, isi_lt_str, isi_int_tup, isi_bool_tup, isi_tuple_tup, isi_list_tup, isi_dict_tup, isi_lt_tup, isi_int_lst, isi_bool_lst, isi_tuple_lst, isi_list_lst, isi_dict_lst, isi_lt_lst, isi_int_dk, isi_bool_dk, isi_tuple_dk, isi_list_dk, isi_dict_dk, isi_lt_dk, tup_ty, lenT_lst, lenT_tup, intT, Bool.or_true, Bool.true_or, Bool.or_false, Bool.false_or, Bool.and_true, Bool.true_and, Bool.and_false, Bool.false_and, Z.isNon, not_true_eq_false, not_false_eq_true, Bool.not_eq_true, Bool.false_eq_true, Option.map_some, List.length_cons, List.length_nil, Nat.reduceAdd, ↓reduceIte, List.map_cons, List.map_nil, Nat.reduceSub, List.cons_append, List.nil_append, List.append_nil, List.replicate, List.set_cons_succ, List.set_cons_zero, Nat.reduceLT, gE_0, gE_s, df_0_1, df_1_2, df_2_2, df_3_1, df_4_1, df_5_1, df_6_1, df_7_1, df_8_1, df_10_1, df_14_1, df_15_1, df_16_1, df_17_2, df_18_2, df_25_1, df_25_2, df_26_1, df_27_2, df_28_1, df_29_2, df_30_2, df_31_2, df_32_2, df_33_2, df_34_2, df_35_2, df_36_2, df_37_2, df_38_2, df_39_2, df_40_2, df_41_2, df_42_1, df_43_1, df_44_1, df_45_2, eq_any, e1]
  generalize 1 + v = b at *
  simp -implicitDefEqProofs only [exs, ex, ev, evs, evo, evC, rb_ok, rt_ok, of_some, lift2_t, view_t, subD_tup, subD_lst, at0, at1, at2, at3, subTT, addT, tupD2, fin_rt, fin_nx, cast0, cast1, cast2, cast3, cast4, cast5, Int.reduceLT, Int.reduceLE, Int.reduceEq, Int.reduceNe, decide_not, map_some, take_all, cmp_lt, cmp_le, cmp_gt, cmp_ge, cmp_eq, cmp_ne, tru_bl, setTg_name, setTg_tup, setTg_lst, setTgs_nil, setTgs_cons, decide_eq_true_eq, Option.bind_some, Option.bind_none, bl_not, is_non, isnt_non, cmpIs_tup, cmpIsN_tup, if_tt, if_ff, tru_int, reduceCtorEq, decide_true, decide_false, Bool.not_true, Bool.not_false, mm1, mm2, mm3, mapM1, mapM2, lstD_c0, lstD_t0, lstD_t1, lstD_t2, lstD_t3, isL_last, isi_int_non, isi_bool_non, isi_tuple_non, isi_list_non, isi_dict_non, isi_lt_non, isi_int_bl, isi_bool_bl, isi_tuple_bl, isi_list_bl, isi_dict_bl, isi_lt_bl, isi_int_int, isi_bool_int, isi_tuple_int, isi_list_int, isi_dict_int, isi_lt_int, isi_int_str, isi_bool_str, isi_tuple_str, isi_list_str, isi_dict_str, isi_lt_str, isi_int_tup, isi_bool_tup, isi_tuple_tup, isi_list_tup, isi_dict_tup, isi_lt_tup, isi_int_lst, isi_bool_lst, isi_tuple_lst, isi_list_lst, isi_dict_lst, isi_lt_lst, isi_int_dk, isi_bool_dk, isi_tuple_dk, isi_list_dk, isi_dict_dk, isi_lt_dk, tup_ty, lenT_lst, lenT_tup, intT, Bool.or_true, Bool.true_or, Bool.or_false, Bool.false_or, Bool.and_true, Bool.true_and, Bool.and_false, Bool.false_and, Z.isNon, not_true_eq_false, not_false_eq_true, Bool.not_eq_true, Bool.false_eq_true, Option.map_some, List.length_cons, List.length_nil, Nat.reduceAdd, ↓reduceIte, List.map_cons, List.map_nil, Nat.reduceSub, List.cons_append, List.nil_append, List.append_nil, List.replicate, List.set_cons_succ, List.set_cons_zero, Nat.reduceLT, gE_0, gE_s, df_0_1, df_1_2, df_2_2, df_3_1, df_4_1, df_5_1, df_6_1, df_7_1, df_8_1, df_10_1, df_14_1, df_15_1, df_16_1, df_17_2, df_18_2, df_25_1, df_25_2, df_26_1, df_27_2, df_28_1, df_29_2, df_30_2, df_31_2, df_32_2, df_33_2, df_34_2, df_35_2, df_36_2, df_37_2, df_38_2, df_39_2, df_40_2, df_41_2, df_42_1, df_43_1, df_44_1, df_45_2, e2, hl]
theorem r_small (k : Nat) (G : List Int) (f : Int) (sm : List Int) (n : Int) (rest : S) (h0 : 0 ≤ n) (hn : n < 990000) :
    ∃ p G' f', callN lib.ft lib.g0 (k + 2) 38 [.c 1, .t (.str "small")] (sp G f sm n rest) = .ok (.t (fr p)) (sp G' f' sm (n + 1 + 1) rest) ∧ Shr p := by
  obtain ⟨v, G1, f1, e1, v1, v2⟩ := tk k 4 G f sm n rest (by decide) (bd_lit 100 (by decide) (by decide)) h0 (by omega)
  have hn1 : n + 1 < 1000001 := by omega
  obtain ⟨w, G2, f2, e2, w1, w2⟩ := tk k 12 G1 f1 sm (n + 1) rest (by omega) (bd_lit 100 (by omega) (by decide)) (by omega) (by omega)
  have hl := fun st => r_low k v (12 + w) st (by omega) (bd_lit 100 (by omega) (by decide)) (bd_lit 100 (by omega) (by decide))
  refine ⟨Rw9.low (v, 12 + w), G2, f2, ?_, shr_low v1 (by omega) (by omega) (by omega)⟩
  clear v1 v2 w1 w2 h0 hn hn1
  generalize Rw9.low (v, 12 + w) = p at *
  generalize n + 1 + 1 = n2 at *
  generalize n + 1 = n1 at *
  rw [callN_succ (F := F38) rfl]; simp -implicitDefEqProofs only [callF, F38, List.length_cons, List.length_nil, Nat.reduceAdd, ↓reduceIte, List.map_cons, List.map_nil, Nat.reduceSub, List.cons_append, List.nil_append, List.append_nil, List.replicate, List.set_cons_succ, List.set_cons_zero, Nat.reduceLT, gE_0, gE_s]
  refine fin_eq (o' := .rt (.t (fr p)) (sp G2 f2 sm n2 rest)) ?_ (by rw [fin_rt rfl, sp_take])
  refine exs_nx (Q := fun o => o = Z.O.rt (.t (fr p)) (sp G2 f2 sm n2 rest)) (σ1 := [some (.c 1), some (.t (.str "small")), none]) (s1 := sp G f sm n rest) (by simp -implicitDefEqProofs only [exs, ex, ev, evs, evo, evC, rb_ok, rt_ok, of_some, lift2_t, view_t, subD_tup, subD_lst, at0, at1, at2, at3, subTT, addT, tupD2, fin_rt, fin_nx, cast0, cast1, cast2, cast3, cast4, cast5, Int.reduceLT, Int.reduceLE, Int.reduceEq, Int.reduceNe, decide_not, map_some, take_all, cmp_lt, cmp_le, cmp_gt, cmp_ge, cmp_eq, cmp_ne, tru_bl, setTg_name, setTg_tup, setTg_lst, setTgs_nil, setTgs_cons, decide_eq_true_eq, Option.bind_some, Option.bind_none, bl_not, is_non, isnt_non, cmpIs_tup, cmpIsN_tup, if_tt, if_ff, tru_int, reduceCtorEq, decide_true, decide_false, Bool.not_true, Bool.not_false, mm1, mm2, mm3, mapM1, mapM2, lstD_c0, lstD_t0, lstD_t1, lstD_t2, lstD_t3, isL_last, isi_int_non, isi_bool_non, isi_tuple_non, isi_list_non, isi_dict_non, isi_lt_non, isi_int_bl, isi_bool_bl, isi_tuple_bl, isi_list_bl, isi_dict_bl, isi_lt_bl, isi_int_int, isi_bool_int, isi_tuple_int, isi_list_int, isi_dict_int, isi_lt_int, isi_int_str, isi_bool_str, isi_tuple_str, isi_list_str, isi_dict_str, isi_lt_str, isi_int_tup, isi_bool_tup, isi_tuple_tup, isi_list_tup, isi_dict_tup, isi_lt_tup, isi_int_lst, isi_bool_lst, isi_tuple_lst, isi_list_lst, isi_dict_lst, isi_lt_lst, isi_int_dk, isi_bool_dk, isi_tuple_dk, isi_list_dk, isi_dict_dk, isi_lt_dk, tup_ty, lenT_lst, lenT_tup, intT, Bool.or_true, Bool.true_or, Bool.or_false, Bool.false_or, Bool.and_true, Bool.true_and, Bool.and_false, Bool.false_and, Z.isNon, not_true_eq_false, not_false_eq_true, Bool.not_eq_true, Bool.false_eq_true, Option.map_some, List.length_cons, List.length_nil, Nat.reduceAdd, ↓reduceIte, List.map_cons, List.map_nil, Nat.reduceSub, List.cons_append, List.nil_append, List.append_nil, List.replicate, List.set_cons_succ, List.set_cons_zero, Nat.reduceLT, gE_0, gE_s, df_0_1, df_1_2, df_2_2, df_3_1, df_4_1, df_5_1, df_6_1, df_7_1, df_8_1, df_10_1, df_14_1, df_15_1, df_16_1, df_17_2, df_18_2, df_25_1, df_25_2, df_26_1, df_27_2, df_28_1, df_29_2, df_30_2, df_31_2, df_32_2, df_33_2, df_34_2, df_35_2, df_36_2, df_37_2, df_38_2, df_39_2, df_40_2, df_41_2, df_42_1, df_43_1, df_44_1, df_45_2, eq_small_any]) ?_
  refine exs_rt (Q := fun o => o = Z.O.rt (.t (fr p)) (sp G2 f2 sm n2 rest)) (d := .t (fr p)) (s1 := sp G2 f2 sm n2 rest) ?_ rfl
  simp -implicitDefEqProofs only [exs, ex, ev, evs, evo, evC, rb_ok, rt_ok, of_some, lift2_t, view_t, subD_tup, subD_lst, at0, at1, at2, at3, subTT, addT, tupD2, fin_rt, fin_nx, cast0, cast1, cast2, cast3, cast4, cast5, Int.reduceLT, Int.reduceLE, Int.reduceEq, Int.reduceNe, decide_not, map_some, take_all, cmp_lt, cmp_le, cmp_gt, cmp_ge, cmp_eq, cmp_ne, tru_bl, setTg_name, setTg_tup, setTg_lst, setTgs_nil, setTgs_cons, decide_eq_true_eq, Option.bind_some, Option.bind_none, bl_not, is_non, isnt_non, cmpIs_tup, cmpIsN_tup, if_tt, if_ff, tru_int, reduceCtorEq, decide_true, decide_false, Bool.not_true, Bool.not_false, mm1, mm2, mm3, mapM1, mapM2, lstD_c0, lstD_t0, lstD_t1, lstD_t2, lstD_t3, isL_last, isi_int_non, isi_bool_non, isi_tuple_non, isi_list_non, isi_dict_non, isi_lt_non, isi_int_bl, isi_bool_bl, isi_tuple_bl, isi_list_bl, isi_dict_bl, isi_lt_bl, isi_int_int, isi_bool_int, isi_tuple_int, isi_list_int, isi_dict_int, isi_lt_int, isi_int_str, isi_bool_str, isi_tuple_str, isi_list_str, isi_dict_str, isi_lt_str, isi_int_tup, isi_bool_tup, isi_tuple_tup, isi_list_tup, isi_dict_tup, isi_lt_tup, isi_int_lst, isi_bool_lst, isi_tuple_lst, isi_list_lst, isi_dict_lst, isi_lt_lst, isi_int_dk, isi_bool_dk, isi_tuple_dk, isi_list_dk, isi_dict_dk, isi_lt_dk, tup_ty, lenT_lst, lenT_tup, intT, Bool.or_true, Bool.true_or, Bool.or_false, Bool.false_or, Bool.and_true, Bool.true_and, Bool.and_false, Bool.false_and, Z.isNon, not_true_eq_false, not_false_eq_true, Bool.not_eq_true, Bool.false_eq_true, Option.map_some, List.length_cons, List.length_nil, Nat.reduceAdd, ↓reduceIte, List.map_cons, List.map_nil, Nat.reduceSub, List.cons_append, List.nil_append, List.append_nil, List.replicate, List.set_cons_succ, List.set_cons_zero, Nat.reduceLT, gE_0, gE_s, df_0_1, df_1_2, df_2_2, df_3_1, df_4_1, df_5_1, df_6_1, df_7_1, df_8_1, df_10_1, df_14_1, df_15_1, df_16_1, df_17_2, df_18_2, df_25_1, df_25_2, df_26_1, df_27_2, df_28_1, df_29_2, df_30_2, df_31_2, df_32_2, df_33_2, df_34_2, df_35_2, df_36_2, df_37_2, df_38_2, df_39_2, df_40_2, df_41_2, df_42_1, df_43_1, df_44_1, df_45_2, eq_small, e1, e2, hl]
/-! ### the same fraction, told in some way -/
theorem intB (b : Bool) : biT .int [.bl b] = some (.int (if b then 1 else 0)) := (rfl)
theorem addL {a b : List T} (h : a.length + b.length ≤ sizeLine) : Z.binT .Add (.lst a) (.lst b) = some (.lst (a ++ b)) := if_pos h
theorem mul1 (a : T) : Z.binT .Mult (.lst [a]) (.int 1) = some (.lst [a]) := by
  have := mulL (a := [a]) (k := 1) (by show 1 * 1 ≤ sizeLine; decide) (by decide)
  exact this
theorem mul0 (a : T) : Z.binT .Mult (.lst [a]) (.int 0) = some (.lst []) := by
  have := mulL (a := [a]) (k := 0) (by show 1 * 0 ≤ sizeLine; decide) (by decide)
  exact this
theorem r_handed (k : Nat) (x : P2) (G : List Int) (f : Int) (sm : List Int) (n : Int) (rest : S) (hx : 0 < x.2) (hx2 : x.2 < 200) (hx1 : 0 ≤ x.1) (hx3 : x.1 < 200) (h0 : 0 ≤ n) (hn : n < 990000) :
    ∃ t p G' f', callN lib.ft lib.g0 (k + 3) 39 [.c 1, .t (fr x)] (sp G f sm n rest) = .ok (.t t) (sp G' f' sm (n + 1 + 1) rest) ∧ Frs t p ∧ 0 < p.2 ∧ Rw9.low p = Rw9.low x := by
  obtain ⟨v, G1, f1, e1, v1, v2⟩ := tk (k + 1) 4 G f sm n rest (by decide) (bd_lit 100 (by decide) (by decide)) h0 (by omega)
  have hn1 : n + 1 < 1000001 := by omega
  have bk : Bd 10 (1 + v) := bd_lit 100 (by omega) (by decide)
  have m1 := mulT bk (bd_lit (k := 10) (i := x.1) 300 (by omega) (by decide)) (by decide)
  have m2 := mulT bk (bd_lit (k := 10) (i := x.2) 300 (by omega) (by decide)) (by decide)
  have b2 : Bd 20 ((1 + v) * x.2) := bk.mul (bd_lit (k := 10) (i := x.2) 300 (by omega) (by decide))
  have b1 : Bd 20 x.2 := bd_lit 300 (by omega) (by decide)
  have key : ∃ X : List T, (∀ t ∈ X, ∃ p : P2, Frs t p ∧ 0 < p.2 ∧ Rw9.low p = Rw9.low x) ∧ X ≠ [] ∧ X.length < 100 ∧
      ex { lib.g0 with call := callN lib.ft lib.g0 (k + 2) } (.set (.name 3) (.bin .Add (.lst false (.cons (.tup (.cons (.var 4) (.cons (.var 5) .nil))) (.cons (.lst false (.cons (.var 4) (.cons (.var 5) .nil))) (.cons (.tup (.cons (.bin .Mult (.var 2) (.var 4)) (.cons (.bin .Mult (.var 2) (.var 5)) .nil))) .nil)))) (.bin .Mult (.lst false (.cons (.var 4) .nil)) (.bi .int (.cons (.cmp .Eq (.var 5) (.con (.int 1))) .nil))))) [some (.c 1), some (.t (fr x)), some (.t (.int (1 + v))), none, some (.t (.int x.1)), some (.t (.int x.2))] (sp G1 f1 sm (n + 1) rest) = .nx [some (.c 1), some (.t (fr x)), some (.t (.int (1 + v))), some (.t (.lst X)), some (.t (.int x.1)), some (.t (.int x.2))] (sp G1 f1 sm (n + 1) rest) := by
    have p1 : ∃ p : P2, Frs (fr x) p ∧ 0 < p.2 ∧ Rw9.low p = Rw9.low x := ⟨x, fun k st => r_frac_tup k _ _ st (b1.mono (by decide)), hx, rfl⟩
    have p2 : ∃ p : P2, Frs (.lst [.int x.1, .int x.2]) p ∧ 0 < p.2 ∧ Rw9.low p = Rw9.low x := ⟨x, fun k st => r_frac_lst k _ _ st (b1.mono (by decide)), hx, rfl⟩
    have p3 : ∃ p : P2, Frs (.tup [.int ((1 + v) * x.1), .int ((1 + v) * x.2)]) p ∧ 0 < p.2 ∧ Rw9.low p = Rw9.low x := by
      have hp : 0 < (1 + v) * x.2 := Int.mul_pos (by omega) hx
      refine ⟨((1 + v) * x.1, (1 + v) * x.2), fun k st => r_frac_tup k _ _ st (b2.mono (by decide)), hp, Rw9.low_eq hp hx ?_⟩
      show (1 + v) * x.1 * x.2 = x.1 * ((1 + v) * x.2)
      rw [Int.mul_comm (1 + v), Int.mul_assoc]
    by_cases c : x.2 = 1
    · refine ⟨[fr x, .lst [.int x.1, .int x.2], .tup [.int ((1 + v) * x.1), .int ((1 + v) * x.2)]] ++ [.int x.1], ?_, by simp, by simp, ?_⟩
      · intro t ht
        simp only [List.cons_append, List.nil_append, List.mem_cons, List.not_mem_nil, or_false] at ht
        rcases ht with rfl | rfl | rfl | rfl
        · exact p1
        · exact p2
        · exact p3
        · refine ⟨(x.1, 1), fun k st => r_frac_int k _ st, by show (0 : Int) < 1; decide, ?_⟩
          rw [show x = (x.1, 1) from Prod.ext rfl c]
      · have ha := addL (a := [fr x, .lst [.int x.1, .int x.2], .tup [.int ((1 + v) * x.1), .int ((1 + v) * x.2)]]) (b := [.int x.1]) (by show 3 + 1 ≤ sizeLine; decide)
        have hd : decide (x.2 = 1) = true := decide_eq_true c
        clear c hx hx1 hx2 hx3 v1 v2 p1 p2 p3 b1 b2 bk e1
        generalize (1 + v) * x.1 = u1 at *
        generalize (1 + v) * x.2 = u2 at *
        generalize 1 + v = u at *
        simp -implicitDefEqProofs only [exs, ex, ev, evs, evo, evC, rb_ok, rt_ok, of_some, lift2_t, view_t, subD_tup, subD_lst, at0, at1, at2, at3, subTT, addT, tupD2, fin_rt, fin_nx, cast0, cast1, cast2, cast3, cast4, cast5, Int.reduceLT, Int.reduceLE, Int.reduceEq, Int.reduceNe, decide_not, map_some, take_all, cmp_lt, cmp_le, cmp_gt, cmp_ge, cmp_eq, cmp_ne, tru_bl, setTg_name, setTg_tup, setTg_lst, setTgs_nil, setTgs_cons, decide_eq_true_eq, Option.bind_some, Option.bind_none, bl_not, is_non, isnt_non, cmpIs_tup, cmpIsN_tup, if_tt, if_ff, tru_int, reduceCtorEq, decide_true, decide_false, Bool.not_true, Bool.not_false, mm1, mm2, mm3, mapM1, mapM2, lstD_c0, lstD_t0, lstD_t1, lstD_t2, lstD_t3, isL_last, isi_int_non, isi_bool_non, isi_tuple_non, isi_list_non, isi_dict_non, isi_lt_non, isi_int_bl, isi_bool_bl, isi_tuple_bl, isi_list_bl, isi_dict_bl, isi_lt_bl, isi_int_int, isi_bool_int, isi_tuple_int, isi_list_int, isi_dict_int, isi_lt_int, isi_int_str, isi_bool_str, isi_tuple_str, isi_list_str, isi_dict_str, isi_lt_str, isi_int_tup, isi_bool_tup, isi_tuple_tup, isi_list_tup, isi_dict_tup, isi_lt_tup, isi_int_lst, isi_bool_lst, isi_tuple_lst, isi_list_lst, isi_dict_lst, isi_lt_lst, isi_int_dk, isi_bool_dk, isi_tuple_dk, isi_list_dk, isi_dict_dk, isi_lt_dk, tup_ty, lenT_lst, lenT_tup, intT, Bool.or_true, Bool.true_or, Bool.or_false, Bool.false_or, Bool.and_true, Bool.true_and, Bool.and_false, Bool.false_and, Z.isNon, not_true_eq_false, not_false_eq_true, Bool.not_eq_true, Bool.false_eq_true, Option.map_some, List.length_cons, List.length_nil, Nat.reduceAdd, ↓reduceIte, List.map_cons, List.map_nil, Nat.reduceSub, List.append_nil, List.replicate, List.set_cons_succ, List.set_cons_zero, Nat.reduceLT, gE_0, gE_s, df_0_1, df_1_2, df_2_2, df_3_1, df_4_1, df_5_1, df_6_1, df_7_1, df_8_1, df_10_1, df_14_1, df_15_1, df_16_1, df_17_2, df_18_2, df_25_1, df_25_2, df_26_1, df_27_2, df_28_1, df_29_2, df_30_2, df_31_2, df_32_2, df_33_2, df_34_2, df_35_2, df_36_2, df_37_2, df_38_2, df_39_2, df_40_2, df_41_2, df_42_1, df_43_1, df_44_1, df_45_2, m1, m2, intB, mul1, ha, hd]
    · refine ⟨[fr x, .lst [.int x.1, .int x.2], .tup [.int ((1 + v) * x.1), .int ((1 + v) * x.2)]], ?_, by simp, by simp, ?_⟩
      · intro t ht
        simp only [List.mem_cons, List.not_mem_nil, or_false] at ht
        rcases ht with rfl | rfl | rfl
        · exact p1
        · exact p2
        · exact p3
      · have ha := addL (a := [fr x, .lst [.int x.1, .int x.2], .tup [.int ((1 + v) * x.1), .int ((1 + v) * x.2)]]) (b := []) (by show 3 + 0 ≤ sizeLine; decide)
        rw [List.append_nil] at ha
        have hd : decide (x.2 = 1) = false := decide_eq_false c
        clear c hx hx1 hx2 hx3 v1 v2 p1 p2 p3 b1 b2 bk e1
        generalize (1 + v) * x.1 = u1 at *
        generalize (1 + v) * x.2 = u2 at *
        generalize 1 + v = u at *
        simp -implicitDefEqProofs only [exs, ex, ev, evs, evo, evC, rb_ok, rt_ok, of_some, lift2_t, view_t, subD_tup, subD_lst, at0, at1, at2, at3, subTT, addT, tupD2, fin_rt, fin_nx, cast0, cast1, cast2, cast3, cast4, cast5, Int.reduceLT, Int.reduceLE, Int.reduceEq, Int.reduceNe, decide_not, map_some, take_all, cmp_lt, cmp_le, cmp_gt, cmp_ge, cmp_eq, cmp_ne, tru_bl, setTg_name, setTg_tup, setTg_lst, setTgs_nil, setTgs_cons, decide_eq_true_eq, Option.bind_some, Option.bind_none, bl_not, is_non, isnt_non, cmpIs_tup, cmpIsN_tup, if_tt, if_ff, tru_int, reduceCtorEq, decide_true, decide_false, Bool.not_true, Bool.not_false, mm1, mm2, mm3, mapM1, mapM2, lstD_c0, lstD_t0, lstD_t1, lstD_t2, lstD_t3, isL_last, isi_int_non, isi_bool_non, isi_tuple_non, isi_list_non, isi_dict_non, isi_lt_non, isi_int_bl, isi_bool_bl, isi_tuple_bl, isi_list_bl, isi_dict_bl, isi_lt_bl, isi_int_int, isi_bool_int, isi_tuple_int, isi_list_int, isi_dict_int, isi_lt_int, isi_int_str, isi_bool_str, isi_tuple_str, isi_list_str, isi_dict_str, isi_lt_str, isi_int_tup, isi_bool_tup, isi_tuple_tup, isi_list_tup, isi_dict_tup, isi_lt_tup, isi_int_lst, isi_bool_lst, isi_tuple_lst, isi_list_lst, isi_dict_lst, isi_lt_lst, isi_int_dk, isi_bool_dk, isi_tuple_dk, isi_list_dk, isi_dict_dk, isi_lt_dk, tup_ty, lenT_lst, lenT_tup, intT, Bool.or_true, Bool.true_or, Bool.or_false, Bool.false_or, Bool.and_true, Bool.true_and, Bool.and_false, Bool.false_and, Z.isNon, not_true_eq_false, not_false_eq_true, Bool.not_eq_true, Bool.false_eq_true, Option.map_some, List.length_cons, List.length_nil, Nat.reduceAdd, ↓reduceIte, List.map_cons, List.map_nil, Nat.reduceSub, List.cons_append, List.nil_append, List.append_nil, List.replicate, List.set_cons_succ, List.set_cons_zero, Nat.reduceLT, gE_0, gE_s, df_0_1, df_1_2, df_2_2, df_3_1, df_4_1, df_5_1, df_6_1, df_7_1, df_8_1, df_10_1, df_14_1, df_15_1, df_16_1, df_17_2, df_18_2, df_25_1, df_25_2, df_26_1, df_27_2, df_28_1, df_29_2, df_30_2, df_31_2, df_32_2, df_33_2, df_34_2, df_35_2, df_36_2, df_37_2, df_38_2, df_39_2, df_40_2, df_41_2, df_42_1, df_43_1, df_44_1, df_45_2, m1, m2, intB, mul0, ha, hd]
  obtain ⟨X, hX, hX1, hX2, e3⟩ := key
  obtain ⟨t, G2, f2, e2, ht⟩ := r_one k X G1 f1 sm (n + 1) rest hX1 hX2 (by omega) (by omega)
  obtain ⟨p, hp⟩ := hX t ht
  refine ⟨t, p, G2, f2, ?_, hp⟩
  clear hp ht hX hX1 hX2 v1 v2 h0 hn hn1 hx hx1 hx2 hx3 m1 m2 bk b1 b2
  generalize n + 1 + 1 = n2 at *
  generalize n + 1 = n1 at *
  rw [callN_succ (F := F39) rfl]; simp -implicitDefEqProofs only [callF, F39, List.length_cons, List.length_nil, Nat.reduceAdd, ↓reduceIte, List.map_cons, List.map_nil, Nat.reduceSub, List.cons_append, List.nil_append, List.append_nil, List.replicate, List.set_cons_succ, List.set_cons_zero, Nat.reduceLT, gE_0, gE_s]
  refine fin_eq (o' := .rt (.t t) (sp G2 f2 sm n2 rest)) ?_ (by rw [fin_rt rfl, sp_take])
  refine exs_nx (Q := fun o => o = Z.O.rt (.t t) (sp G2 f2 sm n2 rest)) (σ1 := [some (.c 1), some (.t (fr x)), none, none, some (.t (.int x.1)), some (.t (.int x.2))]) (s1 := sp G f sm n rest) (by simp -implicitDefEqProofs only [exs, ex, ev, evs, evo, evC, rb_ok, rt_ok, of_some, lift2_t, view_t, subD_tup, subD_lst, at0, at1, at2, at3, subTT, addT, tupD2, fin_rt, fin_nx, cast0, cast1, cast2, cast3, cast4, cast5, Int.reduceLT, Int.reduceLE, Int.reduceEq, Int.reduceNe, decide_not, map_some, take_all, cmp_lt, cmp_le, cmp_gt, cmp_ge, cmp_eq, cmp_ne, tru_bl, setTg_name, setTg_tup, setTg_lst, setTgs_nil, setTgs_cons, decide_eq_true_eq, Option.bind_some, Option.bind_none, bl_not, is_non, isnt_non, cmpIs_tup, cmpIsN_tup, if_tt, if_ff, tru_int, reduceCtorEq, decide_true, decide_false, Bool.not_true, Bool.not_false, mm1, mm2, mm3, mapM1, mapM2, lstD_c0, lstD_t0, lstD_t1, lstD_t2, lstD_t3, isL_last, isi_int_non, isi_bool_non, isi_tuple_non, isi_list_non, isi_dict_non, isi_lt_non, isi_int_bl, isi_bool_bl, isi_tuple_bl, isi_list_bl, isi_dict_bl, isi_lt_bl, isi_int_int, isi_bool_int, isi_tuple_int, isi_list_int, isi_dict_int, isi_lt_int, isi_int_str, isi_bool_str, isi_tuple_str, isi_list_str, isi_dict_str, isi_lt_str, isi_int_tup, isi_bool_tup, isi_tuple_tup, isi_list_tup, isi_dict_tup, isi_lt_tup, isi_int_lst, isi_bool_lst, isi_tuple_lst, isi_list_lst, isi_dict_lst, isi_lt_lst, isi_int_dk, isi_bool_dk, isi_tuple_dk, isi_list_dk, isi_dict_dk, isi_lt_dk, tup_ty, lenT_lst, lenT_tup, intT, Bool.or_true, Bool.true_or, Bool.or_false, Bool.false_or, Bool.and_true, Bool.true_and, Bool.and_false, Bool.false_and, Z.isNon, not_true_eq_false, not_false_eq_true, Bool.not_eq_true, Bool.false_eq_true, Option.map_some, List.length_cons, List.length_nil, Nat.reduceAdd, ↓reduceIte, List.map_cons, List.map_nil, Nat.reduceSub, List.cons_append, List.nil_append, List.append_nil, List.replicate, List.set_cons_succ, List.set_cons_zero, Nat.reduceLT, gE_0, gE_s, df_0_1, df_1_2, df_2_2, df_3_1, df_4_1, df_5_1, df_6_1, df_7_1, df_8_1, df_10_1, df_14_1, df_15_1, df_16_1, df_17_2, df_18_2, df_25_1, df_25_2, df_26_1, df_27_2, df_28_1, df_29_2, df_30_2, df_31_2, df_32_2, df_33_2, df_34_2, df_35_2, df_36_2, df_37_2, df_38_2, df_39_2, df_40_2, df_41_2, df_42_1, df_43_1, df_44_1, df_45_2]) ?_
  refine exs_nx (Q := fun o => o = Z.O.rt (.t t) (sp G2 f2 sm n2 rest)) (σ1 := [some (.c 1), some (.t (fr x)), some (.t (.int (1 + v))), none, some (.t (.int x.1)), some (.t (.int x.2))]) (s1 := sp G1 f1 sm n1 rest) (by simp -implicitDefEqProofs only [exs, ex, ev, evs, evo, evC, rb_ok, rt_ok, of_some, lift2_t, view_t, subD_tup, subD_lst, at0, at1, at2, at3, subTT, addT, tupD2, fin_rt, fin_nx, cast0, cast1, cast2, cast3, cast4, cast5, Int.reduceLT, Int.reduceLE, Int.reduceEq, Int.reduceNe, decide_not, map_some, take_all, cmp_lt, cmp_le, cmp_gt, cmp_ge, cmp_eq, cmp_ne, tru_bl, setTg_name, setTg_tup, setTg_lst, setTgs_nil, setTgs_cons, decide_eq_true_eq, Option.bind_some, Option.bind_none, bl_not, is_non, isnt_non, cmpIs_tup, cmpIsN_tup, if_tt, if_ff, tru_int, reduceCtorEq, decide_true, decide_false, Bool.not_true, Bool.not_false, mm1, mm2, mm3, mapM1, mapM2, lstD_c0, lstD_t0, lstD_t1, lstD_t2, lstD_t3, isL_last, isi_int_non, isi_bool_non, isi_tuple_non, isi_list_non, isi_dict_non, isi_lt_non, isi_int_bl, isi_bool_bl, isi_tuple_bl, isi_list_bl, isi_dict_bl, isi_lt_bl, isi_int_int, isi_bool_int, isi_tuple_int, isi_list_int, isi_dict_int, isi_lt_int, isi_int_str, isi_bool_str, isi_tuple_str, isi_list_str, isi_dict_str, isi_lt_str, isi_int_tup, isi_bool_tup, isi_tuple_tup, isi_list_tup, isi_dict_tup, isi_lt_tup, isi_int_lst, isi_bool_lst, isi_tuple_lst, isi_list_lst, isi_dict_lst, isi_lt_lst, isi_int_dk, isi_bool_dk, isi_tuple_dk, isi_list_dk, isi_dict_dk, isi_lt_dk, tup_ty, lenT_lst, lenT_tup, intT, Bool.or_true, Bool.true_or, Bool.or_false, Bool.false_or, Bool.and_true, Bool.true_and, Bool.and_false, Bool.false_and, Z.isNon, not_true_eq_false, not_false_eq_true, Bool.not_eq_true, Bool.false_eq_true, Option.map_some, List.length_cons, List.length_nil, Nat.reduceAdd, ↓reduceIte, List.map_cons, List.map_nil, Nat.reduceSub, List.cons_append, List.nil_append, List.append_nil, List.replicate, List.set_cons_succ, List.set_cons_zero, Nat.reduceLT, gE_0, gE_s, df_0_1, df_1_2, df_2_2, df_3_1, df_4_1, df_5_1, df_6_1, df_7_1, df_8_1, df_10_1, df_14_1, df_15_1, df_16_1, df_17_2, df_18_2, df_25_1, df_25_2, df_26_1, df_27_2, df_28_1, df_29_2, df_30_2, df_31_2, df_32_2, df_33_2, df_34_2, df_35_2, df_36_2, df_37_2, df_38_2, df_39_2, df_40_2, df_41_2, df_42_1, df_43_1, df_44_1, df_45_2, e1]) ?_
  refine exs_nx (Q := fun o => o = Z.O.rt (.t t) (sp G2 f2 sm n2 rest)) (h := e3) ?_
  exact exs_rt (Q := fun o => o = Z.O.rt (.t t) (sp G2 f2 sm n2 rest)) (d := .t t) (s1 := sp G2 f2 sm n2 rest) (by simp -implicitDefEqProofs only [exs, ex, ev, evs, evo, evC, rb_ok, rt_ok, of_some, lift2_t, view_t, subD_tup, subD_lst, at0, at1, at2, at3, subTT, addT, tupD2, fin_rt, fin_nx, cast0, cast1, cast2, cast3, cast4, cast5, Int.reduceLT, Int.reduceLE, Int.reduceEq, Int.reduceNe, decide_not, map_some, take_all, cmp_lt, cmp_le, cmp_gt, cmp_ge, cmp_eq, cmp_ne, tru_bl, setTg_name, setTg_tup, setTg_lst, setTgs_nil, setTgs_cons, decide_eq_true_eq, Option.bind_some, Option.bind_none, bl_not, is_non, isnt_non, cmpIs_tup, cmpIsN_tup, if_tt, if_ff, tru_int, reduceCtorEq, decide_true, decide_false, Bool.not_true, Bool.not_false, mm1, mm2, mm3, mapM1, mapM2, lstD_c0, lstD_t0, lstD_t1, lstD_t2, lstD_t3, isL_last, isi_int_non, isi_bool_non, isi_tuple_non, isi_list_non, isi_dict_non, isi_lt_non, isi_int_bl, isi_bool_bl, isi_tuple_bl, isi_list_bl, isi_dict_bl, isi_lt_bl, isi_int_int, isi_bool_int, isi_tuple_int, isi_list_int, isi_dict_int, isi_lt_int, isi_int_str, isi_bool_str, isi_tuple_str, isi_list_str, isi_dict_str, isi_lt_str, isi_int_tup, isi_bool_tup, isi_tuple_tup, isi_list_tup, isi_dict_tup, isi_lt_tup, isi_int_lst, isi_bool_lst, isi_tuple_lst, isi_list_lst, isi_dict_lst, isi_lt_lst, isi_int_dk, isi_bool_dk, isi_tuple_dk, isi_list_dk, isi_dict_dk, isi_lt_dk, tup_ty, lenT_lst, lenT_tup, intT, Bool.or_true, Bool.true_or, Bool.or_false, Bool.false_or, Bool.and_true, Bool.true_and, Bool.and_false, Bool.false_and, Z.isNon, not_true_eq_false, not_false_eq_true, Bool.not_eq_true, Bool.false_eq_true, Option.map_some, List.length_cons, List.length_nil, Nat.reduceAdd, ↓reduceIte, List.map_cons, List.map_nil, Nat.reduceSub, List.cons_append, List.nil_append, List.append_nil, List.replicate, List.set_cons_succ, List.set_cons_zero, Nat.reduceLT, gE_0, gE_s, df_0_1, df_1_2, df_2_2, df_3_1, df_4_1, df_5_1, df_6_1, df_7_1, df_8_1, df_10_1, df_14_1, df_15_1, df_16_1, df_17_2, df_18_2, df_25_1, df_25_2, df_26_1, df_27_2, df_28_1, df_29_2, df_30_2, df_31_2, df_32_2, df_33_2, df_34_2, df_35_2, df_36_2, df_37_2, df_38_2, df_39_2, df_40_2, df_41_2, df_42_1, df_43_1, df_44_1, df_45_2, e2]) rfl
/-! ### the law's same, on truths -/
theorem eq_bl (a b : Bool) : cmpT .Eq (.bl a) (.bl b) = some (decide (a = b)) := by
  cases a <;> cases b <;> decide +kernel
theorem r_same (k : Nat) (a b : Bool) (st : S) : callN lib.ft lib.g0 (k + 1) 31 [.t (.bl a), .t (.bl b)] st = .ok (.t (.bl (decide (a = b)))) st := by
  rw [callN_succ (F := F31) rfl]; simp -implicitDefEqProofs only [callF, F31, List.length_cons, List.length_nil, Nat.reduceAdd, ↓reduceIte, List.map_cons, List.map_nil, Nat.reduceSub, List.cons_append, List.nil_append, List.append_nil, List.replicate, List.set_cons_succ, List.set_cons_zero, Nat.reduceLT, gE_0, gE_s]
  refine fin_eq (o' := .rt (.t (.bl (decide (a = b)))) st) ?_ (by rw [fin_rt rfl, take_all])
  refine exs_nx (Q := fun o => o = Z.O.rt (.t (.bl (decide (a = b)))) st) (σ1 := [some (.t (.bl a)), some (.t (.bl b)), none, none, none, none]) (s1 := st) (by simp -implicitDefEqProofs only [exs, ex, ev, evs, evo, evC, rb_ok, rt_ok, of_some, lift2_t, view_t, subD_tup, subD_lst, at0, at1, at2, at3, subTT, addT, tupD2, fin_rt, fin_nx, cast0, cast1, cast2, cast3, cast4, cast5, Int.reduceLT, Int.reduceLE, Int.reduceEq, Int.reduceNe, decide_not, map_some, take_all, cmp_lt, cmp_le, cmp_gt, cmp_ge, cmp_eq, cmp_ne, tru_bl, setTg_name, setTg_tup, setTg_lst, setTgs_nil, setTgs_cons, decide_eq_true_eq, Option.bind_some, Option.bind_none, bl_not, is_non, isnt_non, cmpIs_tup, cmpIsN_tup, if_tt, if_ff, tru_int, reduceCtorEq, decide_true, decide_false, Bool.not_true, Bool.not_false, mm1, mm2, mm3, mapM1, mapM2, lstD_c0, lstD_t0, lstD_t1, lstD_t2, lstD_t3, isL_last, isi_int_non, isi_bool_non, isi_tuple_non, isi_list_non, isi_dict_non, isi_lt_non, isi_int_bl, isi_bool_bl, isi_tuple_bl, isi_list_bl, isi_dict_bl, isi_lt_bl, isi_int_int, isi_bool_int, isi_tuple_int, isi_list_int, isi_dict_int, isi_lt_int, isi_int_str, isi_bool_str, isi_tuple_str, isi_list_str, isi_dict_str, isi_lt_str, isi_int_tup, isi_bool_tup, isi_tuple_tup, isi_list_tup, isi_dict_tup, isi_lt_tup, isi_int_lst, isi_bool_lst, isi_tuple_lst, isi_list_lst, isi_dict_lst, isi_lt_lst, isi_int_dk, isi_bool_dk, isi_tuple_dk, isi_list_dk, isi_dict_dk, isi_lt_dk, tup_ty, lenT_lst, lenT_tup, intT, Bool.or_true, Bool.true_or, Bool.or_false, Bool.false_or, Bool.and_true, Bool.true_and, Bool.and_false, Bool.false_and, Z.isNon, not_true_eq_false, not_false_eq_true, Bool.not_eq_true, Bool.false_eq_true, Option.map_some, List.length_cons, List.length_nil, Nat.reduceAdd, ↓reduceIte, List.map_cons, List.map_nil, Nat.reduceSub, List.cons_append, List.nil_append, List.append_nil, List.replicate, List.set_cons_succ, List.set_cons_zero, Nat.reduceLT, gE_0, gE_s, df_0_1, df_1_2, df_2_2, df_3_1, df_4_1, df_5_1, df_6_1, df_7_1, df_8_1, df_10_1, df_14_1, df_15_1, df_16_1, df_17_2, df_18_2, df_25_1, df_25_2, df_26_1, df_27_2, df_28_1, df_29_2, df_30_2, df_31_2, df_32_2, df_33_2, df_34_2, df_35_2, df_36_2, df_37_2, df_38_2, df_39_2, df_40_2, df_41_2, df_42_1, df_43_1, df_44_1, df_45_2]) ?_
  refine exs_nx (Q := fun o => o = Z.O.rt (.t (.bl (decide (a = b)))) st) (σ1 := [some (.t (.bl a)), some (.t (.bl b)), none, none, none, none]) (s1 := st) (by simp -implicitDefEqProofs only [exs, ex, ev, evs, evo, evC, rb_ok, rt_ok, of_some, lift2_t, view_t, subD_tup, subD_lst, at0, at1, at2, at3, subTT, addT, tupD2, fin_rt, fin_nx, cast0, cast1, cast2, cast3, cast4, cast5, Int.reduceLT, Int.reduceLE, Int.reduceEq, Int.reduceNe, decide_not, map_some, take_all, cmp_lt, cmp_le, cmp_gt, cmp_ge, cmp_eq, cmp_ne, tru_bl, setTg_name, setTg_tup, setTg_lst, setTgs_nil, setTgs_cons, decide_eq_true_eq, Option.bind_some, Option.bind_none, bl_not, is_non, isnt_non, cmpIs_tup, cmpIsN_tup, if_tt, if_ff, tru_int, reduceCtorEq, decide_true, decide_false, Bool.not_true, Bool.not_false, mm1, mm2, mm3, mapM1, mapM2, lstD_c0, lstD_t0, lstD_t1, lstD_t2, lstD_t3, isL_last, isi_int_non, isi_bool_non, isi_tuple_non, isi_list_non, isi_dict_non, isi_lt_non, isi_int_bl, isi_bool_bl, isi_tuple_bl, isi_list_bl, isi_dict_bl, isi_lt_bl, isi_int_int, isi_bool_int, isi_tuple_int, isi_list_int, isi_dict_int, isi_lt_int, isi_int_str, isi_bool_str, isi_tuple_str, isi_list_str, isi_dict_str, isi_lt_str, isi_int_tup, isi_bool_tup, isi_tuple_tup, isi_list_tup, isi_dict_tup, isi_lt_tup, isi_int_lst, isi_bool_lst, isi_tuple_lst, isi_list_lst, isi_dict_lst, isi_lt_lst, isi_int_dk, isi_bool_dk, isi_tuple_dk, isi_list_dk, isi_dict_dk, isi_lt_dk, tup_ty, lenT_lst, lenT_tup, intT, Bool.or_true, Bool.true_or, Bool.or_false, Bool.false_or, Bool.and_true, Bool.true_and, Bool.and_false, Bool.false_and, Z.isNon, not_true_eq_false, not_false_eq_true, Bool.not_eq_true, Bool.false_eq_true, Option.map_some, List.length_cons, List.length_nil, Nat.reduceAdd, ↓reduceIte, List.map_cons, List.map_nil, Nat.reduceSub, List.cons_append, List.nil_append, List.append_nil, List.replicate, List.set_cons_succ, List.set_cons_zero, Nat.reduceLT, gE_0, gE_s, df_0_1, df_1_2, df_2_2, df_3_1, df_4_1, df_5_1, df_6_1, df_7_1, df_8_1, df_10_1, df_14_1, df_15_1, df_16_1, df_17_2, df_18_2, df_25_1, df_25_2, df_26_1, df_27_2, df_28_1, df_29_2, df_30_2, df_31_2, df_32_2, df_33_2, df_34_2, df_35_2, df_36_2, df_37_2, df_38_2, df_39_2, df_40_2, df_41_2, df_42_1, df_43_1, df_44_1, df_45_2]) ?_
  exact exs_rt (Q := fun o => o = Z.O.rt (.t (.bl (decide (a = b)))) st) (d := .t (.bl (decide (a = b)))) (s1 := st) (by simp -implicitDefEqProofs only [exs, ex, ev, evs, evo, evC, rb_ok, rt_ok, of_some, lift2_t, view_t, subD_tup, subD_lst, at0, at1, at2, at3, subTT, addT, tupD2, fin_rt, fin_nx, cast0, cast1, cast2, cast3, cast4, cast5, Int.reduceLT, Int.reduceLE, Int.reduceEq, Int.reduceNe, decide_not, map_some, take_all, cmp_lt, cmp_le, cmp_gt, cmp_ge, cmp_eq, cmp_ne, tru_bl, setTg_name, setTg_tup, setTg_lst, setTgs_nil, setTgs_cons, decide_eq_true_eq, Option.bind_some, Option.bind_none, bl_not, is_non, isnt_non, cmpIs_tup, cmpIsN_tup, if_tt, if_ff, tru_int, reduceCtorEq, decide_true, decide_false, Bool.not_true, Bool.not_false, mm1, mm2, mm3, mapM1, mapM2, lstD_c0, lstD_t0, lstD_t1, lstD_t2, lstD_t3, isL_last, isi_int_non, isi_bool_non, isi_tuple_non, isi_list_non, isi_dict_non, isi_lt_non, isi_int_bl, isi_bool_bl, isi_tuple_bl, isi_list_bl, isi_dict_bl, isi_lt_bl, isi_int_int, isi_bool_int, isi_tuple_int, isi_list_int, isi_dict_int, isi_lt_int, isi_int_str, isi_bool_str, isi_tuple_str, isi_list_str, isi_dict_str, isi_lt_str, isi_int_tup, isi_bool_tup, isi_tuple_tup, isi_list_tup, isi_dict_tup, isi_lt_tup, isi_int_lst, isi_bool_lst, isi_tuple_lst, isi_list_lst, isi_dict_lst, isi_lt_lst, isi_int_dk, isi_bool_dk, isi_tuple_dk, isi_list_dk, isi_dict_dk, isi_lt_dk, tup_ty, lenT_lst, lenT_tup, intT, Bool.or_true, Bool.true_or, Bool.or_false, Bool.false_or, Bool.and_true, Bool.true_and, Bool.and_false, Bool.false_and, Z.isNon, not_true_eq_false, not_false_eq_true, Bool.not_eq_true, Bool.false_eq_true, Option.map_some, List.length_cons, List.length_nil, Nat.reduceAdd, ↓reduceIte, List.map_cons, List.map_nil, Nat.reduceSub, List.cons_append, List.nil_append, List.append_nil, List.replicate, List.set_cons_succ, List.set_cons_zero, Nat.reduceLT, gE_0, gE_s, df_0_1, df_1_2, df_2_2, df_3_1, df_4_1, df_5_1, df_6_1, df_7_1, df_8_1, df_10_1, df_14_1, df_15_1, df_16_1, df_17_2, df_18_2, df_25_1, df_25_2, df_26_1, df_27_2, df_28_1, df_29_2, df_30_2, df_31_2, df_32_2, df_33_2, df_34_2, df_35_2, df_36_2, df_37_2, df_38_2, df_39_2, df_40_2, df_41_2, df_42_1, df_43_1, df_44_1, df_45_2, eq_bl]) rfl
end Lw
end Z
end
section
set_option Elab.async false
set_option linter.all false
set_option maxRecDepth 100000
set_option maxHeartbeats 4000000
namespace Z
namespace Lw

open PySem L2 Zr
/-! ### comprehensions -/
def turnC (g : G) (own : List (Str × Nat)) (elt : E) (tg : Tg) (cond : Eo) (σ : Sl) (d : D) (s : S) : R (Option D) := match setTg tg d (wipeD σ (own.map (·.2))) with
  | some σ1 => (evC g cond σ1 s).hold.bind fun k s => if k then (ev g elt σ1 s).hold.bind fun x s => .ok (some x) s else .ok none s
  | none => .no
theorem turnC_some {g : G} {own : List (Str × Nat)} {elt : E} {tg : Tg} {cond : Eo} {σ σ1 : Sl} {d : D} {s : S} (h : setTg tg d (wipeD σ (own.map (·.2))) = some σ1) :
    turnC g own elt tg cond σ d s = (evC g cond σ1 s).hold.bind fun k s => if k then (ev g elt σ1 s).hold.bind fun x s => .ok (some x) s else .ok none s := by
  unfold turnC
  rw [h]
theorem hold_ok {α : Type} (a : α) (s : S) : (R.ok a s).hold = .ok a s := (rfl)
theorem turns_fl (s : S) (f : D → S → R (Option D)) (p : D → Bool) (e : D → T) : ∀ (ds : List D) (acc : List T),
    (∀ d ∈ ds, ∀ acc : List T, f d (s ++ [.l (acc.map D.t)]) = .ok (if p d then some (.t (e d)) else none) (s ++ [.l (acc.map D.t)])) → acc.length + ds.length < sizeLine →
    turns s.length f ds (s ++ [.l (acc.map D.t)]) = .ok () (s ++ [.l ((acc ++ (ds.filter p).map e).map D.t)])
  | [], acc, _, _ => by
    rw [List.filter_nil, List.map_nil, List.append_nil]
    rfl
  | d :: ds, acc, h, hl => by
    rw [List.length_cons] at hl
    have h1 := h d List.mem_cons_self acc
    have ih := fun acc hl => turns_fl s f p e ds acc (fun d hd => h d (List.mem_cons_of_mem _ hd)) hl
    show (f d (s ++ [.l (acc.map D.t)])).bind _ = _
    rw [h1, rb_ok]
    cases hp : p d with
    | false =>
      rw [List.filter_cons_of_neg (by simp [hp])]
      exact ih acc (by omega)
    | true =>
      rw [List.filter_cons_of_pos hp]
      have e1 : (acc.map D.t).length < sizeLine := by rw [List.length_map]; omega
      simp only [↓reduceIte, get_last, older, Bool.true_and, decide_eq_true e1, set_last]
      have := ih (acc ++ [e d]) (by rw [List.length_append, List.length_singleton]; omega)
      rw [List.map_append] at this
      rw [List.map_cons, List.append_cons acc (e d)]
      exact this
theorem ev_lc {g : G} {cell : Bool} {own : List (Str × Nat)} {elt : E} {tg : Tg} {it : Z.It} {cond : Eo} {σ : Sl} {s : S} {ds : List D} (p : D → Bool) (e : D → T) (hit : evI g it σ s = .ok (ds, none) s)
    (h : ∀ d ∈ ds, ∀ acc : List T, turnC g own elt tg cond σ d (s ++ [.l (acc.map D.t)]) = .ok (if p d then some (.t (e d)) else none) (s ++ [.l (acc.map D.t)])) (hl : ds.length < sizeLine) :
    ev g (.lc cell own elt tg it cond) σ s = if cell then .ok (.c s.length) (s ++ [.l (((ds.filter p).map e).map D.t)]) else .ok (.t (.lst ((ds.filter p).map e))) s := by
  show (evI g it σ s).bind (fun p s => (turns s.length (turnC g own elt tg cond σ) p.1 (lock s p.2 ++ [.l []])).bind fun _ s2 => lcEnd cell s.length (unlock s2 p.2)) = _
  rw [hit, rb_ok]
  have := turns_fl s (turnC g own elt tg cond σ) p e ds [] h (by rw [List.length_nil]; omega)
  rw [List.map_nil, List.nil_append] at this
  show (turns s.length (turnC g own elt tg cond σ) ds (s ++ [.l []])).bind _ = _
  rw [this, rb_ok]
  show lcEnd cell s.length (s ++ [.l (((ds.filter p).map e).map D.t)]) = _
  cases cell with
  | true =>
    show R.ok (D.c s.length) ((s ++ [C.l (((ds.filter p).map e).map D.t)]).take (s.length + 1)) = _
    rw [List.take_of_length_le (by rw [List.length_append, List.length_singleton]; exact Nat.le_refl _)]
    rfl
  | false =>
    simp only [lcEnd, Bool.false_eq_true, ↓reduceIte, get_last, take_last, trees_map, map_some, of_some]
/-! ### the spring is made -/
def pI (q : Int → Bool) : D → Bool
  | .t (.int i) => q i
  | _ => false
def eI : D → T
  | .t x => x
  | _ => .non
theorem filt (q : Int → Bool) : ∀ ns : List Int, ((ns.map fun n => D.t (.int n)).filter (pI q)).map eI = (ns.filter q).map T.int
  | [] => rfl
  | n :: ns => by
    have ih := filt q ns
    rw [List.map_cons]
    cases h : q n with
    | true => rw [List.filter_cons_of_pos (show pI q (.t (.int n)) = true from h), List.filter_cons_of_pos h, List.map_cons, List.map_cons, ih]; rfl
    | false => rw [List.filter_cons_of_neg (by show ¬ (q n = true); simp [h]), List.filter_cons_of_neg (by simp [h]), ih]
theorem pow18 : Z.binT .Pow (.int 10) (.int 18) = some (.int 1000000000000000000) := (rfl)
theorem ex_set {g : G} {tg : Tg} {e : E} {σ σ1 : Sl} {s s1 : S} {d : D} (h : ev g e σ s = .ok d s1) (h2 : setTg tg d σ = some σ1) : ex g (.set tg e) σ s = .nx σ1 s1 := by
  show (ev g e σ s).then σ (fun x s => match setTg tg x σ with
    | some σ1 => .nx σ1 s
    | none => .no) = _
  rw [h]
  show (match setTg tg d σ with
    | some σ1 => Z.O.nx σ1 s1
    | none => .no) = _
  rw [h2]
theorem ex_ret {g : G} {e : E} {σ : Sl} {s s1 : S} {d : D} (h : ev g e σ s = .ok d s1) : ex g (.ret e) σ s = .rt d s1 := by
  show (ev g e σ s).then σ (fun x s => .rt x s) = _
  rw [h]
  rfl
theorem ev_lst {g : G} {cell : Bool} {es : Es} {σ : Sl} {s s1 : S} {ds : List D} {r : R D} (h : evs g es σ s = .ok ds s1) (h2 : lstD cell s1 ds = r) : ev g (.lst cell es) σ s = r := by
  show (evs g es σ s).bind (fun ds s => lstD cell s ds) = _
  rw [h]
  exact h2
theorem evs_cons {g : G} {e : E} {es : Es} {σ : Sl} {s s1 s2 : S} {d : D} {ds : List D} (h : ev g e σ s = .ok d s1) (h2 : evs g es σ s1 = .ok ds s2) : evs g (.cons e es) σ s = .ok (d :: ds) s2 := by
  show (ev g e σ s).bind (fun x s => (evs g es σ s).bind fun xs s => .ok (x :: xs) s) = _
  rw [h]
  show (evs g es σ s1).bind (fun xs s => .ok (d :: xs) s) = _
  rw [h2]
  rfl
theorem fin_keep {F : Fn} {n0 : Nat} {d : D} {s : S} (h : F.keep = true) : fin F n0 (.rt d s) = .ok d s := by
  unfold fin
  rw [h]
  rfl
theorem lstD_c4 (s : S) (a b c d : D) : lstD true s [a, b, c, d] = .ok (.c s.length) (s ++ [.l [a, b, c, d]]) := lstD_c (by show 4 ≤ sizeLine; decide)
theorem r_spring (k : Nat) (ns : List Int) (hl : ns.length ≤ 63) : ∃ G sm, callN lib.ft lib.g0 (k + 1) 28 [.t (.scr ns)] [] = .ok (.c 1) (sp G 0 sm 0 []) := by
  have sz : (sizeLine : Nat) = 16777216 := by decide
  have hl : (ns.map fun n => D.t (.int n)).length < sizeLine := by rw [List.length_map]; omega
  refine ⟨ns.filter (fun i => decide (1000000000000000000 ≤ i)), ns.filter (fun i => decide (i < 1000000000000000000)), ?_⟩
  have w : ∀ s, walk s (.t (.scr ns)) = some (ns.map (fun n => D.t (.int n)), none) := fun _ => rfl
  have l1 : ∀ (g : G) (s : S), ev g (.lc false [("_law_cell", 2)] (.bi .int (.cons (.var 2) .nil)) (.name 2) (.val (.var 0)) (.yes (.cmp .Lt (.var 2) (.bin .Pow (.con (.int 10)) (.con (.int 18)))))) [some (.t (.scr ns)), none, none] s = .ok (.t (.lst ((ns.filter (fun i => decide (i < 1000000000000000000))).map T.int))) s := by
    intro g s
    rw [ev_lc (pI fun i => decide (i < 1000000000000000000)) eI (ds := ns.map fun n => D.t (.int n)) (by simp -implicitDefEqProofs only [exs, ex, ev, evs, evo, evC, rb_ok, rt_ok, of_some, lift2_t, view_t, subD_tup, subD_lst, at0, at1, at2, at3, subTT, addT, tupD2, fin_rt, fin_nx, cast0, cast1, cast2, cast3, cast4, cast5, Int.reduceLT, Int.reduceLE, Int.reduceEq, Int.reduceNe, decide_not, map_some, take_all, cmp_lt, cmp_le, cmp_gt, cmp_ge, cmp_eq, cmp_ne, tru_bl, setTg_name, setTg_tup, setTg_lst, setTgs_nil, setTgs_cons, decide_eq_true_eq, Option.bind_some, Option.bind_none, bl_not, is_non, isnt_non, cmpIs_tup, cmpIsN_tup, if_tt, if_ff, tru_int, reduceCtorEq, decide_true, decide_false, Bool.not_true, Bool.not_false, mm1, mm2, mm3, mapM1, mapM2, lstD_c0, lstD_t0, lstD_t1, lstD_t2, lstD_t3, isL_last, isi_int_non, isi_bool_non, isi_tuple_non, isi_list_non, isi_dict_non, isi_lt_non, isi_int_bl, isi_bool_bl, isi_tuple_bl, isi_list_bl, isi_dict_bl, isi_lt_bl, isi_int_int, isi_bool_int, isi_tuple_int, isi_list_int, isi_dict_int, isi_lt_int, isi_int_str, isi_bool_str, isi_tuple_str, isi_list_str, isi_dict_str, isi_lt_str, isi_int_tup, isi_bool_tup, isi_tuple_tup, isi_list_tup, isi_dict_tup, isi_lt_tup, isi_int_lst, isi_bool_lst, isi_tuple_lst, isi_list_lst, isi_dict_lst, isi_lt_lst, isi_int_dk, isi_bool_dk, isi_tuple_dk, isi_list_dk, isi_dict_dk, isi_lt_dk, tup_ty, lenT_lst, lenT_tup, intT, Bool.or_true, Bool.true_or, Bool.or_false, Bool.false_or, Bool.and_true, Bool.true_and, Bool.and_false, Bool.false_and, Z.isNon, not_true_eq_false, not_false_eq_true, Bool.not_eq_true, Bool.false_eq_true, Option.map_some, List.length_cons, List.length_nil, Nat.reduceAdd, ↓reduceIte, List.map_cons, List.map_nil, Nat.reduceSub, List.cons_append, List.nil_append, List.append_nil, List.replicate, List.set_cons_succ, List.set_cons_zero, Nat.reduceLT, gE_0, gE_s, df_0_1, df_1_2, df_2_2, df_3_1, df_4_1, df_5_1, df_6_1, df_7_1, df_8_1, df_10_1, df_14_1, df_15_1, df_16_1, df_17_2, df_18_2, df_25_1, df_25_2, df_26_1, df_27_2, df_28_1, df_29_2, df_30_2, df_31_2, df_32_2, df_33_2, df_34_2, df_35_2, df_36_2, df_37_2, df_38_2, df_39_2, df_40_2, df_41_2, df_42_1, df_43_1, df_44_1, df_45_2, evI, w]) ?_ hl, filt]
    · rfl
    · intro d hd acc
      obtain ⟨i, _, rfl⟩ := List.mem_map.mp hd
      rw [turnC_some (σ1 := [some (.t (.scr ns)), none, some (.t (.int i))]) rfl]
      show _ = R.ok (if decide (i < 1000000000000000000) = true then some (D.t (.int i)) else none) _
      by_cases c : i < 1000000000000000000
      · simp -implicitDefEqProofs only [exs, ex, ev, evs, evo, evC, rb_ok, rt_ok, of_some, lift2_t, view_t, subD_tup, subD_lst, at0, at1, at2, at3, subTT, addT, tupD2, fin_rt, fin_nx, cast0, cast1, cast2, cast3, cast4, cast5, Int.reduceLT, Int.reduceLE, Int.reduceEq, Int.reduceNe, decide_not, map_some, take_all, cmp_lt, cmp_le, cmp_gt, cmp_ge, cmp_eq, cmp_ne, tru_bl, setTg_name, setTg_tup, setTg_lst, setTgs_nil, setTgs_cons, decide_eq_true_eq, Option.bind_some, Option.bind_none, bl_not, is_non, isnt_non, cmpIs_tup, cmpIsN_tup, if_tt, if_ff, tru_int, reduceCtorEq, decide_true, decide_false, Bool.not_true, Bool.not_false, mm1, mm2, mm3, mapM1, mapM2, lstD_c0, lstD_t0, lstD_t1, lstD_t2, lstD_t3, isL_last, isi_int_non, isi_bool_non, isi_tuple_non, isi_list_non, isi_dict_non, isi_lt_non, isi_int_bl, isi_bool_bl, isi_tuple_bl, isi_list_bl, isi_dict_bl, isi_lt_bl, isi_int_int, isi_bool_int, isi_tuple_int, isi_list_int, isi_dict_int, isi_lt_int, isi_int_str, isi_bool_str, isi_tuple_str, isi_list_str, isi_dict_str, isi_lt_str, isi_int_tup, isi_bool_tup, isi_tuple_tup, isi_list_tup, isi_dict_tup, isi_lt_tup, isi_int_lst, isi_bool_lst, isi_tuple_lst, isi_list_lst, isi_dict_lst, isi_lt_lst, isi_int_dk, isi_bool_dk, isi_tuple_dk, isi_list_dk, isi_dict_dk, isi_lt_dk, tup_ty, lenT_lst, lenT_tup, intT, Bool.or_true, Bool.true_or, Bool.or_false, Bool.false_or, Bool.and_true, Bool.true_and, Bool.and_false, Bool.false_and, Z.isNon, not_true_eq_false, not_false_eq_true, Bool.not_eq_true, Bool.false_eq_true, Option.map_some, List.length_cons, List.length_nil, Nat.reduceAdd, ↓reduceIte, List.map_cons, List.map_nil, Nat.reduceSub, List.cons_append, List.nil_append, List.append_nil, List.replicate, List.set_cons_succ, List.set_cons_zero, Nat.reduceLT, gE_0, gE_s, df_0_1, df_1_2, df_2_2, df_3_1, df_4_1, df_5_1, df_6_1, df_7_1, df_8_1, df_10_1, df_14_1, df_15_1, df_16_1, df_17_2, df_18_2, df_25_1, df_25_2, df_26_1, df_27_2, df_28_1, df_29_2, df_30_2, df_31_2, df_32_2, df_33_2, df_34_2, df_35_2, df_36_2, df_37_2, df_38_2, df_39_2, df_40_2, df_41_2, df_42_1, df_43_1, df_44_1, df_45_2, evC, pow18, c, hold_ok]
      · simp -implicitDefEqProofs only [exs, ex, ev, evs, evo, evC, rb_ok, rt_ok, of_some, lift2_t, view_t, subD_tup, subD_lst, at0, at1, at2, at3, subTT, addT, tupD2, fin_rt, fin_nx, cast0, cast1, cast2, cast3, cast4, cast5, Int.reduceLT, Int.reduceLE, Int.reduceEq, Int.reduceNe, decide_not, map_some, take_all, cmp_lt, cmp_le, cmp_gt, cmp_ge, cmp_eq, cmp_ne, tru_bl, setTg_name, setTg_tup, setTg_lst, setTgs_nil, setTgs_cons, decide_eq_true_eq, Option.bind_some, Option.bind_none, bl_not, is_non, isnt_non, cmpIs_tup, cmpIsN_tup, if_tt, if_ff, tru_int, reduceCtorEq, decide_true, decide_false, Bool.not_true, Bool.not_false, mm1, mm2, mm3, mapM1, mapM2, lstD_c0, lstD_t0, lstD_t1, lstD_t2, lstD_t3, isL_last, isi_int_non, isi_bool_non, isi_tuple_non, isi_list_non, isi_dict_non, isi_lt_non, isi_int_bl, isi_bool_bl, isi_tuple_bl, isi_list_bl, isi_dict_bl, isi_lt_bl, isi_int_int, isi_bool_int, isi_tuple_int, isi_list_int, isi_dict_int, isi_lt_int, isi_int_str, isi_bool_str, isi_tuple_str, isi_list_str, isi_dict_str, isi_lt_str, isi_int_tup, isi_bool_tup, isi_tuple_tup, isi_list_tup, isi_dict_tup, isi_lt_tup, isi_int_lst, isi_bool_lst, isi_tuple_lst, isi_list_lst, isi_dict_lst, isi_lt_lst, isi_int_dk, isi_bool_dk, isi_tuple_dk, isi_list_dk, isi_dict_dk, isi_lt_dk, tup_ty, lenT_lst, lenT_tup, intT, Bool.or_true, Bool.true_or, Bool.or_false, Bool.false_or, Bool.and_true, Bool.true_and, Bool.and_false, Bool.false_and, Z.isNon, not_true_eq_false, not_false_eq_true, Bool.not_eq_true, Bool.false_eq_true, Option.map_some, List.length_cons, List.length_nil, Nat.reduceAdd, ↓reduceIte, List.map_cons, List.map_nil, Nat.reduceSub, List.cons_append, List.nil_append, List.append_nil, List.replicate, List.set_cons_succ, List.set_cons_zero, Nat.reduceLT, gE_0, gE_s, df_0_1, df_1_2, df_2_2, df_3_1, df_4_1, df_5_1, df_6_1, df_7_1, df_8_1, df_10_1, df_14_1, df_15_1, df_16_1, df_17_2, df_18_2, df_25_1, df_25_2, df_26_1, df_27_2, df_28_1, df_29_2, df_30_2, df_31_2, df_32_2, df_33_2, df_34_2, df_35_2, df_36_2, df_37_2, df_38_2, df_39_2, df_40_2, df_41_2, df_42_1, df_43_1, df_44_1, df_45_2, evC, pow18, c, hold_ok]
  have l2 : ∀ (g : G) (x : D) (s : S), ev g (.lc true [("_law_cell", 2)] (.bi .int (.cons (.var 2) .nil)) (.name 2) (.val (.var 0)) (.yes (.cmp .GtE (.var 2) (.bin .Pow (.con (.int 10)) (.con (.int 18)))))) [some (.t (.scr ns)), some x, none] s = .ok (.c s.length) (s ++ [.l (((ns.filter (fun i => decide (1000000000000000000 ≤ i))).map T.int).map D.t)]) := by
    intro g x s
    rw [ev_lc (pI fun i => decide (1000000000000000000 ≤ i)) eI (ds := ns.map fun n => D.t (.int n)) (by simp -implicitDefEqProofs only [exs, ex, ev, evs, evo, evC, rb_ok, rt_ok, of_some, lift2_t, view_t, subD_tup, subD_lst, at0, at1, at2, at3, subTT, addT, tupD2, fin_rt, fin_nx, cast0, cast1, cast2, cast3, cast4, cast5, Int.reduceLT, Int.reduceLE, Int.reduceEq, Int.reduceNe, decide_not, map_some, take_all, cmp_lt, cmp_le, cmp_gt, cmp_ge, cmp_eq, cmp_ne, tru_bl, setTg_name, setTg_tup, setTg_lst, setTgs_nil, setTgs_cons, decide_eq_true_eq, Option.bind_some, Option.bind_none, bl_not, is_non, isnt_non, cmpIs_tup, cmpIsN_tup, if_tt, if_ff, tru_int, reduceCtorEq, decide_true, decide_false, Bool.not_true, Bool.not_false, mm1, mm2, mm3, mapM1, mapM2, lstD_c0, lstD_t0, lstD_t1, lstD_t2, lstD_t3, isL_last, isi_int_non, isi_bool_non, isi_tuple_non, isi_list_non, isi_dict_non, isi_lt_non, isi_int_bl, isi_bool_bl, isi_tuple_bl, isi_list_bl, isi_dict_bl, isi_lt_bl, isi_int_int, isi_bool_int, isi_tuple_int, isi_list_int, isi_dict_int, isi_lt_int, isi_int_str, isi_bool_str, isi_tuple_str, isi_list_str, isi_dict_str, isi_lt_str, isi_int_tup, isi_bool_tup, isi_tuple_tup, isi_list_tup, isi_dict_tup, isi_lt_tup, isi_int_lst, isi_bool_lst, isi_tuple_lst, isi_list_lst, isi_dict_lst, isi_lt_lst, isi_int_dk, isi_bool_dk, isi_tuple_dk, isi_list_dk, isi_dict_dk, isi_lt_dk, tup_ty, lenT_lst, lenT_tup, intT, Bool.or_true, Bool.true_or, Bool.or_false, Bool.false_or, Bool.and_true, Bool.true_and, Bool.and_false, Bool.false_and, Z.isNon, not_true_eq_false, not_false_eq_true, Bool.not_eq_true, Bool.false_eq_true, Option.map_some, List.length_cons, List.length_nil, Nat.reduceAdd, ↓reduceIte, List.map_cons, List.map_nil, Nat.reduceSub, List.cons_append, List.nil_append, List.append_nil, List.replicate, List.set_cons_succ, List.set_cons_zero, Nat.reduceLT, gE_0, gE_s, df_0_1, df_1_2, df_2_2, df_3_1, df_4_1, df_5_1, df_6_1, df_7_1, df_8_1, df_10_1, df_14_1, df_15_1, df_16_1, df_17_2, df_18_2, df_25_1, df_25_2, df_26_1, df_27_2, df_28_1, df_29_2, df_30_2, df_31_2, df_32_2, df_33_2, df_34_2, df_35_2, df_36_2, df_37_2, df_38_2, df_39_2, df_40_2, df_41_2, df_42_1, df_43_1, df_44_1, df_45_2, evI, w]) ?_ hl, filt]
    · rfl
    · intro d hd acc
      obtain ⟨i, _, rfl⟩ := List.mem_map.mp hd
      rw [turnC_some (σ1 := [some (.t (.scr ns)), some x, some (.t (.int i))]) rfl]
      show _ = R.ok (if decide (1000000000000000000 ≤ i) = true then some (D.t (.int i)) else none) _
      by_cases c : 1000000000000000000 ≤ i
      · simp -implicitDefEqProofs only [exs, ex, ev, evs, evo, evC, rb_ok, rt_ok, of_some, lift2_t, view_t, subD_tup, subD_lst, at0, at1, at2, at3, subTT, addT, tupD2, fin_rt, fin_nx, cast0, cast1, cast2, cast3, cast4, cast5, Int.reduceLT, Int.reduceLE, Int.reduceEq, Int.reduceNe, decide_not, map_some, take_all, cmp_lt, cmp_le, cmp_gt, cmp_ge, cmp_eq, cmp_ne, tru_bl, setTg_name, setTg_tup, setTg_lst, setTgs_nil, setTgs_cons, decide_eq_true_eq, Option.bind_some, Option.bind_none, bl_not, is_non, isnt_non, cmpIs_tup, cmpIsN_tup, if_tt, if_ff, tru_int, reduceCtorEq, decide_true, decide_false, Bool.not_true, Bool.not_false, mm1, mm2, mm3, mapM1, mapM2, lstD_c0, lstD_t0, lstD_t1, lstD_t2, lstD_t3, isL_last, isi_int_non, isi_bool_non, isi_tuple_non, isi_list_non, isi_dict_non, isi_lt_non, isi_int_bl, isi_bool_bl, isi_tuple_bl, isi_list_bl, isi_dict_bl, isi_lt_bl, isi_int_int, isi_bool_int, isi_tuple_int, isi_list_int, isi_dict_int, isi_lt_int, isi_int_str, isi_bool_str, isi_tuple_str, isi_list_str, isi_dict_str, isi_lt_str, isi_int_tup, isi_bool_tup, isi_tuple_tup, isi_list_tup, isi_dict_tup, isi_lt_tup, isi_int_lst, isi_bool_lst, isi_tuple_lst, isi_list_lst, isi_dict_lst, isi_lt_lst, isi_int_dk, isi_bool_dk, isi_tuple_dk, isi_list_dk, isi_dict_dk, isi_lt_dk, tup_ty, lenT_lst, lenT_tup, intT, Bool.or_true, Bool.true_or, Bool.or_false, Bool.false_or, Bool.and_true, Bool.true_and, Bool.and_false, Bool.false_and, Z.isNon, not_true_eq_false, not_false_eq_true, Bool.not_eq_true, Bool.false_eq_true, Option.map_some, List.length_cons, List.length_nil, Nat.reduceAdd, ↓reduceIte, List.map_cons, List.map_nil, Nat.reduceSub, List.cons_append, List.nil_append, List.append_nil, List.replicate, List.set_cons_succ, List.set_cons_zero, Nat.reduceLT, gE_0, gE_s, df_0_1, df_1_2, df_2_2, df_3_1, df_4_1, df_5_1, df_6_1, df_7_1, df_8_1, df_10_1, df_14_1, df_15_1, df_16_1, df_17_2, df_18_2, df_25_1, df_25_2, df_26_1, df_27_2, df_28_1, df_29_2, df_30_2, df_31_2, df_32_2, df_33_2, df_34_2, df_35_2, df_36_2, df_37_2, df_38_2, df_39_2, df_40_2, df_41_2, df_42_1, df_43_1, df_44_1, df_45_2, evC, pow18, c, hold_ok]
      · simp -implicitDefEqProofs only [exs, ex, ev, evs, evo, evC, rb_ok, rt_ok, of_some, lift2_t, view_t, subD_tup, subD_lst, at0, at1, at2, at3, subTT, addT, tupD2, fin_rt, fin_nx, cast0, cast1, cast2, cast3, cast4, cast5, Int.reduceLT, Int.reduceLE, Int.reduceEq, Int.reduceNe, decide_not, map_some, take_all, cmp_lt, cmp_le, cmp_gt, cmp_ge, cmp_eq, cmp_ne, tru_bl, setTg_name, setTg_tup, setTg_lst, setTgs_nil, setTgs_cons, decide_eq_true_eq, Option.bind_some, Option.bind_none, bl_not, is_non, isnt_non, cmpIs_tup, cmpIsN_tup, if_tt, if_ff, tru_int, reduceCtorEq, decide_true, decide_false, Bool.not_true, Bool.not_false, mm1, mm2, mm3, mapM1, mapM2, lstD_c0, lstD_t0, lstD_t1, lstD_t2, lstD_t3, isL_last, isi_int_non, isi_bool_non, isi_tuple_non, isi_list_non, isi_dict_non, isi_lt_non, isi_int_bl, isi_bool_bl, isi_tuple_bl, isi_list_bl, isi_dict_bl, isi_lt_bl, isi_int_int, isi_bool_int, isi_tuple_int, isi_list_int, isi_dict_int, isi_lt_int, isi_int_str, isi_bool_str, isi_tuple_str, isi_list_str, isi_dict_str, isi_lt_str, isi_int_tup, isi_bool_tup, isi_tuple_tup, isi_list_tup, isi_dict_tup, isi_lt_tup, isi_int_lst, isi_bool_lst, isi_tuple_lst, isi_list_lst, isi_dict_lst, isi_lt_lst, isi_int_dk, isi_bool_dk, isi_tuple_dk, isi_list_dk, isi_dict_dk, isi_lt_dk, tup_ty, lenT_lst, lenT_tup, intT, Bool.or_true, Bool.true_or, Bool.or_false, Bool.false_or, Bool.and_true, Bool.true_and, Bool.and_false, Bool.false_and, Z.isNon, not_true_eq_false, not_false_eq_true, Bool.not_eq_true, Bool.false_eq_true, Option.map_some, List.length_cons, List.length_nil, Nat.reduceAdd, ↓reduceIte, List.map_cons, List.map_nil, Nat.reduceSub, List.cons_append, List.nil_append, List.append_nil, List.replicate, List.set_cons_succ, List.set_cons_zero, Nat.reduceLT, gE_0, gE_s, df_0_1, df_1_2, df_2_2, df_3_1, df_4_1, df_5_1, df_6_1, df_7_1, df_8_1, df_10_1, df_14_1, df_15_1, df_16_1, df_17_2, df_18_2, df_25_1, df_25_2, df_26_1, df_27_2, df_28_1, df_29_2, df_30_2, df_31_2, df_32_2, df_33_2, df_34_2, df_35_2, df_36_2, df_37_2, df_38_2, df_39_2, df_40_2, df_41_2, df_42_1, df_43_1, df_44_1, df_45_2, evC, pow18, c, hold_ok]
  generalize ns.filter (fun i => decide (i < 1000000000000000000)) = sm at *
  generalize ns.filter (fun i => decide (1000000000000000000 ≤ i)) = G at *
  have eG : (G.map T.int).map D.t = G.map fun i => D.t (.int i) := by rw [List.map_map]; rfl
  rw [eG] at l2
  clear w hl eG
  rw [callN_succ (F := F28) rfl]; simp -implicitDefEqProofs only [callF, F28, List.length_cons, List.length_nil, Nat.reduceAdd, ↓reduceIte, List.map_cons, List.map_nil, Nat.reduceSub, List.cons_append, List.nil_append, List.append_nil, List.replicate, List.set_cons_succ, List.set_cons_zero, Nat.reduceLT, gE_0, gE_s]
  refine fin_eq (o' := .rt (.c 1) (sp G 0 sm 0 [])) ?_ (fin_keep rfl)
  refine exs_nx (Q := fun o => o = Z.O.rt (.c 1) (sp G 0 sm 0 [])) (σ1 := [some (.t (.scr ns)), some (.t (.lst (sm.map T.int))), none]) (s1 := []) (ex_set (l1 _ _) rfl) ?_
  have e2 : ev { lib.g0 with call := callN lib.ft lib.g0 k } (.lst true (.cons (.lc true [("_law_cell", 2)] (.bi .int (.cons (.var 2) .nil)) (.name 2) (.val (.var 0)) (.yes (.cmp .GtE (.var 2) (.bin .Pow (.con (.int 10)) (.con (.int 18)))))) (.cons (.con (.int 0)) (.cons (.var 1) (.cons (.con (.int 0)) .nil))))) [some (.t (.scr ns)), some (.t (.lst (sm.map T.int))), none] [] = .ok (.c 1) (sp G 0 sm 0 []) := by
    refine ev_lst (evs_cons (l2 _ _ _) (evs_cons rfl (evs_cons rfl (evs_cons rfl rfl)))) ?_
    rw [lstD_c4]
    rfl
  exact exs_rt (Q := fun o => o = Z.O.rt (.c 1) (sp G 0 sm 0 [])) (d := .c 1) (s1 := sp G 0 sm 0 []) (ex_ret e2) rfl
end Lw
end Z
end
section
set_option Elab.async false
set_option linter.all false
set_option maxRecDepth 100000
set_option maxHeartbeats 4000000
namespace Z
namespace Lw

open PySem L2 Zr
/-! ### a row of shares is drawn -/
abbrev L8 : List T := [.tup [.int 1, .int 4], .tup [.int 2, .int 9], .tup [.int 1, .int 5], .tup [.int 1, .int 6], .tup [.int 3, .int 10], .tup [.int 1, .int 3], .tup [.int 0, .int 1], .tup [.int 1, .int 9]]
theorem shr_lit {a b : Int} (h : (decide (0 ≤ a) && decide (a ≤ b) && decide (0 < b) && decide (Rw9.low (a, b) = (a, b)) && decide (a.natAbs < 262144) && decide (b.natAbs < 262144)) = true) : Shr (a, b) := by
  simp only [Bool.and_eq_true, decide_eq_true_eq] at h
  obtain ⟨⟨⟨⟨⟨h1, h2⟩, h3⟩, h4⟩, h5⟩, h6⟩ := h
  exact ⟨⟨h1, h2, h3⟩, h4, bd_lit _ (Nat.le_refl _) h5, bd_lit _ (Nat.le_refl _) h6⟩
theorem L8_mem {t : T} (h : t ∈ L8) : ∃ p, t = fr p ∧ Shr p := by
  simp only [L8, List.mem_cons, List.not_mem_nil, or_false] at h
  rcases h with rfl | rfl | rfl | rfl | rfl | rfl | rfl | rfl
  · exact ⟨(1, 4), rfl, shr_lit (by decide +kernel)⟩
  · exact ⟨(2, 9), rfl, shr_lit (by decide +kernel)⟩
  · exact ⟨(1, 5), rfl, shr_lit (by decide +kernel)⟩
  · exact ⟨(1, 6), rfl, shr_lit (by decide +kernel)⟩
  · exact ⟨(3, 10), rfl, shr_lit (by decide +kernel)⟩
  · exact ⟨(1, 3), rfl, shr_lit (by decide +kernel)⟩
  · exact ⟨(0, 1), rfl, shr_lit (by decide +kernel)⟩
  · exact ⟨(1, 9), rfl, shr_lit (by decide +kernel)⟩
theorem lstD_t8 (s : S) (a b c d e f g h : T) : lstD false s [.t a, .t b, .t c, .t d, .t e, .t f, .t g, .t h] = .ok (.t (.lst [a, b, c, d, e, f, g, h])) s := (rfl)
section
variable (G : List Int) (f : Int) (sm : List Int) (n : Int)
theorem sp_len0 : (sp G f sm n []).length = 2 := (rfl)
theorem sp_new : sp G f sm n [] ++ [.l []] = sp G f sm n [.l []] := (rfl)
theorem isL_2 (ds : List D) : isL (sp G f sm n [.l ds]) (.c 2) = true := (rfl)
theorem app_2 {ds : List D} {x : T} (h : ds.length < sizeLine) : appD (sp G f sm n [.l ds]) (.c 2) (.t x) = .ok (.t .non) (sp G f sm n [.l (ds ++ [.t x])]) := by
  show (if (true && decide (ds.length < sizeLine)) = true then R.ok (D.t .non) (sp G f sm n [.l (ds ++ [.t x])]) else .no) = _
  rw [decide_eq_true h]
  rfl
theorem view_2 (xs : List T) : view (sp G f sm n [.l (xs.map D.t)]) (.c 2) = some (.lst xs) := by
  show (trees (xs.map D.t)).map T.lst = _
  rw [trees_map]
  rfl
theorem mapM_2 (xs : List T) : ([D.c 2] : List D).mapM (view (sp G f sm n [.l (xs.map D.t)])) = some [.lst xs] := by
  rw [List.mapM_cons, view_2]
  rfl
theorem frz_2 (xs : List T) : frzD (sp G f sm n [.l (xs.map D.t)]) (.c 2) = .ok (.t (.lst xs)) (sp G f sm n [.x]) := by
  show (match trees (xs.map D.t) with
      | some xs => R.ok (D.t (.lst xs)) (sp G f sm n [.x])
      | none => .no) = _
  rw [trees_map]
theorem sp_take1 (G' : List Int) (f' : Int) (n' : Int) (c : C) : (sp G' f' sm n' [c]).take (sp G f sm n []).length = sp G' f' sm n' [] := (rfl)
end
theorem slc3 {A : List P2} (h : A.length = 3) : slcT (.lst (A.map fr)) none (some 3) = some (.lst (A.map fr)) := by
  have := slc_to (ds := A.map fr) (n := 3) (by rw [List.length_map, h]; exact Nat.le_refl _)
  rw [List.take_of_length_le (by rw [List.length_map, h]; exact Nat.le_refl _)] at this
  exact this
theorem mul2 {A : List P2} (h : A.length = 3) : Z.binT .Mult (.lst (A.map fr)) (.int 2) = some (.lst ((A ++ A).map fr)) := by
  have sz : (sizeLine : Nat) = 16777216 := by decide
  have := mulL (a := A.map fr) (k := 2) (by rw [List.length_map, h]; omega) (by omega)
  rw [List.map_append]
  refine Eq.trans this ?_
  congr 2
  show A.map fr ++ (A.map fr ++ []) = _
  rw [List.append_nil]
/-- shares of a row that was drawn -/
structure Good (A : List P2) : Prop where
  sh : ∀ s ∈ A, Shr s
  ne : A ≠ []
  ln : A.length ≤ 6
def QR (sm : List Int) (n : Int) (o : Z.O) : Prop := ∃ (A : List P2) (G' : List Int) (f' n' : Int) (c : C), o = Z.O.rt (.t (.lst (A.map fr))) (sp G' f' sm n' [c]) ∧ Good A ∧ n ≤ n' ∧ n' ≤ n + 20
theorem r_rows (k : Nat) (G : List Int) (f : Int) (sm : List Int) (n : Int) (h0 : 0 ≤ n) (hn : n < 900000) :
    ∃ A G' f' n', callN lib.ft lib.g0 (k + 3) 42 [.c 1] (sp G f sm n []) = .ok (.t (.lst (A.map fr))) (sp G' f' sm n' []) ∧ Good A ∧ n ≤ n' ∧ n' ≤ n + 20 := by
  have key : QR sm n (exs { lib.g0 with call := callN lib.ft lib.g0 (k + 2) } F42.body [some (.c 1), none, none, none, none] (sp G f sm n [])) := by
    unfold F42
    dsimp only
    obtain ⟨w, G1, f1, e1, w1, w2⟩ := tk (k + 1) 4 G f sm n [] (by decide) (bd_lit 100 (by decide) (by decide)) h0 (by omega)
    refine exs_nx (Q := QR sm n) (σ1 := [some (.c 1), some (.t (.int w)), none, none, none]) (s1 := sp G1 f1 sm (n + 1) []) (by simp -implicitDefEqProofs only [exs, ex, ev, evs, evo, evC, rb_ok, rt_ok, of_some, lift2_t, view_t, subD_tup, subD_lst, at0, at1, at2, at3, subTT, addT, tupD2, fin_rt, fin_nx, cast0, cast1, cast2, cast3, cast4, cast5, Int.reduceLT, Int.reduceLE, Int.reduceEq, Int.reduceNe, decide_not, map_some, take_all, cmp_lt, cmp_le, cmp_gt, cmp_ge, cmp_eq, cmp_ne, tru_bl, setTg_name, setTg_tup, setTg_lst, setTgs_nil, setTgs_cons, decide_eq_true_eq, Option.bind_some, Option.bind_none, bl_not, is_non, isnt_non, cmpIs_tup, cmpIsN_tup, if_tt, if_ff, tru_int, reduceCtorEq, decide_true, decide_false, Bool.not_true, Bool.not_false, mm1, mm2, mm3, mapM1, mapM2, lstD_c0, lstD_t0, lstD_t1, lstD_t2, lstD_t3, isL_last, isi_int_non, isi_bool_non, isi_tuple_non, isi_list_non, isi_dict_non, isi_lt_non, isi_int_bl, isi_bool_bl, isi_tuple_bl, isi_list_bl, isi_dict_bl, isi_lt_bl, isi_int_int, isi_bool_int, isi_tuple_int, isi_list_int, isi_dict_int, isi_lt_int, isi_int_str, isi_bool_str, isi_tuple_str, isi_list_str, isi_dict_str, isi_lt_str, isi_int_tup, isi_bool_tup, isi_tuple_tup, isi_list_tup, isi_dict_tup, isi_lt_tup, isi_int_lst, isi_bool_lst, isi_tuple_lst, isi_list_lst, isi_dict_lst, isi_lt_lst, isi_int_dk, isi_bool_dk, isi_tuple_dk, isi_list_dk, isi_dict_dk, isi_lt_dk, tup_ty, lenT_lst, lenT_tup, intT, Bool.or_true, Bool.true_or, Bool.or_false, Bool.false_or, Bool.and_true, Bool.true_and, Bool.and_false, Bool.false_and, Z.isNon, not_true_eq_false, not_false_eq_true, Bool.not_eq_true, Bool.false_eq_true, Option.map_some, List.length_cons, List.length_nil, Nat.reduceAdd, ↓reduceIte, List.map_cons, List.map_nil, Nat.reduceSub, List.cons_append, List.nil_append, List.append_nil, List.replicate, List.set_cons_succ, List.set_cons_zero, Nat.reduceLT, gE_0, gE_s, df_0_1, df_1_2, df_2_2, df_3_1, df_4_1, df_5_1, df_6_1, df_7_1, df_8_1, df_10_1, df_14_1, df_15_1, df_16_1, df_17_2, df_18_2, df_25_1, df_25_2, df_26_1, df_27_2, df_28_1, df_29_2, df_30_2, df_31_2, df_32_2, df_33_2, df_34_2, df_35_2, df_36_2, df_37_2, df_38_2, df_39_2, df_40_2, df_41_2, df_42_1, df_43_1, df_44_1, df_45_2, e1]) ?_
    clear e1
    refine exs_nx (Q := QR sm n) (σ1 := [some (.c 1), some (.t (.int w)), some (.t (.lst L8)), none, none]) (s1 := sp G1 f1 sm (n + 1) []) (by simp -implicitDefEqProofs only [exs, ex, ev, evs, evo, evC, rb_ok, rt_ok, of_some, lift2_t, view_t, subD_tup, subD_lst, at0, at1, at2, at3, subTT, addT, tupD2, fin_rt, fin_nx, cast0, cast1, cast2, cast3, cast4, cast5, Int.reduceLT, Int.reduceLE, Int.reduceEq, Int.reduceNe, decide_not, map_some, take_all, cmp_lt, cmp_le, cmp_gt, cmp_ge, cmp_eq, cmp_ne, tru_bl, setTg_name, setTg_tup, setTg_lst, setTgs_nil, setTgs_cons, decide_eq_true_eq, Option.bind_some, Option.bind_none, bl_not, is_non, isnt_non, cmpIs_tup, cmpIsN_tup, if_tt, if_ff, tru_int, reduceCtorEq, decide_true, decide_false, Bool.not_true, Bool.not_false, mm1, mm2, mm3, mapM1, mapM2, lstD_c0, lstD_t0, lstD_t1, lstD_t2, lstD_t3, isL_last, isi_int_non, isi_bool_non, isi_tuple_non, isi_list_non, isi_dict_non, isi_lt_non, isi_int_bl, isi_bool_bl, isi_tuple_bl, isi_list_bl, isi_dict_bl, isi_lt_bl, isi_int_int, isi_bool_int, isi_tuple_int, isi_list_int, isi_dict_int, isi_lt_int, isi_int_str, isi_bool_str, isi_tuple_str, isi_list_str, isi_dict_str, isi_lt_str, isi_int_tup, isi_bool_tup, isi_tuple_tup, isi_list_tup, isi_dict_tup, isi_lt_tup, isi_int_lst, isi_bool_lst, isi_tuple_lst, isi_list_lst, isi_dict_lst, isi_lt_lst, isi_int_dk, isi_bool_dk, isi_tuple_dk, isi_list_dk, isi_dict_dk, isi_lt_dk, tup_ty, lenT_lst, lenT_tup, intT, Bool.or_true, Bool.true_or, Bool.or_false, Bool.false_or, Bool.and_true, Bool.true_and, Bool.and_false, Bool.false_and, Z.isNon, not_true_eq_false, not_false_eq_true, Bool.not_eq_true, Bool.false_eq_true, Option.map_some, List.length_cons, List.length_nil, Nat.reduceAdd, ↓reduceIte, List.map_cons, List.map_nil, Nat.reduceSub, List.cons_append, List.nil_append, List.append_nil, List.replicate, List.set_cons_succ, List.set_cons_zero, Nat.reduceLT, gE_0, gE_s, df_0_1, df_1_2, df_2_2, df_3_1, df_4_1, df_5_1, df_6_1, df_7_1, df_8_1, df_10_1, df_14_1, df_15_1, df_16_1, df_17_2, df_18_2, df_25_1, df_25_2, df_26_1, df_27_2, df_28_1, df_29_2, df_30_2, df_31_2, df_32_2, df_33_2, df_34_2, df_35_2, df_36_2, df_37_2, df_38_2, df_39_2, df_40_2, df_41_2, df_42_1, df_43_1, df_44_1, df_45_2, lstD_t8]) ?_
    refine exs_nx (Q := QR sm n) (σ1 := [some (.c 1), some (.t (.int w)), some (.t (.lst L8)), some (.c 2), none]) (s1 := sp G1 f1 sm (n + 1) [.l []]) (by simp -implicitDefEqProofs only [exs, ex, ev, evs, evo, evC, rb_ok, rt_ok, of_some, lift2_t, view_t, subD_tup, subD_lst, at0, at1, at2, at3, subTT, addT, tupD2, fin_rt, fin_nx, cast0, cast1, cast2, cast3, cast4, cast5, Int.reduceLT, Int.reduceLE, Int.reduceEq, Int.reduceNe, decide_not, map_some, take_all, cmp_lt, cmp_le, cmp_gt, cmp_ge, cmp_eq, cmp_ne, tru_bl, setTg_name, setTg_tup, setTg_lst, setTgs_nil, setTgs_cons, decide_eq_true_eq, Option.bind_some, Option.bind_none, bl_not, is_non, isnt_non, cmpIs_tup, cmpIsN_tup, if_tt, if_ff, tru_int, reduceCtorEq, decide_true, decide_false, Bool.not_true, Bool.not_false, mm1, mm2, mm3, mapM1, mapM2, lstD_c0, lstD_t0, lstD_t1, lstD_t2, lstD_t3, isL_last, isi_int_non, isi_bool_non, isi_tuple_non, isi_list_non, isi_dict_non, isi_lt_non, isi_int_bl, isi_bool_bl, isi_tuple_bl, isi_list_bl, isi_dict_bl, isi_lt_bl, isi_int_int, isi_bool_int, isi_tuple_int, isi_list_int, isi_dict_int, isi_lt_int, isi_int_str, isi_bool_str, isi_tuple_str, isi_list_str, isi_dict_str, isi_lt_str, isi_int_tup, isi_bool_tup, isi_tuple_tup, isi_list_tup, isi_dict_tup, isi_lt_tup, isi_int_lst, isi_bool_lst, isi_tuple_lst, isi_list_lst, isi_dict_lst, isi_lt_lst, isi_int_dk, isi_bool_dk, isi_tuple_dk, isi_list_dk, isi_dict_dk, isi_lt_dk, tup_ty, lenT_lst, lenT_tup, intT, Bool.or_true, Bool.true_or, Bool.or_false, Bool.false_or, Bool.and_true, Bool.true_and, Bool.and_false, Bool.false_and, Z.isNon, not_true_eq_false, not_false_eq_true, Bool.not_eq_true, Bool.false_eq_true, Option.map_some, List.length_cons, List.length_nil, Nat.reduceAdd, ↓reduceIte, List.map_cons, List.map_nil, Nat.reduceSub, List.cons_append, List.nil_append, List.append_nil, List.replicate, List.set_cons_succ, List.set_cons_zero, Nat.reduceLT, gE_0, gE_s, df_0_1, df_1_2, df_2_2, df_3_1, df_4_1, df_5_1, df_6_1, df_7_1, df_8_1, df_10_1, df_14_1, df_15_1, df_16_1, df_17_2, df_18_2, df_25_1, df_25_2, df_26_1, df_27_2, df_28_1, df_29_2, df_30_2, df_31_2, df_32_2, df_33_2, df_34_2, df_35_2, df_36_2, df_37_2, df_38_2, df_39_2, df_40_2, df_41_2, df_42_1, df_43_1, df_44_1, df_45_2, sp_len0, sp_new]) ?_
    obtain ⟨v, G2, f2, e2, v1, v2⟩ := tk (k + 1) 6 G1 f1 sm (n + 1) [.l []] (by decide) (bd_lit 100 (by decide) (by decide)) (by omega) (by omega)
    have hsm : smallI (1 + v) = true := by
      unfold smallI
      simp
      omega
    refine exs_for (Q := QR sm n) (ds := upI 0 (1 + v).toNat) (u := none) (s1 := sp G2 f2 sm (n + 1 + 1) [.l []])
      (fun i σ s => ∃ (A : List P2) (G : List Int) (f n' : Int) (a : Option D), s = sp G f sm n' [.l ((A.map fr).map D.t)] ∧ σ = [some (.c 1), some (.t (.int w)), some (.t (.lst L8)), some (.c 2), a] ∧ A.length = i ∧ (∀ s ∈ A, Shr s) ∧ n + 1 + 1 ≤ n' ∧ n' ≤ n + 1 + 1 + 2 * (i : Int))
      (by simp -implicitDefEqProofs only [exs, ex, ev, evs, evo, evC, rb_ok, rt_ok, of_some, lift2_t, view_t, subD_tup, subD_lst, at0, at1, at2, at3, subTT, addT, tupD2, fin_rt, fin_nx, cast0, cast1, cast2, cast3, cast4, cast5, Int.reduceLT, Int.reduceLE, Int.reduceEq, Int.reduceNe, decide_not, map_some, take_all, cmp_lt, cmp_le, cmp_gt, cmp_ge, cmp_eq, cmp_ne, tru_bl, setTg_name, setTg_tup, setTg_lst, setTgs_nil, setTgs_cons, decide_eq_true_eq, Option.bind_some, Option.bind_none, bl_not, is_non, isnt_non, cmpIs_tup, cmpIsN_tup, if_tt, if_ff, tru_int, reduceCtorEq, decide_true, decide_false, Bool.not_true, Bool.not_false, mm1, mm2, mm3, mapM1, mapM2, lstD_c0, lstD_t0, lstD_t1, lstD_t2, lstD_t3, isL_last, isi_int_non, isi_bool_non, isi_tuple_non, isi_list_non, isi_dict_non, isi_lt_non, isi_int_bl, isi_bool_bl, isi_tuple_bl, isi_list_bl, isi_dict_bl, isi_lt_bl, isi_int_int, isi_bool_int, isi_tuple_int, isi_list_int, isi_dict_int, isi_lt_int, isi_int_str, isi_bool_str, isi_tuple_str, isi_list_str, isi_dict_str, isi_lt_str, isi_int_tup, isi_bool_tup, isi_tuple_tup, isi_list_tup, isi_dict_tup, isi_lt_tup, isi_int_lst, isi_bool_lst, isi_tuple_lst, isi_list_lst, isi_dict_lst, isi_lt_lst, isi_int_dk, isi_bool_dk, isi_tuple_dk, isi_list_dk, isi_dict_dk, isi_lt_dk, tup_ty, lenT_lst, lenT_tup, intT, Bool.or_true, Bool.true_or, Bool.or_false, Bool.false_or, Bool.and_true, Bool.true_and, Bool.and_false, Bool.false_and, Z.isNon, not_true_eq_false, not_false_eq_true, Bool.not_eq_true, Bool.false_eq_true, Option.map_some, List.length_cons, List.length_nil, Nat.reduceAdd, ↓reduceIte, List.map_cons, List.map_nil, Nat.reduceSub, List.cons_append, List.nil_append, List.append_nil, List.replicate, List.set_cons_succ, List.set_cons_zero, Nat.reduceLT, gE_0, gE_s, df_0_1, df_1_2, df_2_2, df_3_1, df_4_1, df_5_1, df_6_1, df_7_1, df_8_1, df_10_1, df_14_1, df_15_1, df_16_1, df_17_2, df_18_2, df_25_1, df_25_2, df_26_1, df_27_2, df_28_1, df_29_2, df_30_2, df_31_2, df_32_2, df_33_2, df_34_2, df_35_2, df_36_2, df_37_2, df_38_2, df_39_2, df_40_2, df_41_2, df_42_1, df_43_1, df_44_1, df_45_2, evI, e2, hsm]) ⟨[], G2, f2, n + 1 + 1, none, rfl, rfl, rfl, (fun _ h => nomatch h), by omega, by omega⟩ ?_ ?_
    · rintro j d σ s hd ⟨A, G, f, n', a, rfl, rfl, hA, hS, q1, q2⟩
      obtain ⟨rfl, hj⟩ := upI_get hd
      have hlen : ((A.map fr).map D.t).length < sizeLine := by
        have : (sizeLine : Nat) = 16777216 := by decide
        rw [List.length_map, List.length_map]
        omega
      have key : ∃ p G' f' n'', exs { lib.g0 with call := callN lib.ft lib.g0 (k + 2) } (.cons (.ife (.cmp .Lt (.var 1) (.con (.int 2))) (.cons (.expr (.app (.var 3) (.call 30 (.cons (.var 0) (.cons (.var 2) .nil))))) .nil) (.cons (.ife (.cmp .Eq (.var 1) (.con (.int 2))) (.cons (.expr (.app (.var 3) (.call 38 (.cons (.var 0) (.cons (.con (.str "small")) .nil))))) .nil) (.cons (.expr (.app (.var 3) (.call 38 (.cons (.var 0) (.cons (.con (.str "any")) .nil))))) .nil)) .nil)) .nil) [some (.c 1), some (.t (.int w)), some (.t (.lst L8)), some (.c 2), some (.t (.int (0 + (j : Int))))] (sp G f sm n' [.l ((A.map fr).map D.t)]) = .nx [some (.c 1), some (.t (.int w)), some (.t (.lst L8)), some (.c 2), some (.t (.int (0 + (j : Int))))] (sp G' f' sm n'' [.l ((A.map fr).map D.t ++ [.t (fr p)])]) ∧ Shr p ∧ n' ≤ n'' ∧ n'' ≤ n' + 2 := by
        generalize (0 : Int) + (j : Int) = jj at *
        by_cases c1 : w < 2
        · obtain ⟨x, G', f', e, hx⟩ := r_one k L8 G f sm n' [.l ((A.map fr).map D.t)] (by simp) (by simp) (by omega) (by omega)
          obtain ⟨p, rfl, hp⟩ := L8_mem hx
          refine ⟨p, G', f', n' + 1, ?_, hp, by omega, by omega⟩
          generalize (A.map fr).map D.t = acc at *
          simp -implicitDefEqProofs only [exs, ex, ev, evs, evo, evC, rb_ok, rt_ok, of_some, lift2_t, view_t, subD_tup, subD_lst, at0, at1, at2, at3, subTT, addT, tupD2, fin_rt, fin_nx, cast0, cast1, cast2, cast3, cast4, cast5, Int.reduceLT, Int.reduceLE, Int.reduceEq, Int.reduceNe, decide_not, map_some, take_all, cmp_lt, cmp_le, cmp_gt, cmp_ge, cmp_eq, cmp_ne, tru_bl, setTg_name, setTg_tup, setTg_lst, setTgs_nil, setTgs_cons, decide_eq_true_eq, Option.bind_some, Option.bind_none, bl_not, is_non, isnt_non, cmpIs_tup, cmpIsN_tup, if_tt, if_ff, tru_int, reduceCtorEq, decide_true, decide_false, Bool.not_true, Bool.not_false, mm1, mm2, mm3, mapM1, mapM2, lstD_c0, lstD_t0, lstD_t1, lstD_t2, lstD_t3, isL_last, isi_int_non, isi_bool_non, isi_tuple_non, isi_list_non, isi_dict_non, isi_lt_non, isi_int_bl, isi_bool_bl, isi_tuple_bl, isi_list_bl, isi_dict_bl, isi_lt_bl, isi_int_int, isi_bool_int, isi_tuple_int, isi_list_int, isi_dict_int, isi_lt_int, isi_int_str, isi_bool_str, isi_tuple_str, isi_list_str, isi_dict_str, isi_lt_str, isi_int_tup, isi_bool_tup, isi_tuple_tup, isi_list_tup, isi_dict_tup, isi_lt_tup, isi_int_lst, isi_bool_lst, isi_tuple_lst, isi_list_lst, isi_dict_lst, isi_lt_lst, isi_int_dk, isi_bool_dk, isi_tuple_dk, isi_list_dk, isi_dict_dk, isi_lt_dk, tup_ty, lenT_lst, lenT_tup, intT, Bool.or_true, Bool.true_or, Bool.or_false, Bool.false_or, Bool.and_true, Bool.true_and, Bool.and_false, Bool.false_and, Z.isNon, not_true_eq_false, not_false_eq_true, Bool.not_eq_true, Bool.false_eq_true, Option.map_some, List.length_cons, List.length_nil, Nat.reduceAdd, ↓reduceIte, List.map_cons, List.map_nil, Nat.reduceSub, List.cons_append, List.nil_append, List.append_nil, List.replicate, List.set_cons_succ, List.set_cons_zero, Nat.reduceLT, gE_0, gE_s, df_0_1, df_1_2, df_2_2, df_3_1, df_4_1, df_5_1, df_6_1, df_7_1, df_8_1, df_10_1, df_14_1, df_15_1, df_16_1, df_17_2, df_18_2, df_25_1, df_25_2, df_26_1, df_27_2, df_28_1, df_29_2, df_30_2, df_31_2, df_32_2, df_33_2, df_34_2, df_35_2, df_36_2, df_37_2, df_38_2, df_39_2, df_40_2, df_41_2, df_42_1, df_43_1, df_44_1, df_45_2, c1, e, isL_2, app_2 _ _ _ _ hlen]
        · by_cases c2 : w = 2
          · obtain ⟨p, G', f', e, hp⟩ := r_small k G f sm n' [.l ((A.map fr).map D.t)] (by omega) (by omega)
            refine ⟨p, G', f', n' + 1 + 1, ?_, hp, by omega, by omega⟩
            generalize (A.map fr).map D.t = acc at *
            simp -implicitDefEqProofs only [exs, ex, ev, evs, evo, evC, rb_ok, rt_ok, of_some, lift2_t, view_t, subD_tup, subD_lst, at0, at1, at2, at3, subTT, addT, tupD2, fin_rt, fin_nx, cast0, cast1, cast2, cast3, cast4, cast5, Int.reduceLT, Int.reduceLE, Int.reduceEq, Int.reduceNe, decide_not, map_some, take_all, cmp_lt, cmp_le, cmp_gt, cmp_ge, cmp_eq, cmp_ne, tru_bl, setTg_name, setTg_tup, setTg_lst, setTgs_nil, setTgs_cons, decide_eq_true_eq, Option.bind_some, Option.bind_none, bl_not, is_non, isnt_non, cmpIs_tup, cmpIsN_tup, if_tt, if_ff, tru_int, reduceCtorEq, decide_true, decide_false, Bool.not_true, Bool.not_false, mm1, mm2, mm3, mapM1, mapM2, lstD_c0, lstD_t0, lstD_t1, lstD_t2, lstD_t3, isL_last, isi_int_non, isi_bool_non, isi_tuple_non, isi_list_non, isi_dict_non, isi_lt_non, isi_int_bl, isi_bool_bl, isi_tuple_bl, isi_list_bl, isi_dict_bl, isi_lt_bl, isi_int_int, isi_bool_int, isi_tuple_int, isi_list_int, isi_dict_int, isi_lt_int, isi_int_str, isi_bool_str, isi_tuple_str, isi_list_str, isi_dict_str, isi_lt_str, isi_int_tup, isi_bool_tup, isi_tuple_tup, isi_list_tup, isi_dict_tup, isi_lt_tup, isi_int_lst, isi_bool_lst, isi_tuple_lst, isi_list_lst, isi_dict_lst, isi_lt_lst, isi_int_dk, isi_bool_dk, isi_tuple_dk, isi_list_dk, isi_dict_dk, isi_lt_dk, tup_ty, lenT_lst, lenT_tup, intT, Bool.or_true, Bool.true_or, Bool.or_false, Bool.false_or, Bool.and_true, Bool.true_and, Bool.and_false, Bool.false_and, Z.isNon, not_true_eq_false, not_false_eq_true, Bool.not_eq_true, Bool.false_eq_true, Option.map_some, List.length_cons, List.length_nil, Nat.reduceAdd, ↓reduceIte, List.map_cons, List.map_nil, Nat.reduceSub, List.cons_append, List.nil_append, List.append_nil, List.replicate, List.set_cons_succ, List.set_cons_zero, Nat.reduceLT, gE_0, gE_s, df_0_1, df_1_2, df_2_2, df_3_1, df_4_1, df_5_1, df_6_1, df_7_1, df_8_1, df_10_1, df_14_1, df_15_1, df_16_1, df_17_2, df_18_2, df_25_1, df_25_2, df_26_1, df_27_2, df_28_1, df_29_2, df_30_2, df_31_2, df_32_2, df_33_2, df_34_2, df_35_2, df_36_2, df_37_2, df_38_2, df_39_2, df_40_2, df_41_2, df_42_1, df_43_1, df_44_1, df_45_2, c1, c2, e, isL_2, app_2 _ _ _ _ hlen]
          · obtain ⟨p, G', f', e, hp⟩ := r_any k G f sm n' [.l ((A.map fr).map D.t)] (by omega) (by omega)
            refine ⟨p, G', f', n' + 1 + 1, ?_, hp, by omega, by omega⟩
            generalize (A.map fr).map D.t = acc at *
            simp -implicitDefEqProofs only [exs, ex, ev, evs, evo, evC, rb_ok, rt_ok, of_some, lift2_t, view_t, subD_tup, subD_lst, at0, at1, at2, at3, subTT, addT, tupD2, fin_rt, fin_nx, cast0, cast1, cast2, cast3, cast4, cast5, Int.reduceLT, Int.reduceLE, Int.reduceEq, Int.reduceNe, decide_not, map_some, take_all, cmp_lt, cmp_le, cmp_gt, cmp_ge, cmp_eq, cmp_ne, tru_bl, setTg_name, setTg_tup, setTg_lst, setTgs_nil, setTgs_cons, decide_eq_true_eq, Option.bind_some, Option.bind_none, bl_not, is_non, isnt_non, cmpIs_tup, cmpIsN_tup, if_tt, if_ff, tru_int, reduceCtorEq, decide_true, decide_false, Bool.not_true, Bool.not_false, mm1, mm2, mm3, mapM1, mapM2, lstD_c0, lstD_t0, lstD_t1, lstD_t2, lstD_t3, isL_last, isi_int_non, isi_bool_non, isi_tuple_non, isi_list_non, isi_dict_non, isi_lt_non, isi_int_bl, isi_bool_bl, isi_tuple_bl, isi_list_bl, isi_dict_bl, isi_lt_bl, isi_int_int, isi_bool_int, isi_tuple_int, isi_list_int, isi_dict_int, isi_lt_int, isi_int_str, isi_bool_str, isi_tuple_str, isi_list_str, isi_dict_str, isi_lt_str, isi_int_tup, isi_bool_tup, isi_tuple_tup, isi_list_tup, isi_dict_tup, isi_lt_tup, isi_int_lst, isi_bool_lst, isi_tuple_lst, isi_list_lst, isi_dict_lst, isi_lt_lst, isi_int_dk, isi_bool_dk, isi_tuple_dk, isi_list_dk, isi_dict_dk, isi_lt_dk, tup_ty, lenT_lst, lenT_tup, intT, Bool.or_true, Bool.true_or, Bool.or_false, Bool.false_or, Bool.and_true, Bool.true_and, Bool.and_false, Bool.false_and, Z.isNon, not_true_eq_false, not_false_eq_true, Bool.not_eq_true, Bool.false_eq_true, Option.map_some, List.length_cons, List.length_nil, Nat.reduceAdd, ↓reduceIte, List.map_cons, List.map_nil, Nat.reduceSub, List.cons_append, List.nil_append, List.append_nil, List.replicate, List.set_cons_succ, List.set_cons_zero, Nat.reduceLT, gE_0, gE_s, df_0_1, df_1_2, df_2_2, df_3_1, df_4_1, df_5_1, df_6_1, df_7_1, df_8_1, df_10_1, df_14_1, df_15_1, df_16_1, df_17_2, df_18_2, df_25_1, df_25_2, df_26_1, df_27_2, df_28_1, df_29_2, df_30_2, df_31_2, df_32_2, df_33_2, df_34_2, df_35_2, df_36_2, df_37_2, df_38_2, df_39_2, df_40_2, df_41_2, df_42_1, df_43_1, df_44_1, df_45_2, c1, c2, e, isL_2, app_2 _ _ _ _ hlen]
      obtain ⟨p, G', f', n'', e, hp, g1, g2⟩ := key
      refine .inl ⟨_, _, .inl ((turnX_nx rfl).trans e), A ++ [p], G', f', n'', _, ?_, rfl, ?_, ?_, by omega, by omega⟩
      · rw [List.map_append, List.map_append]
        rfl
      · rw [List.length_append, List.length_singleton, hA]
      · intro s hs
        rcases List.mem_append.mp hs with h | h
        · exact hS s h
        · rw [List.mem_singleton.mp h]; exact hp
    · rintro σ s ⟨A, G, f, n', a, rfl, rfl, hA, hS, q1, q2⟩
      rw [upI_len] at hA q2
      have g : Good A := ⟨hS, by intro h; rw [h] at hA; have : 0 = (1 + v).toNat := hA; omega, by omega⟩
      show QR sm n (exs _ _ _ (unlock _ none))
      simp only [unlock]
      have hlen : biT .len [.lst (A.map fr)] = some (.int (A.length : Int)) := by rw [lenT_lst, List.length_map]
      by_cases c : A.length = 3
      · have hl3 : biT .len [.lst (A.map fr)] = some (.int 3) := by rw [hlen, c]; rfl
        obtain ⟨u, G', f', e, u1, u2⟩ := tk (k + 1) 2 G f sm n' [.l ((A.map fr).map D.t)] (by decide) (bd_lit 100 (by decide) (by decide)) (by omega) (by omega)
        have s3 := slc3 c
        have m2 := mul2 c
        by_cases cu : u = 0
        · refine exs_rt (Q := QR sm n) (d := .t (.lst ((A ++ A).map fr))) (s1 := sp G' f' sm (n' + 1) [.l ((A.map fr).map D.t)]) ?_ ⟨A ++ A, G', f', n' + 1, _, rfl, ⟨?_, ?_, ?_⟩, by omega, by omega⟩
          · generalize (A ++ A).map fr = AA at *
            clear hS g hA hlen
            generalize A.map fr = X at *
            simp -implicitDefEqProofs only [exs, ex, ev, evs, evo, evC, rb_ok, rt_ok, of_some, lift2_t, view_t, subD_tup, subD_lst, at0, at1, at2, at3, subTT, addT, tupD2, fin_rt, fin_nx, cast0, cast1, cast2, cast3, cast4, cast5, Int.reduceLT, Int.reduceLE, Int.reduceEq, Int.reduceNe, decide_not, map_some, take_all, cmp_lt, cmp_le, cmp_gt, cmp_ge, cmp_eq, cmp_ne, tru_bl, setTg_name, setTg_tup, setTg_lst, setTgs_nil, setTgs_cons, decide_eq_true_eq, Option.bind_some, Option.bind_none, bl_not, is_non, isnt_non, cmpIs_tup, cmpIsN_tup, if_tt, if_ff, tru_int, reduceCtorEq, decide_true, decide_false, Bool.not_true, Bool.not_false, mm1, mm2, mm3, mapM1, mapM2, lstD_c0, lstD_t0, lstD_t1, lstD_t2, lstD_t3, isL_last, isi_int_non, isi_bool_non, isi_tuple_non, isi_list_non, isi_dict_non, isi_lt_non, isi_int_bl, isi_bool_bl, isi_tuple_bl, isi_list_bl, isi_dict_bl, isi_lt_bl, isi_int_int, isi_bool_int, isi_tuple_int, isi_list_int, isi_dict_int, isi_lt_int, isi_int_str, isi_bool_str, isi_tuple_str, isi_list_str, isi_dict_str, isi_lt_str, isi_int_tup, isi_bool_tup, isi_tuple_tup, isi_list_tup, isi_dict_tup, isi_lt_tup, isi_int_lst, isi_bool_lst, isi_tuple_lst, isi_list_lst, isi_dict_lst, isi_lt_lst, isi_int_dk, isi_bool_dk, isi_tuple_dk, isi_list_dk, isi_dict_dk, isi_lt_dk, tup_ty, lenT_tup, intT, Bool.or_true, Bool.true_or, Bool.or_false, Bool.false_or, Bool.and_true, Bool.true_and, Bool.and_false, Bool.false_and, Z.isNon, not_true_eq_false, not_false_eq_true, Bool.not_eq_true, Bool.false_eq_true, Option.map_some, List.length_cons, List.length_nil, Nat.reduceAdd, ↓reduceIte, List.map_cons, List.map_nil, Nat.reduceSub, List.cons_append, List.nil_append, List.append_nil, List.replicate, List.set_cons_succ, List.set_cons_zero, Nat.reduceLT, gE_0, gE_s, df_0_1, df_1_2, df_2_2, df_3_1, df_4_1, df_5_1, df_6_1, df_7_1, df_8_1, df_10_1, df_14_1, df_15_1, df_16_1, df_17_2, df_18_2, df_25_1, df_25_2, df_26_1, df_27_2, df_28_1, df_29_2, df_30_2, df_31_2, df_32_2, df_33_2, df_34_2, df_35_2, df_36_2, df_37_2, df_38_2, df_39_2, df_40_2, df_41_2, df_42_1, df_43_1, df_44_1, df_45_2, mapM_2, hl3, e, cu, view_2, s3, m2]
          · intro s hs
            rcases List.mem_append.mp hs with h | h <;> exact hS s h
          · intro h
            exact g.ne (List.append_eq_nil_iff.mp h).1
          · rw [List.length_append]
            omega
        · refine exs_rt (Q := QR sm n) (d := .t (.lst (A.map fr))) (s1 := sp G' f' sm (n' + 1) [.x]) ?_ ⟨A, G', f', n' + 1, _, rfl, g, by omega, by omega⟩
          clear hS g hA hlen m2 s3
          generalize A.map fr = X at *
          simp -implicitDefEqProofs only [exs, ex, ev, evs, evo, evC, rb_ok, rt_ok, of_some, lift2_t, view_t, subD_tup, subD_lst, at0, at1, at2, at3, subTT, addT, tupD2, fin_rt, fin_nx, cast0, cast1, cast2, cast3, cast4, cast5, Int.reduceLT, Int.reduceLE, Int.reduceEq, Int.reduceNe, decide_not, map_some, take_all, cmp_lt, cmp_le, cmp_gt, cmp_ge, cmp_eq, cmp_ne, tru_bl, setTg_name, setTg_tup, setTg_lst, setTgs_nil, setTgs_cons, decide_eq_true_eq, Option.bind_some, Option.bind_none, bl_not, is_non, isnt_non, cmpIs_tup, cmpIsN_tup, if_tt, if_ff, tru_int, reduceCtorEq, decide_true, decide_false, Bool.not_true, Bool.not_false, mm1, mm2, mm3, mapM1, mapM2, lstD_c0, lstD_t0, lstD_t1, lstD_t2, lstD_t3, isL_last, isi_int_non, isi_bool_non, isi_tuple_non, isi_list_non, isi_dict_non, isi_lt_non, isi_int_bl, isi_bool_bl, isi_tuple_bl, isi_list_bl, isi_dict_bl, isi_lt_bl, isi_int_int, isi_bool_int, isi_tuple_int, isi_list_int, isi_dict_int, isi_lt_int, isi_int_str, isi_bool_str, isi_tuple_str, isi_list_str, isi_dict_str, isi_lt_str, isi_int_tup, isi_bool_tup, isi_tuple_tup, isi_list_tup, isi_dict_tup, isi_lt_tup, isi_int_lst, isi_bool_lst, isi_tuple_lst, isi_list_lst, isi_dict_lst, isi_lt_lst, isi_int_dk, isi_bool_dk, isi_tuple_dk, isi_list_dk, isi_dict_dk, isi_lt_dk, tup_ty, lenT_tup, intT, Bool.or_true, Bool.true_or, Bool.or_false, Bool.false_or, Bool.and_true, Bool.true_and, Bool.and_false, Bool.false_and, Z.isNon, not_true_eq_false, not_false_eq_true, Bool.not_eq_true, Bool.false_eq_true, Option.map_some, List.length_cons, List.length_nil, Nat.reduceAdd, ↓reduceIte, List.map_cons, List.map_nil, Nat.reduceSub, List.cons_append, List.nil_append, List.append_nil, List.replicate, List.set_cons_succ, List.set_cons_zero, Nat.reduceLT, gE_0, gE_s, df_0_1, df_1_2, df_2_2, df_3_1, df_4_1, df_5_1, df_6_1, df_7_1, df_8_1, df_10_1, df_14_1, df_15_1, df_16_1, df_17_2, df_18_2, df_25_1, df_25_2, df_26_1, df_27_2, df_28_1, df_29_2, df_30_2, df_31_2, df_32_2, df_33_2, df_34_2, df_35_2, df_36_2, df_37_2, df_38_2, df_39_2, df_40_2, df_41_2, df_42_1, df_43_1, df_44_1, df_45_2, mapM_2, hl3, e, cu, view_2, frz_2]
      · refine exs_rt (Q := QR sm n) (d := .t (.lst (A.map fr))) (s1 := sp G f sm n' [.x]) ?_ ⟨A, G, f, n', _, rfl, g, by omega, by omega⟩
        have cl : ¬ ((A.length : Int) = 3) := by omega
        clear hS g hA q2
        generalize (A.length : Int) = L at *
        generalize A.map fr = X at *
        simp -implicitDefEqProofs only [exs, ex, ev, evs, evo, evC, rb_ok, rt_ok, of_some, lift2_t, view_t, subD_tup, subD_lst, at0, at1, at2, at3, subTT, addT, tupD2, fin_rt, fin_nx, cast0, cast1, cast2, cast3, cast4, cast5, Int.reduceLT, Int.reduceLE, Int.reduceEq, Int.reduceNe, decide_not, map_some, take_all, cmp_lt, cmp_le, cmp_gt, cmp_ge, cmp_eq, cmp_ne, tru_bl, setTg_name, setTg_tup, setTg_lst, setTgs_nil, setTgs_cons, decide_eq_true_eq, Option.bind_some, Option.bind_none, bl_not, is_non, isnt_non, cmpIs_tup, cmpIsN_tup, if_tt, if_ff, tru_int, reduceCtorEq, decide_true, decide_false, Bool.not_true, Bool.not_false, mm1, mm2, mm3, mapM1, mapM2, lstD_c0, lstD_t0, lstD_t1, lstD_t2, lstD_t3, isL_last, isi_int_non, isi_bool_non, isi_tuple_non, isi_list_non, isi_dict_non, isi_lt_non, isi_int_bl, isi_bool_bl, isi_tuple_bl, isi_list_bl, isi_dict_bl, isi_lt_bl, isi_int_int, isi_bool_int, isi_tuple_int, isi_list_int, isi_dict_int, isi_lt_int, isi_int_str, isi_bool_str, isi_tuple_str, isi_list_str, isi_dict_str, isi_lt_str, isi_int_tup, isi_bool_tup, isi_tuple_tup, isi_list_tup, isi_dict_tup, isi_lt_tup, isi_int_lst, isi_bool_lst, isi_tuple_lst, isi_list_lst, isi_dict_lst, isi_lt_lst, isi_int_dk, isi_bool_dk, isi_tuple_dk, isi_list_dk, isi_dict_dk, isi_lt_dk, tup_ty, lenT_tup, intT, Bool.or_true, Bool.true_or, Bool.or_false, Bool.false_or, Bool.and_true, Bool.true_and, Bool.and_false, Bool.false_and, Z.isNon, not_true_eq_false, not_false_eq_true, Bool.not_eq_true, Bool.false_eq_true, Option.map_some, List.length_cons, List.length_nil, Nat.reduceAdd, ↓reduceIte, List.map_cons, List.map_nil, Nat.reduceSub, List.cons_append, List.nil_append, List.append_nil, List.replicate, List.set_cons_succ, List.set_cons_zero, Nat.reduceLT, gE_0, gE_s, df_0_1, df_1_2, df_2_2, df_3_1, df_4_1, df_5_1, df_6_1, df_7_1, df_8_1, df_10_1, df_14_1, df_15_1, df_16_1, df_17_2, df_18_2, df_25_1, df_25_2, df_26_1, df_27_2, df_28_1, df_29_2, df_30_2, df_31_2, df_32_2, df_33_2, df_34_2, df_35_2, df_36_2, df_37_2, df_38_2, df_39_2, df_40_2, df_41_2, df_42_1, df_43_1, df_44_1, df_45_2, mapM_2, hlen, cl, view_2, frz_2]
  obtain ⟨A, G', f', n', c, e, g, h1, h2⟩ := key
  refine ⟨A, G', f', n', ?_, g, h1, h2⟩
  rw [callN_succ (F := F42) rfl, callF_eq rfl]
  exact fin_eq e (by rw [fin_rt rfl, sp_take1])
/-! ### two shares at the edge -/
def edg (v : Int) : List P2 :=
  [Rw9.low ((Rw9.low (1 + v, 12)).1 * (Rw9.low (1 + v, 12)).1, (Rw9.low (1 + v, 12)).2 * (Rw9.low (1 + v, 12)).2),
   Rw9.low ((Rw9.minus (1, 1) (Rw9.low (1 + v, 12))).1 * (Rw9.minus (1, 1) (Rw9.low (1 + v, 12))).1, (Rw9.minus (1, 1) (Rw9.low (1 + v, 12))).2 * (Rw9.minus (1, 1) (Rw9.low (1 + v, 12))).2)]
theorem r_edge (k : Nat) (G : List Int) (f : Int) (sm : List Int) (n : Int) (rest : S) (h0 : 0 ≤ n) (hn : n < 900000) :
    ∃ v G' f', callN lib.ft lib.g0 (k + 3) 44 [.c 1] (sp G f sm n rest) = .ok (.t (.lst ((edg v).map fr))) (sp G' f' sm (n + 1) rest) ∧ 0 ≤ v ∧ v < 11 := by
  obtain ⟨v, G', f', e1, v1, v2⟩ := tk (k + 1) 11 G f sm n rest (by decide) (bd_lit 100 (by decide) (by decide)) h0 (by omega)
  refine ⟨v, G', f', ?_, v1, v2⟩
  have hl := fun st => r_low (k + 1) (1 + v) 12 st (by decide) (bd_lit 100 (by omega) (by decide)) (bd_lit 100 (by decide) (by decide))
  obtain ⟨b1, b2⟩ := bd_low (k := 6) (p := (1 + v, 12)) (bd_lit 20 (by show (1 + v).natAbs ≤ 20; omega) (by decide)) (bd_lit 20 (by show (12 : Int).natAbs ≤ 20; decide) (by decide))
  have hp : 0 < (Rw9.low (1 + v, 12)).2 := Rw9.low_pos (by show (0 : Int) < 12; decide)
  have eE : (edg v).map fr = [fr (Rw9.low ((Rw9.low (1 + v, 12)).1 * (Rw9.low (1 + v, 12)).1, (Rw9.low (1 + v, 12)).2 * (Rw9.low (1 + v, 12)).2)), fr (Rw9.low ((Rw9.minus (1, 1) (Rw9.low (1 + v, 12))).1 * (Rw9.minus (1, 1) (Rw9.low (1 + v, 12))).1, (Rw9.minus (1, 1) (Rw9.low (1 + v, 12))).2 * (Rw9.minus (1, 1) (Rw9.low (1 + v, 12))).2))] := rfl
  rw [eE]
  clear eE
  generalize Rw9.low (1 + v, 12) = r at *
  have hmp : 0 < (1 : Int) * r.2 := by omega
  have hm := fun st => r_minus k (1, 1) r st (bd_lit 1 (by decide) (by decide)) (bd_lit 1 (by decide) (by decide)) (b1.mono (by decide)) (b2.mono (by decide)) hmp
  have ho : 0 < (Rw9.minus (1, 1) r).2 := Rw9.low_pos hmp
  have q6 : (2 : Nat) ^ 6 = 64 := by decide
  have i1 : Bd 20 ((1 : Int) * r.2 - r.1 * 1) := bd_lit 200 (by unfold Bd at b1 b2; omega) (by decide)
  have i2 : Bd 20 ((1 : Int) * r.2) := bd_lit 200 (by unfold Bd at b1 b2; omega) (by decide)
  obtain ⟨c1, c2⟩ := bd_low (k := 20) (p := ((1 : Int) * r.2 - r.1 * 1, (1 : Int) * r.2)) i1 i2
  have c1 : Bd 20 (Rw9.minus (1, 1) r).1 := c1
  have c2 : Bd 20 (Rw9.minus (1, 1) r).2 := c2
  generalize Rw9.minus (1, 1) r = o at *
  have t1 := fun st => r_times k r r st (b1.mono (by decide)) (b2.mono (by decide)) (b1.mono (by decide)) (b2.mono (by decide)) (Int.mul_pos hp hp)
  have t2 := fun st => r_times k o o st c1 c2 (c1.mono (by decide)) (c2.mono (by decide)) (Int.mul_pos ho ho)
  generalize Rw9.low (r.1 * r.1, r.2 * r.2) = rr at *
  generalize Rw9.low (o.1 * o.1, o.2 * o.2) = oo at *
  clear v1 v2 b1 b2 c1 c2 hp ho hmp h0 hn
  generalize n + 1 = n1 at *
  rw [callN_succ (F := F44) rfl]; simp -implicitDefEqProofs only [callF, F44, List.length_cons, List.length_nil, Nat.reduceAdd, ↓reduceIte, List.map_cons, List.map_nil, Nat.reduceSub, List.cons_append, List.nil_append, List.append_nil, List.replicate, List.set_cons_succ, List.set_cons_zero, Nat.reduceLT, gE_0, gE_s]
  refine fin_eq (o' := .rt (.t (.lst [fr rr, fr oo])) (sp G' f' sm n1 rest)) ?_ (by rw [fin_rt rfl, sp_take])
  refine exs_nx (Q := fun o => o = Z.O.rt (.t (.lst [fr rr, fr oo])) (sp G' f' sm n1 rest)) (σ1 := [some (.c 1), some (.t (fr r)), none]) (s1 := sp G' f' sm n1 rest) (by
    simp -implicitDefEqProofs only [exs, ex, ev, evs, evo, evC, rb_ok, rt_ok, of_some, lift2_t, view_t, subD_tup, subD_lst, at0, at1, at2, at3, subTT, addT, tupD2, fin_rt, fin_nx, cast0, cast1, cast2, cast3, cast4, cast5, Int.reduceLT, Int.reduceLE, Int.reduceEq, Int.reduceNe, decide_not, map_some, take_all, cmp_lt, cmp_le, cmp_gt, cmp_ge, cmp_eq, cmp_ne, tru_bl, setTg_name, setTg_tup, setTg_lst, setTgs_nil, setTgs_cons, decide_eq_true_eq, Option.bind_some, Option.bind_none, bl_not, is_non, isnt_non, cmpIs_tup, cmpIsN_tup, if_tt, if_ff, tru_int, reduceCtorEq, decide_true, decide_false, Bool.not_true, Bool.not_false, mm1, mm2, mm3, mapM1, mapM2, lstD_c0, lstD_t0, lstD_t1, lstD_t2, lstD_t3, isL_last, isi_int_non, isi_bool_non, isi_tuple_non, isi_list_non, isi_dict_non, isi_lt_non, isi_int_bl, isi_bool_bl, isi_tuple_bl, isi_list_bl, isi_dict_bl, isi_lt_bl, isi_int_int, isi_bool_int, isi_tuple_int, isi_list_int, isi_dict_int, isi_lt_int, isi_int_str, isi_bool_str, isi_tuple_str, isi_list_str, isi_dict_str, isi_lt_str, isi_int_tup, isi_bool_tup, isi_tuple_tup, isi_list_tup, isi_dict_tup, isi_lt_tup, isi_int_lst, isi_bool_lst, isi_tuple_lst, isi_list_lst, isi_dict_lst, isi_lt_lst, isi_int_dk, isi_bool_dk, isi_tuple_dk, isi_list_dk, isi_dict_dk, isi_lt_dk, tup_ty, lenT_lst, lenT_tup, intT, Bool.or_true, Bool.true_or, Bool.or_false, Bool.false_or, Bool.and_true, Bool.true_and, Bool.and_false, Bool.false_and, Z.isNon, not_true_eq_false, not_false_eq_true, Bool.not_eq_true, Bool.false_eq_true, Option.map_some, List.length_cons, List.length_nil, Nat.reduceAdd, ↓reduceIte, List.map_cons, List.map_nil, Nat.reduceSub, List.cons_append, List.nil_append, List.append_nil, List.replicate, List.set_cons_succ, List.set_cons_zero, Nat.reduceLT, gE_0, gE_s, df_0_1, df_1_2, df_2_2, df_3_1, df_4_1, df_5_1, df_6_1, df_7_1, df_8_1, df_10_1, df_14_1, df_15_1, df_16_1, df_17_2, df_18_2, df_25_1, df_25_2, df_26_1, df_27_2, df_28_1, df_29_2, df_30_2, df_31_2, df_32_2, df_33_2, df_34_2, df_35_2, df_36_2, df_37_2, df_38_2, df_39_2, df_40_2, df_41_2, df_42_1, df_43_1, df_44_1, df_45_2, e1]
    generalize 1 + v = u at *
    simp -implicitDefEqProofs only [exs, ex, ev, evs, evo, evC, rb_ok, rt_ok, of_some, lift2_t, view_t, subD_tup, subD_lst, at0, at1, at2, at3, subTT, addT, tupD2, fin_rt, fin_nx, cast0, cast1, cast2, cast3, cast4, cast5, Int.reduceLT, Int.reduceLE, Int.reduceEq, Int.reduceNe, decide_not, map_some, take_all, cmp_lt, cmp_le, cmp_gt, cmp_ge, cmp_eq, cmp_ne, tru_bl, setTg_name, setTg_tup, setTg_lst, setTgs_nil, setTgs_cons, decide_eq_true_eq, Option.bind_some, Option.bind_none, bl_not, is_non, isnt_non, cmpIs_tup, cmpIsN_tup, if_tt, if_ff, tru_int, reduceCtorEq, decide_true, decide_false, Bool.not_true, Bool.not_false, mm1, mm2, mm3, mapM1, mapM2, lstD_c0, lstD_t0, lstD_t1, lstD_t2, lstD_t3, isL_last, isi_int_non, isi_bool_non, isi_tuple_non, isi_list_non, isi_dict_non, isi_lt_non, isi_int_bl, isi_bool_bl, isi_tuple_bl, isi_list_bl, isi_dict_bl, isi_lt_bl, isi_int_int, isi_bool_int, isi_tuple_int, isi_list_int, isi_dict_int, isi_lt_int, isi_int_str, isi_bool_str, isi_tuple_str, isi_list_str, isi_dict_str, isi_lt_str, isi_int_tup, isi_bool_tup, isi_tuple_tup, isi_list_tup, isi_dict_tup, isi_lt_tup, isi_int_lst, isi_bool_lst, isi_tuple_lst, isi_list_lst, isi_dict_lst, isi_lt_lst, isi_int_dk, isi_bool_dk, isi_tuple_dk, isi_list_dk, isi_dict_dk, isi_lt_dk, tup_ty, lenT_lst, lenT_tup, intT, Bool.or_true, Bool.true_or, Bool.or_false, Bool.false_or, Bool.and_true, Bool.true_and, Bool.and_false, Bool.false_and, Z.isNon, not_true_eq_false, not_false_eq_true, Bool.not_eq_true, Bool.false_eq_true, Option.map_some, List.length_cons, List.length_nil, Nat.reduceAdd, ↓reduceIte, List.map_cons, List.map_nil, Nat.reduceSub, List.cons_append, List.nil_append, List.append_nil, List.replicate, List.set_cons_succ, List.set_cons_zero, Nat.reduceLT, gE_0, gE_s, df_0_1, df_1_2, df_2_2, df_3_1, df_4_1, df_5_1, df_6_1, df_7_1, df_8_1, df_10_1, df_14_1, df_15_1, df_16_1, df_17_2, df_18_2, df_25_1, df_25_2, df_26_1, df_27_2, df_28_1, df_29_2, df_30_2, df_31_2, df_32_2, df_33_2, df_34_2, df_35_2, df_36_2, df_37_2, df_38_2, df_39_2, df_40_2, df_41_2, df_42_1, df_43_1, df_44_1, df_45_2, hl]) ?_
  refine exs_nx (Q := fun o => o = Z.O.rt (.t (.lst [fr rr, fr oo])) (sp G' f' sm n1 rest)) (σ1 := [some (.c 1), some (.t (fr r)), some (.t (fr o))]) (s1 := sp G' f' sm n1 rest) (by simp -implicitDefEqProofs only [exs, ex, ev, evs, evo, evC, rb_ok, rt_ok, of_some, lift2_t, view_t, subD_tup, subD_lst, at0, at1, at2, at3, subTT, addT, tupD2, fin_rt, fin_nx, cast0, cast1, cast2, cast3, cast4, cast5, Int.reduceLT, Int.reduceLE, Int.reduceEq, Int.reduceNe, decide_not, map_some, take_all, cmp_lt, cmp_le, cmp_gt, cmp_ge, cmp_eq, cmp_ne, tru_bl, setTg_name, setTg_tup, setTg_lst, setTgs_nil, setTgs_cons, decide_eq_true_eq, Option.bind_some, Option.bind_none, bl_not, is_non, isnt_non, cmpIs_tup, cmpIsN_tup, if_tt, if_ff, tru_int, reduceCtorEq, decide_true, decide_false, Bool.not_true, Bool.not_false, mm1, mm2, mm3, mapM1, mapM2, lstD_c0, lstD_t0, lstD_t1, lstD_t2, lstD_t3, isL_last, isi_int_non, isi_bool_non, isi_tuple_non, isi_list_non, isi_dict_non, isi_lt_non, isi_int_bl, isi_bool_bl, isi_tuple_bl, isi_list_bl, isi_dict_bl, isi_lt_bl, isi_int_int, isi_bool_int, isi_tuple_int, isi_list_int, isi_dict_int, isi_lt_int, isi_int_str, isi_bool_str, isi_tuple_str, isi_list_str, isi_dict_str, isi_lt_str, isi_int_tup, isi_bool_tup, isi_tuple_tup, isi_list_tup, isi_dict_tup, isi_lt_tup, isi_int_lst, isi_bool_lst, isi_tuple_lst, isi_list_lst, isi_dict_lst, isi_lt_lst, isi_int_dk, isi_bool_dk, isi_tuple_dk, isi_list_dk, isi_dict_dk, isi_lt_dk, tup_ty, lenT_lst, lenT_tup, intT, Bool.or_true, Bool.true_or, Bool.or_false, Bool.false_or, Bool.and_true, Bool.true_and, Bool.and_false, Bool.false_and, Z.isNon, not_true_eq_false, not_false_eq_true, Bool.not_eq_true, Bool.false_eq_true, Option.map_some, List.length_cons, List.length_nil, Nat.reduceAdd, ↓reduceIte, List.map_cons, List.map_nil, Nat.reduceSub, List.cons_append, List.nil_append, List.append_nil, List.replicate, List.set_cons_succ, List.set_cons_zero, Nat.reduceLT, gE_0, gE_s, df_0_1, df_1_2, df_2_2, df_3_1, df_4_1, df_5_1, df_6_1, df_7_1, df_8_1, df_10_1, df_14_1, df_15_1, df_16_1, df_17_2, df_18_2, df_25_1, df_25_2, df_26_1, df_27_2, df_28_1, df_29_2, df_30_2, df_31_2, df_32_2, df_33_2, df_34_2, df_35_2, df_36_2, df_37_2, df_38_2, df_39_2, df_40_2, df_41_2, df_42_1, df_43_1, df_44_1, df_45_2, hm]) ?_
  exact exs_rt (Q := fun o => o = Z.O.rt (.t (.lst [fr rr, fr oo])) (sp G' f' sm n1 rest)) (d := .t (.lst [fr rr, fr oo])) (s1 := sp G' f' sm n1 rest) (by simp -implicitDefEqProofs only [exs, ex, ev, evs, evo, evC, rb_ok, rt_ok, of_some, lift2_t, view_t, subD_tup, subD_lst, at0, at1, at2, at3, subTT, addT, tupD2, fin_rt, fin_nx, cast0, cast1, cast2, cast3, cast4, cast5, Int.reduceLT, Int.reduceLE, Int.reduceEq, Int.reduceNe, decide_not, map_some, take_all, cmp_lt, cmp_le, cmp_gt, cmp_ge, cmp_eq, cmp_ne, tru_bl, setTg_name, setTg_tup, setTg_lst, setTgs_nil, setTgs_cons, decide_eq_true_eq, Option.bind_some, Option.bind_none, bl_not, is_non, isnt_non, cmpIs_tup, cmpIsN_tup, if_tt, if_ff, tru_int, reduceCtorEq, decide_true, decide_false, Bool.not_true, Bool.not_false, mm1, mm2, mm3, mapM1, mapM2, lstD_c0, lstD_t0, lstD_t1, lstD_t2, lstD_t3, isL_last, isi_int_non, isi_bool_non, isi_tuple_non, isi_list_non, isi_dict_non, isi_lt_non, isi_int_bl, isi_bool_bl, isi_tuple_bl, isi_list_bl, isi_dict_bl, isi_lt_bl, isi_int_int, isi_bool_int, isi_tuple_int, isi_list_int, isi_dict_int, isi_lt_int, isi_int_str, isi_bool_str, isi_tuple_str, isi_list_str, isi_dict_str, isi_lt_str, isi_int_tup, isi_bool_tup, isi_tuple_tup, isi_list_tup, isi_dict_tup, isi_lt_tup, isi_int_lst, isi_bool_lst, isi_tuple_lst, isi_list_lst, isi_dict_lst, isi_lt_lst, isi_int_dk, isi_bool_dk, isi_tuple_dk, isi_list_dk, isi_dict_dk, isi_lt_dk, tup_ty, lenT_lst, lenT_tup, intT, Bool.or_true, Bool.true_or, Bool.or_false, Bool.false_or, Bool.and_true, Bool.true_and, Bool.and_false, Bool.false_and, Z.isNon, not_true_eq_false, not_false_eq_true, Bool.not_eq_true, Bool.false_eq_true, Option.map_some, List.length_cons, List.length_nil, Nat.reduceAdd, ↓reduceIte, List.map_cons, List.map_nil, Nat.reduceSub, List.cons_append, List.nil_append, List.append_nil, List.replicate, List.set_cons_succ, List.set_cons_zero, Nat.reduceLT, gE_0, gE_s, df_0_1, df_1_2, df_2_2, df_3_1, df_4_1, df_5_1, df_6_1, df_7_1, df_8_1, df_10_1, df_14_1, df_15_1, df_16_1, df_17_2, df_18_2, df_25_1, df_25_2, df_26_1, df_27_2, df_28_1, df_29_2, df_30_2, df_31_2, df_32_2, df_33_2, df_34_2, df_35_2, df_36_2, df_37_2, df_38_2, df_39_2, df_40_2, df_41_2, df_42_1, df_43_1, df_44_1, df_45_2, t1, t2]) rfl
end Lw
end Z
end
section
set_option Elab.async false
set_option linter.all false
set_option maxRecDepth 100000
set_option maxHeartbeats 4000000
namespace Z
namespace Lw

open PySem L2 Zr
/-! ### the eleven rows at the edge, by reckoning -/
def shrB (s : P2) : Bool := decide (0 ≤ s.1) && decide (s.1 ≤ s.2) && decide (0 < s.2) && decide (Rw9.low s = s) && decide (s.1.natAbs < 262144) && decide (s.2.natAbs < 262144)
theorem shr_of {s : P2} (h : shrB s = true) : Shr s := shr_lit (a := s.1) (b := s.2) h
def stays (E : List P2) : List Int := ((List.range 144).map fun (j : Nat) => (1 : Int) + j).filter fun i => isv (short E) (i, 144)
def edgP (a b : P2) : List P2 := [a, Rw9.low (b.1 * 1000 + 1 * b.2, b.2 * 1000)]
def edgB (v : Int) : Bool := match edg v with
  | [a, b] => shrB a && shrB b && (edgP a b).all shrB && decide (Rw9.pStay (short (edgP a b)) = none) && (match Rw9.pStay (short [a, b]) with
    | none => false
    | some x => decide ((stays [a, b]).length ≤ 1) && decide ((stays [a, b]).map (fun i => Rw9.low (i, 144)) = [] ∨ (stays [a, b]).map (fun i => Rw9.low (i, 144)) = [x]))
  | _ => false
theorem edgB_ok : ∀ v : Int, 0 ≤ v → v < 11 → edgB v = true := by
  intro v h0 h1
  have : v = 0 ∨ v = 1 ∨ v = 2 ∨ v = 3 ∨ v = 4 ∨ v = 5 ∨ v = 6 ∨ v = 7 ∨ v = 8 ∨ v = 9 ∨ v = 10 := by omega
  rcases this with rfl | rfl | rfl | rfl | rfl | rfl | rfl | rfl | rfl | rfl | rfl
  all_goals decide +kernel
structure Edge (E : List P2) : Prop where
  g : Good E
  x : ∃ a b x, E = [a, b] ∧ (∀ s ∈ edgP a b, Shr s) ∧ Rw9.pStay (short (edgP a b)) = none ∧ Rw9.pStay (short E) = some x ∧ (stays E).length ≤ 1 ∧ ((stays E).map (fun i => Rw9.low (i, 144)) = [] ∨ (stays E).map (fun i => Rw9.low (i, 144)) = [x])
theorem edge_ok {v : Int} (h0 : 0 ≤ v) (h1 : v < 11) : Edge (edg v) := by
  have h := edgB_ok v h0 h1
  obtain ⟨a, b, e⟩ : ∃ a b, edg v = [a, b] := ⟨_, _, rfl⟩
  unfold edgB at h
  rw [e] at h ⊢
  dsimp only at h
  cases hp : Rw9.pStay (short [a, b]) with
  | none => rw [hp] at h; simp at h
  | some x =>
    rw [hp] at h
    simp only [Bool.and_eq_true, decide_eq_true_eq] at h
    obtain ⟨⟨⟨⟨ha, hb⟩, hc⟩, hd⟩, he, hf⟩ := h
    refine ⟨⟨?_, by simp, by simp⟩, a, b, x, rfl, ?_, hd, hp, he, hf⟩
    · intro s hs
      simp only [List.mem_cons, List.not_mem_nil, or_false] at hs
      rcases hs with rfl | rfl
      · exact shr_of ha
      · exact shr_of hb
    · intro s hs
      exact shr_of (List.all_eq_true.mp hc s hs)
/-! ### what is told of stays is right -/
theorem cmp_ne_fr (a b : P2) : cmpT .NotEq (fr a) (fr b) = some (!decide (a = b)) := by
  show (eqT (fr a) (fr b)).map (!·) = _
  rw [eqT_fr]
  rfl
theorem is_bl (a b : Bool) : cmpT .Is (.bl a) (.bl b) = some (decide (a = b)) := (rfl)
theorem isn_bl (a b : Bool) : cmpT .IsNot (.bl a) (.bl b) = some (!decide (a = b)) := (rfl)
theorem bi_list (l : List T) : biT .list [.tup l] = some (.lst l) := (rfl)
theorem rep_len {m : Nat} {A B : List P2} (h : A = Rw9.rep (m + 1) B) : B.length ≤ A.length := by
  rw [Rw9.rep_succ] at h
  rw [h, List.length_append]
  omega
theorem bd_mid {P : List P2} (hP : ∀ s ∈ P, Shr s) (hl : P.length ≤ 6) : Bd 140 (Rw9.mid P).1 ∧ Bd 140 (Rw9.mid P).2 := by
  obtain ⟨y1, y2⟩ := bd_fo P 1 (1, 0) hP (by unfold Bd; decide) (by unfold Bd; decide)
  obtain ⟨z1, z2⟩ := bd_fo P 1 (0, 1) hP (by unfold Bd; decide) (by unfold Bd; decide)
  have y1 : Bd 115 (Rw9.fo P (1, 0)).1 := y1.mono (by omega)
  have y2 : Bd 115 (Rw9.fo P (1, 0)).2 := y2.mono (by omega)
  have z2 : Bd 115 (Rw9.fo P (0, 1)).2 := z2.mono (by omega)
  have b2 : Bd 2 2 := by unfold Bd; decide
  exact ⟨Bd.sub y1 z2 (by decide), (b2.mul y2).mono (by decide)⟩
theorem r_right (k : Nat) (A : List P2) (st : S) (hg : Good A) : callN lib.ft lib.g0 (k + 8) 45 [.t (row (short A)), .t (.lst (A.map fr))] st = .ok (.t (.bl true)) st := by
  obtain ⟨n0, mem, m, hr⟩ := short_ok hg.ne
  have hP : ∀ s ∈ short A, Shr s := fun s h => hg.sh s (mem s h)
  have hl6 : (short A).length ≤ 6 := Nat.le_trans (rep_len hr) hg.ln
  have hl : (short A).length ≤ 8 := by omega
  obtain ⟨q1, q2⟩ := Rw9.stay_eq (P := short A) (fun s h => (hP s h).sh) n0 m
  rw [← hr] at q1 q2
  have hw := fun st => r_wstay (k + 2) A st hg.sh hg.ne (by have := hg.ln; omega)
  have hs := fun st => r_stay (k + 1) (short A) st hP hl
  rw [callN_succ (F := F45) rfl]; simp -implicitDefEqProofs only [callF, F45, List.length_cons, List.length_nil, Nat.reduceAdd, ↓reduceIte, List.map_cons, List.map_nil, Nat.reduceSub, List.cons_append, List.nil_append, List.append_nil, List.replicate, List.set_cons_succ, List.set_cons_zero, Nat.reduceLT, gE_0, gE_s]
  refine fin_eq (o' := .rt (.t (.bl true)) st) ?_ (by rw [fin_rt rfl, take_all])
  cases hp : Rw9.pStay (short A) with
  | none =>
    rw [hp] at q1 hs
    have hwn : Rw9.wStay A = none := by
      cases h : Rw9.wStay A with
      | none => rfl
      | some y => rw [h] at q1; cases q1
    rw [hwn] at hw
    have hw : ∀ st, callN lib.ft lib.g0 (k + 7) 43 [.t (.lst (A.map fr))] st = .ok (.t .non) st := hw
    have hs : ∀ st, callN lib.ft lib.g0 (k + 7) 26 [.t (row (short A))] st = .ok (.t .non) st := hs
    clear q1 q2 hr mem
    generalize short A = P at *
    generalize A.map fr = X at *
    refine exs_nx (Q := fun o => o = Z.O.rt (.t (.bl true)) st) (σ1 := [some (.t (row P)), some (.t (.lst X)), some (.t .non), some (.t .non)]) (s1 := st) (by simp -implicitDefEqProofs only [exs, ex, ev, evs, evo, evC, rb_ok, rt_ok, of_some, lift2_t, view_t, subD_tup, subD_lst, at0, at1, at2, at3, subTT, addT, tupD2, fin_rt, fin_nx, cast0, cast1, cast2, cast3, cast4, cast5, Int.reduceLT, Int.reduceLE, Int.reduceEq, Int.reduceNe, decide_not, map_some, take_all, cmp_lt, cmp_le, cmp_gt, cmp_ge, cmp_eq, cmp_ne, tru_bl, setTg_name, setTg_tup, setTg_lst, setTgs_nil, setTgs_cons, decide_eq_true_eq, Option.bind_some, Option.bind_none, bl_not, is_non, isnt_non, cmpIs_tup, cmpIsN_tup, if_tt, if_ff, tru_int, reduceCtorEq, decide_true, decide_false, Bool.not_true, Bool.not_false, mm1, mm2, mm3, mapM1, mapM2, lstD_c0, lstD_t0, lstD_t1, lstD_t2, lstD_t3, isL_last, isi_int_non, isi_bool_non, isi_tuple_non, isi_list_non, isi_dict_non, isi_lt_non, isi_int_bl, isi_bool_bl, isi_tuple_bl, isi_list_bl, isi_dict_bl, isi_lt_bl, isi_int_int, isi_bool_int, isi_tuple_int, isi_list_int, isi_dict_int, isi_lt_int, isi_int_str, isi_bool_str, isi_tuple_str, isi_list_str, isi_dict_str, isi_lt_str, isi_int_tup, isi_bool_tup, isi_tuple_tup, isi_list_tup, isi_dict_tup, isi_lt_tup, isi_int_lst, isi_bool_lst, isi_tuple_lst, isi_list_lst, isi_dict_lst, isi_lt_lst, isi_int_dk, isi_bool_dk, isi_tuple_dk, isi_list_dk, isi_dict_dk, isi_lt_dk, tup_ty, lenT_lst, lenT_tup, intT, Bool.or_true, Bool.true_or, Bool.or_false, Bool.false_or, Bool.and_true, Bool.true_and, Bool.and_false, Bool.false_and, Z.isNon, not_true_eq_false, not_false_eq_true, Bool.not_eq_true, Bool.false_eq_true, Option.map_some, List.length_cons, List.length_nil, Nat.reduceAdd, ↓reduceIte, List.map_cons, List.map_nil, Nat.reduceSub, List.cons_append, List.nil_append, List.append_nil, List.replicate, List.set_cons_succ, List.set_cons_zero, Nat.reduceLT, gE_0, gE_s, df_0_1, df_1_2, df_2_2, df_3_1, df_4_1, df_5_1, df_6_1, df_7_1, df_8_1, df_10_1, df_14_1, df_15_1, df_16_1, df_17_2, df_18_2, df_25_1, df_25_2, df_26_1, df_27_2, df_28_1, df_29_2, df_30_2, df_31_2, df_32_2, df_33_2, df_34_2, df_35_2, df_36_2, df_37_2, df_38_2, df_39_2, df_40_2, df_41_2, df_42_1, df_43_1, df_44_1, df_45_2, hw, hs, mth_stay, Nat.reduceLT, and_self]) ?_
    exact exs_rt (Q := fun o => o = Z.O.rt (.t (.bl true)) st) (d := .t (.bl true)) (s1 := st) (by simp -implicitDefEqProofs only [exs, ex, ev, evs, evo, evC, rb_ok, rt_ok, of_some, lift2_t, view_t, subD_tup, subD_lst, at0, at1, at2, at3, subTT, addT, tupD2, fin_rt, fin_nx, cast0, cast1, cast2, cast3, cast4, cast5, Int.reduceLT, Int.reduceLE, Int.reduceEq, Int.reduceNe, decide_not, map_some, take_all, cmp_lt, cmp_le, cmp_gt, cmp_ge, cmp_eq, cmp_ne, tru_bl, setTg_name, setTg_tup, setTg_lst, setTgs_nil, setTgs_cons, decide_eq_true_eq, Option.bind_some, Option.bind_none, bl_not, is_non, isnt_non, cmpIs_tup, cmpIsN_tup, if_tt, if_ff, tru_int, reduceCtorEq, decide_true, decide_false, Bool.not_true, Bool.not_false, mm1, mm2, mm3, mapM1, mapM2, lstD_c0, lstD_t0, lstD_t1, lstD_t2, lstD_t3, isL_last, isi_int_non, isi_bool_non, isi_tuple_non, isi_list_non, isi_dict_non, isi_lt_non, isi_int_bl, isi_bool_bl, isi_tuple_bl, isi_list_bl, isi_dict_bl, isi_lt_bl, isi_int_int, isi_bool_int, isi_tuple_int, isi_list_int, isi_dict_int, isi_lt_int, isi_int_str, isi_bool_str, isi_tuple_str, isi_list_str, isi_dict_str, isi_lt_str, isi_int_tup, isi_bool_tup, isi_tuple_tup, isi_list_tup, isi_dict_tup, isi_lt_tup, isi_int_lst, isi_bool_lst, isi_tuple_lst, isi_list_lst, isi_dict_lst, isi_lt_lst, isi_int_dk, isi_bool_dk, isi_tuple_dk, isi_list_dk, isi_dict_dk, isi_lt_dk, tup_ty, lenT_lst, lenT_tup, intT, Bool.or_true, Bool.true_or, Bool.or_false, Bool.false_or, Bool.and_true, Bool.true_and, Bool.and_false, Bool.false_and, Z.isNon, not_true_eq_false, not_false_eq_true, Bool.not_eq_true, Bool.false_eq_true, Option.map_some, List.length_cons, List.length_nil, Nat.reduceAdd, ↓reduceIte, List.map_cons, List.map_nil, Nat.reduceSub, List.cons_append, List.nil_append, List.append_nil, List.replicate, List.set_cons_succ, List.set_cons_zero, Nat.reduceLT, gE_0, gE_s, df_0_1, df_1_2, df_2_2, df_3_1, df_4_1, df_5_1, df_6_1, df_7_1, df_8_1, df_10_1, df_14_1, df_15_1, df_16_1, df_17_2, df_18_2, df_25_1, df_25_2, df_26_1, df_27_2, df_28_1, df_29_2, df_30_2, df_31_2, df_32_2, df_33_2, df_34_2, df_35_2, df_36_2, df_37_2, df_38_2, df_39_2, df_40_2, df_41_2, df_42_1, df_43_1, df_44_1, df_45_2]) rfl
  | some x =>
    rw [hp] at q1 hs
    have hs : ∀ st, callN lib.ft lib.g0 (k + 7) 26 [.t (row (short A))] st = .ok (.t (fr x)) st := hs
    obtain ⟨rx, px, lx, ll, wx, ix⟩ := q2 x hp
    have hwy : ∃ y, Rw9.wStay A = some y := by
      cases h : Rw9.wStay A with
      | none => rw [h] at q1; cases q1
      | some y => exact ⟨y, rfl⟩
    obtain ⟨y, hwy⟩ := hwy
    rw [hwy] at hw
    have hw : ∀ st, callN lib.ft lib.g0 (k + 7) 43 [.t (.lst (A.map fr))] st = .ok (.t (fr y)) st := hw
    obtain ⟨m1, m2⟩ := bd_mid hP hl6
    obtain ⟨b1, b2⟩ := bd_low m1 m2
    rw [← rx] at b1 b2
    have hlow := fun st => r_low (k + 6) x.1 x.2 st px.2 (b1.mono (by decide)) (b2.mono (by decide))
    have el : Rw9.low (x.1, x.2) = x := ll
    rw [el] at hlow
    have hwis := fun st => r_wis (k + 3) A x st hg.sh (by have := hg.ln; omega) px.2 b1 b2
    rw [wx] at hwis
    have hu := fun i st hi => r_unsafe k (short A) st hP hl i hi hp
    have hu18 := fun st => hu 0 st (by decide)
    have hu3 := fun st => hu 3 st (by decide)
    have hv : isv (short A) x = true := by
      unfold isv Rw9.pIs'
      have := px.1
      have := px.2
      rw [if_neg (by omega), ll, if_pos ⟨by omega, lx⟩]
      exact ix
    have hi1 := fun st => r_isstay (k + 2) (x := fr x) (p := x) (short A) st (fun k st => r_frac_tup k _ _ st (b2.mono (by decide))) hP hl (by rw [ll]; exact b1.mono (by decide)) (by rw [ll]; exact b2.mono (by decide))
    have hi2 := fun st => r_isstay (k + 2) (x := .lst [.int x.1, .int x.2]) (p := x) (short A) st (fun k st => r_frac_lst k _ _ st (b2.mono (by decide))) hP hl (by rw [ll]; exact b1.mono (by decide)) (by rw [ll]; exact b2.mono (by decide))
    rw [hv] at hi1 hi2
    clear q1 q2 hr mem rx b1 b2 m1 m2
    generalize short A = P at *
    generalize A.map fr = X at *
    refine exs_nx (Q := fun o => o = Z.O.rt (.t (.bl true)) st) (σ1 := [some (.t (row P)), some (.t (.lst X)), some (.t (fr y)), some (.t (fr x))]) (s1 := st) (by simp -implicitDefEqProofs only [exs, ex, ev, evs, evo, evC, rb_ok, rt_ok, of_some, lift2_t, view_t, subD_tup, subD_lst, at0, at1, at2, at3, subTT, addT, tupD2, fin_rt, fin_nx, cast0, cast1, cast2, cast3, cast4, cast5, Int.reduceLT, Int.reduceLE, Int.reduceEq, Int.reduceNe, decide_not, map_some, take_all, cmp_lt, cmp_le, cmp_gt, cmp_ge, cmp_eq, cmp_ne, tru_bl, setTg_name, setTg_tup, setTg_lst, setTgs_nil, setTgs_cons, decide_eq_true_eq, Option.bind_some, Option.bind_none, bl_not, is_non, isnt_non, cmpIs_tup, cmpIsN_tup, if_tt, if_ff, tru_int, reduceCtorEq, decide_true, decide_false, Bool.not_true, Bool.not_false, mm1, mm2, mm3, mapM1, mapM2, lstD_c0, lstD_t0, lstD_t1, lstD_t2, lstD_t3, isL_last, isi_int_non, isi_bool_non, isi_tuple_non, isi_list_non, isi_dict_non, isi_lt_non, isi_int_bl, isi_bool_bl, isi_tuple_bl, isi_list_bl, isi_dict_bl, isi_lt_bl, isi_int_int, isi_bool_int, isi_tuple_int, isi_list_int, isi_dict_int, isi_lt_int, isi_int_str, isi_bool_str, isi_tuple_str, isi_list_str, isi_dict_str, isi_lt_str, isi_int_tup, isi_bool_tup, isi_tuple_tup, isi_list_tup, isi_dict_tup, isi_lt_tup, isi_int_lst, isi_bool_lst, isi_tuple_lst, isi_list_lst, isi_dict_lst, isi_lt_lst, isi_int_dk, isi_bool_dk, isi_tuple_dk, isi_list_dk, isi_dict_dk, isi_lt_dk, tup_ty, lenT_lst, lenT_tup, intT, Bool.or_true, Bool.true_or, Bool.or_false, Bool.false_or, Bool.and_true, Bool.true_and, Bool.and_false, Bool.false_and, Z.isNon, not_true_eq_false, not_false_eq_true, Bool.not_eq_true, Bool.false_eq_true, Option.map_some, List.length_cons, List.length_nil, Nat.reduceAdd, ↓reduceIte, List.map_cons, List.map_nil, Nat.reduceSub, List.cons_append, List.nil_append, List.append_nil, List.replicate, List.set_cons_succ, List.set_cons_zero, Nat.reduceLT, gE_0, gE_s, df_0_1, df_1_2, df_2_2, df_3_1, df_4_1, df_5_1, df_6_1, df_7_1, df_8_1, df_10_1, df_14_1, df_15_1, df_16_1, df_17_2, df_18_2, df_25_1, df_25_2, df_26_1, df_27_2, df_28_1, df_29_2, df_30_2, df_31_2, df_32_2, df_33_2, df_34_2, df_35_2, df_36_2, df_37_2, df_38_2, df_39_2, df_40_2, df_41_2, df_42_1, df_43_1, df_44_1, df_45_2, hw, hs, mth_stay, Nat.reduceLT, and_self]) ?_
    refine exs_nx (Q := fun o => o = Z.O.rt (.t (.bl true)) st) (σ1 := [some (.t (row P)), some (.t (.lst X)), some (.t (fr y)), some (.t (fr x))]) (s1 := st) (by simp -implicitDefEqProofs only [exs, ex, ev, evs, evo, evC, rb_ok, rt_ok, of_some, lift2_t, view_t, subD_tup, subD_lst, at0, at1, at2, at3, subTT, addT, tupD2, fin_rt, fin_nx, cast0, cast1, cast2, cast3, cast4, cast5, Int.reduceLT, Int.reduceLE, Int.reduceEq, Int.reduceNe, decide_not, map_some, take_all, cmp_lt, cmp_le, cmp_gt, cmp_ge, cmp_eq, cmp_ne, tru_bl, setTg_name, setTg_tup, setTg_lst, setTgs_nil, setTgs_cons, decide_eq_true_eq, Option.bind_some, Option.bind_none, bl_not, is_non, isnt_non, cmpIs_tup, cmpIsN_tup, if_tt, if_ff, tru_int, reduceCtorEq, decide_true, decide_false, Bool.not_true, Bool.not_false, mm1, mm2, mm3, mapM1, mapM2, lstD_c0, lstD_t0, lstD_t1, lstD_t2, lstD_t3, isL_last, isi_int_non, isi_bool_non, isi_tuple_non, isi_list_non, isi_dict_non, isi_lt_non, isi_int_bl, isi_bool_bl, isi_tuple_bl, isi_list_bl, isi_dict_bl, isi_lt_bl, isi_int_int, isi_bool_int, isi_tuple_int, isi_list_int, isi_dict_int, isi_lt_int, isi_int_str, isi_bool_str, isi_tuple_str, isi_list_str, isi_dict_str, isi_lt_str, isi_int_tup, isi_bool_tup, isi_tuple_tup, isi_list_tup, isi_dict_tup, isi_lt_tup, isi_int_lst, isi_bool_lst, isi_tuple_lst, isi_list_lst, isi_dict_lst, isi_lt_lst, isi_int_dk, isi_bool_dk, isi_tuple_dk, isi_list_dk, isi_dict_dk, isi_lt_dk, tup_ty, lenT_lst, lenT_tup, intT, Bool.or_true, Bool.true_or, Bool.or_false, Bool.false_or, Bool.and_true, Bool.true_and, Bool.and_false, Bool.false_and, Z.isNon, not_true_eq_false, not_false_eq_true, Bool.not_eq_true, Bool.false_eq_true, Option.map_some, List.length_cons, List.length_nil, Nat.reduceAdd, ↓reduceIte, List.map_cons, List.map_nil, Nat.reduceSub, List.cons_append, List.nil_append, List.append_nil, List.replicate, List.set_cons_succ, List.set_cons_zero, Nat.reduceLT, gE_0, gE_s, df_0_1, df_1_2, df_2_2, df_3_1, df_4_1, df_5_1, df_6_1, df_7_1, df_8_1, df_10_1, df_14_1, df_15_1, df_16_1, df_17_2, df_18_2, df_25_1, df_25_2, df_26_1, df_27_2, df_28_1, df_29_2, df_30_2, df_31_2, df_32_2, df_33_2, df_34_2, df_35_2, df_36_2, df_37_2, df_38_2, df_39_2, df_40_2, df_41_2, df_42_1, df_43_1, df_44_1, df_45_2]) ?_
    refine exs_nx (Q := fun o => o = Z.O.rt (.t (.bl true)) st) (σ1 := [some (.t (row P)), some (.t (.lst X)), some (.t (fr y)), some (.t (fr x))]) (s1 := st) (by simp -implicitDefEqProofs only [exs, ex, ev, evs, evo, evC, rb_ok, rt_ok, of_some, lift2_t, view_t, subD_tup, subD_lst, at0, at1, at2, at3, subTT, addT, tupD2, fin_rt, fin_nx, cast0, cast1, cast2, cast3, cast4, cast5, Int.reduceLT, Int.reduceLE, Int.reduceEq, Int.reduceNe, decide_not, map_some, take_all, cmp_lt, cmp_le, cmp_gt, cmp_ge, cmp_eq, cmp_ne, tru_bl, setTg_name, setTg_tup, setTg_lst, setTgs_nil, setTgs_cons, decide_eq_true_eq, Option.bind_some, Option.bind_none, bl_not, is_non, isnt_non, cmpIs_tup, cmpIsN_tup, if_tt, if_ff, tru_int, reduceCtorEq, decide_true, decide_false, Bool.not_true, Bool.not_false, mm1, mm2, mm3, mapM1, mapM2, lstD_c0, lstD_t0, lstD_t1, lstD_t2, lstD_t3, isL_last, isi_int_non, isi_bool_non, isi_tuple_non, isi_list_non, isi_dict_non, isi_lt_non, isi_int_bl, isi_bool_bl, isi_tuple_bl, isi_list_bl, isi_dict_bl, isi_lt_bl, isi_int_int, isi_bool_int, isi_tuple_int, isi_list_int, isi_dict_int, isi_lt_int, isi_int_str, isi_bool_str, isi_tuple_str, isi_list_str, isi_dict_str, isi_lt_str, isi_int_tup, isi_bool_tup, isi_tuple_tup, isi_list_tup, isi_dict_tup, isi_lt_tup, isi_int_lst, isi_bool_lst, isi_tuple_lst, isi_list_lst, isi_dict_lst, isi_lt_lst, isi_int_dk, isi_bool_dk, isi_tuple_dk, isi_list_dk, isi_dict_dk, isi_lt_dk, tup_ty, lenT_lst, lenT_tup, intT, Bool.or_true, Bool.true_or, Bool.or_false, Bool.false_or, Bool.and_true, Bool.true_and, Bool.and_false, Bool.false_and, Z.isNon, not_true_eq_false, not_false_eq_true, Bool.not_eq_true, Bool.false_eq_true, Option.map_some, List.length_cons, List.length_nil, Nat.reduceAdd, ↓reduceIte, List.map_cons, List.map_nil, Nat.reduceSub, List.cons_append, List.nil_append, List.append_nil, List.replicate, List.set_cons_succ, List.set_cons_zero, Nat.reduceLT, gE_0, gE_s, df_0_1, df_1_2, df_2_2, df_3_1, df_4_1, df_5_1, df_6_1, df_7_1, df_8_1, df_10_1, df_14_1, df_15_1, df_16_1, df_17_2, df_18_2, df_25_1, df_25_2, df_26_1, df_27_2, df_28_1, df_29_2, df_30_2, df_31_2, df_32_2, df_33_2, df_34_2, df_35_2, df_36_2, df_37_2, df_38_2, df_39_2, df_40_2, df_41_2, df_42_1, df_43_1, df_44_1, df_45_2, hlow, cmp_ne_fr]) ?_
    refine exs_nx (Q := fun o => o = Z.O.rt (.t (.bl true)) st) (σ1 := [some (.t (row P)), some (.t (.lst X)), some (.t (fr y)), some (.t (fr x))]) (s1 := st) (by simp -implicitDefEqProofs only [exs, ex, ev, evs, evo, evC, rb_ok, rt_ok, of_some, lift2_t, view_t, subD_tup, subD_lst, at0, at1, at2, at3, subTT, addT, tupD2, fin_rt, fin_nx, cast0, cast1, cast2, cast3, cast4, cast5, Int.reduceLT, Int.reduceLE, Int.reduceEq, Int.reduceNe, decide_not, map_some, take_all, cmp_lt, cmp_le, cmp_gt, cmp_ge, cmp_eq, cmp_ne, tru_bl, setTg_name, setTg_tup, setTg_lst, setTgs_nil, setTgs_cons, decide_eq_true_eq, Option.bind_some, Option.bind_none, bl_not, is_non, isnt_non, cmpIs_tup, cmpIsN_tup, if_tt, if_ff, tru_int, reduceCtorEq, decide_true, decide_false, Bool.not_true, Bool.not_false, mm1, mm2, mm3, mapM1, mapM2, lstD_c0, lstD_t0, lstD_t1, lstD_t2, lstD_t3, isL_last, isi_int_non, isi_bool_non, isi_tuple_non, isi_list_non, isi_dict_non, isi_lt_non, isi_int_bl, isi_bool_bl, isi_tuple_bl, isi_list_bl, isi_dict_bl, isi_lt_bl, isi_int_int, isi_bool_int, isi_tuple_int, isi_list_int, isi_dict_int, isi_lt_int, isi_int_str, isi_bool_str, isi_tuple_str, isi_list_str, isi_dict_str, isi_lt_str, isi_int_tup, isi_bool_tup, isi_tuple_tup, isi_list_tup, isi_dict_tup, isi_lt_tup, isi_int_lst, isi_bool_lst, isi_tuple_lst, isi_list_lst, isi_dict_lst, isi_lt_lst, isi_int_dk, isi_bool_dk, isi_tuple_dk, isi_list_dk, isi_dict_dk, isi_lt_dk, tup_ty, lenT_lst, lenT_tup, intT, Bool.or_true, Bool.true_or, Bool.or_false, Bool.false_or, Bool.and_true, Bool.true_and, Bool.and_false, Bool.false_and, Z.isNon, not_true_eq_false, not_false_eq_true, Bool.not_eq_true, Bool.false_eq_true, Option.map_some, List.length_cons, List.length_nil, Nat.reduceAdd, ↓reduceIte, List.map_cons, List.map_nil, Nat.reduceSub, List.cons_append, List.nil_append, List.append_nil, List.replicate, List.set_cons_succ, List.set_cons_zero, Nat.reduceLT, gE_0, gE_s, df_0_1, df_1_2, df_2_2, df_3_1, df_4_1, df_5_1, df_6_1, df_7_1, df_8_1, df_10_1, df_14_1, df_15_1, df_16_1, df_17_2, df_18_2, df_25_1, df_25_2, df_26_1, df_27_2, df_28_1, df_29_2, df_30_2, df_31_2, df_32_2, df_33_2, df_34_2, df_35_2, df_36_2, df_37_2, df_38_2, df_39_2, df_40_2, df_41_2, df_42_1, df_43_1, df_44_1, df_45_2, hwis, mth_unsafe, hu18, hu3]) ?_
    exact exs_rt (Q := fun o => o = Z.O.rt (.t (.bl true)) st) (d := .t (.bl true)) (s1 := st) (by simp -implicitDefEqProofs only [exs, ex, ev, evs, evo, evC, rb_ok, rt_ok, of_some, lift2_t, view_t, subD_tup, subD_lst, at0, at1, at2, at3, subTT, addT, tupD2, fin_rt, fin_nx, cast0, cast1, cast2, cast3, cast4, cast5, Int.reduceLT, Int.reduceLE, Int.reduceEq, Int.reduceNe, decide_not, map_some, take_all, cmp_lt, cmp_le, cmp_gt, cmp_ge, cmp_eq, cmp_ne, tru_bl, setTg_name, setTg_tup, setTg_lst, setTgs_nil, setTgs_cons, decide_eq_true_eq, Option.bind_some, Option.bind_none, bl_not, is_non, isnt_non, cmpIs_tup, cmpIsN_tup, if_tt, if_ff, tru_int, reduceCtorEq, decide_true, decide_false, Bool.not_true, Bool.not_false, mm1, mm2, mm3, mapM1, mapM2, lstD_c0, lstD_t0, lstD_t1, lstD_t2, lstD_t3, isL_last, isi_int_non, isi_bool_non, isi_tuple_non, isi_list_non, isi_dict_non, isi_lt_non, isi_int_bl, isi_bool_bl, isi_tuple_bl, isi_list_bl, isi_dict_bl, isi_lt_bl, isi_int_int, isi_bool_int, isi_tuple_int, isi_list_int, isi_dict_int, isi_lt_int, isi_int_str, isi_bool_str, isi_tuple_str, isi_list_str, isi_dict_str, isi_lt_str, isi_int_tup, isi_bool_tup, isi_tuple_tup, isi_list_tup, isi_dict_tup, isi_lt_tup, isi_int_lst, isi_bool_lst, isi_tuple_lst, isi_list_lst, isi_dict_lst, isi_lt_lst, isi_int_dk, isi_bool_dk, isi_tuple_dk, isi_list_dk, isi_dict_dk, isi_lt_dk, tup_ty, lenT_lst, lenT_tup, intT, Bool.or_true, Bool.true_or, Bool.or_false, Bool.false_or, Bool.and_true, Bool.true_and, Bool.and_false, Bool.false_and, Z.isNon, not_true_eq_false, not_false_eq_true, Bool.not_eq_true, Bool.false_eq_true, Option.map_some, List.length_cons, List.length_nil, Nat.reduceAdd, ↓reduceIte, List.map_cons, List.map_nil, Nat.reduceSub, List.cons_append, List.nil_append, List.append_nil, List.replicate, List.set_cons_succ, List.set_cons_zero, Nat.reduceLT, gE_0, gE_s, df_0_1, df_1_2, df_2_2, df_3_1, df_4_1, df_5_1, df_6_1, df_7_1, df_8_1, df_10_1, df_14_1, df_15_1, df_16_1, df_17_2, df_18_2, df_25_1, df_25_2, df_26_1, df_27_2, df_28_1, df_29_2, df_30_2, df_31_2, df_32_2, df_33_2, df_34_2, df_35_2, df_36_2, df_37_2, df_38_2, df_39_2, df_40_2, df_41_2, df_42_1, df_43_1, df_44_1, df_45_2, mth_isstay, hi1, hi2, is_bl, bi_list]) rfl
end Lw
end Z
end
section
set_option Elab.async false
set_option linter.all false
set_option maxRecDepth 100000
set_option maxHeartbeats 4000000
namespace Z
namespace Lw

open PySem L2 Zr
theorem isv_odd {P : List P2} {p : P2} (h : p.2 < 1 ∨ (Rw9.low p).1 < 0 ∨ (Rw9.low p).2 < (Rw9.low p).1 ∨ (Rw9.low p).1 = 0) : isv P p = false := by
  unfold isv Rw9.pIs' Rw9.pIs
  split
  · rfl
  · split
    · rw [if_pos (by omega)]
    · rfl
abbrev odds : List T := [.non, .int 0, .int (-1), .tup [.int (-1), .int 2], .tup [.int 1, .int 0], .tup [.int 0, .int 5], .tup [.int 3, .int 2], .int 2, .str "1", .bl true, .lst [], .dk [], .tup [.int 1], .tup [.int 1, .int 2, .int 3], .tup [.str "1", .int 2]]
theorem lstD_t15 (s : S) (a b c d e f g h i j k l m n o : T) : lstD false s [.t a, .t b, .t c, .t d, .t e, .t f, .t g, .t h, .t i, .t j, .t k, .t l, .t m, .t n, .t o] = .ok (.t (.lst [a, b, c, d, e, f, g, h, i, j, k, l, m, n, o])) s := (rfl)
theorem odd_no (k : Nat) (P : List P2) (st : S) (hP : ∀ s ∈ P, Shr s) (hl : P.length ≤ 8) {t : T} (ht : t ∈ odds) : callN lib.ft lib.g0 (k + 5) 27 [.t (row P), .t t] st = .ok (.t (.bl false)) st := by
  have no : Fro t → callN lib.ft lib.g0 (k + 5) 27 [.t (row P), .t t] st = .ok (.t (.bl false)) st := fun h => r_isstay_no k P st fun k st => r_shar_no k st h
  have ye : ∀ p : P2, Frs t p → ((decide (p.2 < 1) || decide ((Rw9.low p).1 < 0) || decide ((Rw9.low p).2 < (Rw9.low p).1) || decide ((Rw9.low p).1 = 0)) && decide ((Rw9.low p).1.natAbs < 100) && decide ((Rw9.low p).2.natAbs < 100)) = true → callN lib.ft lib.g0 (k + 5) 27 [.t (row P), .t t] st = .ok (.t (.bl false)) st := by
    intro p h hp
    simp only [Bool.and_eq_true, Bool.or_eq_true, decide_eq_true_eq] at hp
    obtain ⟨⟨h1, h2⟩, h3⟩ := hp
    rw [r_isstay k P st h hP hl (bd_lit 100 (by omega) (by decide)) (bd_lit 100 (by omega) (by decide)), isv_odd (by omega)]
  simp only [odds, List.mem_cons, List.not_mem_nil, or_false] at ht
  rcases ht with rfl | rfl | rfl | rfl | rfl | rfl | rfl | rfl | rfl | rfl | rfl | rfl | rfl | rfl | rfl
  · exact no fro_non
  · exact ye (0, 1) (fun k st => r_frac_int k _ st) (by decide +kernel)
  · exact ye (-1, 1) (fun k st => r_frac_int k _ st) (by decide +kernel)
  · exact ye (-1, 2) (fun k st => r_frac_tup k _ _ st (by unfold Bd; decide +kernel)) (by decide +kernel)
  · exact ye (1, 0) (fun k st => r_frac_tup k _ _ st (by unfold Bd; decide +kernel)) (by decide +kernel)
  · exact ye (0, 5) (fun k st => r_frac_tup k _ _ st (by unfold Bd; decide +kernel)) (by decide +kernel)
  · exact ye (3, 2) (fun k st => r_frac_tup k _ _ st (by unfold Bd; decide +kernel)) (by decide +kernel)
  · exact ye (2, 1) (fun k st => r_frac_int k _ st) (by decide +kernel)
  · exact no (fro_str _)
  · exact no (fro_bl _)
  · exact no fro_lst0
  · exact no fro_dk
  · exact no (fro_tup1 _)
  · exact no (fro_tup3 _ _ _)
  · exact no (fro_strs _ _)
theorem ne_oT (o : Option P2) : cmpT .NotEq (oT o) (oT o) = some false := by
  cases o with
  | none => decide +kernel
  | some x =>
    have := cmp_ne_fr x x
    rw [decide_eq_true rfl] at this
    exact this
/-- what is_stay answers to a fraction told is the law's word -/
theorem isv_wis {A : List P2} (hg : Good A) {p x : P2} (hp : 0 < p.2) (hlp : Rw9.low p = x) (h0 : 0 ≤ x.1) (h2 : 0 < x.2) (hl : Rw9.low x = x) : isv (short A) p = Rw9.wIs A x := by
  obtain ⟨n0, mem, m, hr⟩ := short_ok hg.ne
  have hP : ∀ s ∈ short A, Rw9.Sh s := fun s h => (hg.sh s (mem s h)).sh
  unfold isv
  rw [if_neg (by omega), hlp]
  by_cases c : x.1 ≤ x.2
  · unfold Rw9.pIs'
    rw [if_pos ⟨h0, c⟩, Rw9.is_eq hP m h0 c h2 hl, ← hr]
  · unfold Rw9.pIs' Rw9.wIs
    rw [if_neg (by omega), if_pos (by omega)]
/-! ### the law -/
def I1 (ns sm : List Int) (i : Nat) (σ : Sl) (s : S) : Prop := ∃ (G : List Int) (f n : Int) (a b6 b7 b8 b9 b10 b11 : Option D), s = sp G f sm n [] ∧ 0 ≤ n ∧ n ≤ 60 * (i : Int) ∧ σ = [some (.t (.scr ns)), some (.c 1), a, none, none, none, b6, b7, b8, b9, b10, b11, none]
def QT (ns sm : List Int) (i : Nat) (o : Z.O) : Prop := ∃ (σ : Sl) (s : S), o = Z.O.nx σ s ∧ I1 ns sm i σ s
theorem pars {A : List P2} (hg : Good A) : (∀ s ∈ short A, Shr s) ∧ (short A).length ≤ 6 := by
  obtain ⟨n0, mem, m, hr⟩ := short_ok hg.ne
  exact ⟨fun s h => hg.sh s (mem s h), Nat.le_trans (rep_len hr) hg.ln⟩
theorem t_turn (k : Nat) (ns sm : List Int) (j : Nat) (hj : j < 4) (σ : Sl) (s : S) (hi : I1 ns sm j σ s) (b : Ss) (tl : Ss) (hb : F46.body = .cons (.set (.name 1) (.call 28 (.cons (.var 0) .nil))) (.cons (.for (.name 2) (.rng1 (.con (.int 4))) b) tl)) :
    ∃ σ' s', turnX { lib.g0 with call := callN lib.ft lib.g0 (k + 8) } (.name 2) b (.t (.int (0 + (j : Int)))) σ s = .nx σ' s' ∧ I1 ns sm (j + 1) σ' s' := by
  cases hb
  obtain ⟨G, f, n, a, b6, b7, b8, b9, b10, b11, rfl, hn0, hn, rfl⟩ := hi
  show QT ns sm (j + 1) (turnX _ _ _ _ _ _)
  rw [turnX_nx (σ1 := [some (.t (.scr ns)), some (.c 1), some (.t (.int (0 + (j : Int)))), none, none, none, b6, b7, b8, b9, b10, b11, none]) rfl]
  obtain ⟨A0, G1, f1, n1, e1, g0, h1, h2⟩ := r_rows (k + 5) G f sm n hn0 (by omega)
  have e1 : callN lib.ft lib.g0 (k + 8) 42 [.c 1] (sp G f sm n []) = .ok (.t (.lst (A0.map fr))) (sp G1 f1 sm n1 []) := e1
  refine exs_nx (Q := QT ns sm (j + 1)) (σ1 := [some (.t (.scr ns)), some (.c 1), some (.t (.int (0 + (j : Int)))), none, none, none, some (.t (.lst (A0.map fr))), b7, b8, b9, b10, b11, none]) (s1 := sp G1 f1 sm n1 []) (by
    generalize (0 : Int) + (j : Int) = jj at *
    generalize A0.map fr = X at *
    simp -implicitDefEqProofs only [exs, ex, ev, evs, evo, evC, rb_ok, rt_ok, of_some, lift2_t, view_t, subD_tup, subD_lst, at0, at1, at2, at3, subTT, addT, tupD2, fin_rt, fin_nx, cast0, cast1, cast2, cast3, cast4, cast5, Int.reduceLT, Int.reduceLE, Int.reduceEq, Int.reduceNe, decide_not, map_some, take_all, cmp_lt, cmp_le, cmp_gt, cmp_ge, cmp_eq, cmp_ne, tru_bl, setTg_name, setTg_tup, setTg_lst, setTgs_nil, setTgs_cons, decide_eq_true_eq, Option.bind_some, Option.bind_none, bl_not, is_non, isnt_non, cmpIs_tup, cmpIsN_tup, if_tt, if_ff, tru_int, reduceCtorEq, decide_true, decide_false, Bool.not_true, Bool.not_false, mm1, mm2, mm3, mapM1, mapM2, lstD_c0, lstD_t0, lstD_t1, lstD_t2, lstD_t3, isL_last, isi_int_non, isi_bool_non, isi_tuple_non, isi_list_non, isi_dict_non, isi_lt_non, isi_int_bl, isi_bool_bl, isi_tuple_bl, isi_list_bl, isi_dict_bl, isi_lt_bl, isi_int_int, isi_bool_int, isi_tuple_int, isi_list_int, isi_dict_int, isi_lt_int, isi_int_str, isi_bool_str, isi_tuple_str, isi_list_str, isi_dict_str, isi_lt_str, isi_int_tup, isi_bool_tup, isi_tuple_tup, isi_list_tup, isi_dict_tup, isi_lt_tup, isi_int_lst, isi_bool_lst, isi_tuple_lst, isi_list_lst, isi_dict_lst, isi_lt_lst, isi_int_dk, isi_bool_dk, isi_tuple_dk, isi_list_dk, isi_dict_dk, isi_lt_dk, tup_ty, lenT_lst, lenT_tup, intT, Bool.or_true, Bool.true_or, Bool.or_false, Bool.false_or, Bool.and_true, Bool.true_and, Bool.and_false, Bool.false_and, Z.isNon, not_true_eq_false, not_false_eq_true, Bool.not_eq_true, Bool.false_eq_true, Option.map_some, List.length_cons, List.length_nil, Nat.reduceAdd, ↓reduceIte, List.map_cons, List.map_nil, Nat.reduceSub, List.cons_append, List.nil_append, List.append_nil, List.replicate, List.set_cons_succ, List.set_cons_zero, Nat.reduceLT, gE_0, gE_s, df_0_1, df_1_2, df_2_2, df_3_1, df_4_1, df_5_1, df_6_1, df_7_1, df_8_1, df_10_1, df_14_1, df_15_1, df_16_1, df_17_2, df_18_2, df_25_1, df_25_2, df_26_1, df_27_2, df_28_1, df_29_2, df_30_2, df_31_2, df_32_2, df_33_2, df_34_2, df_35_2, df_36_2, df_37_2, df_38_2, df_39_2, df_40_2, df_41_2, df_42_1, df_43_1, df_44_1, df_45_2, e1]) ?_
  have tk2 : ∃ A G' f' n', ex { lib.g0 with call := callN lib.ft lib.g0 (k + 8) } (.ife (.cmp .Eq (.call 29 (.cons (.var 1) (.cons (.con (.int 3)) .nil))) (.con (.int 0))) (.cons (.set (.name 6) (.call 44 (.cons (.var 1) .nil))) .nil) .nil) [some (.t (.scr ns)), some (.c 1), some (.t (.int (0 + (j : Int)))), none, none, none, some (.t (.lst (A0.map fr))), b7, b8, b9, b10, b11, none] (sp G1 f1 sm n1 []) = .nx [some (.t (.scr ns)), some (.c 1), some (.t (.int (0 + (j : Int)))), none, none, none, some (.t (.lst (A.map fr))), b7, b8, b9, b10, b11, none] (sp G' f' sm n' []) ∧ Good A ∧ n1 ≤ n' ∧ n' ≤ n1 + 2 := by
    generalize (0 : Int) + (j : Int) = jj at *
    obtain ⟨v, G2, f2, e2, v1, v2⟩ := tk (k + 7) 3 G1 f1 sm n1 [] (by decide) (bd_lit 100 (by decide) (by decide)) (by omega) (by omega)
    have e2 : callN lib.ft lib.g0 (k + 8) 29 [.c 1, .t (.int 3)] (sp G1 f1 sm n1 []) = .ok (.t (.int v)) (sp G2 f2 sm (n1 + 1) []) := e2
    by_cases c : v = 0
    · obtain ⟨w, G3, f3, e3, w1, w2⟩ := r_edge (k + 5) G2 f2 sm (n1 + 1) [] (by omega) (by omega)
      have e3 : callN lib.ft lib.g0 (k + 8) 44 [.c 1] (sp G2 f2 sm (n1 + 1) []) = .ok (.t (.lst ((edg w).map fr))) (sp G3 f3 sm (n1 + 1 + 1) []) := e3
      refine ⟨edg w, G3, f3, n1 + 1 + 1, ?_, (edge_ok w1 w2).g, by omega, by omega⟩
      generalize (edg w).map fr = Y at *
      generalize A0.map fr = X at *
      generalize n1 + 1 + 1 = n3 at *
      generalize n1 + 1 = n2 at *
      simp -implicitDefEqProofs only [exs, ex, ev, evs, evo, evC, rb_ok, rt_ok, of_some, lift2_t, view_t, subD_tup, subD_lst, at0, at1, at2, at3, subTT, addT, tupD2, fin_rt, fin_nx, cast0, cast1, cast2, cast3, cast4, cast5, Int.reduceLT, Int.reduceLE, Int.reduceEq, Int.reduceNe, decide_not, map_some, take_all, cmp_lt, cmp_le, cmp_gt, cmp_ge, cmp_eq, cmp_ne, tru_bl, setTg_name, setTg_tup, setTg_lst, setTgs_nil, setTgs_cons, decide_eq_true_eq, Option.bind_some, Option.bind_none, bl_not, is_non, isnt_non, cmpIs_tup, cmpIsN_tup, if_tt, if_ff, tru_int, reduceCtorEq, decide_true, decide_false, Bool.not_true, Bool.not_false, mm1, mm2, mm3, mapM1, mapM2, lstD_c0, lstD_t0, lstD_t1, lstD_t2, lstD_t3, isL_last, isi_int_non, isi_bool_non, isi_tuple_non, isi_list_non, isi_dict_non, isi_lt_non, isi_int_bl, isi_bool_bl, isi_tuple_bl, isi_list_bl, isi_dict_bl, isi_lt_bl, isi_int_int, isi_bool_int, isi_tuple_int, isi_list_int, isi_dict_int, isi_lt_int, isi_int_str, isi_bool_str, isi_tuple_str, isi_list_str, isi_dict_str, isi_lt_str, isi_int_tup, isi_bool_tup, isi_tuple_tup, isi_list_tup, isi_dict_tup, isi_lt_tup, isi_int_lst, isi_bool_lst, isi_tuple_lst, isi_list_lst, isi_dict_lst, isi_lt_lst, isi_int_dk, isi_bool_dk, isi_tuple_dk, isi_list_dk, isi_dict_dk, isi_lt_dk, tup_ty, lenT_lst, lenT_tup, intT, Bool.or_true, Bool.true_or, Bool.or_false, Bool.false_or, Bool.and_true, Bool.true_and, Bool.and_false, Bool.false_and, Z.isNon, not_true_eq_false, not_false_eq_true, Bool.not_eq_true, Bool.false_eq_true, Option.map_some, List.length_cons, List.length_nil, Nat.reduceAdd, ↓reduceIte, List.map_cons, List.map_nil, Nat.reduceSub, List.cons_append, List.nil_append, List.append_nil, List.replicate, List.set_cons_succ, List.set_cons_zero, Nat.reduceLT, gE_0, gE_s, df_0_1, df_1_2, df_2_2, df_3_1, df_4_1, df_5_1, df_6_1, df_7_1, df_8_1, df_10_1, df_14_1, df_15_1, df_16_1, df_17_2, df_18_2, df_25_1, df_25_2, df_26_1, df_27_2, df_28_1, df_29_2, df_30_2, df_31_2, df_32_2, df_33_2, df_34_2, df_35_2, df_36_2, df_37_2, df_38_2, df_39_2, df_40_2, df_41_2, df_42_1, df_43_1, df_44_1, df_45_2, e2, c, e3]
    · refine ⟨A0, G2, f2, n1 + 1, ?_, g0, by omega, by omega⟩
      generalize A0.map fr = X at *
      generalize n1 + 1 = n2 at *
      simp -implicitDefEqProofs only [exs, ex, ev, evs, evo, evC, rb_ok, rt_ok, of_some, lift2_t, view_t, subD_tup, subD_lst, at0, at1, at2, at3, subTT, addT, tupD2, fin_rt, fin_nx, cast0, cast1, cast2, cast3, cast4, cast5, Int.reduceLT, Int.reduceLE, Int.reduceEq, Int.reduceNe, decide_not, map_some, take_all, cmp_lt, cmp_le, cmp_gt, cmp_ge, cmp_eq, cmp_ne, tru_bl, setTg_name, setTg_tup, setTg_lst, setTgs_nil, setTgs_cons, decide_eq_true_eq, Option.bind_some, Option.bind_none, bl_not, is_non, isnt_non, cmpIs_tup, cmpIsN_tup, if_tt, if_ff, tru_int, reduceCtorEq, decide_true, decide_false, Bool.not_true, Bool.not_false, mm1, mm2, mm3, mapM1, mapM2, lstD_c0, lstD_t0, lstD_t1, lstD_t2, lstD_t3, isL_last, isi_int_non, isi_bool_non, isi_tuple_non, isi_list_non, isi_dict_non, isi_lt_non, isi_int_bl, isi_bool_bl, isi_tuple_bl, isi_list_bl, isi_dict_bl, isi_lt_bl, isi_int_int, isi_bool_int, isi_tuple_int, isi_list_int, isi_dict_int, isi_lt_int, isi_int_str, isi_bool_str, isi_tuple_str, isi_list_str, isi_dict_str, isi_lt_str, isi_int_tup, isi_bool_tup, isi_tuple_tup, isi_list_tup, isi_dict_tup, isi_lt_tup, isi_int_lst, isi_bool_lst, isi_tuple_lst, isi_list_lst, isi_dict_lst, isi_lt_lst, isi_int_dk, isi_bool_dk, isi_tuple_dk, isi_list_dk, isi_dict_dk, isi_lt_dk, tup_ty, lenT_lst, lenT_tup, intT, Bool.or_true, Bool.true_or, Bool.or_false, Bool.false_or, Bool.and_true, Bool.true_and, Bool.and_false, Bool.false_and, Z.isNon, not_true_eq_false, not_false_eq_true, Bool.not_eq_true, Bool.false_eq_true, Option.map_some, List.length_cons, List.length_nil, Nat.reduceAdd, ↓reduceIte, List.map_cons, List.map_nil, Nat.reduceSub, List.cons_append, List.nil_append, List.append_nil, List.replicate, List.set_cons_succ, List.set_cons_zero, Nat.reduceLT, gE_0, gE_s, df_0_1, df_1_2, df_2_2, df_3_1, df_4_1, df_5_1, df_6_1, df_7_1, df_8_1, df_10_1, df_14_1, df_15_1, df_16_1, df_17_2, df_18_2, df_25_1, df_25_2, df_26_1, df_27_2, df_28_1, df_29_2, df_30_2, df_31_2, df_32_2, df_33_2, df_34_2, df_35_2, df_36_2, df_37_2, df_38_2, df_39_2, df_40_2, df_41_2, df_42_1, df_43_1, df_44_1, df_45_2, e2, c]
  obtain ⟨A, G2, f2, n2, e2, hg, h3, h4⟩ := tk2
  refine exs_nx (Q := QT ns sm (j + 1)) (h := e2) ?_
  clear e1 e2
  obtain ⟨hP, hl6⟩ := pars hg
  have hl : (short A).length ≤ 8 := by omega
  have hmk : ∀ st, makeD { lib.g0 with call := callN lib.ft lib.g0 (k + 8) } 4 [.t (.lst (A.map fr))] st = .ok (.t (row (short A))) st := fun st => r_make (k + 2) A st hg.sh hg.ne (by have := hg.ln; omega)
  have hri : ∀ st, callN lib.ft lib.g0 (k + 8) 45 [.t (row (short A)), .t (.lst (A.map fr))] st = .ok (.t (.bl true)) st := fun st => r_right k A st hg
  have hst : ∀ st, callN lib.ft lib.g0 (k + 8) 26 [.t (row (short A))] st = .ok (.t (oT (Rw9.pStay (short A)))) st := fun st => r_stay (k + 2) (short A) st hP hl
  refine exs_nx (Q := QT ns sm (j + 1)) (σ1 := [some (.t (.scr ns)), some (.c 1), some (.t (.int (0 + (j : Int)))), none, none, none, some (.t (.lst (A.map fr))), some (.t (row (short A))), b8, b9, b10, b11, none]) (s1 := sp G2 f2 sm n2 []) (by
    generalize (0 : Int) + (j : Int) = jj at *
    clear hri hst hP hl hl6 hg
    generalize short A = P at *
    generalize A.map fr = X at *
    simp -implicitDefEqProofs only [exs, ex, ev, evs, evo, evC, rb_ok, rt_ok, of_some, lift2_t, view_t, subD_tup, subD_lst, at0, at1, at2, at3, subTT, addT, tupD2, fin_rt, fin_nx, cast0, cast1, cast2, cast3, cast4, cast5, Int.reduceLT, Int.reduceLE, Int.reduceEq, Int.reduceNe, decide_not, map_some, take_all, cmp_lt, cmp_le, cmp_gt, cmp_ge, cmp_eq, cmp_ne, tru_bl, setTg_name, setTg_tup, setTg_lst, setTgs_nil, setTgs_cons, decide_eq_true_eq, Option.bind_some, Option.bind_none, bl_not, is_non, isnt_non, cmpIs_tup, cmpIsN_tup, if_tt, if_ff, tru_int, reduceCtorEq, decide_true, decide_false, Bool.not_true, Bool.not_false, mm1, mm2, mm3, mapM1, mapM2, lstD_c0, lstD_t0, lstD_t1, lstD_t2, lstD_t3, isL_last, isi_int_non, isi_bool_non, isi_tuple_non, isi_list_non, isi_dict_non, isi_lt_non, isi_int_bl, isi_bool_bl, isi_tuple_bl, isi_list_bl, isi_dict_bl, isi_lt_bl, isi_int_int, isi_bool_int, isi_tuple_int, isi_list_int, isi_dict_int, isi_lt_int, isi_int_str, isi_bool_str, isi_tuple_str, isi_list_str, isi_dict_str, isi_lt_str, isi_int_tup, isi_bool_tup, isi_tuple_tup, isi_list_tup, isi_dict_tup, isi_lt_tup, isi_int_lst, isi_bool_lst, isi_tuple_lst, isi_list_lst, isi_dict_lst, isi_lt_lst, isi_int_dk, isi_bool_dk, isi_tuple_dk, isi_list_dk, isi_dict_dk, isi_lt_dk, tup_ty, lenT_lst, lenT_tup, intT, Bool.or_true, Bool.true_or, Bool.or_false, Bool.false_or, Bool.and_true, Bool.true_and, Bool.and_false, Bool.false_and, Z.isNon, not_true_eq_false, not_false_eq_true, Bool.not_eq_true, Bool.false_eq_true, Option.map_some, List.length_cons, List.length_nil, Nat.reduceAdd, ↓reduceIte, List.map_cons, List.map_nil, Nat.reduceSub, List.cons_append, List.nil_append, List.append_nil, List.replicate, List.set_cons_succ, List.set_cons_zero, Nat.reduceLT, gE_0, gE_s, df_0_1, df_1_2, df_2_2, df_3_1, df_4_1, df_5_1, df_6_1, df_7_1, df_8_1, df_10_1, df_14_1, df_15_1, df_16_1, df_17_2, df_18_2, df_25_1, df_25_2, df_26_1, df_27_2, df_28_1, df_29_2, df_30_2, df_31_2, df_32_2, df_33_2, df_34_2, df_35_2, df_36_2, df_37_2, df_38_2, df_39_2, df_40_2, df_41_2, df_42_1, df_43_1, df_44_1, df_45_2, hmk, ini4]) ?_
  refine exs_nx (Q := QT ns sm (j + 1)) (σ1 := [some (.t (.scr ns)), some (.c 1), some (.t (.int (0 + (j : Int)))), none, none, none, some (.t (.lst (A.map fr))), some (.t (row (short A))), b8, b9, b10, b11, none]) (s1 := sp G2 f2 sm n2 []) (by
    generalize (0 : Int) + (j : Int) = jj at *
    clear hmk hP hl hl6 hg
    have hne := ne_oT (Rw9.pStay (short A))
    generalize Rw9.pStay (short A) = o at *
    generalize short A = P at *
    generalize A.map fr = X at *
    simp -implicitDefEqProofs only [exs, ex, ev, evs, evo, evC, rb_ok, rt_ok, of_some, lift2_t, view_t, subD_tup, subD_lst, at0, at1, at2, at3, subTT, addT, tupD2, fin_rt, fin_nx, cast0, cast1, cast2, cast3, cast4, cast5, Int.reduceLT, Int.reduceLE, Int.reduceEq, Int.reduceNe, decide_not, map_some, take_all, cmp_lt, cmp_le, cmp_gt, cmp_ge, cmp_eq, cmp_ne, tru_bl, setTg_name, setTg_tup, setTg_lst, setTgs_nil, setTgs_cons, decide_eq_true_eq, Option.bind_some, Option.bind_none, bl_not, is_non, isnt_non, cmpIs_tup, cmpIsN_tup, if_tt, if_ff, tru_int, reduceCtorEq, decide_true, decide_false, Bool.not_true, Bool.not_false, mm1, mm2, mm3, mapM1, mapM2, lstD_c0, lstD_t0, lstD_t1, lstD_t2, lstD_t3, isL_last, isi_int_non, isi_bool_non, isi_tuple_non, isi_list_non, isi_dict_non, isi_lt_non, isi_int_bl, isi_bool_bl, isi_tuple_bl, isi_list_bl, isi_dict_bl, isi_lt_bl, isi_int_int, isi_bool_int, isi_tuple_int, isi_list_int, isi_dict_int, isi_lt_int, isi_int_str, isi_bool_str, isi_tuple_str, isi_list_str, isi_dict_str, isi_lt_str, isi_int_tup, isi_bool_tup, isi_tuple_tup, isi_list_tup, isi_dict_tup, isi_lt_tup, isi_int_lst, isi_bool_lst, isi_tuple_lst, isi_list_lst, isi_dict_lst, isi_lt_lst, isi_int_dk, isi_bool_dk, isi_tuple_dk, isi_list_dk, isi_dict_dk, isi_lt_dk, tup_ty, lenT_lst, lenT_tup, intT, Bool.or_true, Bool.true_or, Bool.or_false, Bool.false_or, Bool.and_true, Bool.true_and, Bool.and_false, Bool.false_and, Z.isNon, not_true_eq_false, not_false_eq_true, Bool.not_eq_true, Bool.false_eq_true, Option.map_some, List.length_cons, List.length_nil, Nat.reduceAdd, ↓reduceIte, List.map_cons, List.map_nil, Nat.reduceSub, List.cons_append, List.nil_append, List.append_nil, List.replicate, List.set_cons_succ, List.set_cons_zero, Nat.reduceLT, gE_0, gE_s, df_0_1, df_1_2, df_2_2, df_3_1, df_4_1, df_5_1, df_6_1, df_7_1, df_8_1, df_10_1, df_14_1, df_15_1, df_16_1, df_17_2, df_18_2, df_25_1, df_25_2, df_26_1, df_27_2, df_28_1, df_29_2, df_30_2, df_31_2, df_32_2, df_33_2, df_34_2, df_35_2, df_36_2, df_37_2, df_38_2, df_39_2, df_40_2, df_41_2, df_42_1, df_43_1, df_44_1, df_45_2, hri, hst, hne, mth_stay]) ?_
  clear hmk hri hst
  refine exs_for (Q := QT ns sm (j + 1)) (ds := upI 0 (6 : Int).toNat) (u := none) (s1 := sp G2 f2 sm n2 [])
    (fun i σ s => ∃ (G : List Int) (f n' : Int) (a8 a10 a11 : Option D), s = sp G f sm n' [] ∧ σ = [some (.t (.scr ns)), some (.c 1), some (.t (.int (0 + (j : Int)))), none, none, none, some (.t (.lst (A.map fr))), some (.t (row (short A))), a8, b9, a10, a11, none] ∧ n2 ≤ n' ∧ n' ≤ n2 + 4 * (i : Int))
    (by simp -implicitDefEqProofs only [exs, ex, ev, evs, evo, evC, rb_ok, rt_ok, of_some, lift2_t, view_t, subD_tup, subD_lst, at0, at1, at2, at3, subTT, addT, tupD2, fin_rt, fin_nx, cast0, cast1, cast2, cast3, cast4, cast5, Int.reduceLT, Int.reduceLE, Int.reduceEq, Int.reduceNe, decide_not, map_some, take_all, cmp_lt, cmp_le, cmp_gt, cmp_ge, cmp_eq, cmp_ne, tru_bl, setTg_name, setTg_tup, setTg_lst, setTgs_nil, setTgs_cons, decide_eq_true_eq, Option.bind_some, Option.bind_none, bl_not, is_non, isnt_non, cmpIs_tup, cmpIsN_tup, if_tt, if_ff, tru_int, reduceCtorEq, decide_true, decide_false, Bool.not_true, Bool.not_false, mm1, mm2, mm3, mapM1, mapM2, lstD_c0, lstD_t0, lstD_t1, lstD_t2, lstD_t3, isL_last, isi_int_non, isi_bool_non, isi_tuple_non, isi_list_non, isi_dict_non, isi_lt_non, isi_int_bl, isi_bool_bl, isi_tuple_bl, isi_list_bl, isi_dict_bl, isi_lt_bl, isi_int_int, isi_bool_int, isi_tuple_int, isi_list_int, isi_dict_int, isi_lt_int, isi_int_str, isi_bool_str, isi_tuple_str, isi_list_str, isi_dict_str, isi_lt_str, isi_int_tup, isi_bool_tup, isi_tuple_tup, isi_list_tup, isi_dict_tup, isi_lt_tup, isi_int_lst, isi_bool_lst, isi_tuple_lst, isi_list_lst, isi_dict_lst, isi_lt_lst, isi_int_dk, isi_bool_dk, isi_tuple_dk, isi_list_dk, isi_dict_dk, isi_lt_dk, tup_ty, lenT_lst, lenT_tup, intT, Bool.or_true, Bool.true_or, Bool.or_false, Bool.false_or, Bool.and_true, Bool.true_and, Bool.and_false, Bool.false_and, Z.isNon, not_true_eq_false, not_false_eq_true, Bool.not_eq_true, Bool.false_eq_true, Option.map_some, List.length_cons, List.length_nil, Nat.reduceAdd, ↓reduceIte, List.map_cons, List.map_nil, Nat.reduceSub, List.cons_append, List.nil_append, List.append_nil, List.replicate, List.set_cons_succ, List.set_cons_zero, Nat.reduceLT, gE_0, gE_s, df_0_1, df_1_2, df_2_2, df_3_1, df_4_1, df_5_1, df_6_1, df_7_1, df_8_1, df_10_1, df_14_1, df_15_1, df_16_1, df_17_2, df_18_2, df_25_1, df_25_2, df_26_1, df_27_2, df_28_1, df_29_2, df_30_2, df_31_2, df_32_2, df_33_2, df_34_2, df_35_2, df_36_2, df_37_2, df_38_2, df_39_2, df_40_2, df_41_2, df_42_1, df_43_1, df_44_1, df_45_2, evI, show smallI 6 = true from rfl]) ⟨G2, f2, n2, b8, b10, b11, rfl, rfl, by omega, by omega⟩ ?_ ?_
  · rintro i d σ s hd ⟨G, f, n', a8, a10, a11, rfl, rfl, q1, q2⟩
    obtain ⟨rfl, hi⟩ := upI_get hd
    have hi : i < 6 := hi
    rw [turnX_nx (σ1 := [some (.t (.scr ns)), some (.c 1), some (.t (.int (0 + (j : Int)))), none, none, none, some (.t (.lst (A.map fr))), some (.t (row (short A))), some (.t (.int (0 + (i : Int)))), b9, a10, a11, none]) rfl]
    obtain ⟨v, G3, f3, e3, v1, v2⟩ := tk (k + 7) 24 G f sm n' [] (by decide) (bd_lit 100 (by decide) (by decide)) (by omega) (by omega)
    have e3 : callN lib.ft lib.g0 (k + 8) 29 [.c 1, .t (.int 24)] (sp G f sm n' []) = .ok (.t (.int v)) (sp G3 f3 sm (n' + 1) []) := e3
    obtain ⟨w, G4, f4, e4, w1, w2⟩ := tk (k + 7) (1 + v + 2) G3 f3 sm (n' + 1) [] (by omega) (bd_lit 100 (by omega) (by decide)) (by omega) (by omega)
    have e4 : callN lib.ft lib.g0 (k + 8) 29 [.c 1, .t (.int (1 + v + 2))] (sp G3 f3 sm (n' + 1) []) = .ok (.t (.int w)) (sp G4 f4 sm (n' + 1 + 1) []) := e4
    have hlw : ∀ st, callN lib.ft lib.g0 (k + 8) 32 [.t (.int w), .t (.int (1 + v))] st = .ok (.t (fr (Rw9.low (w, 1 + v)))) st := fun st => r_low (k + 7) w (1 + v) st (by omega) (bd_lit 100 (by omega) (by decide)) (bd_lit 100 (by omega) (by decide))
    have vp : 0 < ((w, 1 + v) : P2).2 := by show 0 < 1 + v; omega
    have x2 := Rw9.low_pos vp
    have x1 := Rw9.low_nonneg vp w1
    have xl := Rw9.low_low vp
    have bw1 : (Rw9.low (w, 1 + v)).1.natAbs ≤ w.natAbs := Int.natAbs_ediv_le_natAbs ..
    have bw2 : (Rw9.low (w, 1 + v)).2.natAbs ≤ (1 + v).natAbs := Int.natAbs_ediv_le_natAbs ..
    obtain ⟨t, p, G5, f5, e5, hf, hp, hlp⟩ := r_handed (k + 5) (Rw9.low (w, 1 + v)) G4 f4 sm (n' + 1 + 1) [] x2 (by omega) x1 (by omega) (by omega) (by omega)
    have e5 : callN lib.ft lib.g0 (k + 8) 39 [.c 1, .t (fr (Rw9.low (w, 1 + v)))] (sp G4 f4 sm (n' + 1 + 1) []) = .ok (.t t) (sp G5 f5 sm (n' + 1 + 1 + 1 + 1) []) := e5
    rw [xl] at hlp
    have his : ∀ st, callN lib.ft lib.g0 (k + 8) 27 [.t (row (short A)), .t t] st = .ok (.t (.bl (isv (short A) p))) st := fun st => r_isstay (k + 3) (short A) st hf hP hl (by rw [hlp]; exact bd_lit 100 (by omega) (by decide)) (by rw [hlp]; exact bd_lit 100 (by omega) (by decide))
    have hws : ∀ st, callN lib.ft lib.g0 (k + 8) 41 [.t (.lst (A.map fr)), .t (fr (Rw9.low (w, 1 + v)))] st = .ok (.t (.bl (Rw9.wIs A (Rw9.low (w, 1 + v))))) st := fun st => r_wis (k + 4) A _ st hg.sh (by have := hg.ln; omega) x2 (bd_lit 100 (by omega) (by decide)) (bd_lit 100 (by omega) (by decide))
    rw [isv_wis hg hp hlp x1 x2 xl] at his
    have hsm : ∀ (b : Bool) st, callN lib.ft lib.g0 (k + 8) 31 [.t (.bl b), .t (.bl b)] st = .ok (.t (.bl true)) st := by
      intro b st
      have := r_same (k + 7) b b st
      rw [decide_eq_true rfl] at this
      exact this
    have hq : n2 ≤ n' + 1 + 1 + 1 + 1 ∧ n' + 1 + 1 + 1 + 1 ≤ n2 + 4 * ((i + 1 : Nat) : Int) := by omega
    refine .inl ⟨[some (.t (.scr ns)), some (.c 1), some (.t (.int (0 + (j : Int)))), none, none, none, some (.t (.lst (A.map fr))), some (.t (row (short A))), some (.t (.int (0 + (i : Int)))), b9, some (.t (.int (1 + v))), some (.t (fr (Rw9.low (w, 1 + v)))), none], sp G5 f5 sm (n' + 1 + 1 + 1 + 1) [], .inl ?_, G5, f5, _, _, _, _, rfl, rfl, hq.1, hq.2⟩
    clear hq w1 w2 v1 v2 q1 q2 hf hp hlp x1 x2 xl vp bw1 bw2 hP hl6 hl hg hd
    generalize Rw9.low (w, 1 + v) = x at *
    generalize Rw9.wIs A x = bb at *
    generalize n' + 1 + 1 + 1 + 1 = n6 at *
    generalize n' + 1 + 1 = n4 at *
    generalize n' + 1 = n3 at *
    generalize short A = P at *
    generalize A.map fr = X at *
    generalize (0 : Int) + (j : Int) = jj at *
    generalize (0 : Int) + (i : Int) = ii at *
    generalize eu : 1 + v = u at *
    refine exs_nx (Q := fun o => o = Z.O.nx _ _) (σ1 := [some (.t (.scr ns)), some (.c 1), some (.t (.int jj)), none, none, none, some (.t (.lst X)), some (.t (row P)), some (.t (.int ii)), b9, some (.t (.int u)), a11, none]) (s1 := sp G3 f3 sm n3 []) (by simp -implicitDefEqProofs only [exs, ex, ev, evs, evo, evC, rb_ok, rt_ok, of_some, lift2_t, view_t, subD_tup, subD_lst, at0, at1, at2, at3, subTT, addT, tupD2, fin_rt, fin_nx, cast0, cast1, cast2, cast3, cast4, cast5, Int.reduceLT, Int.reduceLE, Int.reduceEq, Int.reduceNe, decide_not, map_some, take_all, cmp_lt, cmp_le, cmp_gt, cmp_ge, cmp_eq, cmp_ne, tru_bl, setTg_name, setTg_tup, setTg_lst, setTgs_nil, setTgs_cons, decide_eq_true_eq, Option.bind_some, Option.bind_none, bl_not, is_non, isnt_non, cmpIs_tup, cmpIsN_tup, if_tt, if_ff, tru_int, reduceCtorEq, decide_true, decide_false, Bool.not_true, Bool.not_false, mm1, mm2, mm3, mapM1, mapM2, lstD_c0, lstD_t0, lstD_t1, lstD_t2, lstD_t3, isL_last, isi_int_non, isi_bool_non, isi_tuple_non, isi_list_non, isi_dict_non, isi_lt_non, isi_int_bl, isi_bool_bl, isi_tuple_bl, isi_list_bl, isi_dict_bl, isi_lt_bl, isi_int_int, isi_bool_int, isi_tuple_int, isi_list_int, isi_dict_int, isi_lt_int, isi_int_str, isi_bool_str, isi_tuple_str, isi_list_str, isi_dict_str, isi_lt_str, isi_int_tup, isi_bool_tup, isi_tuple_tup, isi_list_tup, isi_dict_tup, isi_lt_tup, isi_int_lst, isi_bool_lst, isi_tuple_lst, isi_list_lst, isi_dict_lst, isi_lt_lst, isi_int_dk, isi_bool_dk, isi_tuple_dk, isi_list_dk, isi_dict_dk, isi_lt_dk, tup_ty, lenT_lst, lenT_tup, intT, Bool.or_true, Bool.true_or, Bool.or_false, Bool.false_or, Bool.and_true, Bool.true_and, Bool.and_false, Bool.false_and, Z.isNon, not_true_eq_false, not_false_eq_true, Bool.not_eq_true, Bool.false_eq_true, Option.map_some, List.length_cons, List.length_nil, Nat.reduceAdd, ↓reduceIte, List.map_cons, List.map_nil, Nat.reduceSub, List.cons_append, List.nil_append, List.append_nil, List.replicate, List.set_cons_succ, List.set_cons_zero, Nat.reduceLT, gE_0, gE_s, df_0_1, df_1_2, df_2_2, df_3_1, df_4_1, df_5_1, df_6_1, df_7_1, df_8_1, df_10_1, df_14_1, df_15_1, df_16_1, df_17_2, df_18_2, df_25_1, df_25_2, df_26_1, df_27_2, df_28_1, df_29_2, df_30_2, df_31_2, df_32_2, df_33_2, df_34_2, df_35_2, df_36_2, df_37_2, df_38_2, df_39_2, df_40_2, df_41_2, df_42_1, df_43_1, df_44_1, df_45_2, e3, eu]) ?_
    refine exs_nx (Q := fun o => o = Z.O.nx _ _) (σ1 := [some (.t (.scr ns)), some (.c 1), some (.t (.int jj)), none, none, none, some (.t (.lst X)), some (.t (row P)), some (.t (.int ii)), b9, some (.t (.int u)), some (.t (fr x)), none]) (s1 := sp G4 f4 sm n4 []) (by simp -implicitDefEqProofs only [exs, ex, ev, evs, evo, evC, rb_ok, rt_ok, of_some, lift2_t, view_t, subD_tup, subD_lst, at0, at1, at2, at3, subTT, addT, tupD2, fin_rt, fin_nx, cast0, cast1, cast2, cast3, cast4, cast5, Int.reduceLT, Int.reduceLE, Int.reduceEq, Int.reduceNe, decide_not, map_some, take_all, cmp_lt, cmp_le, cmp_gt, cmp_ge, cmp_eq, cmp_ne, tru_bl, setTg_name, setTg_tup, setTg_lst, setTgs_nil, setTgs_cons, decide_eq_true_eq, Option.bind_some, Option.bind_none, bl_not, is_non, isnt_non, cmpIs_tup, cmpIsN_tup, if_tt, if_ff, tru_int, reduceCtorEq, decide_true, decide_false, Bool.not_true, Bool.not_false, mm1, mm2, mm3, mapM1, mapM2, lstD_c0, lstD_t0, lstD_t1, lstD_t2, lstD_t3, isL_last, isi_int_non, isi_bool_non, isi_tuple_non, isi_list_non, isi_dict_non, isi_lt_non, isi_int_bl, isi_bool_bl, isi_tuple_bl, isi_list_bl, isi_dict_bl, isi_lt_bl, isi_int_int, isi_bool_int, isi_tuple_int, isi_list_int, isi_dict_int, isi_lt_int, isi_int_str, isi_bool_str, isi_tuple_str, isi_list_str, isi_dict_str, isi_lt_str, isi_int_tup, isi_bool_tup, isi_tuple_tup, isi_list_tup, isi_dict_tup, isi_lt_tup, isi_int_lst, isi_bool_lst, isi_tuple_lst, isi_list_lst, isi_dict_lst, isi_lt_lst, isi_int_dk, isi_bool_dk, isi_tuple_dk, isi_list_dk, isi_dict_dk, isi_lt_dk, tup_ty, lenT_lst, lenT_tup, intT, Bool.or_true, Bool.true_or, Bool.or_false, Bool.false_or, Bool.and_true, Bool.true_and, Bool.and_false, Bool.false_and, Z.isNon, not_true_eq_false, not_false_eq_true, Bool.not_eq_true, Bool.false_eq_true, Option.map_some, List.length_cons, List.length_nil, Nat.reduceAdd, ↓reduceIte, List.map_cons, List.map_nil, Nat.reduceSub, List.cons_append, List.nil_append, List.append_nil, List.replicate, List.set_cons_succ, List.set_cons_zero, Nat.reduceLT, gE_0, gE_s, df_0_1, df_1_2, df_2_2, df_3_1, df_4_1, df_5_1, df_6_1, df_7_1, df_8_1, df_10_1, df_14_1, df_15_1, df_16_1, df_17_2, df_18_2, df_25_1, df_25_2, df_26_1, df_27_2, df_28_1, df_29_2, df_30_2, df_31_2, df_32_2, df_33_2, df_34_2, df_35_2, df_36_2, df_37_2, df_38_2, df_39_2, df_40_2, df_41_2, df_42_1, df_43_1, df_44_1, df_45_2, e4, hlw]) ?_
    exact exs_nx (Q := fun o => o = Z.O.nx _ _) (σ1 := [some (.t (.scr ns)), some (.c 1), some (.t (.int jj)), none, none, none, some (.t (.lst X)), some (.t (row P)), some (.t (.int ii)), b9, some (.t (.int u)), some (.t (fr x)), none]) (s1 := sp G5 f5 sm n6 []) (by simp -implicitDefEqProofs only [exs, ex, ev, evs, evo, evC, rb_ok, rt_ok, of_some, lift2_t, view_t, subD_tup, subD_lst, at0, at1, at2, at3, subTT, addT, tupD2, fin_rt, fin_nx, cast0, cast1, cast2, cast3, cast4, cast5, Int.reduceLT, Int.reduceLE, Int.reduceEq, Int.reduceNe, decide_not, map_some, take_all, cmp_lt, cmp_le, cmp_gt, cmp_ge, cmp_eq, cmp_ne, tru_bl, setTg_name, setTg_tup, setTg_lst, setTgs_nil, setTgs_cons, decide_eq_true_eq, Option.bind_some, Option.bind_none, bl_not, is_non, isnt_non, cmpIs_tup, cmpIsN_tup, if_tt, if_ff, tru_int, reduceCtorEq, decide_true, decide_false, Bool.not_true, Bool.not_false, mm1, mm2, mm3, mapM1, mapM2, lstD_c0, lstD_t0, lstD_t1, lstD_t2, lstD_t3, isL_last, isi_int_non, isi_bool_non, isi_tuple_non, isi_list_non, isi_dict_non, isi_lt_non, isi_int_bl, isi_bool_bl, isi_tuple_bl, isi_list_bl, isi_dict_bl, isi_lt_bl, isi_int_int, isi_bool_int, isi_tuple_int, isi_list_int, isi_dict_int, isi_lt_int, isi_int_str, isi_bool_str, isi_tuple_str, isi_list_str, isi_dict_str, isi_lt_str, isi_int_tup, isi_bool_tup, isi_tuple_tup, isi_list_tup, isi_dict_tup, isi_lt_tup, isi_int_lst, isi_bool_lst, isi_tuple_lst, isi_list_lst, isi_dict_lst, isi_lt_lst, isi_int_dk, isi_bool_dk, isi_tuple_dk, isi_list_dk, isi_dict_dk, isi_lt_dk, tup_ty, lenT_lst, lenT_tup, intT, Bool.or_true, Bool.true_or, Bool.or_false, Bool.false_or, Bool.and_true, Bool.true_and, Bool.and_false, Bool.false_and, Z.isNon, not_true_eq_false, not_false_eq_true, Bool.not_eq_true, Bool.false_eq_true, Option.map_some, List.length_cons, List.length_nil, Nat.reduceAdd, ↓reduceIte, List.map_cons, List.map_nil, Nat.reduceSub, List.cons_append, List.nil_append, List.append_nil, List.replicate, List.set_cons_succ, List.set_cons_zero, Nat.reduceLT, gE_0, gE_s, df_0_1, df_1_2, df_2_2, df_3_1, df_4_1, df_5_1, df_6_1, df_7_1, df_8_1, df_10_1, df_14_1, df_15_1, df_16_1, df_17_2, df_18_2, df_25_1, df_25_2, df_26_1, df_27_2, df_28_1, df_29_2, df_30_2, df_31_2, df_32_2, df_33_2, df_34_2, df_35_2, df_36_2, df_37_2, df_38_2, df_39_2, df_40_2, df_41_2, df_42_1, df_43_1, df_44_1, df_45_2, e5, his, hws, hsm, mth_isstay]) rfl
  · rintro σ s ⟨G, f, n', a8, a10, a11, rfl, rfl, q1, q2⟩
    have q2 : n' ≤ n2 + 24 := by
      rw [upI_len] at q2
      have : ((6 : Int).toNat : Int) = 6 := rfl
      omega
    show QT ns sm (j + 1) (exs _ _ _ (unlock _ none))
    simp only [unlock]
    refine exs_for (Q := QT ns sm (j + 1)) (ds := odds.map D.t) (u := none) (s1 := sp G f sm n' [])
      (fun i σ s => ∃ a9 : Option D, s = sp G f sm n' [] ∧ σ = [some (.t (.scr ns)), some (.c 1), some (.t (.int (0 + (j : Int)))), none, none, none, some (.t (.lst (A.map fr))), some (.t (row (short A))), a8, a9, a10, a11, none])
      (by
        generalize (0 : Int) + (j : Int) = jj at *
        clear hP hl hl6 hg
        generalize short A = P at *
        generalize A.map fr = X at *
        simp -implicitDefEqProofs only [exs, ex, ev, evs, evo, evC, rb_ok, rt_ok, of_some, lift2_t, view_t, subD_tup, subD_lst, at0, at1, at2, at3, subTT, addT, tupD2, fin_rt, fin_nx, cast0, cast1, cast2, cast3, cast4, cast5, Int.reduceLT, Int.reduceLE, Int.reduceEq, Int.reduceNe, decide_not, map_some, take_all, cmp_lt, cmp_le, cmp_gt, cmp_ge, cmp_eq, cmp_ne, tru_bl, setTg_name, setTg_tup, setTg_lst, setTgs_nil, setTgs_cons, decide_eq_true_eq, Option.bind_some, Option.bind_none, bl_not, is_non, isnt_non, cmpIs_tup, cmpIsN_tup, if_tt, if_ff, tru_int, reduceCtorEq, decide_true, decide_false, Bool.not_true, Bool.not_false, mm1, mm2, mm3, mapM1, mapM2, lstD_c0, lstD_t0, lstD_t1, lstD_t2, lstD_t3, isL_last, isi_int_non, isi_bool_non, isi_tuple_non, isi_list_non, isi_dict_non, isi_lt_non, isi_int_bl, isi_bool_bl, isi_tuple_bl, isi_list_bl, isi_dict_bl, isi_lt_bl, isi_int_int, isi_bool_int, isi_tuple_int, isi_list_int, isi_dict_int, isi_lt_int, isi_int_str, isi_bool_str, isi_tuple_str, isi_list_str, isi_dict_str, isi_lt_str, isi_int_tup, isi_bool_tup, isi_tuple_tup, isi_list_tup, isi_dict_tup, isi_lt_tup, isi_int_lst, isi_bool_lst, isi_tuple_lst, isi_list_lst, isi_dict_lst, isi_lt_lst, isi_int_dk, isi_bool_dk, isi_tuple_dk, isi_list_dk, isi_dict_dk, isi_lt_dk, tup_ty, lenT_lst, lenT_tup, intT, Bool.or_true, Bool.true_or, Bool.or_false, Bool.false_or, Bool.and_true, Bool.true_and, Bool.and_false, Bool.false_and, Z.isNon, not_true_eq_false, not_false_eq_true, Bool.not_eq_true, Bool.false_eq_true, Option.map_some, List.length_cons, List.length_nil, Nat.reduceAdd, ↓reduceIte, Nat.reduceSub, List.cons_append, List.nil_append, List.append_nil, List.replicate, List.set_cons_succ, List.set_cons_zero, Nat.reduceLT, gE_0, gE_s, df_0_1, df_1_2, df_2_2, df_3_1, df_4_1, df_5_1, df_6_1, df_7_1, df_8_1, df_10_1, df_14_1, df_15_1, df_16_1, df_17_2, df_18_2, df_25_1, df_25_2, df_26_1, df_27_2, df_28_1, df_29_2, df_30_2, df_31_2, df_32_2, df_33_2, df_34_2, df_35_2, df_36_2, df_37_2, df_38_2, df_39_2, df_40_2, df_41_2, df_42_1, df_43_1, df_44_1, df_45_2, evI, lstD_t15]
        rfl) ⟨b9, rfl, rfl⟩ ?_ ?_
    · rintro i d σ s hd ⟨a9, rfl, rfl⟩
      rw [List.getElem?_map] at hd
      obtain ⟨t, ht, rfl⟩ := Option.map_eq_some_iff.mp hd
      have ho : ∀ st, callN lib.ft lib.g0 (k + 8) 27 [.t (row (short A)), .t t] st = .ok (.t (.bl false)) st := fun st => odd_no (k + 3) (short A) st hP hl (List.mem_of_getElem? ht)
      refine .inl ⟨[some (.t (.scr ns)), some (.c 1), some (.t (.int (0 + (j : Int)))), none, none, none, some (.t (.lst (A.map fr))), some (.t (row (short A))), a8, some (.t t), a10, a11, none], sp G f sm n' [], .inl ?_, _, rfl, rfl⟩
      clear ht hd hP hl hl6 hg
      generalize (0 : Int) + (j : Int) = jj at *
      generalize short A = P at *
      generalize A.map fr = X at *
      rw [turnX_nx (σ1 := [some (.t (.scr ns)), some (.c 1), some (.t (.int jj)), none, none, none, some (.t (.lst X)), some (.t (row P)), a8, some (.t t), a10, a11, none]) rfl]
      exact exs_nx (Q := fun o => o = Z.O.nx _ _) (σ1 := [some (.t (.scr ns)), some (.c 1), some (.t (.int jj)), none, none, none, some (.t (.lst X)), some (.t (row P)), a8, some (.t t), a10, a11, none]) (s1 := sp G f sm n' []) (by simp -implicitDefEqProofs only [exs, ex, ev, evs, evo, evC, rb_ok, rt_ok, of_some, lift2_t, view_t, subD_tup, subD_lst, at0, at1, at2, at3, subTT, addT, tupD2, fin_rt, fin_nx, cast0, cast1, cast2, cast3, cast4, cast5, Int.reduceLT, Int.reduceLE, Int.reduceEq, Int.reduceNe, decide_not, map_some, take_all, cmp_lt, cmp_le, cmp_gt, cmp_ge, cmp_eq, cmp_ne, tru_bl, setTg_name, setTg_tup, setTg_lst, setTgs_nil, setTgs_cons, decide_eq_true_eq, Option.bind_some, Option.bind_none, bl_not, is_non, isnt_non, cmpIs_tup, cmpIsN_tup, if_tt, if_ff, tru_int, reduceCtorEq, decide_true, decide_false, Bool.not_true, Bool.not_false, mm1, mm2, mm3, mapM1, mapM2, lstD_c0, lstD_t0, lstD_t1, lstD_t2, lstD_t3, isL_last, isi_int_non, isi_bool_non, isi_tuple_non, isi_list_non, isi_dict_non, isi_lt_non, isi_int_bl, isi_bool_bl, isi_tuple_bl, isi_list_bl, isi_dict_bl, isi_lt_bl, isi_int_int, isi_bool_int, isi_tuple_int, isi_list_int, isi_dict_int, isi_lt_int, isi_int_str, isi_bool_str, isi_tuple_str, isi_list_str, isi_dict_str, isi_lt_str, isi_int_tup, isi_bool_tup, isi_tuple_tup, isi_list_tup, isi_dict_tup, isi_lt_tup, isi_int_lst, isi_bool_lst, isi_tuple_lst, isi_list_lst, isi_dict_lst, isi_lt_lst, isi_int_dk, isi_bool_dk, isi_tuple_dk, isi_list_dk, isi_dict_dk, isi_lt_dk, tup_ty, lenT_lst, lenT_tup, intT, Bool.or_true, Bool.true_or, Bool.or_false, Bool.false_or, Bool.and_true, Bool.true_and, Bool.and_false, Bool.false_and, Z.isNon, not_true_eq_false, not_false_eq_true, Bool.not_eq_true, Bool.false_eq_true, Option.map_some, List.length_cons, List.length_nil, Nat.reduceAdd, ↓reduceIte, List.map_cons, List.map_nil, Nat.reduceSub, List.cons_append, List.nil_append, List.append_nil, List.replicate, List.set_cons_succ, List.set_cons_zero, Nat.reduceLT, gE_0, gE_s, df_0_1, df_1_2, df_2_2, df_3_1, df_4_1, df_5_1, df_6_1, df_7_1, df_8_1, df_10_1, df_14_1, df_15_1, df_16_1, df_17_2, df_18_2, df_25_1, df_25_2, df_26_1, df_27_2, df_28_1, df_29_2, df_30_2, df_31_2, df_32_2, df_33_2, df_34_2, df_35_2, df_36_2, df_37_2, df_38_2, df_39_2, df_40_2, df_41_2, df_42_1, df_43_1, df_44_1, df_45_2, ho, isn_bl, mth_isstay]) rfl
    · rintro σ s ⟨a9, rfl, rfl⟩
      exact ⟨_, _, rfl, G, f, n', _, _, _, _, _, _, _, rfl, by omega, by omega, rfl⟩
end Lw
end Z
end
section
set_option Elab.async false
set_option linter.all false
set_option maxRecDepth 100000
set_option maxHeartbeats 4000000
namespace Z
namespace Lw

open PySem L2 Zr
/-! ### the law's end -/
def QM (o : Z.O) : Prop := ∃ s : S, o = Z.O.rt (.t (.bl true)) s
theorem upI_eq : ∀ (n : Nat) (lo : Int), upI lo n = ((List.range n).map fun (j : Nat) => lo + j).map fun i => D.t (.int i)
  | 0, _ => rfl
  | n + 1, lo => by
    rw [List.range_succ_eq_map, List.map_cons, List.map_cons, List.map_map]
    show D.t (.int lo) :: upI (lo + 1) n = _
    rw [upI_eq n (lo + 1)]
    have e0 : lo + ((0 : Nat) : Int) = lo := Int.add_zero lo
    have e1 : ((List.range n).map fun (j : Nat) => lo + 1 + (j : Int)) = (List.range n).map ((fun (j : Nat) => lo + (j : Int)) ∘ Nat.succ) := List.map_congr_left fun j _ => by
      show lo + 1 + (j : Int) = lo + ((j + 1 : Nat) : Int)
      omega
    rw [e0, e1]
    simp only [List.map_map]
    rfl
theorem stays_mem {E : List P2} {i : Int} (h : i ∈ stays E) : 1 ≤ i ∧ i < 145 := by
  unfold stays at h
  obtain ⟨j, hj, rfl⟩ := List.mem_map.mp (List.mem_filter.mp h).1
  have := List.mem_range.mp hj
  omega
theorem ev_cmp {g : G} {op : CmpOp} {a b : E} {σ : Sl} {s s1 s2 : S} {x y : T} {c : Bool} (h1 : ev g a σ s = .ok (.t x) s1) (h2 : ev g b σ s1 = .ok (.t y) s2) (h : cmpT op x y = some c) : ev g (.cmp op a b) σ s = .ok (.t (.bl c)) s2 := by
  show (ev g a σ s).bind (fun x s => (ev g b σ s).bind fun y s => R.of (lift2 s (fun x y => (cmpT op x y).map T.bl) x y) s) = _
  rw [h1]
  show (ev g b σ s1).bind (fun y s => R.of (lift2 s (fun x y => (cmpT op x y).map T.bl) (.t x) y) s) = _
  rw [h2]
  show R.of (((cmpT op x y).map T.bl).map D.t) s2 = _
  rw [h]
  rfl
def eLow : D → T
  | .t (.int i) => fr (Rw9.low (i, 144))
  | _ => .non
theorem flt_true {α : Type} (l : List α) : l.filter (fun _ => true) = l := List.filter_eq_self.mpr fun _ _ => rfl
theorem lows (l : List Int) : (((l.map T.int).map D.t).filter (fun _ => true)).map eLow = (l.map fun i => Rw9.low (i, 144)).map fr := by
  rw [flt_true, List.map_map, List.map_map, List.map_map]
  rfl
theorem in_ends {x : P2} {A : List P2} (h : A = [] ∨ A = [x]) : cmpT .In (.lst (A.map fr)) (.tup [.lst [], .lst [fr x]]) = some true := by
  have h1 : cmpable (.tup [.lst [], .lst [fr x]]) = true := by rfl
  show (if cmpable (.lst (A.map fr)) && cmpable (.tup [.lst [], .lst [fr x]]) then some ([T.lst [], .lst [fr x]].any fun y => PyData.eqv (py y) (py (.lst (A.map fr)))) else none) = _
  have e : ∀ B : List P2, PyData.eqv (py (.lst (B.map fr))) (py (.lst (A.map fr))) = decide (B = A) := by
    intro B
    show PyData.eqv (.list (pys (B.map fr))) (.list (pys (A.map fr))) = _
    rw [pys_fr, pys_fr, PyData.eqv.eq_7, eqvs_fr]
  have e0 : PyData.eqv (py (.lst [])) (py (.lst (A.map fr))) = decide ([] = A) := e []
  have e1 : PyData.eqv (py (.lst [fr x])) (py (.lst (A.map fr))) = decide ([x] = A) := e [x]
  rw [h1, cmp_frs, List.any_cons, List.any_cons, e0, e1]
  rcases h with rfl | rfl
  · simp
  · simp
theorem t_end (k : Nat) (ns sm : List Int) (σ : Sl) (s : S) (hi : I1 ns sm 4 σ s) (st1 st2 : Stm) (tl : Ss) (hb : F46.body = .cons st1 (.cons st2 tl)) :
    QM (exs { lib.g0 with call := callN lib.ft lib.g0 (k + 8) } tl σ s) := by
  cases hb
  obtain ⟨G, f, n, a, b6, b7, b8, b9, b10, b11, rfl, hn0, hn, rfl⟩ := hi
  obtain ⟨v, G1, f1, e1, v1, v2⟩ := r_edge (k + 5) G f sm n [] hn0 (by omega)
  have e1 : callN lib.ft lib.g0 (k + 8) 44 [.c 1] (sp G f sm n []) = .ok (.t (.lst ((edg v).map fr))) (sp G1 f1 sm (n + 1) []) := e1
  obtain ⟨hg, p, q, x, hE, hSp, hnp, hx, hln, hends⟩ := edge_ok v1 v2
  rw [hE] at e1 hg hx hln hends
  have e1 : callN lib.ft lib.g0 (k + 8) 44 [.c 1] (sp G f sm n []) = .ok (.t (.lst [fr p, fr q])) (sp G1 f1 sm (n + 1) []) := e1
  clear hE v1 v2
  generalize n + 1 = n1 at *
  refine exs_nx (Q := QM) (σ1 := [some (.t (.scr ns)), some (.c 1), a, some (.t (.lst [fr p, fr q])), none, none, b6, b7, b8, b9, b10, b11, none]) (s1 := sp G1 f1 sm n1 []) (by simp -implicitDefEqProofs only [exs, ex, ev, evs, evo, evC, rb_ok, rt_ok, of_some, lift2_t, view_t, subD_tup, subD_lst, at0, at1, at2, at3, subTT, addT, tupD2, fin_rt, fin_nx, cast0, cast1, cast2, cast3, cast4, cast5, Int.reduceLT, Int.reduceLE, Int.reduceEq, Int.reduceNe, decide_not, map_some, take_all, cmp_lt, cmp_le, cmp_gt, cmp_ge, cmp_eq, cmp_ne, tru_bl, setTg_name, setTg_tup, setTg_lst, setTgs_nil, setTgs_cons, decide_eq_true_eq, Option.bind_some, Option.bind_none, bl_not, is_non, isnt_non, cmpIs_tup, cmpIsN_tup, if_tt, if_ff, tru_int, reduceCtorEq, decide_true, decide_false, Bool.not_true, Bool.not_false, mm1, mm2, mm3, mapM1, mapM2, lstD_c0, lstD_t0, lstD_t1, lstD_t2, lstD_t3, isL_last, isi_int_non, isi_bool_non, isi_tuple_non, isi_list_non, isi_dict_non, isi_lt_non, isi_int_bl, isi_bool_bl, isi_tuple_bl, isi_list_bl, isi_dict_bl, isi_lt_bl, isi_int_int, isi_bool_int, isi_tuple_int, isi_list_int, isi_dict_int, isi_lt_int, isi_int_str, isi_bool_str, isi_tuple_str, isi_list_str, isi_dict_str, isi_lt_str, isi_int_tup, isi_bool_tup, isi_tuple_tup, isi_list_tup, isi_dict_tup, isi_lt_tup, isi_int_lst, isi_bool_lst, isi_tuple_lst, isi_list_lst, isi_dict_lst, isi_lt_lst, isi_int_dk, isi_bool_dk, isi_tuple_dk, isi_list_dk, isi_dict_dk, isi_lt_dk, tup_ty, lenT_lst, lenT_tup, intT, Bool.or_true, Bool.true_or, Bool.or_false, Bool.false_or, Bool.and_true, Bool.true_and, Bool.and_false, Bool.false_and, Z.isNon, not_true_eq_false, not_false_eq_true, Bool.not_eq_true, Bool.false_eq_true, Option.map_some, List.length_cons, List.length_nil, Nat.reduceAdd, ↓reduceIte, List.map_cons, List.map_nil, Nat.reduceSub, List.cons_append, List.nil_append, List.append_nil, List.replicate, List.set_cons_succ, List.set_cons_zero, Nat.reduceLT, gE_0, gE_s, df_0_1, df_1_2, df_2_2, df_3_1, df_4_1, df_5_1, df_6_1, df_7_1, df_8_1, df_10_1, df_14_1, df_15_1, df_16_1, df_17_2, df_18_2, df_25_1, df_25_2, df_26_1, df_27_2, df_28_1, df_29_2, df_30_2, df_31_2, df_32_2, df_33_2, df_34_2, df_35_2, df_36_2, df_37_2, df_38_2, df_39_2, df_40_2, df_41_2, df_42_1, df_43_1, df_44_1, df_45_2, e1]) ?_
  clear e1
  obtain ⟨hP, hl6⟩ := pars hg
  have hl : (short [p, q]).length ≤ 8 := by omega
  have hmk : ∀ st, makeD { lib.g0 with call := callN lib.ft lib.g0 (k + 8) } 4 [.t (.lst [fr p, fr q])] st = .ok (.t (row (short [p, q]))) st := fun st => r_make (k + 2) [p, q] st hg.sh hg.ne (by simp)
  have hst : ∀ st, callN lib.ft lib.g0 (k + 8) 26 [.t (row (short [p, q]))] st = .ok (.t (oT (Rw9.pStay (short [p, q])))) st := fun st => r_stay (k + 2) _ st hP hl
  rw [hx] at hst
  have hst : ∀ st, callN lib.ft lib.g0 (k + 8) 26 [.t (row (short [p, q]))] st = .ok (.t (fr x)) st := hst
  have sz : (sizeLine : Nat) = 16777216 := by decide
  have l1 : ∀ s, ev { lib.g0 with call := callN lib.ft lib.g0 (k + 8) } (.lc false [("_law_k", 12)] (.var 12) (.name 12) (.rng2 (.con (.int 1)) (.con (.int 145))) (.yes (.meth "is_stay" (.make 4 (.cons (.var 3) .nil)) (.cons (.tup (.cons (.var 12) (.cons (.con (.int 144)) .nil))) .nil)))) [some (.t (.scr ns)), some (.c 1), a, some (.t (.lst [fr p, fr q])), none, none, b6, b7, b8, b9, b10, b11, none] s = .ok (.t (.lst ((stays [p, q]).map T.int))) s := by
    intro s
    have hfl := filt (fun i => isv (short [p, q]) (i, 144)) ((List.range 144).map fun (j : Nat) => (1 : Int) + j)
    rw [← upI_eq] at hfl
    have hfl : ((upI 1 144).filter (pI fun i => isv (short [p, q]) (i, 144))).map eI = (stays [p, q]).map T.int := hfl
    rw [ev_lc (pI fun i => isv (short [p, q]) (i, 144)) eI (ds := upI 1 ((145 : Int) - 1).toNat) (by simp -implicitDefEqProofs only [exs, ex, ev, evs, evo, evC, rb_ok, rt_ok, of_some, lift2_t, view_t, subD_tup, subD_lst, at0, at1, at2, at3, subTT, addT, tupD2, fin_rt, fin_nx, cast0, cast1, cast2, cast3, cast4, cast5, Int.reduceLT, Int.reduceLE, Int.reduceEq, Int.reduceNe, decide_not, map_some, take_all, cmp_lt, cmp_le, cmp_gt, cmp_ge, cmp_eq, cmp_ne, tru_bl, setTg_name, setTg_tup, setTg_lst, setTgs_nil, setTgs_cons, decide_eq_true_eq, Option.bind_some, Option.bind_none, bl_not, is_non, isnt_non, cmpIs_tup, cmpIsN_tup, if_tt, if_ff, tru_int, reduceCtorEq, decide_true, decide_false, Bool.not_true, Bool.not_false, mm1, mm2, mm3, mapM1, mapM2, lstD_c0, lstD_t0, lstD_t1, lstD_t2, lstD_t3, isL_last, isi_int_non, isi_bool_non, isi_tuple_non, isi_list_non, isi_dict_non, isi_lt_non, isi_int_bl, isi_bool_bl, isi_tuple_bl, isi_list_bl, isi_dict_bl, isi_lt_bl, isi_int_int, isi_bool_int, isi_tuple_int, isi_list_int, isi_dict_int, isi_lt_int, isi_int_str, isi_bool_str, isi_tuple_str, isi_list_str, isi_dict_str, isi_lt_str, isi_int_tup, isi_bool_tup, isi_tuple_tup, isi_list_tup, isi_dict_tup, isi_lt_tup, isi_int_lst, isi_bool_lst, isi_tuple_lst, isi_list_lst, isi_dict_lst, isi_lt_lst, isi_int_dk, isi_bool_dk, isi_tuple_dk, isi_list_dk, isi_dict_dk, isi_lt_dk, tup_ty, lenT_lst, lenT_tup, intT, Bool.or_true, Bool.true_or, Bool.or_false, Bool.false_or, Bool.and_true, Bool.true_and, Bool.and_false, Bool.false_and, Z.isNon, not_true_eq_false, not_false_eq_true, Bool.not_eq_true, Bool.false_eq_true, Option.map_some, List.length_cons, List.length_nil, Nat.reduceAdd, ↓reduceIte, List.map_cons, List.map_nil, Nat.reduceSub, List.cons_append, List.nil_append, List.append_nil, List.replicate, List.set_cons_succ, List.set_cons_zero, Nat.reduceLT, gE_0, gE_s, df_0_1, df_1_2, df_2_2, df_3_1, df_4_1, df_5_1, df_6_1, df_7_1, df_8_1, df_10_1, df_14_1, df_15_1, df_16_1, df_17_2, df_18_2, df_25_1, df_25_2, df_26_1, df_27_2, df_28_1, df_29_2, df_30_2, df_31_2, df_32_2, df_33_2, df_34_2, df_35_2, df_36_2, df_37_2, df_38_2, df_39_2, df_40_2, df_41_2, df_42_1, df_43_1, df_44_1, df_45_2, evI, show smallI 1 = true from rfl, show smallI 145 = true from rfl]) ?_ (by rw [upI_len]; show 144 < sizeLine; omega)]
    · show R.ok (D.t (.lst (((upI 1 144).filter (pI fun i => isv (short [p, q]) (i, 144))).map eI))) s = _
      rw [hfl]
    · intro d hd acc
      obtain ⟨j, hj⟩ := List.mem_iff_getElem?.mp hd
      obtain ⟨rfl, hj2⟩ := upI_get hj
      have hj2 : j < 144 := hj2
      have bi : Bd 100 ((Rw9.low (1 + (j : Int), 144)).1) ∧ Bd 100 ((Rw9.low (1 + (j : Int), 144)).2) := bd_low (p := (1 + (j : Int), 144)) (bd_lit 200 (by show (1 + (j : Int)).natAbs ≤ 200; omega) (by decide)) (bd_lit 200 (by show (144 : Int).natAbs ≤ 200; decide) (by decide))
      have his : ∀ st, callN lib.ft lib.g0 (k + 8) 27 [.t (row (short [p, q])), .t (.tup [.int (1 + (j : Int)), .int 144])] st = .ok (.t (.bl (isv (short [p, q]) (1 + (j : Int), 144)))) st := fun st => r_isstay (k + 3) (p := (1 + (j : Int), 144)) (short [p, q]) st (fun k st => r_frac_tup k _ _ st (by unfold Bd; decide +kernel)) hP hl (bi.1.mono (by decide)) (bi.2.mono (by decide))
      show _ = R.ok (if isv (short [p, q]) (1 + (j : Int), 144) = true then some (D.t (.int (1 + (j : Int)))) else none) _
      clear bi hj hd hst hx hnp hends hln hfl hSp hg hl hl6 hP
      generalize (1 : Int) + (j : Int) = i at *
      generalize isv (short [p, q]) (i, 144) = bb at *
      generalize short [p, q] = P at *
      rw [turnC_some (σ1 := [some (.t (.scr ns)), some (.c 1), a, some (.t (.lst [fr p, fr q])), none, none, b6, b7, b8, b9, b10, b11, some (.t (.int i))]) rfl]
      cases bb with
      | true => simp -implicitDefEqProofs only [exs, ex, ev, evs, evo, evC, rb_ok, rt_ok, of_some, lift2_t, view_t, subD_tup, subD_lst, at0, at1, at2, at3, subTT, addT, tupD2, fin_rt, fin_nx, cast0, cast1, cast2, cast3, cast4, cast5, Int.reduceLT, Int.reduceLE, Int.reduceEq, Int.reduceNe, decide_not, map_some, take_all, cmp_lt, cmp_le, cmp_gt, cmp_ge, cmp_eq, cmp_ne, tru_bl, setTg_name, setTg_tup, setTg_lst, setTgs_nil, setTgs_cons, decide_eq_true_eq, Option.bind_some, Option.bind_none, bl_not, is_non, isnt_non, cmpIs_tup, cmpIsN_tup, if_tt, if_ff, tru_int, reduceCtorEq, decide_true, decide_false, Bool.not_true, Bool.not_false, mm1, mm2, mm3, mapM1, mapM2, lstD_c0, lstD_t0, lstD_t1, lstD_t2, lstD_t3, isL_last, isi_int_non, isi_bool_non, isi_tuple_non, isi_list_non, isi_dict_non, isi_lt_non, isi_int_bl, isi_bool_bl, isi_tuple_bl, isi_list_bl, isi_dict_bl, isi_lt_bl, isi_int_int, isi_bool_int, isi_tuple_int, isi_list_int, isi_dict_int, isi_lt_int, isi_int_str, isi_bool_str, isi_tuple_str, isi_list_str, isi_dict_str, isi_lt_str, isi_int_tup, isi_bool_tup, isi_tuple_tup, isi_list_tup, isi_dict_tup, isi_lt_tup, isi_int_lst, isi_bool_lst, isi_tuple_lst, isi_list_lst, isi_dict_lst, isi_lt_lst, isi_int_dk, isi_bool_dk, isi_tuple_dk, isi_list_dk, isi_dict_dk, isi_lt_dk, tup_ty, lenT_lst, lenT_tup, intT, Bool.or_true, Bool.true_or, Bool.or_false, Bool.false_or, Bool.and_true, Bool.true_and, Bool.and_false, Bool.false_and, Z.isNon, not_true_eq_false, not_false_eq_true, Bool.not_eq_true, Bool.false_eq_true, Option.map_some, List.length_cons, List.length_nil, Nat.reduceAdd, ↓reduceIte, List.map_cons, List.map_nil, Nat.reduceSub, List.cons_append, List.nil_append, List.append_nil, List.replicate, List.set_cons_succ, List.set_cons_zero, Nat.reduceLT, gE_0, gE_s, df_0_1, df_1_2, df_2_2, df_3_1, df_4_1, df_5_1, df_6_1, df_7_1, df_8_1, df_10_1, df_14_1, df_15_1, df_16_1, df_17_2, df_18_2, df_25_1, df_25_2, df_26_1, df_27_2, df_28_1, df_29_2, df_30_2, df_31_2, df_32_2, df_33_2, df_34_2, df_35_2, df_36_2, df_37_2, df_38_2, df_39_2, df_40_2, df_41_2, df_42_1, df_43_1, df_44_1, df_45_2, hmk, ini4, mth_isstay, his, hold_ok]
      | false => simp -implicitDefEqProofs only [exs, ex, ev, evs, evo, evC, rb_ok, rt_ok, of_some, lift2_t, view_t, subD_tup, subD_lst, at0, at1, at2, at3, subTT, addT, tupD2, fin_rt, fin_nx, cast0, cast1, cast2, cast3, cast4, cast5, Int.reduceLT, Int.reduceLE, Int.reduceEq, Int.reduceNe, decide_not, map_some, take_all, cmp_lt, cmp_le, cmp_gt, cmp_ge, cmp_eq, cmp_ne, tru_bl, setTg_name, setTg_tup, setTg_lst, setTgs_nil, setTgs_cons, decide_eq_true_eq, Option.bind_some, Option.bind_none, bl_not, is_non, isnt_non, cmpIs_tup, cmpIsN_tup, if_tt, if_ff, tru_int, reduceCtorEq, decide_true, decide_false, Bool.not_true, Bool.not_false, mm1, mm2, mm3, mapM1, mapM2, lstD_c0, lstD_t0, lstD_t1, lstD_t2, lstD_t3, isL_last, isi_int_non, isi_bool_non, isi_tuple_non, isi_list_non, isi_dict_non, isi_lt_non, isi_int_bl, isi_bool_bl, isi_tuple_bl, isi_list_bl, isi_dict_bl, isi_lt_bl, isi_int_int, isi_bool_int, isi_tuple_int, isi_list_int, isi_dict_int, isi_lt_int, isi_int_str, isi_bool_str, isi_tuple_str, isi_list_str, isi_dict_str, isi_lt_str, isi_int_tup, isi_bool_tup, isi_tuple_tup, isi_list_tup, isi_dict_tup, isi_lt_tup, isi_int_lst, isi_bool_lst, isi_tuple_lst, isi_list_lst, isi_dict_lst, isi_lt_lst, isi_int_dk, isi_bool_dk, isi_tuple_dk, isi_list_dk, isi_dict_dk, isi_lt_dk, tup_ty, lenT_lst, lenT_tup, intT, Bool.or_true, Bool.true_or, Bool.or_false, Bool.false_or, Bool.and_true, Bool.true_and, Bool.and_false, Bool.false_and, Z.isNon, not_true_eq_false, not_false_eq_true, Bool.not_eq_true, Bool.false_eq_true, Option.map_some, List.length_cons, List.length_nil, Nat.reduceAdd, ↓reduceIte, List.map_cons, List.map_nil, Nat.reduceSub, List.cons_append, List.nil_append, List.append_nil, List.replicate, List.set_cons_succ, List.set_cons_zero, Nat.reduceLT, gE_0, gE_s, df_0_1, df_1_2, df_2_2, df_3_1, df_4_1, df_5_1, df_6_1, df_7_1, df_8_1, df_10_1, df_14_1, df_15_1, df_16_1, df_17_2, df_18_2, df_25_1, df_25_2, df_26_1, df_27_2, df_28_1, df_29_2, df_30_2, df_31_2, df_32_2, df_33_2, df_34_2, df_35_2, df_36_2, df_37_2, df_38_2, df_39_2, df_40_2, df_41_2, df_42_1, df_43_1, df_44_1, df_45_2, hmk, ini4, mth_isstay, his, hold_ok]
  refine exs_nx (Q := QM) (σ1 := [some (.t (.scr ns)), some (.c 1), a, some (.t (.lst [fr p, fr q])), some (.t (.lst ((stays [p, q]).map T.int))), none, b6, b7, b8, b9, b10, b11, none]) (s1 := sp G1 f1 sm n1 []) (ex_set (l1 _) rfl) ?_
  clear l1
  refine exs_nx (Q := QM) (σ1 := [some (.t (.scr ns)), some (.c 1), a, some (.t (.lst [fr p, fr q])), some (.t (.lst ((stays [p, q]).map T.int))), some (.t (fr x)), b6, b7, b8, b9, b10, b11, none]) (s1 := sp G1 f1 sm n1 []) (by
    clear hx hnp hends hln hSp hg hl hl6 hP
    generalize (stays [p, q]).map T.int = X at *
    generalize short [p, q] = P at *
    simp -implicitDefEqProofs only [exs, ex, ev, evs, evo, evC, rb_ok, rt_ok, of_some, lift2_t, view_t, subD_tup, subD_lst, at0, at1, at2, at3, subTT, addT, tupD2, fin_rt, fin_nx, cast0, cast1, cast2, cast3, cast4, cast5, Int.reduceLT, Int.reduceLE, Int.reduceEq, Int.reduceNe, decide_not, map_some, take_all, cmp_lt, cmp_le, cmp_gt, cmp_ge, cmp_eq, cmp_ne, tru_bl, setTg_name, setTg_tup, setTg_lst, setTgs_nil, setTgs_cons, decide_eq_true_eq, Option.bind_some, Option.bind_none, bl_not, is_non, isnt_non, cmpIs_tup, cmpIsN_tup, if_tt, if_ff, tru_int, reduceCtorEq, decide_true, decide_false, Bool.not_true, Bool.not_false, mm1, mm2, mm3, mapM1, mapM2, lstD_c0, lstD_t0, lstD_t1, lstD_t2, lstD_t3, isL_last, isi_int_non, isi_bool_non, isi_tuple_non, isi_list_non, isi_dict_non, isi_lt_non, isi_int_bl, isi_bool_bl, isi_tuple_bl, isi_list_bl, isi_dict_bl, isi_lt_bl, isi_int_int, isi_bool_int, isi_tuple_int, isi_list_int, isi_dict_int, isi_lt_int, isi_int_str, isi_bool_str, isi_tuple_str, isi_list_str, isi_dict_str, isi_lt_str, isi_int_tup, isi_bool_tup, isi_tuple_tup, isi_list_tup, isi_dict_tup, isi_lt_tup, isi_int_lst, isi_bool_lst, isi_tuple_lst, isi_list_lst, isi_dict_lst, isi_lt_lst, isi_int_dk, isi_bool_dk, isi_tuple_dk, isi_list_dk, isi_dict_dk, isi_lt_dk, tup_ty, lenT_lst, lenT_tup, intT, Bool.or_true, Bool.true_or, Bool.or_false, Bool.false_or, Bool.and_true, Bool.true_and, Bool.and_false, Bool.false_and, Z.isNon, not_true_eq_false, not_false_eq_true, Bool.not_eq_true, Bool.false_eq_true, Option.map_some, List.length_cons, List.length_nil, Nat.reduceAdd, ↓reduceIte, List.map_cons, List.map_nil, Nat.reduceSub, List.cons_append, List.nil_append, List.append_nil, List.replicate, List.set_cons_succ, List.set_cons_zero, Nat.reduceLT, gE_0, gE_s, df_0_1, df_1_2, df_2_2, df_3_1, df_4_1, df_5_1, df_6_1, df_7_1, df_8_1, df_10_1, df_14_1, df_15_1, df_16_1, df_17_2, df_18_2, df_25_1, df_25_2, df_26_1, df_27_2, df_28_1, df_29_2, df_30_2, df_31_2, df_32_2, df_33_2, df_34_2, df_35_2, df_36_2, df_37_2, df_38_2, df_39_2, df_40_2, df_41_2, df_42_1, df_43_1, df_44_1, df_45_2, hmk, ini4, mth_stay, hst]) ?_
  have hgP : Good (edgP p q) := ⟨hSp, by unfold edgP; simp, by unfold edgP; simp⟩
  obtain ⟨hP2, hl62⟩ := pars hgP
  have hq := hg.sh q (by simp)
  have hpl : ∀ st, callN lib.ft lib.g0 (k + 8) 33 [.t (fr q), .t (.tup [.int 1, .int 1000])] st = .ok (.t (fr (Rw9.low (q.1 * 1000 + 1 * q.2, q.2 * 1000)))) st := fun st => r_plus (k + 6) q (1, 1000) st (hq.b1.mono (by decide)) (hq.b2.mono (by decide)) (by unfold Bd; decide +kernel) (by unfold Bd; decide +kernel) (Int.mul_pos hq.sh.2.2 (by decide))
  have hmk2 : ∀ st, makeD { lib.g0 with call := callN lib.ft lib.g0 (k + 8) } 4 [.t (.lst [fr p, fr (Rw9.low (q.1 * 1000 + 1 * q.2, q.2 * 1000))])] st = .ok (.t (row (short (edgP p q)))) st := fun st => r_make (k + 2) (edgP p q) st hgP.sh hgP.ne (by unfold edgP; simp)
  have hst2 : ∀ st, callN lib.ft lib.g0 (k + 8) 26 [.t (row (short (edgP p q)))] st = .ok (.t (oT (Rw9.pStay (short (edgP p q))))) st := fun st => r_stay (k + 2) _ st hP2 (by omega)
  rw [hnp] at hst2
  have hst2 : ∀ st, callN lib.ft lib.g0 (k + 8) 26 [.t (row (short (edgP p q)))] st = .ok (.t .non) st := hst2
  have hlen : biT .len [.lst ((stays [p, q]).map T.int)] = some (.int ((stays [p, q]).length : Int)) := by rw [lenT_lst, List.length_map]
  refine exs_nx (Q := QM) (σ1 := [some (.t (.scr ns)), some (.c 1), a, some (.t (.lst [fr p, fr q])), some (.t (.lst ((stays [p, q]).map T.int))), some (.t (fr x)), b6, b7, b8, b9, b10, b11, none]) (s1 := sp G1 f1 sm n1 []) (by
    have c : ¬ (1 < ((stays [p, q]).length : Int)) := by omega
    clear hx hnp hends hln hSp hg hl hl6 hP hgP hP2 hl62 hq hst hmk
    generalize ((stays [p, q]).length : Int) = L at *
    generalize (stays [p, q]).map T.int = X at *
    generalize short (edgP p q) = P at *
    generalize Rw9.low (q.1 * 1000 + 1 * q.2, q.2 * 1000) = c2 at *
    simp -implicitDefEqProofs only [exs, ex, ev, evs, evo, evC, rb_ok, rt_ok, of_some, lift2_t, view_t, subD_tup, subD_lst, at0, at1, at2, at3, subTT, addT, tupD2, fin_rt, fin_nx, cast0, cast1, cast2, cast3, cast4, cast5, Int.reduceLT, Int.reduceLE, Int.reduceEq, Int.reduceNe, decide_not, map_some, take_all, cmp_lt, cmp_le, cmp_gt, cmp_ge, cmp_eq, cmp_ne, tru_bl, setTg_name, setTg_tup, setTg_lst, setTgs_nil, setTgs_cons, decide_eq_true_eq, Option.bind_some, Option.bind_none, bl_not, is_non, isnt_non, cmpIs_tup, cmpIsN_tup, if_tt, if_ff, tru_int, reduceCtorEq, decide_true, decide_false, Bool.not_true, Bool.not_false, mm1, mm2, mm3, mapM1, mapM2, lstD_c0, lstD_t0, lstD_t1, lstD_t2, lstD_t3, isL_last, isi_int_non, isi_bool_non, isi_tuple_non, isi_list_non, isi_dict_non, isi_lt_non, isi_int_bl, isi_bool_bl, isi_tuple_bl, isi_list_bl, isi_dict_bl, isi_lt_bl, isi_int_int, isi_bool_int, isi_tuple_int, isi_list_int, isi_dict_int, isi_lt_int, isi_int_str, isi_bool_str, isi_tuple_str, isi_list_str, isi_dict_str, isi_lt_str, isi_int_tup, isi_bool_tup, isi_tuple_tup, isi_list_tup, isi_dict_tup, isi_lt_tup, isi_int_lst, isi_bool_lst, isi_tuple_lst, isi_list_lst, isi_dict_lst, isi_lt_lst, isi_int_dk, isi_bool_dk, isi_tuple_dk, isi_list_dk, isi_dict_dk, isi_lt_dk, tup_ty, lenT_tup, intT, Bool.or_true, Bool.true_or, Bool.or_false, Bool.false_or, Bool.and_true, Bool.true_and, Bool.and_false, Bool.false_and, Z.isNon, not_true_eq_false, not_false_eq_true, Bool.not_eq_true, Bool.false_eq_true, Option.map_some, List.length_cons, List.length_nil, Nat.reduceAdd, ↓reduceIte, List.map_cons, List.map_nil, Nat.reduceSub, List.cons_append, List.nil_append, List.append_nil, List.replicate, List.set_cons_succ, List.set_cons_zero, Nat.reduceLT, gE_0, gE_s, df_0_1, df_1_2, df_2_2, df_3_1, df_4_1, df_5_1, df_6_1, df_7_1, df_8_1, df_10_1, df_14_1, df_15_1, df_16_1, df_17_2, df_18_2, df_25_1, df_25_2, df_26_1, df_27_2, df_28_1, df_29_2, df_30_2, df_31_2, df_32_2, df_33_2, df_34_2, df_35_2, df_36_2, df_37_2, df_38_2, df_39_2, df_40_2, df_41_2, df_42_1, df_43_1, df_44_1, df_45_2, hlen, c, hpl, hmk2, hst2, ini4, mth_stay]) ?_
  have l2 : ∀ s, ev { lib.g0 with call := callN lib.ft lib.g0 (k + 8) } (.lc false [("_law_k", 12)] (.call 32 (.cons (.var 12) (.cons (.con (.int 144)) .nil))) (.name 12) (.val (.var 4)) .no) [some (.t (.scr ns)), some (.c 1), a, some (.t (.lst [fr p, fr q])), some (.t (.lst ((stays [p, q]).map T.int))), some (.t (fr x)), b6, b7, b8, b9, b10, b11, none] s = .ok (.t (.lst (((stays [p, q]).map fun i => Rw9.low (i, 144)).map fr))) s := by
    intro s
    have hw : ∀ s, walk s (.t (.lst ((stays [p, q]).map T.int))) = some (((stays [p, q]).map T.int).map D.t, none) := fun _ => rfl
    rw [ev_lc (fun _ => true) eLow (ds := ((stays [p, q]).map T.int).map D.t) (by
      generalize (stays [p, q]).map T.int = X at *
      simp -implicitDefEqProofs only [exs, ex, ev, evs, evo, evC, rb_ok, rt_ok, of_some, lift2_t, view_t, subD_tup, subD_lst, at0, at1, at2, at3, subTT, addT, tupD2, fin_rt, fin_nx, cast0, cast1, cast2, cast3, cast4, cast5, Int.reduceLT, Int.reduceLE, Int.reduceEq, Int.reduceNe, decide_not, map_some, take_all, cmp_lt, cmp_le, cmp_gt, cmp_ge, cmp_eq, cmp_ne, tru_bl, setTg_name, setTg_tup, setTg_lst, setTgs_nil, setTgs_cons, decide_eq_true_eq, Option.bind_some, Option.bind_none, bl_not, is_non, isnt_non, cmpIs_tup, cmpIsN_tup, if_tt, if_ff, tru_int, reduceCtorEq, decide_true, decide_false, Bool.not_true, Bool.not_false, mm1, mm2, mm3, mapM1, mapM2, lstD_c0, lstD_t0, lstD_t1, lstD_t2, lstD_t3, isL_last, isi_int_non, isi_bool_non, isi_tuple_non, isi_list_non, isi_dict_non, isi_lt_non, isi_int_bl, isi_bool_bl, isi_tuple_bl, isi_list_bl, isi_dict_bl, isi_lt_bl, isi_int_int, isi_bool_int, isi_tuple_int, isi_list_int, isi_dict_int, isi_lt_int, isi_int_str, isi_bool_str, isi_tuple_str, isi_list_str, isi_dict_str, isi_lt_str, isi_int_tup, isi_bool_tup, isi_tuple_tup, isi_list_tup, isi_dict_tup, isi_lt_tup, isi_int_lst, isi_bool_lst, isi_tuple_lst, isi_list_lst, isi_dict_lst, isi_lt_lst, isi_int_dk, isi_bool_dk, isi_tuple_dk, isi_list_dk, isi_dict_dk, isi_lt_dk, tup_ty, lenT_lst, lenT_tup, intT, Bool.or_true, Bool.true_or, Bool.or_false, Bool.false_or, Bool.and_true, Bool.true_and, Bool.and_false, Bool.false_and, Z.isNon, not_true_eq_false, not_false_eq_true, Bool.not_eq_true, Bool.false_eq_true, Option.map_some, List.length_cons, List.length_nil, Nat.reduceAdd, ↓reduceIte, List.map_cons, List.map_nil, Nat.reduceSub, List.cons_append, List.nil_append, List.append_nil, List.replicate, List.set_cons_succ, List.set_cons_zero, Nat.reduceLT, gE_0, gE_s, df_0_1, df_1_2, df_2_2, df_3_1, df_4_1, df_5_1, df_6_1, df_7_1, df_8_1, df_10_1, df_14_1, df_15_1, df_16_1, df_17_2, df_18_2, df_25_1, df_25_2, df_26_1, df_27_2, df_28_1, df_29_2, df_30_2, df_31_2, df_32_2, df_33_2, df_34_2, df_35_2, df_36_2, df_37_2, df_38_2, df_39_2, df_40_2, df_41_2, df_42_1, df_43_1, df_44_1, df_45_2, evI, hw]) ?_ (by rw [List.length_map, List.length_map]; omega), lows]
    · rfl
    · intro d hd acc
      obtain ⟨t, ht, rfl⟩ := List.mem_map.mp hd
      obtain ⟨i, hi, rfl⟩ := List.mem_map.mp ht
      have := stays_mem hi
      have hlw : ∀ st, callN lib.ft lib.g0 (k + 8) 32 [.t (.int i), .t (.int 144)] st = .ok (.t (fr (Rw9.low (i, 144)))) st := fun st => r_low (k + 7) i 144 st (by decide) (bd_lit 200 (by omega) (by decide +kernel)) (by unfold Bd; decide +kernel)
      show _ = R.ok (some (D.t (fr (Rw9.low (i, 144))))) _
      rw [turnC_some (σ1 := [some (.t (.scr ns)), some (.c 1), a, some (.t (.lst [fr p, fr q])), some (.t (.lst ((stays [p, q]).map T.int))), some (.t (fr x)), b6, b7, b8, b9, b10, b11, some (.t (.int i))]) rfl]
      clear hw hlen hmk2 hst2 hpl hst hmk hx hnp hends hln hSp hg hl hl6 hP hgP hP2 hl62 hq ht hd hi
      generalize (stays [p, q]).map T.int = X at *
      generalize Rw9.low (i, 144) = y at *
      simp -implicitDefEqProofs only [exs, ex, ev, evs, evo, evC, rb_ok, rt_ok, of_some, lift2_t, view_t, subD_tup, subD_lst, at0, at1, at2, at3, subTT, addT, tupD2, fin_rt, fin_nx, cast0, cast1, cast2, cast3, cast4, cast5, Int.reduceLT, Int.reduceLE, Int.reduceEq, Int.reduceNe, decide_not, map_some, take_all, cmp_lt, cmp_le, cmp_gt, cmp_ge, cmp_eq, cmp_ne, tru_bl, setTg_name, setTg_tup, setTg_lst, setTgs_nil, setTgs_cons, decide_eq_true_eq, Option.bind_some, Option.bind_none, bl_not, is_non, isnt_non, cmpIs_tup, cmpIsN_tup, if_tt, if_ff, tru_int, reduceCtorEq, decide_true, decide_false, Bool.not_true, Bool.not_false, mm1, mm2, mm3, mapM1, mapM2, lstD_c0, lstD_t0, lstD_t1, lstD_t2, lstD_t3, isL_last, isi_int_non, isi_bool_non, isi_tuple_non, isi_list_non, isi_dict_non, isi_lt_non, isi_int_bl, isi_bool_bl, isi_tuple_bl, isi_list_bl, isi_dict_bl, isi_lt_bl, isi_int_int, isi_bool_int, isi_tuple_int, isi_list_int, isi_dict_int, isi_lt_int, isi_int_str, isi_bool_str, isi_tuple_str, isi_list_str, isi_dict_str, isi_lt_str, isi_int_tup, isi_bool_tup, isi_tuple_tup, isi_list_tup, isi_dict_tup, isi_lt_tup, isi_int_lst, isi_bool_lst, isi_tuple_lst, isi_list_lst, isi_dict_lst, isi_lt_lst, isi_int_dk, isi_bool_dk, isi_tuple_dk, isi_list_dk, isi_dict_dk, isi_lt_dk, tup_ty, lenT_lst, lenT_tup, intT, Bool.or_true, Bool.true_or, Bool.or_false, Bool.false_or, Bool.and_true, Bool.true_and, Bool.and_false, Bool.false_and, Z.isNon, not_true_eq_false, not_false_eq_true, Bool.not_eq_true, Bool.false_eq_true, Option.map_some, List.length_cons, List.length_nil, Nat.reduceAdd, ↓reduceIte, List.map_cons, List.map_nil, Nat.reduceSub, List.cons_append, List.nil_append, List.append_nil, List.replicate, List.set_cons_succ, List.set_cons_zero, Nat.reduceLT, gE_0, gE_s, df_0_1, df_1_2, df_2_2, df_3_1, df_4_1, df_5_1, df_6_1, df_7_1, df_8_1, df_10_1, df_14_1, df_15_1, df_16_1, df_17_2, df_18_2, df_25_1, df_25_2, df_26_1, df_27_2, df_28_1, df_29_2, df_30_2, df_31_2, df_32_2, df_33_2, df_34_2, df_35_2, df_36_2, df_37_2, df_38_2, df_39_2, df_40_2, df_41_2, df_42_1, df_43_1, df_44_1, df_45_2, hlw, hold_ok]
  have l3 : ∀ s, ev { lib.g0 with call := callN lib.ft lib.g0 (k + 8) } (.tup (.cons (.lst false .nil) (.cons (.lst false (.cons (.var 5) .nil)) .nil))) [some (.t (.scr ns)), some (.c 1), a, some (.t (.lst [fr p, fr q])), some (.t (.lst ((stays [p, q]).map T.int))), some (.t (fr x)), b6, b7, b8, b9, b10, b11, none] s = .ok (.t (.tup [.lst [], .lst [fr x]])) s := by
    intro s
    clear l2 hlen hmk2 hst2 hpl hst hmk hx hnp hends hln hSp hg hl hl6 hP hgP hP2 hl62 hq
    generalize (stays [p, q]).map T.int = X at *
    simp -implicitDefEqProofs only [exs, ex, ev, evs, evo, evC, rb_ok, rt_ok, of_some, lift2_t, view_t, subD_tup, subD_lst, at0, at1, at2, at3, subTT, addT, tupD2, fin_rt, fin_nx, cast0, cast1, cast2, cast3, cast4, cast5, Int.reduceLT, Int.reduceLE, Int.reduceEq, Int.reduceNe, decide_not, map_some, take_all, cmp_lt, cmp_le, cmp_gt, cmp_ge, cmp_eq, cmp_ne, tru_bl, setTg_name, setTg_tup, setTg_lst, setTgs_nil, setTgs_cons, decide_eq_true_eq, Option.bind_some, Option.bind_none, bl_not, is_non, isnt_non, cmpIs_tup, cmpIsN_tup, if_tt, if_ff, tru_int, reduceCtorEq, decide_true, decide_false, Bool.not_true, Bool.not_false, mm1, mm2, mm3, mapM1, mapM2, lstD_c0, lstD_t0, lstD_t1, lstD_t2, lstD_t3, isL_last, isi_int_non, isi_bool_non, isi_tuple_non, isi_list_non, isi_dict_non, isi_lt_non, isi_int_bl, isi_bool_bl, isi_tuple_bl, isi_list_bl, isi_dict_bl, isi_lt_bl, isi_int_int, isi_bool_int, isi_tuple_int, isi_list_int, isi_dict_int, isi_lt_int, isi_int_str, isi_bool_str, isi_tuple_str, isi_list_str, isi_dict_str, isi_lt_str, isi_int_tup, isi_bool_tup, isi_tuple_tup, isi_list_tup, isi_dict_tup, isi_lt_tup, isi_int_lst, isi_bool_lst, isi_tuple_lst, isi_list_lst, isi_dict_lst, isi_lt_lst, isi_int_dk, isi_bool_dk, isi_tuple_dk, isi_list_dk, isi_dict_dk, isi_lt_dk, tup_ty, lenT_lst, lenT_tup, intT, Bool.or_true, Bool.true_or, Bool.or_false, Bool.false_or, Bool.and_true, Bool.true_and, Bool.and_false, Bool.false_and, Z.isNon, not_true_eq_false, not_false_eq_true, Bool.not_eq_true, Bool.false_eq_true, Option.map_some, List.length_cons, List.length_nil, Nat.reduceAdd, ↓reduceIte, List.map_cons, List.map_nil, Nat.reduceSub, List.cons_append, List.nil_append, List.append_nil, List.replicate, List.set_cons_succ, List.set_cons_zero, Nat.reduceLT, gE_0, gE_s, df_0_1, df_1_2, df_2_2, df_3_1, df_4_1, df_5_1, df_6_1, df_7_1, df_8_1, df_10_1, df_14_1, df_15_1, df_16_1, df_17_2, df_18_2, df_25_1, df_25_2, df_26_1, df_27_2, df_28_1, df_29_2, df_30_2, df_31_2, df_32_2, df_33_2, df_34_2, df_35_2, df_36_2, df_37_2, df_38_2, df_39_2, df_40_2, df_41_2, df_42_1, df_43_1, df_44_1, df_45_2]
  exact exs_rt (Q := QM) (d := .t (.bl true)) (s1 := sp G1 f1 sm n1 []) (ex_ret (ev_cmp (l2 _) (l3 _) (in_ends hends))) ⟨_, rfl⟩
theorem main_k (k : Nat) (ns : List Int) (hl : ns.length ≤ 63) : ∃ s, callN lib.ft lib.g0 (k + 9) 46 [.t (.scr ns)] [] = .ok (.t (.bl true)) s := by
  have key : QM (exs { lib.g0 with call := callN lib.ft lib.g0 (k + 8) } F46.body [some (.t (.scr ns)), none, none, none, none, none, none, none, none, none, none, none, none] []) := by
    obtain ⟨G, sm, e⟩ := r_spring (k + 7) ns hl
    have e : callN lib.ft lib.g0 (k + 8) 28 [.t (.scr ns)] [] = .ok (.c 1) (sp G 0 sm 0 []) := e
    have ht := t_turn k ns sm
    have he := t_end k ns sm
    unfold F46 at ht he ⊢
    dsimp only at ht he ⊢
    refine exs_nx (Q := QM) (σ1 := [some (.t (.scr ns)), some (.c 1), none, none, none, none, none, none, none, none, none, none, none]) (s1 := sp G 0 sm 0 []) (by simp -implicitDefEqProofs only [exs, ex, ev, evs, evo, evC, rb_ok, rt_ok, of_some, lift2_t, view_t, subD_tup, subD_lst, at0, at1, at2, at3, subTT, addT, tupD2, fin_rt, fin_nx, cast0, cast1, cast2, cast3, cast4, cast5, Int.reduceLT, Int.reduceLE, Int.reduceEq, Int.reduceNe, decide_not, map_some, take_all, cmp_lt, cmp_le, cmp_gt, cmp_ge, cmp_eq, cmp_ne, tru_bl, setTg_name, setTg_tup, setTg_lst, setTgs_nil, setTgs_cons, decide_eq_true_eq, Option.bind_some, Option.bind_none, bl_not, is_non, isnt_non, cmpIs_tup, cmpIsN_tup, if_tt, if_ff, tru_int, reduceCtorEq, decide_true, decide_false, Bool.not_true, Bool.not_false, mm1, mm2, mm3, mapM1, mapM2, lstD_c0, lstD_t0, lstD_t1, lstD_t2, lstD_t3, isL_last, isi_int_non, isi_bool_non, isi_tuple_non, isi_list_non, isi_dict_non, isi_lt_non, isi_int_bl, isi_bool_bl, isi_tuple_bl, isi_list_bl, isi_dict_bl, isi_lt_bl, isi_int_int, isi_bool_int, isi_tuple_int, isi_list_int, isi_dict_int, isi_lt_int, isi_int_str, isi_bool_str, isi_tuple_str, isi_list_str, isi_dict_str, isi_lt_str, isi_int_tup, isi_bool_tup, isi_tuple_tup, isi_list_tup, isi_dict_tup, isi_lt_tup, isi_int_lst, isi_bool_lst, isi_tuple_lst, isi_list_lst, isi_dict_lst, isi_lt_lst, isi_int_dk, isi_bool_dk, isi_tuple_dk, isi_list_dk, isi_dict_dk, isi_lt_dk, tup_ty, lenT_lst, lenT_tup, intT, Bool.or_true, Bool.true_or, Bool.or_false, Bool.false_or, Bool.and_true, Bool.true_and, Bool.and_false, Bool.false_and, Z.isNon, not_true_eq_false, not_false_eq_true, Bool.not_eq_true, Bool.false_eq_true, Option.map_some, List.length_cons, List.length_nil, Nat.reduceAdd, ↓reduceIte, List.map_cons, List.map_nil, Nat.reduceSub, List.cons_append, List.nil_append, List.append_nil, List.replicate, List.set_cons_succ, List.set_cons_zero, Nat.reduceLT, gE_0, gE_s, df_0_1, df_1_2, df_2_2, df_3_1, df_4_1, df_5_1, df_6_1, df_7_1, df_8_1, df_10_1, df_14_1, df_15_1, df_16_1, df_17_2, df_18_2, df_25_1, df_25_2, df_26_1, df_27_2, df_28_1, df_29_2, df_30_2, df_31_2, df_32_2, df_33_2, df_34_2, df_35_2, df_36_2, df_37_2, df_38_2, df_39_2, df_40_2, df_41_2, df_42_1, df_43_1, df_44_1, df_45_2, e]) ?_
    refine exs_for (Q := QM) (ds := upI 0 (4 : Int).toNat) (u := none) (s1 := sp G 0 sm 0 []) (I1 ns sm) (by simp -implicitDefEqProofs only [exs, ex, ev, evs, evo, evC, rb_ok, rt_ok, of_some, lift2_t, view_t, subD_tup, subD_lst, at0, at1, at2, at3, subTT, addT, tupD2, fin_rt, fin_nx, cast0, cast1, cast2, cast3, cast4, cast5, Int.reduceLT, Int.reduceLE, Int.reduceEq, Int.reduceNe, decide_not, map_some, take_all, cmp_lt, cmp_le, cmp_gt, cmp_ge, cmp_eq, cmp_ne, tru_bl, setTg_name, setTg_tup, setTg_lst, setTgs_nil, setTgs_cons, decide_eq_true_eq, Option.bind_some, Option.bind_none, bl_not, is_non, isnt_non, cmpIs_tup, cmpIsN_tup, if_tt, if_ff, tru_int, reduceCtorEq, decide_true, decide_false, Bool.not_true, Bool.not_false, mm1, mm2, mm3, mapM1, mapM2, lstD_c0, lstD_t0, lstD_t1, lstD_t2, lstD_t3, isL_last, isi_int_non, isi_bool_non, isi_tuple_non, isi_list_non, isi_dict_non, isi_lt_non, isi_int_bl, isi_bool_bl, isi_tuple_bl, isi_list_bl, isi_dict_bl, isi_lt_bl, isi_int_int, isi_bool_int, isi_tuple_int, isi_list_int, isi_dict_int, isi_lt_int, isi_int_str, isi_bool_str, isi_tuple_str, isi_list_str, isi_dict_str, isi_lt_str, isi_int_tup, isi_bool_tup, isi_tuple_tup, isi_list_tup, isi_dict_tup, isi_lt_tup, isi_int_lst, isi_bool_lst, isi_tuple_lst, isi_list_lst, isi_dict_lst, isi_lt_lst, isi_int_dk, isi_bool_dk, isi_tuple_dk, isi_list_dk, isi_dict_dk, isi_lt_dk, tup_ty, lenT_lst, lenT_tup, intT, Bool.or_true, Bool.true_or, Bool.or_false, Bool.false_or, Bool.and_true, Bool.true_and, Bool.and_false, Bool.false_and, Z.isNon, not_true_eq_false, not_false_eq_true, Bool.not_eq_true, Bool.false_eq_true, Option.map_some, List.length_cons, List.length_nil, Nat.reduceAdd, ↓reduceIte, List.map_cons, List.map_nil, Nat.reduceSub, List.cons_append, List.nil_append, List.append_nil, List.replicate, List.set_cons_succ, List.set_cons_zero, Nat.reduceLT, gE_0, gE_s, df_0_1, df_1_2, df_2_2, df_3_1, df_4_1, df_5_1, df_6_1, df_7_1, df_8_1, df_10_1, df_14_1, df_15_1, df_16_1, df_17_2, df_18_2, df_25_1, df_25_2, df_26_1, df_27_2, df_28_1, df_29_2, df_30_2, df_31_2, df_32_2, df_33_2, df_34_2, df_35_2, df_36_2, df_37_2, df_38_2, df_39_2, df_40_2, df_41_2, df_42_1, df_43_1, df_44_1, df_45_2, evI, show smallI 4 = true from rfl]) ⟨G, 0, 0, none, none, none, none, none, none, none, rfl, by omega, by omega, rfl⟩ ?_ ?_
    · rintro j d σ s hd hi
      obtain ⟨rfl, hj⟩ := upI_get hd
      obtain ⟨σ', s', h1, h2⟩ := ht j hj σ s hi _ _ rfl
      exact .inl ⟨σ', s', .inl h1, h2⟩
    · intro σ s hi
      exact he σ s hi _ _ _ rfl
  obtain ⟨s, e⟩ := key
  refine ⟨s.take 0, ?_⟩
  rw [callN_succ (F := F46) rfl, callF_eq rfl]
  exact fin_eq e (fin_rt rfl)
theorem main : ∀ ns : List Int, ns.length ≤ 63 → ∃ s, callN lib.ft lib.g0 20 46 [.t (.scr ns)] [] = .ok (.t (.bl true)) s := fun ns h => main_k 11 ns h
end Lw
end Z
end
section
set_option maxRecDepth 100000
set_option maxHeartbeats 0
namespace Z
namespace Lw
open PySem PySem.Spec L2
abbrev Rw : PySem.W.OpenRow := PySem.W.OpenLaw.row PySem.Challenge.rw_linkedfaults_k39_whole_stays
abbrev hk : PySem.W.Hook := hookZ 5 lib.fa lib.fns lib.ex
def ob (s : PySem.W.SharedT) : AlZ := obsZ 5 lib.fa lib.fns lib.ex (HandSHeadRun.getT s)
theorem ob_eq (s : PySem.W.SharedT) : ob s = hk.obs s.abs := obsZ_eq (HandSHeadRun.getT_eq s)
theorem run (w : World) : HandSHeadRun.RunEqI Rw (PySem.W.view Rw.prog [0, 45]) hk ob 20000 nms w := by
  delta HandSHeadRun.RunEqI
  kernel_rfl
end Lw
end Z
end
set_option maxRecDepth 100000
set_option maxHeartbeats 0
namespace Z
namespace Lw
open PySem PySem.Spec L2
end Lw
end Z
open PySem PySem.W PySem.Calls PyProof.Rows
theorem PySem.Challenge.cw_linkedfaults_k39_whole_stays_holds : PySem.Challenge.rw_linkedfaults_k39_whole_stays.Holds := by
  w_on; o_law
  refine HandSHeadRun.head_imp (r := OpenLaw.row PySem.Challenge.rw_linkedfaults_k39_whole_stays) (q := view (OpenLaw.row PySem.Challenge.rw_linkedfaults_k39_whole_stays).prog [0, 45]) (H := Z.Lw.hk) (ob := Z.Lw.ob) (M := 20000) (loose := Z.Lw.nms) (d := HandSHeadRun.topDef (OpenLaw.row PySem.Challenge.rw_linkedfaults_k39_whole_stays).prog 45) (kwd := []) Z.Lw.ob_eq
    Z.Lw.run (by kernel_rfl) (by kernel_rfl) (by kernel_rfl) (by rfl) (by first | assumption | decide +kernel) (by decide +kernel) ⟨rfl, rfl, rfl, rfl, rfl, by decide +kernel⟩ ?hw ?hc
  case hw => w_witness2
  case hc => exact Z.law_walk (l := PySem.Challenge.rw_linkedfaults_k39_whole_stays) (L := Z.Lw.lib) (n := 5) (f := 46) (k := 20) (D := Z.Lw.D46) (x := "_law_script") rfl (by kernel_rfl) ⟨rfl, by decide, by decide⟩ rfl (by kernel_rfl) rfl Z.Lw.okT Z.Lw.okDs rfl (fun _ _ _ _ _ _ us hl => match us, hl with | [_], _ => rfl) (fun P w K mg base c => Z.Lw.bnds_ok c) Z.Lw.main
