import PyProof.Rows.All
import Wide.All
import OpenK.AllK
import Wide.FinOn
import HandS.ForMost
import HandS.Deep
import HandS.IsInst
import HandS.CallRecv
import HandS.More
import HandS.Text
import KE.SortData
import PyProof.StrOps2
import PyProof.ListStr
import HandS.IterVal
import KE.DataFind
import HandS.NoneIn
import HandS.Small
import HandS.Style
import PyProof.EnumMake
import PyProof.Draws
import HandS.TupLe
import PyProof.Rows.StrRev
import HandS.Conv
import PySem.Challenge.RW_bowkinds_k33_rings_judged
set_option Elab.async false
set_option linter.all false
set_option maxRecDepth 100000
/-! BK1: a small language of values, its programs, and what they come to: the data, the syntax, the reckoning (plain Lean, no heap). -/
namespace BK
open PySem

/-! ### the data -/
inductive D where
  | non
  | bl (b : Bool)
  | int (i : Int)
  | str (x : Str)
  | lst (xs : List D)
  | rl (xs : List D)
  | tup (xs : List D)
  | dk (ks : List L2.Key) (vs : List D)
  | ins (c : Nat) (ns : List Str) (vs : List D)
  | kd (ks : List Str) (vs : List D)

def D.flat : D → Bool
  | .non => true
  | .bl _ => true
  | .int _ => true
  | .str _ => true
  | _ => false

mutual
def D.py : D → Option PyData
  | .non => some .none
  | .bl b => some (.bool b)
  | .int i => some (.int i)
  | .str x => some (.str x)
  | .lst xs => (D.pys xs).map PyData.list
  | .rl _ => none
  | .tup xs => (D.pys xs).map PyData.tuple
  | .dk _ _ => none
  | .ins _ _ _ => none
  | .kd _ _ => none
def D.pys : List D → Option (List PyData)
  | [] => some []
  | x :: xs => (D.py x).bind fun p => (D.pys xs).map fun ps => p :: ps
end

/-! ### what a name holds: nothing, a value that may be shared, an object of one's own (true: the caller lent it, the name keeps it) -/
inductive Sl where
  | un
  | sh (p : Bool) (d : D)
  | ow (p : Bool) (d : D)
abbrev Rho := List Sl
/-- what may be handed to a def -/
def Sl.fit : Sl → Bool
  | .ow false _ => false
  | _ => true
def Sl.pin : Sl → Bool
  | .un => false
  | .sh p _ => p
  | .ow p _ => p

/-! ### the syntax -/
inductive Ty where
  | int | bool | str | list | tuple | dict | own (c : Nat)
  deriving DecidableEq
inductive Op where
  | add | sub | mul | fdiv | mod | pow | neg
  | eq | ne | lt | le | gt | ge | isin | notin | isN | notN
  | idx | sl (lo hi : Bool)
  | len | abs | int | repr | list | tup | sort
  | fld (n : Str)
  | isi (ts : List Ty)
  | isB (b : Bool) | notB (b : Bool)
  | all | any | bor | band | inv | sum | max | min | rev
  deriving DecidableEq

inductive Mu where
  | app | ins | ext | pop
  deriving DecidableEq

inductive Bm where
  | index | count | get | scn
  deriving DecidableEq

inductive Tg1 where
  | nm (i : Nat)
  | ix (x : Nat) (k : D)
inductive Tg where
  | one (t : Tg1)
  | tp (ts : List Tg1)
mutual
inductive E where
  | var (i : Nat)
  | cst (d : D)
  | glb (g : Nat)
  | ap1 (op : Op) (a : E)
  | ap2 (op : Op) (a b : E)
  | ap3 (op : Op) (a b c : E)
  | chn (o1 o2 : Op) (a b c : E)
  | tup (es : Es)
  | lst (es : Es)
  | dsp (ks : List Str) (es : Es)
  | ite (c : T) (a b : E)
  | and (es : Es)
  | or (es : Es)
  | not (a : E)
  | call (f : Nat) (es : Es)
  | new (c : Nat) (es : Es)
  | meth (m : Str) (o : E) (es : Es)
  | mut (m : Mu) (x : Nat) (es : Es)
  | bm (m : Bm) (o : E) (es : Es)
  | lc (elt : E) (tg : Tg) (it : I) (cd : Ts)
  | lc2 (elt : E) (tg : Tg) (it : I) (cd : Ts) (tg1 : Tg) (it1 : I) (cd1 : Ts)
  | lcw (elt : E) (tg : Tg) (i : Nat) (cd : Ts)
  | lrg (it : I)
  | att (n : Str) (e : E)
  | nev
  | tmp (a : E)
  | pick (es : Es) (k : E)
  | isi (ts : List Ty) (e : E)
inductive Es where
  | nil
  | cons (e : E) (es : Es)
inductive T where
  | val (e : E)
  | cmp (op : Op) (a b : E)
  | chn (o1 o2 : Op) (a b c : E)
  | all (ts : Ts)
  | any (ts : Ts)
  | not (t : T)
inductive Ts where
  | nil
  | cons (t : T) (ts : Ts)
inductive I where
  | seq (e : E)
  | rng1 (a : E)
  | rng2 (a b : E)
  | vals (e : E)
  | items (e : E)
end

mutual
inductive S where
  | asg (tg : Tg) (e : E)
  | par (ts : List Tg1) (es : Es)
  | set (x : Nat) (i e : E)
  | aug (x : Nat) (op : Op) (e : E)
  | augi (x : Nat) (i : E) (op : Op) (e : E)
  | setf (x : Nat) (n : Str) (e : E)
  | exp (e : E)
  | ret (e : E)
  | reti (c : T) (a b : E)
  | iff (c : T) (a b : Ss)
  | for_ (tg : Tg) (it : I) (b : Ss)
  | whl (c : T) (b : Ss)
  | forw (tg : Tg) (i : Nat) (b : Ss)
  | fore (tg : Tg) (e : E) (b : Ss)
  | brk | cnt | pss
  | never
inductive Ss where
  | nil
  | cons (s : S) (ss : Ss)
end

structure Def where
  name : Str
  np : Nat
  nn : Nat
  body : Ss
structure Cls where
  name : Str
  init : Nat
  ms : List (Str × Nat)
  fs : List Str
  itf : Option Str := none
structure Pr where
  defs : List Def
  gls : List (Str × D)
  cls : List Cls

/-! ### the operations on values: the answer, and whether it is an object just made -/
def small64 (i : Int) : Bool := decide (-(2 ^ 64) < i) && decide (i < 2 ^ 64)
/-- sizes that are surely held -/
def most : Nat := 100000
def okRepr (d : PyData) : Bool := d.showable && !d.hasDict && decide (d.depth ≤ 64) && decide (d.shown.length ≤ most)
def eqDp (a b : D) : Option Bool :=
  match a.py, b.py with
  | some p, some q => if SeqAt.shaped p && SeqAt.shaped q then some (PyData.eqv p q) else none
  | _, _ => none
def eqD : D → D → Option Bool
  | .str x, .str y => some (x == y)
  | a, b => eqDp a b
/-- the place of a member by its index -/
def atD (xs : List D) (i : Int) : Option D := L2.atI xs i
def cutD (xs : List D) (lo hi : Option Int) : List D := (xs.drop (HT.sIx xs.length 0 lo)).take (HT.sIx xs.length xs.length hi - HT.sIx xs.length 0 lo)
/-- a dict, by its keys -/
def D.key : D → Option L2.Key
  | .int i => some (Sum.inl i)
  | .str x => some (Sum.inr x)
  | _ => none
def keyD : L2.Key → D
  | .inl i => .int i
  | .inr x => .str x
def dget : List L2.Key → List D → L2.Key → Option D
  | k :: ks, v :: vs, q => if k = q then some v else dget ks vs q
  | _, _, _ => none
/-- a written dict, by its keys -/
def kget : List Str → List D → Str → Option D
  | k :: ks, v :: vs, q => if k = q then some v else kget ks vs q
  | _, _, _ => none
def dput (ks : List L2.Key) (vs : List D) (q : L2.Key) (d : D) : List L2.Key × List D :=
  if ks.any (fun k => decide (k = q)) then (ks, List.zipWith (fun k v => if k = q then d else v) ks vs) else (ks ++ [q], vs ++ [d])
def fget : List Str → List D → Str → Option D
  | n :: ns, v :: vs, q => if n = q then some v else fget ns vs q
  | _, _, _ => none
def fput : List Str → List D → Str → D → List Str × List D
  | n :: ns, v :: vs, q, d => if n = q then (n :: ns, d :: vs) else ((n :: (fput ns vs q d).1), (v :: (fput ns vs q d).2))
  | _, _, q, d => ([q], [d])
/-- one of the data among others -/
def hasD (d : D) (xs : List D) : Option Bool :=
  match d.py, D.pys xs with
  | some p, some ps => if SeqAt.shaped p && SeqAt.shaped (.list ps) then some (ps.any fun z => PyData.eqv z p) else none
  | _, _ => none
def sortD (xs : List D) : Option (List D) := match D.pys xs with
  | some ps => if ps.all (fun p => ps.all fun q => alikeB p q) && sortableB ps && ps.all (fun p => decide (p.depth ≤ 64)) then some (xs.mergeSort fun a b => leD a b) else none
  | none => none
where
  alikeB (p q : PyData) : Bool := PySem.W.alike p q
  sortableB (ps : List PyData) : Bool := ps.all (fun p => match p with | .tuple (_ :: _) => true | _ => false) || ps.all (fun p => match p with | .tuple _ => false | .none => false | _ => true)
  leD (a b : D) : Bool := PySem.W.dataLe false (fun d : D => d.py.getD .none) a b
/-- isinstance -/
def D.isi : D → Ty → Bool
  | .bl _, .int => true
  | .bl _, .bool => true
  | .int _, .int => true
  | .str _, .str => true
  | .lst _, .list => true
  | .rl _, .list => true
  | .tup _, .tuple => true
  | .dk _ _, .dict => true
  | .kd _ _, .dict => true
  | .ins c _ _, .own d => c == d
  | _, _ => false
/-- the first place of a member -/
def findD (p : PyData) : List PyData → Nat → Option Nat
  | [], _ => none
  | z :: zs, k => if PyData.eqv z p then some k else findD p zs (k + 1)
def boolsD : List D → Option (List Bool)
  | [] => some []
  | .bl b :: xs => (boolsD xs).map fun bs => b :: bs
  | _ => none
def intsD : List D → Option (List Int)
  | [] => some []
  | .int i :: xs => (intsD xs).map fun is => i :: is
  | _ => none
def maxL (i : Int) (is : List Int) : Int := is.foldl (fun a b => if a < b then b else a) i
def minL (i : Int) (is : List Int) : Int := is.foldl (fun a b => if b < a then b else a) i
/-- a text, sign by sign -/
def signsD (x : Str) : List D := x.cps.toList.map fun c => .str ⟨#[c]⟩
def repS (x : Str) (n : Int) : Str := if n < 1 then Str.empty else if (n == 1 || x.length == 0) = true then x else ⟨(List.replicate n.toNat x.cps).foldl (· ++ ·) #[]⟩
def revT (z : Str) : Str := ⟨z.cps.toList.reverse.toArray⟩
/-- a dict of flat values, written out -/
def keyPy : L2.Key → PyData
  | .inl i => .int i
  | .inr x => .str x
def dkPy (ks : List L2.Key) (vs : List D) : Option PyData := if vs.all D.flat && decide (ks.length = vs.length) then (D.pys vs).map fun ps => .dict ((ks.map keyPy).zip ps) else none
def okReprK (d : PyData) : Bool := d.showable && decide (d.depth ≤ 64) && decide (d.shown.length ≤ most)
def reprD : D → Option (D × Bool)
  | .dk ks vs => match dkPy ks vs with
    | some p => if okReprK p then some (.str p.shown, false) else none
    | none => none
  | d => match d.py with
    | some p => if okRepr p then some (.str p.shown, false) else none
    | none => none
theorem repr_of_py {d : D} {p : PyData} (h : d.py = some p) (ok : okRepr p = true) : reprD d = some (.str p.shown, false) := by
  cases d <;> first
    | (simp [D.py] at h; done)
    | (simp only [reprD, h, ok, if_true])
def op1 : Op → D → Option (D × Bool)
  | .rev, .str x => if x.length ≤ most then some (.str (revT x), false) else none
  | .list, .str x => if x.length ≤ most then some (.lst (signsD x), true) else none
  | .neg, .int i => some (.int (-i), false)
  | .isN, .non => some (.bl true, false)
  | .isN, _ => some (.bl false, false)
  | .notN, .non => some (.bl false, false)
  | .notN, _ => some (.bl true, false)
  | .len, .lst xs => some (.int xs.length, false)
  | .len, .tup xs => some (.int xs.length, false)
  | .len, .str x => if x.length ≤ most then some (.int x.length, false) else none
  | .abs, .int i => some (.int (if i < 0 then -i else i), false)
  | .int, .int i => some (.int i, false)
  | .int, .bl b => some (.int (if b then 1 else 0), false)
  | .repr, d => reprD d
  | .list, .lst xs => some (.lst xs, true)
  | .list, .tup xs => some (.lst xs, true)
  | .tup, .lst xs => some (.tup xs, false)
  | .tup, .tup xs => some (.tup xs, false)
  | .sort, .lst xs => if xs.length ≤ most then (sortD xs).map fun ys => (.lst ys, true) else none
  | .fld n, .ins _ ns vs => (fget ns vs n).map fun d => (d, false)
  | .isB b, .bl k => some (.bl (k == b), false)
  | .notB b, .bl k => some (.bl (k != b), false)
  | .sl false false, .lst xs => some (.lst (cutD xs none none), true)
  | .all, .lst xs => (boolsD xs).map fun bs => (.bl (bs.all id), false)
  | .any, .lst xs => (boolsD xs).map fun bs => (.bl (bs.any id), false)
  | .sum, .lst xs => (intsD xs).map fun is => (.int is.sum, false)
  | .max, .lst xs => (intsD xs).bind fun is => match is with
    | i :: is => some (.int (maxL i is), false)
    | [] => none
  | .min, .lst xs => (intsD xs).bind fun is => match is with
    | i :: is => some (.int (minL i is), false)
    | [] => none
  | .rev, .lst xs => some (.lst xs.reverse, true)
  | _, _ => none
def op2 : Op → D → D → Option (D × Bool)
  | .add, .int i, .int j => some (.int (i + j), false)
  | .add, .str x, .str y => if x.length + y.length ≤ most then some (.str (x ++ y), false) else none
  | .add, .lst xs, .lst ys => if xs.length + ys.length ≤ most then some (.lst (xs ++ ys), true) else none
  | .add, .tup xs, .tup ys => if xs.length + ys.length ≤ most && !xs.isEmpty then some (.tup (xs ++ ys), false) else none
  | .sub, .int i, .int j => some (.int (i - j), false)
  | .mul, .int i, .int j => if small64 i || small64 j then some (.int (i * j), false) else none
  | .mul, .str x, .int n => if decide (-(2 ^ 63) ≤ n) && decide (n ≤ most) && decide (x.length * n.toNat ≤ most) then some (.str (repS x n), false) else none
  | .mul, .lst xs, .int j => if xs.length * j.toNat ≤ most && decide (-(2 ^ 63) ≤ j) && decide (j < 2 ^ 63) then some (.lst (List.flatten (List.replicate j.toNat xs)), true) else none
  | .fdiv, .int i, .int j => if 0 < j && decide (j < 1073741824) then some (.int (i / j), false) else none
  | .mod, .int i, .int j => if 0 < j then some (.int (i % j), false) else none
  | .pow, .int i, .int j => if 0 ≤ j && decide (j ≤ 1000) && decide (i.natAbs < 2 ^ 64) then some (.int (i ^ j.toNat), false) else none
  | .eq, a, b => (eqD a b).map fun k => (.bl k, false)
  | .ne, a, b => (eqD a b).map fun k => (.bl (!k), false)
  | .lt, .int i, .int j => some (.bl (decide (i < j)), false)
  | .lt, .str x, .str y => some (.bl (decide (x.cps.toList < y.cps.toList)), false)
  | .le, .int i, .int j => some (.bl (decide (i ≤ j)), false)
  | .gt, .int i, .int j => some (.bl (decide (j < i)), false)
  | .ge, .int i, .int j => some (.bl (decide (j ≤ i)), false)
  | .isin, d, .lst xs => (hasD d xs).map fun k => (.bl k, false)
  | .isin, d, .tup xs => if d.flat && xs.all D.flat then (hasD d xs).map fun k => (.bl k, false) else none
  | .isin, d, .dk ks vs => d.key.map fun k => (.bl (dget ks vs k).isSome, false)
  | .notin, d, .lst xs => (hasD d xs).map fun k => (.bl (!k), false)
  | .notin, d, .tup xs => if d.flat && xs.all D.flat then (hasD d xs).map fun k => (.bl (!k), false) else none
  | .notin, d, .dk ks vs => d.key.map fun k => (.bl (!(dget ks vs k).isSome), false)
  | .idx, .lst xs, .int i => (atD xs i).map fun d => (d, false)
  | .idx, .tup xs, .int i => (atD xs i).map fun d => (d, false)
  | .idx, .str x, .int i => if x.length ≤ most then (L2.atI x.cps.toList i).map fun c => (.str ⟨#[c]⟩, false) else none
  | .idx, .kd ks vs, .str q => (kget ks vs q).map fun v => (v, false)
  | .isin, .str q, .kd ks _ => some (.bl (ks.any fun k => decide (k = q)), false)
  | .idx, .dk ks vs, d => d.key.bind fun k => (dget ks vs k).map fun v => (v, false)
  | .sl true false, .str x, .int i => if x.length ≤ most then some (.str (L2.cutS x (some i) none), false) else none
  | .sl false true, .str x, .int i => if x.length ≤ most then some (.str (L2.cutS x none (some i)), false) else none
  | .sl true false, .lst xs, .int i => some (.lst (cutD xs (some i) none), true)
  | .sl false true, .rl xs, .int i => some (.lst (cutD xs none (some i)), true)
  | .sl false true, .lst xs, .int i => some (.lst (cutD xs none (some i)), true)
  | _, _, _ => none
def op3 : Op → D → D → D → Option (D × Bool)
  | .sl true true, .rl xs, .int i, .int j => some (.lst (cutD xs (some i) (some j)), true)
  | .sl true true, .lst xs, .int i, .int j => some (.lst (cutD xs (some i) (some j)), true)
  | _, _, _, _ => none
/-- how often a member is there -/
def bmCount (xs : List D) (d : D) : Option D := match d.py, D.pys xs with
  | some p, some ps => if SeqAt.shaped p && SeqAt.shaped (.list ps) then some (.int ((ps.countP fun z => PyData.eqv z p : Nat) : Int)) else none
  | _, _ => none
/-- what a built-in method is asked of -/
def bmTy : Bm → D → Bool
  | .index, .lst _ => true
  | .count, .lst _ => true
  | .get, .dk _ _ => true
  | .scn, .str _ => true
  | .get, .kd _ _ => true
  | _, _ => false
def bmIndex (xs : List D) (d : D) : Option D := match d.py, D.pys xs with
  | some p, some ps => if SeqAt.shaped p && SeqAt.shaped (.list ps) then (findD p ps 0).map fun k => .int (k : Nat) else none
  | _, _ => none
def bmGet1 : D → D → Option D
  | .dk ks vs, k => k.key.map fun q => (dget ks vs q).getD .non
  | .kd ks vs, .str q => some ((kget ks vs q).getD .non)
  | _, _ => none
def bmGet2 : D → D → D → Option D
  | .dk ks vs, k, d => k.key.map fun q => (dget ks vs q).getD d
  | .kd ks vs, .str q, d => some ((kget ks vs q).getD d)
  | _, _, _ => none
def bmI : D → List D → Option D
  | .lst xs, [d] => bmIndex xs d
  | _, _ => none
def bmC : D → List D → Option D
  | .lst xs, [d] => bmCount xs d
  | _, _ => none
def bmG : D → List D → Option D
  | c, [k] => bmGet1 c k
  | c, [k, d] => bmGet2 c k d
  | _, _ => none
def bmS : D → List D → Option D
  | .str x, [.str y] => some (.int (Txt.count x y))
  | _, _ => none
def bmOp : Bm → D → List D → Option D
  | .scn => bmS
  | .index => bmI
  | .get => bmG
  | .count => bmC
def tru : D → Option Bool
  | .non => some false
  | .bl b => some b
  | .int i => some (i != 0)
  | .str x => if x.length ≤ most then some ((x.length : Int) != 0) else none
  | .lst xs => some (!xs.isEmpty)
  | .tup xs => some (!xs.isEmpty)
  | _ => none

/-! ### what is handed to an operation or a call: a value, or the object that a name owns -/
inductive Ad where
  | vl (d : D)
  | pk (i : Nat)
def rs (ρ : Rho) : Ad → Option D
  | .vl d => some d
  | .pk i => match ρ[i]? with
    | some (.ow _ d) => some d
    | _ => none
def arg (ρ : Rho) : Ad → Option Sl
  | .vl d => some (.sh false d)
  | .pk i => match ρ[i]? with
    | some (.ow _ d) => some (.ow true d)
    | _ => none
def argsOf (ρ : Rho) : List Ad → Option (List Sl)
  | [] => some []
  | a :: as => (arg ρ a).bind fun x => (argsOf ρ as).map fun xs => x :: xs
def lent : List Ad → List Nat
  | [] => []
  | .vl _ :: as => lent as
  | .pk i :: as => i :: lent as
def distinct : List Nat → Bool
  | [] => true
  | i :: is => !is.contains i && distinct is
/-- behind a call: what was lent comes back -/
def back : Rho → List Ad → List Sl → Option Rho
  | ρ, [], _ => some ρ
  | ρ, .vl _ :: as, _ :: os => back ρ as os
  | ρ, .pk i :: as, o :: os => match ρ[i]?, o with
    | some (.ow p _), .ow true d => back (ρ.set i (.ow p d)) as os
    | some (.ow p _), .sh true d => back (ρ.set i (.sh p d)) as os
    | _, _ => none
  | _, _ :: _, [] => none
/-- a name is stored: what keeps its object can't be -/
def put (ρ : Rho) (i : Nat) (s : Sl) : Option Rho := match ρ[i]? with
  | some t => if t.pin then none else some (ρ.set i s)
  | none => none
/-- x[k] = d -/
def setAt (ρ : Rho) (x : Nat) (k d : D) : Option Rho := match ρ[x]?, k with
  | some (.ow p (.lst xs)), .int n => (L2.ixN xs.length n).map fun j => ρ.set x (.ow p (.lst (xs.set j d)))
  | some (.ow p (.dk ks vs)), k => if ks.length < most then k.key.map fun q => ρ.set x (.ow p (.dk (dput ks vs q d).1 (dput ks vs q d).2)) else none
  | _, _ => none
def Tg1.bind (ρ : Rho) (d : D) (f : Bool) : Tg1 → Option Rho
  | .nm i => put ρ i (if f then .ow false d else .sh false d)
  | .ix x k => setAt ρ x k d
def puts : Rho → List Tg1 → List (D × Bool) → Option Rho
  | ρ, [], [] => some ρ
  | ρ, t :: ts, (d, f) :: ds => (t.bind ρ d f).bind fun ρ' => puts ρ' ts ds
  | _, _, _ => none
def Tg.bind (ρ : Rho) (d : D) (f : Bool) : Tg → Option Rho
  | .one t => t.bind ρ d f
  | .tp ts => match d with
    | .tup ds => puts ρ ts (ds.map fun x => (x, false))
    | .lst ds => puts ρ ts (ds.map fun x => (x, false))
    | _ => none
def Tg1.own : Tg1 → List Nat
  | .nm i => [i]
  | .ix _ _ => []
def Tg.own : Tg → List Nat
  | .one t => t.own
  | .tp ts => (ts.map Tg1.own).flatten
def wipeR : Rho → List Nat → Rho
  | ρ, [] => ρ
  | ρ, i :: is => (wipeR ρ is).set i .un
/-- a comprehension's own names stand behind it as ahead of it -/
def unwipe (ρ0 ρ : Rho) : List Nat → Rho
  | [] => ρ
  | i :: is => (unwipe ρ0 ρ is).set i (ρ0.getD i .un)
/-- none of these names holds what is its own or lent -/
def loose (ρ : Rho) (is : List Nat) : Bool := is.all fun i => match ρ[i]? with
  | some (.sh false _) => true
  | some .un => true
  | _ => false
abbrev Call := Nat → List Sl → Option (D × Bool × List Sl)
def rngD (lo hi : Int) : List D := (List.range (hi - lo).toNat).map fun k => D.int (lo + (k : Nat))
/-- a comprehension's turns -/
def lcLoop (f : Rho → D → Option (Option D × Rho)) : Rho → List D → Option (List D × Rho)
  | ρ, [] => some ([], ρ)
  | ρ, x :: xs => (f ρ x).bind fun (y, ρ1) => (lcLoop f ρ1 xs).map fun (ys, ρ2) => ((match y with | some d => d :: ys | none => ys), ρ2)
def mth (P : Pr) (c : Nat) (m : Str) : Option Nat := (P.cls[c]?).bind fun k => k.ms.lookup m
/-- an operand: a name that owns its object hands it out unchanged -/
def opn (ρ : Rho) (e : E) (r : Option (D × Bool × Rho)) : Option (Ad × Rho) := match e with
  | .var i => match ρ[i]? with
    | some (.sh _ d) => some (.vl d, ρ)
    | some (.ow _ _) => some (.pk i, ρ)
    | _ => none
  | _ => r.map fun (d, _, ρ') => (.vl d, ρ')
def isIns : D → Option Nat
  | .ins c _ _ => some c
  | _ => none
/-- isinstance's first argument: its class is one of the program's -/
def okI (P : Pr) : D → Bool
  | .ins c _ _ => (P.cls[c]?).isSome
  | _ => true
/-- both of one class -/
def both (d e : D) (m : Str) : Option (Nat × Str × Bool) := match isIns d, isIns e with
  | some c, some c' => if c = c' then some (c, m, false) else none
  | _, _ => none
/-- an operator that an own class says: the class, the method, whether the other operand is asked -/
def spc2 : Op → D → D → Option (Nat × Str × Bool)
  | .bor, d, e => both d e "__or__"
  | .band, d, e => both d e "__and__"
  | .sub, d, e => both d e "__sub__"
  | .eq, d, e => both d e "__eq__"
  | .ne, d, e => both d e "__eq__"
  | .isin, _, e => (isIns e).map fun c => (c, "__contains__", true)
  | .notin, _, e => (isIns e).map fun c => (c, "__contains__", true)
  | .idx, d, _ => (isIns d).map fun c => (c, "__getitem__", false)
  | _, _, _ => none
def spc1 : Op → D → Option (Nat × Str)
  | .inv, d => (isIns d).map fun c => (c, "__invert__")
  | .len, d => (isIns d).map fun c => (c, "__len__")
  | _, _ => none
/-- what an operator makes of the method's answer -/
def post : Op → D → Option D
  | .bor, r => some r
  | .band, r => some r
  | .sub, r => some r
  | .idx, r => some r
  | .inv, r => some r
  | .eq, .bl t => some (.bl t)
  | .ne, .bl t => some (.bl (!t))
  | .isin, .bl t => some (.bl t)
  | .notin, .bl t => some (.bl (!t))
  | .len, .int n => if 0 ≤ n ∧ n < 1000000000 then some (.int n) else none
  | _, _ => none
/-- what an own object is walked by: the tuple in a field of it -/
def itD (P : Pr) (c : Nat) (ns : List Str) (vs : List D) : Option D := ((P.cls[c]?).bind Cls.itf).bind fun n => fget ns vs n
/-- a method of an own class is called -/
def ownGo (P : Pr) (cf : Call) (c : Nat) (m : Str) (ρ : Rho) (as : List Ad) : Option (D × Bool × Rho) :=
  (mth P c m).bind fun f => (argsOf ρ as).bind fun sl => if distinct (lent as) then (cf f sl).bind fun (d, fr, os) => (back ρ as os).map fun ρ' => (d, fr, ρ') else none
def ownEnd (o : Op) (r : Option (D × Bool × Rho)) : Option (D × Bool × Rho) := r.bind fun (d, fr, ρ) => (post o d).map fun d' => (d', fr, ρ)
def swp (b : Bool) (x y : Ad) : List Ad := if b then [y, x] else [x, y]
/-- all that is owned is shared -/
def shR (ρ : Rho) : Rho := ρ.map fun s => match s with
  | .ow p d => .sh p d
  | s => s
/-- a comprehension of two fors: the outer turns -/
def lc2Loop (f : Rho → D → Option (List D × Rho)) : Rho → List D → Option (List D × Rho)
  | ρ, [] => some ([], ρ)
  | ρ, x :: xs => (f ρ x).bind fun (y, ρ1) => (lc2Loop f ρ1 xs).map fun (ys, ρ2) => (y ++ ys, ρ2)
/-- a dict that nothing else may change while it is walked -/
def still (ρ : Rho) (e : E) (fr : Bool) : Bool := fr || match e with
  | .var i => match ρ[i]? with
    | some (.ow _ _) => true
    | _ => false
  | _ => false
mutual
def ev (P : Pr) (cf : Call) : Rho → E → Option (D × Bool × Rho)
  | ρ, .var i => match ρ[i]? with
    | some (.sh _ d) => some (d, false, ρ)
    | some (.ow p d) => some (d, false, ρ.set i (.sh p d))
    | _ => none
  | ρ, .cst d => if d.flat then some (d, false, ρ) else none
  | ρ, .glb g => (P.gls[g]?).map fun x => (x.2, false, ρ)
  | ρ, .ap1 op a => (opn ρ a (ev P cf ρ a)).bind fun (x, ρ1) => (rs ρ1 x).bind fun d => match spc1 op d with
    | some (c, m) => ownEnd op (ownGo P cf c m ρ1 [x])
    | none => (op1 op d).map fun (r, f) => (r, f, ρ1)
  | ρ, .ap2 op a b => (opn ρ a (ev P cf ρ a)).bind fun (x, ρ1) => (opn ρ1 b (ev P cf ρ1 b)).bind fun (y, ρ2) => (rs ρ2 x).bind fun d => (rs ρ2 y).bind fun e => match spc2 op d e with
    | some (c, m, sw) => ownEnd op (ownGo P cf c m ρ2 (swp sw x y))
    | none => (op2 op d e).map fun (r, f) => (r, f, ρ2)
  | ρ, .ap3 op a b c => (opn ρ a (ev P cf ρ a)).bind fun (x, ρ1) => (opn ρ1 b (ev P cf ρ1 b)).bind fun (y, ρ2) => (opn ρ2 c (ev P cf ρ2 c)).bind fun (z, ρ3) =>
    (rs ρ3 x).bind fun d => (rs ρ3 y).bind fun e => (rs ρ3 z).bind fun g => (op3 op d e g).map fun (r, f) => (r, f, ρ3)
  | ρ, .chn o1 o2 a b c => (ev P cf ρ a).bind fun (x, _, ρ1) => (ev P cf ρ1 b).bind fun (y, _, ρ2) => match op2 o1 x y with
    | some (.bl true, _) => (ev P cf ρ2 c).bind fun (z, _, ρ3) => (op2 o2 y z).map fun (r, f) => (r, f, ρ3)
    | some (.bl false, _) => some (.bl false, false, ρ2)
    | _ => none
  | ρ, .tup es => (evs P cf ρ es).bind fun (ds, ρ1) => if ds.length ≤ most then some (.tup ds, false, ρ1) else none
  | ρ, .lst es => (evs P cf ρ es).bind fun (ds, ρ1) => if ds.length ≤ most then some (.lst ds, true, ρ1) else none
  | ρ, .dsp ks es => (evs P cf ρ es).bind fun (ds, ρ1) => if ks.length = ds.length ∧ ks.length ≤ 15 ∧ ks.Nodup then some (.dk (ks.map Sum.inr) ds, true, ρ1) else none
  | ρ, .tmp a => (ev P cf (shR ρ) a).bind fun (d, _, _) => if d.flat then some (d, false, ρ) else none
  | ρ, .pick es k => (evf P cf ρ es).bind fun (ds, ρ1) => if ds.length ≤ most then (ev P cf ρ1 k).bind fun (i, _, ρ2) => match i with
      | .int n => (L2.atI ds n).map fun r => (r.1, r.2, ρ2)
      | _ => none
    else none
  | ρ, .ite c a b => (evT P cf ρ c).bind fun (t, ρ1) => if t then ev P cf ρ1 a else ev P cf ρ1 b
  | ρ, .and es => (evAnd P cf ρ es).map fun (t, ρ1) => (.bl t, false, ρ1)
  | ρ, .or es => (evOr P cf ρ es).map fun (t, ρ1) => (.bl t, false, ρ1)
  | ρ, .not a => (ev P cf ρ a).bind fun (d, _, ρ1) => match d with
    | .bl t => some (.bl (!t), false, ρ1)
    | _ => none
  | ρ, .call f es => (evos P cf ρ es).bind fun (as, ρ1) => (argsOf ρ1 as).bind fun sl => if distinct (lent as) then (cf f sl).bind fun (d, fr, os) => (back ρ1 as os).map fun ρ2 => (d, fr, ρ2) else none
  | ρ, .new c es => (P.cls[c]?).bind fun k => (evos P cf ρ es).bind fun (as, ρ1) => (argsOf ρ1 as).bind fun sl => if distinct (lent as) then
      match cf k.init (.ow true (.ins c [] []) :: sl) with
      | some (.non, _, .ow true d :: os) => (back ρ1 as os).map fun ρ2 => (d, true, ρ2)
      | some (.non, _, .sh true d :: os) => (back ρ1 as os).map fun ρ2 => (d, false, ρ2)
      | _ => none
    else none
  | ρ, .meth m o es => (opn ρ o (ev P cf ρ o)).bind fun (a, ρ1) => (evos P cf ρ1 es).bind fun (as, ρ2) => (rs ρ1 a).bind fun od => match od with
    | .ins c ns _ => if ns.contains m then none else (mth P c m).bind fun f => (argsOf ρ2 (a :: as)).bind fun sl => if distinct (lent (a :: as)) then (cf f sl).bind fun (d, fr, os) => (back ρ2 (a :: as) os).map fun ρ3 => (d, fr, ρ3) else none
    | _ => none
  | ρ, .mut m x es => match ρ[x]? with
   | some (.ow _ (.lst _)) => (evs P cf ρ es).bind fun (ds, ρ1) => match m, ρ1[x]?, ds with
    | .app, some (.ow p (.lst xs)), [d] => if xs.length < most then some (.non, false, ρ1.set x (.ow p (.lst (xs ++ [d])))) else none
    | .ins, some (.ow p (.lst xs)), [.int i, d] => if xs.length < most ∧ 0 ≤ i ∧ i ≤ xs.length then some (.non, false, ρ1.set x (.ow p (.lst (xs.take i.toNat ++ d :: xs.drop i.toNat)))) else none
    | .ext, some (.ow p (.lst xs)), [.lst ys] => if xs.length + ys.length < most then some (.non, false, ρ1.set x (.ow p (.lst (xs ++ ys)))) else none
    | .pop, some (.ow p (.lst xs)), [] => match xs.getLast? with
      | some d => some (d, false, ρ1.set x (.ow p (.lst xs.dropLast)))
      | none => none
    | _, _, _ => none
   | _ => none
  | ρ, .bm m o es => (opn ρ o (ev P cf ρ o)).bind fun (x, ρ1) => (rs ρ1 x).bind fun d0 => if bmTy m d0 then (evs P cf ρ1 es).bind fun (ds, ρ2) => (rs ρ2 x).bind fun d => (bmOp m d ds).map fun r => (r, false, ρ2)
    else none
  | ρ, .lc elt tg it cd => (evI P cf ρ it).bind fun (xs, ρ1) => if loose ρ1 tg.own && decide (xs.length ≤ most) then
      (lcLoop (fun ρ' x => (tg.bind (wipeR ρ' tg.own) x false).bind fun ρ2 => (evAll P cf ρ2 cd).bind fun (t, ρ3) => if t then (ev P cf ρ3 elt).map fun (d, _, ρ4) => (some d, wipeR ρ4 tg.own) else some (none, wipeR ρ3 tg.own)) (wipeR ρ1 tg.own) xs).map fun (ds, ρ5) =>
        (.lst ds, true, unwipe ρ1 ρ5 tg.own)
    else none
  | ρ, .lcw elt tg i cd => match ρ[i]? with
    | some (.ow p (.lst xs)) => if loose (ρ.set i .un) tg.own && decide (xs.length ≤ most) then
      (lcLoop (fun ρ' x => (tg.bind (wipeR ρ' tg.own) x false).bind fun ρ2 => (evAll P cf ρ2 cd).bind fun (t, ρ3) => if t then (ev P cf ρ3 elt).map fun (d, _, ρ4) => (some d, wipeR ρ4 tg.own) else some (none, wipeR ρ3 tg.own)) (wipeR (ρ.set i .un) tg.own) xs).bind fun (ds, ρ5) =>
        match (unwipe (ρ.set i .un) ρ5 tg.own)[i]? with
        | some .un => some (.lst ds, true, (unwipe (ρ.set i .un) ρ5 tg.own).set i (.ow p (.lst xs)))
        | _ => none
      else none
    | some (.sh _ (.lst xs)) => if loose ρ tg.own && decide (xs.length ≤ most) then
      (lcLoop (fun ρ' x => (tg.bind (wipeR ρ' tg.own) x false).bind fun ρ2 => (evAll P cf ρ2 cd).bind fun (t, ρ3) => if t then (ev P cf ρ3 elt).map fun (d, _, ρ4) => (some d, wipeR ρ4 tg.own) else some (none, wipeR ρ3 tg.own)) (wipeR ρ tg.own) xs).map fun (ds, ρ5) =>
        (.lst ds, true, unwipe ρ ρ5 tg.own)
      else none
    | some (.sh _ (.tup xs)) => if loose ρ tg.own && decide (xs.length ≤ most) then
      (lcLoop (fun ρ' x => (tg.bind (wipeR ρ' tg.own) x false).bind fun ρ2 => (evAll P cf ρ2 cd).bind fun (t, ρ3) => if t then (ev P cf ρ3 elt).map fun (d, _, ρ4) => (some d, wipeR ρ4 tg.own) else some (none, wipeR ρ3 tg.own)) (wipeR ρ tg.own) xs).map fun (ds, ρ5) =>
        (.lst ds, true, unwipe ρ ρ5 tg.own)
      else none
    | _ => none
  | ρ, .lc2 elt tg it cd tg1 it1 cd1 => (evI P cf ρ it).bind fun (xs, ρ1) => if loose ρ1 (tg.own ++ tg1.own) && decide (xs.length ≤ most) then
      (lc2Loop (fun ρ' x => (tg.bind (wipeR ρ' (tg.own ++ tg1.own)) x false).bind fun ρ2 => (evAll P cf ρ2 cd).bind fun (t, ρ3) => if t then
          (evI P cf ρ3 it1).bind fun (ys, ρ4) => if decide (ys.length ≤ most) then
            (lcLoop (fun ρ'' y => (tg1.bind (wipeR ρ'' tg1.own) y false).bind fun ρ5 => (evAll P cf ρ5 cd1).bind fun (t, ρ6) => if t then (ev P cf ρ6 elt).map fun (d, _, ρ7) => (some d, wipeR ρ7 tg1.own) else some (none, wipeR ρ6 tg1.own)) (wipeR ρ4 tg1.own) ys).map fun (ds, ρ8) => (ds, wipeR ρ8 (tg.own ++ tg1.own))
          else none
        else some ([], wipeR ρ3 (tg.own ++ tg1.own))) (wipeR ρ1 (tg.own ++ tg1.own)) xs).bind fun (ds, ρ5) =>
        if ds.length ≤ most then some (.lst ds, true, unwipe ρ1 ρ5 (tg.own ++ tg1.own)) else none
    else none
  | ρ, .lrg it => match it with
    | .rng1 a => (evI P cf ρ (.rng1 a)).map fun (xs, ρ1) => (.lst xs, true, ρ1)
    | .rng2 a b => (evI P cf ρ (.rng2 a b)).map fun (xs, ρ1) => (.lst xs, true, ρ1)
    | _ => none
  | ρ, .att n e => (opn ρ e (ev P cf ρ e)).bind fun (x, ρ1) => (rs ρ1 x).bind fun d => match d with
    | .ins c ns vs => if (P.cls[c]?).any fun k => k.fs.contains n then (fget ns vs n).map fun r => (r, false, ρ1) else none
    | _ => none
  | _, .nev => none
  | ρ, .isi ts e => (opn ρ e (ev P cf ρ e)).bind fun (x, ρ1) => (rs ρ1 x).bind fun d => if okI P d then some (.bl (ts.any fun t => d.isi t), false, ρ1) else none
/-- and, or of truths -/
def evAnd (P : Pr) (cf : Call) : Rho → Es → Option (Bool × Rho)
  | ρ, .nil => some (true, ρ)
  | ρ, .cons e es => (ev P cf ρ e).bind fun (d, _, ρ1) => match d with
    | .bl true => evAnd P cf ρ1 es
    | .bl false => some (false, ρ1)
    | _ => none
def evOr (P : Pr) (cf : Call) : Rho → Es → Option (Bool × Rho)
  | ρ, .nil => some (false, ρ)
  | ρ, .cons e es => (ev P cf ρ e).bind fun (d, _, ρ1) => match d with
    | .bl true => some (true, ρ1)
    | .bl false => evOr P cf ρ1 es
    | _ => none
/-- members that keep what is new -/
def evf (P : Pr) (cf : Call) : Rho → Es → Option (List (D × Bool) × Rho)
  | ρ, .nil => some ([], ρ)
  | ρ, .cons e es => (ev P cf ρ e).bind fun (d, f, ρ1) => (evf P cf ρ1 es).map fun (ds, ρ2) => ((d, f) :: ds, ρ2)
/-- members of a display: each a value -/
def evs (P : Pr) (cf : Call) : Rho → Es → Option (List D × Rho)
  | ρ, .nil => some ([], ρ)
  | ρ, .cons e es => (ev P cf ρ e).bind fun (d, _, ρ1) => (evs P cf ρ1 es).map fun (ds, ρ2) => (d :: ds, ρ2)
def evos (P : Pr) (cf : Call) : Rho → Es → Option (List Ad × Rho)
  | ρ, .nil => some ([], ρ)
  | ρ, .cons e es => (opn ρ e (ev P cf ρ e)).bind fun (a, ρ1) => (evos P cf ρ1 es).map fun (as, ρ2) => (a :: as, ρ2)
def evT (P : Pr) (cf : Call) : Rho → T → Option (Bool × Rho)
  | ρ, .val e => (opn ρ e (ev P cf ρ e)).bind fun (a, ρ1) => (rs ρ1 a).bind fun d => (tru d).map fun t => (t, ρ1)
  | ρ, .cmp op a b => (opn ρ a (ev P cf ρ a)).bind fun (x, ρ1) => (opn ρ1 b (ev P cf ρ1 b)).bind fun (y, ρ2) => (rs ρ2 x).bind fun d => (rs ρ2 y).bind fun e => match spc2 op d e with
    | some (c, m, sw) => (match ownEnd op (ownGo P cf c m ρ2 (swp sw x y)) with
      | some (.bl t, _, ρ3) => some (t, ρ3)
      | _ => none)
    | none => (match op2 op d e with
      | some (.bl t, _) => some (t, ρ2)
      | _ => none)
  | ρ, .chn o1 o2 a b c => (ev P cf ρ a).bind fun (x, _, ρ1) => (ev P cf ρ1 b).bind fun (y, _, ρ2) => match op2 o1 x y with
    | some (.bl true, _) => (ev P cf ρ2 c).bind fun (z, _, ρ3) => match op2 o2 y z with
      | some (.bl t, _) => some (t, ρ3)
      | _ => none
    | some (.bl false, _) => some (false, ρ2)
    | _ => none
  | ρ, .all ts => evAll P cf ρ ts
  | ρ, .any ts => evAny P cf ρ ts
  | ρ, .not t => (evT P cf ρ t).map fun (b, ρ1) => (!b, ρ1)
def evAll (P : Pr) (cf : Call) : Rho → Ts → Option (Bool × Rho)
  | ρ, .nil => some (true, ρ)
  | ρ, .cons t ts => (evT P cf ρ t).bind fun (b, ρ1) => if b then evAll P cf ρ1 ts else some (false, ρ1)
def evAny (P : Pr) (cf : Call) : Rho → Ts → Option (Bool × Rho)
  | ρ, .nil => some (false, ρ)
  | ρ, .cons t ts => (evT P cf ρ t).bind fun (b, ρ1) => if b then some (true, ρ1) else evAny P cf ρ1 ts
/-- what is walked: its members -/
def evI (P : Pr) (cf : Call) : Rho → I → Option (List D × Rho)
  | ρ, .seq e => (ev P cf ρ e).bind fun (d, fr, ρ1) => match d with
    | .lst xs => some (xs, ρ1)
    | .tup xs => some (xs, ρ1)
    | .dk ks _ => if still ρ e fr then some (ks.map keyD, ρ1) else none
    | .kd ks _ => some (ks.map D.str, ρ1)
    | .str x => some (signsD x, ρ1)
    | .ins c ns ds => match itD P c ns ds with
      | some (.tup xs) => some (xs, ρ1)
      | _ => none
    | _ => none
  | ρ, .vals e => (ev P cf ρ e).bind fun (d, fr, ρ1) => match d with
    | .dk _ vs => if still ρ e fr then some (vs, ρ1) else none
    | _ => none
  | ρ, .items e => (ev P cf ρ e).bind fun (d, fr, ρ1) => match d with
    | .dk ks vs => if still ρ e fr then some ((ks.zip vs).map fun x => .tup [keyD x.1, x.2], ρ1) else none
    | _ => none
  | ρ, .rng1 a => (ev P cf ρ a).bind fun (d, _, ρ1) => match d with
    | .int n => if decide (-(most : Int) ≤ n) && decide (n ≤ most) then some (rngD 0 n, ρ1) else none
    | _ => none
  | ρ, .rng2 a b => (ev P cf ρ a).bind fun (d, _, ρ1) => (ev P cf ρ1 b).bind fun (e, _, ρ2) => match d, e with
    | .int m, .int n => if decide (-(most : Int) ≤ m) && decide (m ≤ most) && decide (n ≤ most) && decide (-(most : Int) ≤ n) then some (rngD m n, ρ2) else none
    | _, _ => none
end

/-! ### statements -/
inductive Out where
  | nx (ρ : Rho)
  | rt (d : D) (f : Bool) (ρ : Rho)
  | bk (ρ : Rho)
  | ct (ρ : Rho)
def forLoop (f : Rho → D → Option Out) : Rho → List D → Option Out
  | ρ, [] => some (.nx ρ)
  | ρ, x :: xs => (f ρ x).bind fun o => match o with
    | .nx ρ1 => forLoop f ρ1 xs
    | .ct ρ1 => forLoop f ρ1 xs
    | .bk ρ1 => some (.nx ρ1)
    | .rt d b ρ1 => some (.rt d b ρ1)
def whlLoop (c : Rho → Option (Bool × Rho)) (f : Rho → Option Out) : Nat → Rho → Option Out
  | 0, _ => none
  | n + 1, ρ => (c ρ).bind fun (t, ρ1) => if t then (f ρ1).bind fun o => match o with
      | .nx ρ2 => whlLoop c f n ρ2
      | .ct ρ2 => whlLoop c f n ρ2
      | .bk ρ2 => some (.nx ρ2)
      | .rt d b ρ2 => some (.rt d b ρ2)
    else some (.nx ρ1)
/-- numbered from 0 -/
def enumD (xs : List D) : List D := xs.mapIdx fun i d => .tup [.int (i : Nat), d]
theorem enumD_len {xs : List D} : (enumD xs).length = xs.length := by simp [enumD]
theorem enumD_get {xs : List D} {i : Nat} : (enumD xs)[i]? = xs[i]?.map fun d => .tup [.int (i : Nat), d] := by simp [enumD]
/-- the walk of a list that name i owns, and keeps: by its index -/
def fwLoop (f : Rho → D → Option Out) (i : Nat) : Nat → Nat → Rho → Option Out
  | 0, _, _ => none
  | n + 1, k, ρ => match ρ[i]? with
    | some (.ow true (.lst ys)) => match ys[k]? with
      | none => some (.nx ρ)
      | some x => (f ρ x).bind fun o => match o with
        | .nx ρ1 => fwLoop f i n (k + 1) ρ1
        | .ct ρ1 => fwLoop f i n (k + 1) ρ1
        | .bk ρ1 => some (.nx ρ1)
        | .rt d b ρ1 => some (.rt d b ρ1)
    | _ => none
/-- its mark as it was -/
def unmR (p : Bool) (i : Nat) (ρ : Rho) : Option Rho := match ρ[i]? with
  | some (.ow true d) => some (ρ.set i (.ow p d))
  | _ => none
def unmO (p : Bool) (i : Nat) : Out → Option Out
  | .nx ρ => (unmR p i ρ).map fun ρ1 => .nx ρ1
  | .rt d f ρ => (unmR p i ρ).map fun ρ1 => .rt d f ρ1
  | _ => none
def Out.mapR (g : Rho → Rho) : Out → Out
  | .nx ρ => .nx (g ρ)
  | .rt d f ρ => .rt d f ρ
  | .bk ρ => .bk (g ρ)
  | .ct ρ => .ct (g ρ)
/-- what is returned: a name's own object goes out as new -/
def retE (ρ : Rho) (e : E) (r : Option (D × Bool × Rho)) : Option (D × Bool × Rho) := match e with
  | .var i => match ρ[i]? with
    | some (.ow false d) => some (d, true, ρ.set i .un)
    | _ => r
  | _ => r
def augD (op : Op) : D → D → Option D
  | .int i, .int j => match op with
    | .add => some (.int (i + j))
    | .sub => some (.int (i - j))
    | _ => none
  | _, _ => none
mutual
def ex (P : Pr) (cf : Call) : Rho → S → Option Out
  | ρ, .asg tg e => (ev P cf ρ e).bind fun (d, fr, ρ1) => (tg.bind ρ1 d fr).map Out.nx
  | ρ, .par ts es => (evf P cf ρ es).bind fun (ds, ρ1) => if ds.length ≤ most then (puts ρ1 ts ds).map Out.nx else none
  | ρ, .set x i e => (ev P cf ρ e).bind fun (d, _, ρ1) => match ρ1[x]? with
    | some (.ow _ _) => (ev P cf ρ1 i).bind fun (k, _, ρ2) => (setAt ρ2 x k d).map Out.nx
    | _ => none
  | ρ, .aug x op e => (ev P cf ρ e).bind fun (d, _, ρ1) => match ρ[x]? with
    | some (.sh false b) => (augD op b d).bind fun r => (put ρ1 x (.sh false r)).map Out.nx
    | _ => none
  | ρ, .augi x i op e => match ρ[x]? with
   | some (.ow _ _) => (ev P cf ρ i).bind fun (k, _, ρ1) => match ρ1[x]?, k with
    | some (.ow _ (.lst xs)), .int n => (atD xs n).bind fun b => (ev P cf ρ1 e).bind fun (d, _, ρ2) => (augD op b d).bind fun r => match ρ2[x]? with
      | some (.ow p (.lst ys)) => (L2.ixN ys.length n).map fun j => .nx (ρ2.set x (.ow p (.lst (ys.set j r))))
      | _ => none
    | _, _ => none
   | _ => none
  | ρ, .setf x n e => (ev P cf ρ e).bind fun (d, _, ρ1) => match ρ1[x]? with
    | some (.ow p (.ins c ns vs)) => if ns.length < 100 ∧ ((P.cls[c]?).any fun k => k.fs.contains n) = true then some (.nx (ρ1.set x (.ow p (.ins c (fput ns vs n d).1 (fput ns vs n d).2)))) else none
    | _ => none
  | ρ, .exp e => (ev P cf ρ e).map fun (_, _, ρ1) => .nx ρ1
  | ρ, .ret e => (retE ρ e (ev P cf ρ e)).map fun (d, f, ρ1) => .rt d f ρ1
  | ρ, .reti c a b => (evT P cf ρ c).bind fun (t, ρ1) => if t then (retE ρ1 a (ev P cf ρ1 a)).map fun (d, f, ρ2) => .rt d f ρ2 else (retE ρ1 b (ev P cf ρ1 b)).map fun (d, f, ρ2) => .rt d f ρ2
  | ρ, .iff c a b => (evT P cf ρ c).bind fun (t, ρ1) => if t then exs P cf ρ1 a else exs P cf ρ1 b
  | ρ, .for_ tg it b => (evI P cf ρ it).bind fun (xs, ρ1) => forLoop (fun ρ' x => (tg.bind ρ' x false).bind fun ρ2 => exs P cf ρ2 b) ρ1 xs
  | ρ, .whl c b => whlLoop (fun ρ' => evT P cf ρ' c) (fun ρ' => exs P cf ρ' b) most ρ
  | ρ, .fore tg e b => (ev P cf ρ e).bind fun (d, _, ρ1) => match d with
    | .lst xs => forLoop (fun ρ' x => (tg.bind ρ' x false).bind fun ρ2 => exs P cf ρ2 b) ρ1 (enumD xs)
    | .str z => forLoop (fun ρ' x => (tg.bind ρ' x false).bind fun ρ2 => exs P cf ρ2 b) ρ1 (enumD (signsD z))
    | _ => none
  | ρ, .forw tg i b => match ρ[i]? with
    | some (.ow p (.lst xs)) => (fwLoop (fun ρ' x => (tg.bind ρ' x false).bind fun ρ2 => exs P cf ρ2 b) i most 0 (ρ.set i (.ow true (.lst xs)))).bind (unmO p i)
    | some (.sh _ (.lst xs)) => forLoop (fun ρ' x => (tg.bind ρ' x false).bind fun ρ2 => exs P cf ρ2 b) ρ xs
    | some (.sh _ (.tup xs)) => forLoop (fun ρ' x => (tg.bind ρ' x false).bind fun ρ2 => exs P cf ρ2 b) ρ xs
    | _ => none
  | ρ, .brk => some (.bk ρ)
  | ρ, .cnt => some (.ct ρ)
  | ρ, .pss => some (.nx ρ)
  | _, .never => none
def exs (P : Pr) (cf : Call) : Rho → Ss → Option Out
  | ρ, .nil => some (.nx ρ)
  | ρ, .cons s ss => (ex P cf ρ s).bind fun o => match o with
    | .nx ρ1 => exs P cf ρ1 ss
    | .bk ρ1 => some (.bk ρ1)
    | .ct ρ1 => some (.ct ρ1)
    | .rt d f ρ1 => some (.rt d f ρ1)
end
/-- a def is called, so many calls deep -/
def callAt (P : Pr) : Nat → Call
  | 0, _, _ => none
  | n + 1, f, sl => (P.defs[f]?).bind fun d => if sl.length = d.np ∧ d.np ≤ d.nn ∧ sl.all Sl.fit = true then
      match exs P (callAt P n) (sl ++ List.replicate (d.nn - d.np) .un) d.body with
      | some (.rt r fr ρ) => some (r, fr, ρ.take d.np)
      | some (.nx ρ) => some (.non, false, ρ.take d.np)
      | _ => none
    else none
end BK

set_option Elab.async false
set_option linter.all false
set_option maxRecDepth 100000
set_option maxHeartbeats 2000000
/-! BK2: how the data lie in the heap; what a state of names is worth; steps. -/
namespace BK
open PySem PySem.Spec PyProof.Rows L2

/-- the written part, the world, the classes' places -/
structure Kw where
  K : PySem.W.Frag
  w : World
  cn : Nat → Addr

/-- a list, a tuple of the written part -/
def KL (K : PySem.W.Frag) (ty : String) (a : Addr) (xs : List V) : Prop :=
  ∃ (o : Obj) (its : Array Value) (n : Nat), K.lookup a = some o ∧ o.cls = .type ty ∧ o.dict = none ∧ o.data = .seq its n ∧ its.size ≤ sizeLine ∧ Vals xs its.toList

/-- a dict of the written part: its keys are texts -/
structure KDok (C : Kw) (a : Addr) (ks : List Str) (vs : List V) : Prop where
  ex : ∃ (es : Array DictEntry) (n : Nat), L2.KDict C.K C.w a es n ∧ ks.length = es.toList.length ∧ vs.length = es.toList.length ∧
    ∀ (i : Nat) e k v, es.toList[i]? = some e → ks[i]? = some k → vs[i]? = some v → e.key.isStr k = true ∧ L2.RelV v e.val
mutual
/-- the value v stands for d; every object that is read is outside of Z -/
inductive Den (C : Kw) (Z : Addr → Prop) (H : Hp) : V → D → Prop
  | non : Den C Z H .non .non
  | bl (b : Bool) : Den C Z H (.bl b) (.bl b)
  | int (i : Int) : Den C Z H (.int i) (.int i)
  | str (x : Str) : Den C Z H (.str x) (.str x)
  | lst {a : Addr} {vs : List V} {ds : List D} : ¬ Z a → H a = some (.lst vs) → DenAll C Z H vs ds → Den C Z H (.ref a) (.lst ds)
  | rl {a : Addr} {o : Obj} {vs : List V} {ds : List D} : ¬ Z a → H a = some (.frz o (.lst vs)) → DenAll C Z H vs ds → Den C Z H (.ref a) (.rl ds)
  | rlK {a : Addr} {vs : List V} {ds : List D} : KL C.K "list" a vs → DenAll C Z H vs ds → Den C Z H (.ref a) (.rl ds)
  | tup {a : Addr} {vs : List V} {ds : List D} : ¬ Z a → H a = some (.tup vs) → DenAll C Z H vs ds → Den C Z H (.ref a) (.tup ds)
  | tupK {a : Addr} {vs : List V} {ds : List D} : KL C.K "tuple" a vs → DenAll C Z H vs ds → Den C Z H (.ref a) (.tup ds)
  | dk {a : Addr} {ks : List Key} {vs : List V} {ds : List D} : ¬ Z a → Rd H a (.dK (ks.zip vs)) → ks.length = vs.length → DenAll C Z H vs ds → Den C Z H (.ref a) (.dk ks ds)
  | ins {a dx : Addr} {c : Nat} {ns : List Str} {vs : List V} {ds : List D} : ¬ Z a → H a = some (.ins (C.cn c) dx (ns.zip vs)) → ns.length = vs.length → DenAll C Z H vs ds → Den C Z H (.ref a) (.ins c ns ds)
  | kd {a : Addr} {ks : List Str} {vs : List V} {ds : List D} : KDok C a ks vs → DenAll C Z H vs ds → Den C Z H (.ref a) (.kd ks ds)
inductive DenAll (C : Kw) (Z : Addr → Prop) (H : Hp) : List V → List D → Prop
  | nil : DenAll C Z H [] []
  | cons {v : V} {vs : List V} {d : D} {ds : List D} : Den C Z H v d → DenAll C Z H vs ds → DenAll C Z H (v :: vs) (d :: ds)
end

mutual
theorem Den.mono {C : Kw} {Z Z' : Addr → Prop} {H H' : Hp} (k : ∀ a h, ¬ Z a → H a = some h → H' a = some h ∧ ¬ Z' a) : ∀ {d : D} {v : V}, Den C Z H v d → Den C Z' H' v d
  | _, _, .non => .non
  | _, _, .bl b => .bl b
  | _, _, .int i => .int i
  | _, _, .str x => .str x
  | _, _, .lst z r h => .lst (k _ _ z r).2 (k _ _ z r).1 (DenAll.mono k h)
  | _, _, .rl z r h => .rl (k _ _ z r).2 (k _ _ z r).1 (DenAll.mono k h)
  | _, _, .rlK r h => .rlK r (DenAll.mono k h)
  | _, _, .tup z r h => .tup (k _ _ z r).2 (k _ _ z r).1 (DenAll.mono k h)
  | _, _, .tupK r h => .tupK r (DenAll.mono k h)
  | _, _, .dk z r e h => by
    rcases r with r | ⟨o, r⟩
    · exact .dk (k _ _ z r).2 (.inl (k _ _ z r).1) e (DenAll.mono k h)
    · exact .dk (k _ _ z r).2 (.inr ⟨o, (k _ _ z r).1⟩) e (DenAll.mono k h)
  | _, _, .ins z r e h => .ins (k _ _ z r).2 (k _ _ z r).1 e (DenAll.mono k h)
  | _, _, .kd r h => .kd r (DenAll.mono k h)
theorem DenAll.mono {C : Kw} {Z Z' : Addr → Prop} {H H' : Hp} (k : ∀ a h, ¬ Z a → H a = some h → H' a = some h ∧ ¬ Z' a) : ∀ {ds : List D} {vs : List V}, DenAll C Z H vs ds → DenAll C Z' H' vs ds
  | _, _, .nil => .nil
  | _, _, .cons h t => .cons (Den.mono k h) (DenAll.mono k t)
end

/-- the object at a, which a name owns, holds d -/
def OwnAt (C : Kw) (Z : Addr → Prop) (H : Hp) (a : Addr) : D → Prop
  | .lst ds => ∃ vs, H a = some (.lst vs) ∧ DenAll C Z H vs ds
  | .dk ks ds => ∃ vs, H a = some (.dK (ks.zip vs)) ∧ ks.length = vs.length ∧ DenAll C Z H vs ds
  | .ins c ns ds => ∃ dx vs, H a = some (.ins (C.cn c) dx (ns.zip vs)) ∧ ns.length = vs.length ∧ DenAll C Z H vs ds
  | _ => False
theorem OwnAt.mono {C : Kw} {Z Z' : Addr → Prop} {H H' : Hp} {a : Addr} (k : ∀ a h, ¬ Z a → H a = some h → H' a = some h ∧ ¬ Z' a) (ka : H' a = H a) : ∀ {d : D}, OwnAt C Z H a d → OwnAt C Z' H' a d
  | .lst _, ⟨vs, e, h⟩ => ⟨vs, ka.trans e, h.mono k⟩
  | .dk _ _, ⟨vs, e, l, h⟩ => ⟨vs, ka.trans e, l, h.mono k⟩
  | .ins _ _ _, ⟨dx, vs, e, l, h⟩ => ⟨dx, vs, ka.trans e, l, h.mono k⟩
theorem OwnAt.some {C : Kw} {Z : Addr → Prop} {H : Hp} {a : Addr} : ∀ {d : D}, OwnAt C Z H a d → H a ≠ none
  | .lst _, ⟨_, e, _⟩ => fun z => by rw [e] at z; cases z
  | .dk _ _, ⟨_, e, _, _⟩ => fun z => by rw [e] at z; cases z
  | .ins _ _ _, ⟨_, _, e, _, _⟩ => fun z => by rw [e] at z; cases z
/-- handed on, it is a value like others -/
theorem OwnAt.den {C : Kw} {Z Z' : Addr → Prop} {H : Hp} {a : Addr} (hz : ∀ b, Z' b → Z b) (ha : ¬ Z' a) : ∀ {d : D}, OwnAt C Z H a d → Den C Z' H (.ref a) d
  | .lst _, ⟨vs, e, h⟩ => .lst ha e (h.mono fun b o n q => ⟨q, fun z => n (hz b z)⟩)
  | .dk _ _, ⟨vs, e, l, h⟩ => .dk ha (.inl e) l (h.mono fun b o n q => ⟨q, fun z => n (hz b z)⟩)
  | .ins _ _ _, ⟨dx, vs, e, l, h⟩ => .ins ha e l (h.mono fun b o n q => ⟨q, fun z => n (hz b z)⟩)

/-! ### states of names -/
abbrev Ow := Nat → Option Addr
def In (o : Ow) (a : Addr) : Prop := ∃ i, o i = some a
def Zo (B : Addr → Prop) (o : Ow) (a : Addr) : Prop := B a ∨ In o a
def SlOk (C : Kw) (Z : Addr → Prop) (H : Hp) (ov : Option Addr) (sv : Option (Option V)) : Sl → Prop
  | .un => ov = none
  | .sh _ d => ov = none ∧ ∃ v, sv = some (some v) ∧ Den C Z H v d
  | .ow _ d => ∃ a, ov = some a ∧ sv = some (some (.ref a)) ∧ OwnAt C Z H a d
structure Ho (C : Kw) (B : Addr → Prop) (o : Ow) (ρ : Rho) (σ : L2.St) (H : Hp) : Prop where
  sl : ∀ i s, ρ[i]? = some s → SlOk C (Zo B o) H (o i) (σ[i]?) s
  out : ∀ i, ρ[i]? = none → o i = none
  inj : ∀ i j a, o i = some a → o j = some a → i = j
  nb : ∀ i a, o i = some a → ¬ B a
  bd : ∀ a, B a → H a ≠ none
  len : ρ.length = σ.length
/-- what may have happened: what no name owned stands; who owns now owned then, or it is new -/
structure Step (H : Hp) (o : Ow) (H' : Hp) (o' : Ow) : Prop where
  keep : ∀ a h, ¬ In o a → H a = some h → H' a = some h
  dom : ∀ a, H a ≠ none → H' a ≠ none
  own : ∀ i a, o' i = some a → o i = some a ∨ H a = none
/-- .. within an expression: nothing new is owned -/
structure StepE (H : Hp) (o : Ow) (H' : Hp) (o' : Ow) : Prop where
  keep : ∀ a h, ¬ In o a → H a = some h → H' a = some h
  dom : ∀ a, H a ≠ none → H' a ≠ none
  own : ∀ i a, o' i = some a → o i = some a
section
variable {C : Kw} {B B' : Addr → Prop} {o o1 o2 : Ow} {ρ : Rho} {σ : L2.St} {H H1 H2 : Hp} {v : V} {d : D}
theorem StepE.refl : StepE H o H o := ⟨fun _ _ _ e => e, fun _ e => e, fun _ _ e => e⟩
theorem StepE.step (s : StepE H o H1 o1) : Step H o H1 o1 := ⟨s.keep, s.dom, fun i a e => .inl (s.own i a e)⟩
theorem In.of_step (s : StepE H o H1 o1) {a : Addr} : In o1 a → In o a := fun ⟨i, e⟩ => ⟨i, s.own i a e⟩
theorem StepE.trans (s : StepE H o H1 o1) (t : StepE H1 o1 H2 o2) : StepE H o H2 o2 :=
  ⟨fun a h n e => t.keep a h (fun z => n (In.of_step s z)) (s.keep a h n e), fun a e => t.dom a (s.dom a e), fun i a e => s.own i a (t.own i a e)⟩
theorem Step.refl : Step H o H o := StepE.refl.step
theorem Step.trans (s : Step H o H1 o1) (t : Step H1 o1 H2 o2) : Step H o H2 o2 := by
  refine ⟨fun a h n e => ?_, fun a e => t.dom a (s.dom a e), fun i a e => ?_⟩
  · refine t.keep a h (fun ⟨i, z⟩ => ?_) (s.keep a h n e)
    rcases s.own i a z with q | q
    · exact n ⟨i, q⟩
    · rw [e] at q; cases q
  · rcases t.own i a e with q | q
    · exact s.own i a q
    · refine .inr ?_
      cases z : H a with
      | none => rfl
      | some h => exact absurd q (s.dom a (by rw [z]; intro y; cases y))
/-- the way from Z to Z' along a step -/
theorem Step.kz (s : Step H o H1 o1) : ∀ a h, ¬ Zo B' o a → H a = some h → H1 a = some h ∧ ¬ Zo B' o1 a := fun a h n e =>
  ⟨s.keep a h (fun z => n (.inr z)) e, fun z => by
    rcases z with z | ⟨i, z⟩
    · exact n (.inl z)
    · rcases s.own i a z with q | q
      · exact n (.inr ⟨i, q⟩)
      · rw [e] at q; cases q⟩
theorem Den.step (s : Step H o H1 o1) (h : Den C (Zo B' o) H v d) : Den C (Zo B' o1) H1 v d := h.mono s.kz
theorem DenAll.step {vs : List V} {ds : List D} (s : Step H o H1 o1) (h : DenAll C (Zo B' o) H vs ds) : DenAll C (Zo B' o1) H1 vs ds := h.mono s.kz
/-- only new objects came -/
def Ext (H H' : Hp) : Prop := ∀ a h, H a = some h → H' a = some h
theorem Ext.refl : Ext H H := fun _ _ e => e
theorem Ext.trans (s : Ext H H1) (t : Ext H1 H2) : Ext H H2 := fun a h e => t a h (s a h e)
theorem Ext.new {p : Addr} {q : HO} (h : H p = none) : Ext H (upd H p q) := fun a u e => by rw [upd_ne (ne_of_none e h)]; exact e
theorem Ext.dom (s : Ext H H1) : ∀ a, H a ≠ none → H1 a ≠ none := fun a n => by
  cases z : H a with
  | none => exact absurd z n
  | some h => rw [s a h z]; intro y; cases y
theorem Ext.stepE (s : Ext H H1) : StepE H o H1 o := ⟨fun a h _ e => s a h e, s.dom, fun _ _ e => e⟩
theorem Ho.zd (h : Ho C B o ρ σ H) : ∀ a, Zo B o a → H a ≠ none := fun a z => by
  rcases z with z | ⟨i, z⟩
  · exact h.bd a z
  · cases e : ρ[i]? with
    | none => rw [h.out i e] at z; cases z
    | some s =>
      have q := h.sl i s e
      cases s with
      | un => rw [show o i = none from q] at z; cases z
      | sh p d => rw [q.1] at z; cases z
      | ow p d =>
        obtain ⟨b, e1, _, e3⟩ := q
        rw [e1] at z; cases z
        exact e3.some
theorem Ho.free (h : Ho C B o ρ σ H) {p : Addr} (n : H p = none) : ¬ Zo B o p := fun z => h.zd p z n
/-- more of the heap -/
theorem SlOk.mono {Z Z' : Addr → Prop} {ov : Option Addr} {sv : Option (Option V)} (k : ∀ a h, ¬ Z a → H a = some h → H1 a = some h ∧ ¬ Z' a) (kv : ∀ a, ov = some a → H1 a = H a) : ∀ {s : Sl}, SlOk C Z H ov sv s → SlOk C Z' H1 ov sv s
  | .un, h => h
  | .sh _ _, ⟨e, v, e2, h⟩ => ⟨e, v, e2, h.mono k⟩
  | .ow _ _, ⟨a, e, e2, h⟩ => ⟨a, e, e2, h.mono k (kv a e)⟩
theorem Ho.ext (h : Ho C B o ρ σ H) (x : Ext H H1) : Ho C B o ρ σ H1 where
  sl := fun i s e => (h.sl i s e).mono (fun a u n q => ⟨x a u q, n⟩) fun a q => by
    have n := h.zd a (.inr ⟨i, q⟩)
    cases z : H a with
    | none => exact absurd z n
    | some u => exact x a u z
  out := h.out
  inj := h.inj
  nb := h.nb
  bd := fun a z => x.dom a (h.bd a z)
  len := h.len
/-- the hidden grows by what is new -/
theorem Ho.hide (h : Ho C B o ρ σ H) (x : Ext H H1) {p : Addr} (n : H p = none) (n1 : H1 p ≠ none) : Ho C (fun a => B a ∨ a = p) o ρ σ H1 := by
  have nz := h.free n
  refine ⟨fun i s e => (h.sl i s e).mono (fun a u q r => ⟨x a u r, fun z => ?_⟩) fun a q => ?_, h.out, h.inj, fun i a e z => ?_, fun a z => ?_, h.len⟩
  · rcases z with (z | z) | z
    · exact q (.inl z)
    · rw [z, n] at r; cases r
    · exact q (.inr z)
  · have n := h.zd a (.inr ⟨i, q⟩)
    cases z : H a with
    | none => exact absurd z n
    | some u => exact x a u z
  · rcases z with z | z
    · exact h.nb i a e z
    · exact nz (.inr ⟨i, by rw [← z]; exact e⟩)
  · rcases z with z | z
    · exact x.dom a (h.bd a z)
    · rw [z]; exact n1
/-- less is hidden -/
theorem Ho.show (h : Ho C B o ρ σ H) (hb : ∀ a, B' a → B a) : Ho C B' o ρ σ H where
  sl := fun i s e => (h.sl i s e).mono (fun a u n q => ⟨q, fun z => n (z.elim (fun y => .inl (hb a y)) .inr)⟩) fun _ _ => rfl
  out := h.out
  inj := h.inj
  nb := fun i a e z => h.nb i a e (hb a z)
  bd := fun a z => h.bd a (hb a z)
  len := h.len
end
end BK

set_option Elab.async false
set_option linter.all false
set_option maxRecDepth 100000
set_option maxHeartbeats 2000000
/-! BK3: each operation on values, held against the machine's. -/
namespace BK
open PySem PySem.Spec PyProof.Rows L2

/-- d is read where v stands: a value, or what a name owns -/
def DenT (C : Kw) (Z : Addr → Prop) (H : Hp) (v : V) (d : D) : Prop := Den C Z H v d ∨ ∃ a, v = .ref a ∧ OwnAt C Z H a d
/-- an object just made at p -/
def NewAt (C : Kw) (Z : Addr → Prop) (H H' : Hp) (p : Addr) : D → Prop
  | .lst ds => ∃ vs, H' p = some (.lst vs) ∧ DenAll C Z H vs ds
  | .dk ks ds => ∃ vs, H' p = some (.dK (ks.zip vs)) ∧ ks.length = vs.length ∧ DenAll C Z H vs ds
  | .ins c ns ds => ∃ dx vs, H' p = some (.ins (C.cn c) dx (ns.zip vs)) ∧ ns.length = vs.length ∧ DenAll C Z H vs ds
  | _ => False
/-- an operation's answer -/
def ResZ (C : Kw) (Z : Addr → Prop) (H H' : Hp) (v : V) (d : D) : Bool → Prop
  | false => Den C Z H' v d
  | true => ∃ p, v = .ref p ∧ H p = none ∧ NewAt C Z H H' p d
def Zd (Z : Addr → Prop) (H : Hp) : Prop := ∀ a, Z a → H a ≠ none
section
variable {C : Kw} {Z : Addr → Prop} {H H' : Hp} {v : V} {d : D} {ds : List D} {vs : List V}
theorem DenAll.length : ∀ {vs : List V} {ds : List D}, DenAll C Z H vs ds → vs.length = ds.length
  | _, _, .nil => rfl
  | _, _, .cons _ t => by rw [List.length_cons, List.length_cons, DenAll.length t]
theorem DenAll.get : ∀ {vs : List V} {ds : List D} {i : Nat} {d : D}, DenAll C Z H vs ds → ds[i]? = some d → ∃ v, vs[i]? = some v ∧ Den C Z H v d
  | _, _, _, _, .nil, e => by simp at e
  | _, _, 0, _, .cons h _, e => by
    simp at e; subst e
    exact ⟨_, rfl, h⟩
  | _, _, i + 1, d, .cons _ t, e => by
    obtain ⟨v, e1, h⟩ := DenAll.get (i := i) (d := d) t (by simpa using e)
    exact ⟨v, by simpa using e1, h⟩
theorem DenAll.append : ∀ {vs ws : List V} {ds es : List D}, DenAll C Z H vs ds → DenAll C Z H ws es → DenAll C Z H (vs ++ ws) (ds ++ es)
  | _, _, _, _, .nil, s => s
  | _, _, _, _, .cons h t, s => .cons h (DenAll.append t s)
theorem DenAll.take : ∀ {vs : List V} {ds : List D} (n : Nat), DenAll C Z H vs ds → DenAll C Z H (vs.take n) (ds.take n)
  | _, _, 0, _ => .nil
  | _, _, _ + 1, .nil => .nil
  | _, _, n + 1, .cons h t => .cons h (DenAll.take n t)
theorem DenAll.drop : ∀ {vs : List V} {ds : List D} (n : Nat), DenAll C Z H vs ds → DenAll C Z H (vs.drop n) (ds.drop n)
  | _, _, 0, h => h
  | _, _, _ + 1, .nil => .nil
  | _, _, n + 1, .cons _ t => DenAll.drop n t
theorem DenAll.set : ∀ {vs : List V} {ds : List D} (n : Nat), DenAll C Z H vs ds → Den C Z H v d → DenAll C Z H (vs.set n v) (ds.set n d)
  | _, _, _, .nil, _ => .nil
  | _, _, 0, .cons _ t, q => .cons q t
  | _, _, n + 1, .cons h t, q => .cons h (DenAll.set n t q)
theorem DenAll.dropLast : ∀ {vs : List V} {ds : List D}, DenAll C Z H vs ds → DenAll C Z H vs.dropLast ds.dropLast
  | _, _, .nil => .nil
  | _, _, .cons h .nil => .nil
  | _, _, .cons h (.cons h2 t) => .cons h (DenAll.dropLast (.cons h2 t))
theorem DenAll.rep (k : Nat) (h : DenAll C Z H vs ds) : DenAll C Z H (List.replicate k vs).flatten (List.replicate k ds).flatten := by
  induction k with
  | zero => exact .nil
  | succ k ih =>
    rw [List.replicate_succ, List.replicate_succ, List.flatten_cons, List.flatten_cons]
    exact h.append ih
theorem DenAll.sq {w : V} {e : D} (h : DenAll C Z H [w] [e]) : Den C Z H w e := by
  cases h with
  | cons h _ => exact h
/-! views -/
theorem DenT.int {i : Int} (h : DenT C Z H v (.int i)) : v = .int i := by
  rcases h with h | ⟨_, _, h⟩
  · cases h; rfl
  · exact h.elim
theorem DenT.bl {b : Bool} (h : DenT C Z H v (.bl b)) : v = .bl b := by
  rcases h with h | ⟨_, _, h⟩
  · cases h; rfl
  · exact h.elim
theorem DenT.str {x : Str} (h : DenT C Z H v (.str x)) : v = .str x := by
  rcases h with h | ⟨_, _, h⟩
  · cases h; rfl
  · exact h.elim
theorem DenT.lst (h : DenT C Z H v (.lst ds)) : ∃ a vs, v = .ref a ∧ H a = some (.lst vs) ∧ DenAll C Z H vs ds := by
  rcases h with h | ⟨a, e, vs, h1, h2⟩
  · cases h with
    | lst z r h => exact ⟨_, _, rfl, r, h⟩
  · exact ⟨a, vs, e, h1, h2⟩
theorem KL.sql {K : PySem.W.Frag} {a : Addr} (h : KL K "list" a vs) : SqL K H a vs := by
  obtain ⟨o, its, n, e, hc, hn, hd, hz, hv⟩ := h
  exact .inr ⟨o, its, n, e, hc, hn, hd, hz, hv⟩
theorem DenT.rl (h : DenT C Z H v (.rl ds)) : ∃ a vs, v = .ref a ∧ SqL C.K H a vs ∧ DenAll C Z H vs ds := by
  rcases h with h | ⟨a, e, h⟩
  · cases h with
    | rl z r h => exact ⟨_, _, rfl, .inl (.inr ⟨_, r⟩), h⟩
    | rlK r h => exact ⟨_, _, rfl, r.sql, h⟩
  · exact h.elim
theorem DenT.tup (h : DenT C Z H v (.tup ds)) : Den C Z H v (.tup ds) := by
  rcases h with h | ⟨a, e, h⟩
  · exact h
  · exact h.elim
theorem KL.sqt {K : PySem.W.Frag} {a : Addr} (h : KL K "tuple" a vs) : SqT K H a vs := by
  obtain ⟨o, its, n, e, hc, _, hd, hz, hv⟩ := h
  exact .inr ⟨o, its, n, e, hc, hd, hz, hv⟩
theorem Den.sqt (h : Den C Z H v (.tup ds)) : ∃ a vs, v = .ref a ∧ SqT C.K H a vs ∧ DenAll C Z H vs ds := by
  cases h with
  | tup z r h => exact ⟨_, _, rfl, .inl (.inl r), h⟩
  | tupK r h => exact ⟨_, _, rfl, r.sqt, h⟩
theorem DenT.sqt (h : DenT C Z H v (.tup ds)) : ∃ a vs, v = .ref a ∧ SqT C.K H a vs ∧ DenAll C Z H vs ds := h.tup.sqt
theorem DenT.dk {ks : List Key} (h : DenT C Z H v (.dk ks ds)) : ∃ a vs, v = .ref a ∧ Rd H a (.dK (ks.zip vs)) ∧ ks.length = vs.length ∧ DenAll C Z H vs ds := by
  rcases h with h | ⟨a, e, vs, h1, h2, h3⟩
  · cases h with
    | dk z r l h => exact ⟨_, _, rfl, r, l, h⟩
  · exact ⟨a, vs, e, .inl h1, h2, h3⟩
theorem DenT.ins {c : Nat} {ns : List Str} (h : DenT C Z H v (.ins c ns ds)) : ∃ a dx vs, v = .ref a ∧ H a = some (.ins (C.cn c) dx (ns.zip vs)) ∧ ns.length = vs.length ∧ DenAll C Z H vs ds := by
  rcases h with h | ⟨a, e, dx, vs, h1, h2, h3⟩
  · cases h with
    | ins z r l h => exact ⟨_, _, _, rfl, r, l, h⟩
  · exact ⟨a, dx, vs, e, h1, h2, h3⟩
theorem DenT.flat (f : d.flat = true) (h : DenT C Z H v d) : Den C Z H v d := by
  rcases h with h | ⟨_, _, h⟩
  · exact h
  · cases d <;> first | exact h.elim | (simp [D.flat] at f)
/-! deep data, for ==, in and the like -/
mutual
theorem Den.dp : ∀ {d : D} {v : V} {p : PyData}, Den C Z H v d → d.py = some p → Dp C.K H v p
  | _, _, _, .non, e => by cases e; exact .non
  | _, _, _, .bl b, e => by cases e; exact .bl b
  | _, _, _, .int i, e => by cases e; exact .int i
  | _, _, _, .str x, e => by cases e; exact .str x
  | .lst ds, _, _, .lst z r h, e => by
    rw [D.py] at e
    obtain ⟨ps, e1, e2⟩ := Option.map_eq_some_iff.mp e
    subst e2
    exact .lst (.inl (.inl r)) (DenAll.dps h e1)
  | .rl ds, _, _, .rl z r h, e => by rw [D.py] at e; cases e
  | .rl ds, _, _, .rlK r h, e => by rw [D.py] at e; cases e
  | .tup ds, _, _, .tup z r h, e => by
    rw [D.py] at e
    obtain ⟨ps, e1, e2⟩ := Option.map_eq_some_iff.mp e
    subst e2
    exact .tup (.inl (.inl r)) (DenAll.dps h e1)
  | .tup ds, _, _, .tupK r h, e => by
    rw [D.py] at e
    obtain ⟨ps, e1, e2⟩ := Option.map_eq_some_iff.mp e
    subst e2
    exact .tup r.sqt (DenAll.dps h e1)
  | .dk _ _, _, _, .dk _ _ _ _, e => by rw [D.py] at e; cases e
  | .ins _ _ _, _, _, .ins _ _ _ _, e => by rw [D.py] at e; cases e
theorem DenAll.dps : ∀ {ds : List D} {vs : List V} {ps : List PyData}, DenAll C Z H vs ds → D.pys ds = some ps → DpAll C.K H vs ps
  | _, _, _, .nil, e => by cases e; exact .nil
  | d :: ds, _, _, .cons h t, e => by
    rw [D.pys] at e
    obtain ⟨p, e1, e2⟩ := Option.bind_eq_some_iff.mp e
    obtain ⟨qs, e3, e4⟩ := Option.map_eq_some_iff.mp e2
    subst e4
    exact .cons (Den.dp h e1) (DenAll.dps t e3)
end
theorem DenT.dp {p : PyData} (h : DenT C Z H v d) (e : d.py = some p) : Dp C.K H v p := by
  rcases h with h | ⟨a, e2, h⟩
  · exact h.dp e
  · cases d with
    | lst ds =>
      obtain ⟨vs, h1, h2⟩ := h
      rw [D.py] at e
      obtain ⟨ps, e1, e3⟩ := Option.map_eq_some_iff.mp e
      subst e3; subst e2
      exact .lst (.inl (.inl h1)) (h2.dps e1)
    | dk ks ds => rw [D.py] at e; cases e
    | ins c ns ds => rw [D.py] at e; cases e
    | _ => exact h.elim
theorem newl {p : Addr} (n : H p = none) (h : DenAll C Z H vs ds) : ResZ C Z H (upd H p (.lst vs)) (.ref p) (.lst ds) true := ⟨p, rfl, n, vs, upd_same, h⟩
theorem newt {p : Addr} (hz : Zd Z H) (n : H p = none) (h : DenAll C Z H vs ds) : ResZ C Z H (upd H p (.tup vs)) (.ref p) (.tup ds) false :=
  Den.tup (fun z => hz p z n) upd_same (h.mono fun a q nz e => ⟨Ext.new n a q e, nz⟩)
theorem most_le {n : Nat} (h : n ≤ most) : n ≤ sizeLine := Nat.le_trans h (by decide)
theorem rep_size {α : Type} (a : Array α) : ∀ (k : Nat) (b : Array α), ((List.replicate k a).foldl (· ++ ·) b).size = b.size + a.size * k
  | 0, b => by simp
  | k + 1, b => by
    rw [List.replicate_succ, List.foldl_cons, rep_size a k (b ++ a), Array.size_append, Nat.mul_succ]
    omega
theorem most_lt {n : Nat} (h : n < most) : n < sizeLine := Nat.lt_of_lt_of_le h (by decide)
end

/-! ### the operations' wishes -/
def w1 (C : Kw) (op : Op) (x : V) (H : Hp) (Q : VK) : Prop :=
  ∃ Z d r f, Zd Z H ∧ DenT C Z H x d ∧ op1 op d = some (r, f) ∧ ∀ v H', Ext H H' → ResZ C Z H H' v r f → Q v H'
def w2 (C : Kw) (op : Op) : R2 := fun x y H Q =>
  ∃ Z d e r f, Zd Z H ∧ DenT C Z H x d ∧ DenT C Z H y e ∧ op2 op d e = some (r, f) ∧ ∀ v H', Ext H H' → ResZ C Z H H' v r f → Q v H'
def w3 (C : Kw) (op : Op) (x y z : V) (H : Hp) (Q : VK) : Prop :=
  ∃ Z d e g r f, Zd Z H ∧ DenT C Z H x d ∧ DenT C Z H y e ∧ DenT C Z H z g ∧ op3 op d e g = some (r, f) ∧ ∀ v H', Ext H H' → ResZ C Z H H' v r f → Q v H'
def kw (X : Cx) (cn : Nat → Addr) : Kw := ⟨X.K, X.w, cn⟩
section
variable {X : Cx} {cn : Nat → Addr} {k : Nat}
/-- an answer that makes nothing -/
theorem fin0 {C : Kw} {Z : Addr → Prop} {H : Hp} {Q : VK} {r : D} {v : V} (q : ∀ v H', Ext H H' → ResZ C Z H H' v r false → Q v H') (h : Den C Z H v r) : Q v H := q v H Ext.refl h
/-! arithmetic -/
theorem un_neg' : UnR X (unaryOp .USub) (w1 (kw X cn) .neg) := by
  intro pins s σ H x v Q I rx h
  obtain ⟨Z, d, r, f, hz, hd, he, q⟩ := h
  cases d <;> simp only [op1] at he <;> try (cases he; done)
  rename_i i
  cases he
  exact un_neg pins s σ H x v Q I rx ⟨i, hd.int, fin0 q (.int _)⟩
theorem op_add' : OpR X (binaryOp .Add) (w2 (kw X cn) .add) := by
  intro pins s σ H x y v u Q I rx ry h
  obtain ⟨Z, d, e, r, f, hz, hd, he, ho, q⟩ := h
  cases d <;> cases e <;> simp only [op2] at ho <;> try (cases ho; done)
  · rename_i i j
    cases ho
    exact op_add pins s σ H x y v u Q I rx ry ⟨i, j, hd.int, he.int, fin0 q (.int _)⟩
  · rename_i a b
    split at ho
    · rename_i hl
      cases ho
      exact op_add_str pins s σ H x y v u Q I rx ry ⟨a, b, hd.str, he.str, most_le hl, fin0 q (.str _)⟩
    · cases ho
  · rename_i xs ys
    split at ho
    · rename_i hl
      cases ho
      obtain ⟨a, vs, rfl, h1, h2⟩ := hd.lst
      obtain ⟨b, ws, rfl, h3, h4⟩ := he.lst
      refine op_cat pins s σ H _ _ v u Q I rx ry ⟨a, b, vs, ws, rfl, rfl, h1, h3, most_le (by rw [h2.length, h4.length]; exact hl), fun p n => q _ _ (Ext.new n) (newl n (h2.append h4))⟩
    · cases ho
  · rename_i xs ys
    split at ho
    · rename_i hl
      cases ho
      simp only [Bool.and_eq_true, decide_eq_true_eq, Bool.not_eq_true', List.isEmpty_eq_false_iff] at hl
      obtain ⟨a, vs, rfl, h1, h2⟩ := hd.sqt
      obtain ⟨b, ws, rfl, h3, h4⟩ := he.sqt
      have hv : vs ≠ [] := fun z => hl.2 (List.eq_nil_of_length_eq_zero (by rw [← h2.length, z]; rfl))
      refine op_catT pins s σ H _ _ v u Q I rx ry ⟨a, b, vs, ws, rfl, rfl, h1, h3, hv, most_le (by rw [h2.length, h4.length]; exact hl.1), fun z => ?_, fun _ p n => q _ _ (Ext.new n) (newt hz n (h2.append h4))⟩
      have e0 : ys = [] := List.eq_nil_of_length_eq_zero (by rw [← h4.length, z]; rfl)
      subst e0
      rw [List.append_nil] at q
      exact fin0 q hd.tup
    · cases ho
theorem op_sub' : OpR X (binaryOp .Sub) (w2 (kw X cn) .sub) := by
  intro pins s σ H x y v u Q I rx ry h
  obtain ⟨Z, d, e, r, f, hz, hd, he, ho, q⟩ := h
  cases d <;> cases e <;> simp only [op2] at ho <;> try (cases ho; done)
  rename_i i j
  cases ho
  exact op_sub pins s σ H x y v u Q I rx ry ⟨i, j, hd.int, he.int, fin0 q (.int _)⟩
theorem small64_ok {i : Int} (h : small64 i = true) : -(2 ^ 64) < i ∧ i < 2 ^ 64 := by
  simpa [small64] using h
theorem op_mulS : OpR X (binaryOp .Mult) (fun x y H Q => ∃ (z : Str) (n : Int), x = .str z ∧ y = .int n ∧ -(2 ^ 63) ≤ n ∧ n ≤ most ∧ z.length * n.toNat ≤ most ∧ Q (.str (repS z n)) H) := by
  intro pins s σ H x y v u Q I rx ry h
  obtain ⟨z, n, rfl, rfl, h1, h2, h3, q⟩ := h
  obtain ⟨t, rfl⟩ := rx
  obtain ⟨t2, rfl⟩ := ry
  have hm : (most : Int) = 100000 := rfl
  refine PySem.P.mul_str ?_ (fun h4 h5 h6 => ?_) (fun h4 h5 => ?_) ?_
  · rw [decide_eq_false (by omega), decide_eq_false (by omega)]
    rfl
  · have h7 : (z.length : Int) * n ≤ 100000 := by
      have : n.toNat = n := by omega
      have h8 : ((z.length * n.toNat : Nat) : Int) ≤ (100000 : Nat) := Int.ofNat_le.mpr h3
      rw [Int.natCast_mul, this] at h8
      exact h8
    have h9 : (z.length : Int) ≤ 100000 := by
      have : (z.length : Int) * 1 ≤ z.length * n := Int.mul_le_mul_of_nonneg_left (by omega) (by omega)
      omega
    have h10 : 100000 ≤ (2 ^ 63 - 1) / n := (Int.le_ediv_iff_mul_le (by omega)).mpr (by
      have : (100000 : Int) * n ≤ 100000 * 100000 := Int.mul_le_mul_of_nonneg_left (by omega) (by omega)
      omega)
    omega
  · show decide (_ > sizeLine) = false
    exact decide_eq_false (Nat.not_lt.mpr (most_le h3))
  · unfold repS at q
    split
    · rename_i h4
      rw [if_pos h4] at q
      exact ⟨by decide, ⟨.str _, H, I.tok _, ⟨_, rfl⟩, q⟩⟩
    · rename_i h4
      rw [if_neg h4] at q
      split
      · rename_i h5
        rw [if_pos h5] at q
        exact ⟨.str _, H, I, ⟨_, rfl⟩, q⟩
      · rename_i h5
        rw [if_neg h5] at q
        refine ⟨?_, ⟨.str _, H, I.tok _, ⟨_, rfl⟩, q⟩⟩
        show ((List.replicate n.toNat z.cps).foldl (· ++ ·) #[]).size ≤ sizeLine
        rw [rep_size]
        have h9 := most_le h3
        simp only [Array.size_empty, Nat.zero_add]
        exact h9
theorem op_mul' : OpR X (binaryOp .Mult) (w2 (kw X cn) .mul) := by
  intro pins s σ H x y v u Q I rx ry h
  obtain ⟨Z, d, e, r, f, hz, hd, he, ho, q⟩ := h
  cases d <;> cases e <;> simp only [op2] at ho <;> try (cases ho; done)
  · rename_i i j
    split at ho
    · rename_i hl
      cases ho
      rw [Bool.or_eq_true] at hl
      exact op_mul pins s σ H x y v u Q I rx ry ⟨i, j, hd.int, he.int, hl.imp small64_ok small64_ok, fin0 q (.int _)⟩
    · cases ho
  · rename_i z j
    split at ho
    · rename_i hl
      cases ho
      simp only [Bool.and_eq_true, decide_eq_true_eq] at hl
      exact op_mulS pins s σ H x y v u Q I rx ry ⟨z, j, hd.str, he.int, hl.1.1, hl.1.2, hl.2, fin0 q (.str _)⟩
    · cases ho
  · rename_i xs j
    split at ho
    · rename_i hl
      cases ho
      simp only [Bool.and_eq_true, decide_eq_true_eq] at hl
      obtain ⟨a, vs, rfl, h1, h2⟩ := hd.lst
      refine op_rep pins s σ H _ _ v u Q I rx ry ⟨a, j, vs, rfl, he.int, h1, hl.1.2, hl.2, most_le (by rw [h2.length]; exact hl.1.1), fun p n => q _ _ (Ext.new n) (newl n (h2.rep _))⟩
    · cases ho
theorem op_fdiv' : OpR X (binaryOp .FloorDiv) (w2 (kw X cn) .fdiv) := by
  intro pins s σ H x y v u Q I rx ry h
  obtain ⟨Z, d, e, r, f, hz, hd, he, ho, q⟩ := h
  cases d <;> cases e <;> simp only [op2] at ho <;> try (cases ho; done)
  rename_i i j
  split at ho
  · rename_i hl
    cases ho
    simp only [Bool.and_eq_true, decide_eq_true_eq] at hl
    exact op_fdiv pins s σ H x y v u Q I rx ry ⟨i, j, hd.int, he.int, hl, fin0 q (.int _)⟩
  · cases ho
theorem op_mod' : OpR X (binaryOp .Mod) (w2 (kw X cn) .mod) := by
  intro pins s σ H x y v u Q I rx ry h
  obtain ⟨Z, d, e, r, f, hz, hd, he, ho, q⟩ := h
  cases d <;> cases e <;> simp only [op2] at ho <;> try (cases ho; done)
  rename_i i j
  split at ho
  · rename_i hl
    cases ho
    exact op_mod pins s σ H x y v u Q I rx ry ⟨i, j, hd.int, he.int, hl, fin0 q (.int _)⟩
  · cases ho
theorem op_pow' : OpR X (binaryOp .Pow) (w2 (kw X cn) .pow) := by
  intro pins s σ H x y v u Q I rx ry h
  obtain ⟨Z, d, e, r, f, hz, hd, he, ho, q⟩ := h
  cases d <;> cases e <;> simp only [op2] at ho <;> try (cases ho; done)
  rename_i i j
  split at ho
  · rename_i hl
    cases ho
    simp only [Bool.and_eq_true, decide_eq_true_eq] at hl
    exact op_pow pins s σ H x y v u Q I rx ry ⟨i, j, hd.int, he.int, ⟨hl.1.1, by omega, hl.2⟩, fin0 q (.int _)⟩
  · cases ho
/-! comparisons -/
theorem eqDp_ok {a b : D} {k : Bool} (h : eqDp a b = some k) : ∃ p q, a.py = some p ∧ b.py = some q ∧ SeqAt.shaped p = true ∧ SeqAt.shaped q = true ∧ k = PyData.eqv p q := by
  unfold eqDp at h
  split at h
  · rename_i p q e1 e2
    split at h
    · rename_i hs
      rw [Bool.and_eq_true] at hs
      cases h
      exact ⟨p, q, e1, e2, hs.1, hs.2, rfl⟩
    · cases h
  · cases h
theorem eqD_ok {a b : D} {k : Bool} (h : eqD a b = some k) : (∃ x y, a = .str x ∧ b = .str y ∧ k = (x == y)) ∨ eqDp a b = some k := by
  unfold eqD at h
  split at h
  · cases h; exact .inl ⟨_, _, rfl, rfl, rfl⟩
  · exact .inr h
theorem op_eq' (hr : Room k X.A) : OpR X (compareOp .Eq) (w2 (kw X cn) .eq) := by
  intro pins s σ H x y v u Q I rx ry h
  obtain ⟨Z, d, e, r, f, hz, hd, he, ho, q⟩ := h
  simp only [op2] at ho
  obtain ⟨c, e1, e2⟩ := Option.map_eq_some_iff.mp ho
  cases e2
  rcases eqD_ok e1 with ⟨x', y', rfl, rfl, rfl⟩ | e1
  · have e3 := hd.str
    have e4 := he.str
    subst e3 e4
    exact op_eq pins s σ H _ _ v u Q I rx ry ⟨rfl, by rw [dec_str]; exact fin0 q (.bl _)⟩
  obtain ⟨p1, p2, h1, h2, h3, h4, rfl⟩ := eqDp_ok e1
  exact op_eqD hr.units pins s σ H x y v u Q I rx ry ⟨p1, p2, hd.dp h1, he.dp h2, h3, h4, fin0 q (.bl _)⟩
theorem op_ne' (hr : Room k X.A) : OpR X (compareOp .NotEq) (w2 (kw X cn) .ne) := by
  intro pins s σ H x y v u Q I rx ry h
  obtain ⟨Z, d, e, r, f, hz, hd, he, ho, q⟩ := h
  simp only [op2] at ho
  obtain ⟨c, e1, e2⟩ := Option.map_eq_some_iff.mp ho
  cases e2
  rcases eqD_ok e1 with ⟨x', y', rfl, rfl, rfl⟩ | e1
  · have e3 := hd.str
    have e4 := he.str
    subst e3 e4
    exact op_ne pins s σ H _ _ v u Q I rx ry ⟨rfl, by rw [dec_str]; exact fin0 q (.bl _)⟩
  obtain ⟨p1, p2, h1, h2, h3, h4, rfl⟩ := eqDp_ok e1
  exact op_neD hr.units pins s σ H x y v u Q I rx ry ⟨p1, p2, hd.dp h1, he.dp h2, h3, h4, fin0 q (.bl _)⟩
theorem op_lt' : OpR X (compareOp .Lt) (w2 (kw X cn) .lt) := by
  intro pins s σ H x y v u Q I rx ry h
  obtain ⟨Z, d, e, r, f, hz, hd, he, ho, q⟩ := h
  cases d <;> simp only [op2] at ho <;> try (cases ho; done)
  · rename_i i
    cases e <;> simp only [op2] at ho <;> try (cases ho; done)
    rename_i j
    cases ho
    exact op_lt pins s σ H x y v u Q I rx ry ⟨i, j, hd.int, he.int, fin0 q (.bl _)⟩
  · rename_i i
    cases e <;> simp only [op2] at ho <;> try (cases ho; done)
    rename_i j
    cases ho
    exact op_lt_str pins s σ H x y v u Q I rx ry ⟨i, j, hd.str, he.str, fin0 q (.bl _)⟩
theorem op_le' : OpR X (compareOp .LtE) (w2 (kw X cn) .le) := by
  intro pins s σ H x y v u Q I rx ry h
  obtain ⟨Z, d, e, r, f, hz, hd, he, ho, q⟩ := h
  cases d <;> cases e <;> simp only [op2] at ho <;> try (cases ho; done)
  rename_i i j
  cases ho
  exact op_le pins s σ H x y v u Q I rx ry ⟨i, j, hd.int, he.int, fin0 q (.bl _)⟩
theorem op_gt' : OpR X (compareOp .Gt) (w2 (kw X cn) .gt) := by
  intro pins s σ H x y v u Q I rx ry h
  obtain ⟨Z, d, e, r, f, hz, hd, he, ho, q⟩ := h
  cases d <;> cases e <;> simp only [op2] at ho <;> try (cases ho; done)
  rename_i i j
  cases ho
  exact op_gt pins s σ H x y v u Q I rx ry ⟨i, j, hd.int, he.int, fin0 q (.bl _)⟩
theorem op_ge' : OpR X (compareOp .GtE) (w2 (kw X cn) .ge) := by
  intro pins s σ H x y v u Q I rx ry h
  obtain ⟨Z, d, e, r, f, hz, hd, he, ho, q⟩ := h
  cases d <;> cases e <;> simp only [op2] at ho <;> try (cases ho; done)
  rename_i i j
  cases ho
  exact op_ge pins s σ H x y v u Q I rx ry ⟨i, j, hd.int, he.int, fin0 q (.bl _)⟩
end
end BK

set_option Elab.async false
set_option linter.all false
set_option maxRecDepth 100000
set_option maxHeartbeats 2000000
/-! BK3b: the rest of the operations: membership, built-ins, places, slices. -/
namespace BK
open PySem PySem.Spec PyProof.Rows L2
section
variable {C : Kw} {Z : Addr → Prop} {H : Hp} {v : V} {d : D} {ds : List D} {vs : List V}
/-- what a dict holds at a key -/
theorem dget_ok : ∀ {ks : List Key} {vs : List V} {ds : List D} {k : Key}, ks.length = vs.length → DenAll C Z H vs ds →
    match dget ks ds k with
    | none => valV (ks.zip vs) k = none
    | some d => ∃ v, valV (ks.zip vs) k = some v ∧ Den C Z H v d
  | [], [], _, k, _, .nil => rfl
  | q :: ks, v :: vs, d :: ds, k, e, .cons h t => by
    have ih := dget_ok (ks := ks) (vs := vs) (ds := ds) (k := k) (by simpa using e) t
    unfold dget
    by_cases hq : q = k
    · subst hq
      rw [if_pos rfl]
      exact ⟨v, by rw [List.zip_cons_cons]; exact valV_pos rfl, h⟩
    · rw [if_neg hq]
      have e2 : valV ((q :: ks).zip (v :: vs)) k = valV (ks.zip vs) k := by
        rw [List.zip_cons_cons]
        unfold valV
        rw [List.find?_cons]
        simp [hq]
      rw [e2]
      exact ih
theorem Den.key {k : Key} (h : DenT C Z H v d) (e : d.key = some k) : v = kV k := by
  cases d <;> simp only [D.key] at e <;> try (cases e; done)
  · cases e; exact h.int
  · cases e; exact h.str
theorem eqV_ok {d e : D} {v w : V} {p q : PyData} (h1 : Den C Z H v d) (h2 : Den C Z H w e) (f1 : d.flat = true) (f2 : e.flat = true) (e1 : d.py = some p) (e2 : e.py = some q) : eqV v w = PyData.eqv p q ∧ flatV v = true ∧ flatV w = true := by
  cases h1 <;> (try (simp [D.flat] at f1; done)) <;> cases h2 <;> (try (simp [D.flat] at f2; done)) <;>
    (cases e1; cases e2; simp [eqV, flatV, PyData.eqv])
theorem anyV_ok {w : V} {e : D} {q : PyData} (h2 : Den C Z H w e) (f2 : e.flat = true) (e2 : e.py = some q) : ∀ {vs : List V} {ds : List D} {ps : List PyData}, DenAll C Z H vs ds → ds.all D.flat = true → D.pys ds = some ps →
    vs.any (fun y => eqV y w) = (ps.any fun z => PyData.eqv z q) ∧ vs.all flatV = true
  | _, _, _, .nil, _, e => by cases e; exact ⟨rfl, rfl⟩
  | _, _, _, .cons h t, f, e => by
    rw [List.all_cons, Bool.and_eq_true] at f
    rw [D.pys] at e
    obtain ⟨p, e1, e3⟩ := Option.bind_eq_some_iff.mp e
    obtain ⟨qs, e4, e5⟩ := Option.map_eq_some_iff.mp e3
    subst e5
    obtain ⟨a, b⟩ := anyV_ok h2 f2 e2 t f.2 e4
    obtain ⟨c1, c2, _⟩ := eqV_ok h h2 f.1 f2 e1 e2
    rw [List.any_cons, List.any_cons, List.all_cons, a, b, c1, c2]
    exact ⟨rfl, rfl⟩
theorem hasD_ok {xs : List D} {k : Bool} (h : hasD d xs = some k) : ∃ p ps, d.py = some p ∧ D.pys xs = some ps ∧ SeqAt.shaped p = true ∧ SeqAt.shaped (.list ps) = true ∧ k = ps.any fun z => PyData.eqv z p := by
  unfold hasD at h
  split at h
  · rename_i p ps e1 e2
    split at h
    · rename_i hs
      rw [Bool.and_eq_true] at hs
      cases h
      exact ⟨p, ps, e1, e2, hs.1, hs.2, rfl⟩
    · cases h
  · cases h
end
/-! a written dict -/
theorem isStr_det {v : Value} {k q : Str} (h : v.isStr k = true) : v.isStr q = decide (k = q) := by
  cases v <;> simp [Value.isStr] at h ⊢
  rw [h, Bool.eq_iff_iff]
  simp
theorem kd_find {C : Kw} {Z : Addr → Prop} {H : Hp} {q : Str} : ∀ {l : List DictEntry} {ks : List Str} {vs : List V} {ds : List D}, ks.length = l.length → vs.length = l.length →
    (∀ (i : Nat) e k v, l[i]? = some e → ks[i]? = some k → vs[i]? = some v → e.key.isStr k = true ∧ L2.RelV v e.val) → DenAll C Z H vs ds →
    (∃ e v d, l.find? (fun e => e.key.isStr q) = some e ∧ L2.RelV v e.val ∧ kget ks ds q = some d ∧ Den C Z H v d ∧ (ks.any fun k => decide (k = q)) = true) ∨
      (l.find? (fun e => e.key.isStr q) = none ∧ kget ks ds q = none ∧ (ks.any fun k => decide (k = q)) = false)
  | [], [], [], _, _, _, _, .nil => .inr ⟨rfl, rfl, rfl⟩
  | [], _ :: _, _, _, h, _, _, _ => by simp at h
  | [], [], _ :: _, _, _, h, _, _ => by simp at h
  | _ :: _, [], _, _, h, _, _, _ => by simp at h
  | _ :: _, _ :: _, [], _, _, h, _, _ => by simp at h
  | e :: l, k :: ks, v :: vs, _, h1, h2, h3, .cons (d := d) (ds := ds) hd ht => by
    obtain ⟨g1, g2⟩ := h3 0 e k v rfl rfl rfl
    have gq := isStr_det (q := q) g1
    by_cases hk : k = q
    · refine .inl ⟨e, v, d, ?_, g2, ?_, hd, ?_⟩
      · rw [List.find?_cons, gq, decide_eq_true hk]
      · simp [kget, hk]
      · simp [hk]
    · rcases kd_find (q := q) (l := l) (ks := ks) (vs := vs) (ds := ds) (by simpa using h1) (by simpa using h2) (fun i e' k' v' a1 a2 a3 => h3 (i + 1) e' k' v' (by simpa using a1) (by simpa using a2) (by simpa using a3)) ht with ⟨e', v', d', b1, b2, b3, b4, b5⟩ | ⟨b1, b2, b3⟩
      · refine .inl ⟨e', v', d', ?_, b2, ?_, b4, ?_⟩
        · rw [List.find?_cons, gq, decide_eq_false hk]; exact b1
        · simp [kget, hk, b3]
        · rw [List.any_cons, b5]; simp
      · refine .inr ⟨?_, ?_, ?_⟩
        · rw [List.find?_cons, gq, decide_eq_false hk]; exact b1
        · simp [kget, hk, b2]
        · rw [List.any_cons, b3]; simp [hk]
theorem kd_ns {C : Kw} {Z : Addr → Prop} {H : Hp} {a : Addr} {ks : List Str} {vs : List V} {ds : List D} {q : Str} (h : KDok C a ks vs) (hv : DenAll C Z H vs ds) :
    ∃ es n r, L2.KDict C.K C.w a es n ∧ PySem.W.nsIn C.K a q = some r ∧ r.isSome = (ks.any fun k => decide (k = q)) ∧ ∀ d, kget ks ds q = some d → ∃ u v, r = some u ∧ L2.RelV v u ∧ Den C Z H v d := by
  obtain ⟨es, n, K, l1, l2, h3⟩ := h.ex
  have nr : (es.toList.any fun x => x.refKey) = false := by
    rw [List.any_eq_false]
    intro e he
    obtain ⟨x, t, ek, _⟩ := PySem.W.KeysLit.all K.lit e he
    unfold DictEntry.refKey
    rw [ek]
    simp
  rcases kd_find (q := q) l1 l2 h3 hv with ⟨e, v, d, b1, b2, b3, b4, b5⟩ | ⟨b1, b2, b3⟩
  · refine ⟨es, n, some e.val, K, ?_, by rw [b5]; rfl, fun d' hd' => ?_⟩
    · unfold PySem.W.nsIn
      rw [K.at_]
      simp only [b1]
    · rw [b3] at hd'
      cases hd'
      exact ⟨_, v, rfl, b2, b4⟩
  · refine ⟨es, n, none, K, ?_, by rw [b3]; rfl, fun d' hd' => by rw [b2] at hd'; cases hd'⟩
    unfold PySem.W.nsIn
    rw [K.at_]
    simp only [b1, nr]
    rfl
theorem DenT.kd {C : Kw} {Z : Addr → Prop} {H : Hp} {v : V} {ks : List Str} {ds : List D} (h : DenT C Z H v (.kd ks ds)) : ∃ a vs, v = .ref a ∧ KDok C a ks vs ∧ DenAll C Z H vs ds := by
  rcases h with h | ⟨_, _, h⟩
  · cases h with
    | kd k t => exact ⟨_, _, rfl, k, t⟩
  · exact h.elim
section
variable {X : Cx} {cn : Nat → Addr} {k : Nat}
theorem op_in' (hr : Room k X.A) : OpR X (compareOp .In) (w2 (kw X cn) .isin) := by
  intro pins s σ H x y v u Q I rx ry h
  obtain ⟨Z, d, e, r, f, hz, hd, he, ho, q⟩ := h
  cases e <;> simp only [op2] at ho <;> try (cases ho; done)
  · rename_i xs
    obtain ⟨c, e1, e2⟩ := Option.map_eq_some_iff.mp ho
    cases e2
    obtain ⟨p, ps, h1, h2, h3, h4, rfl⟩ := hasD_ok e1
    exact op_inD (by have := hr.un; omega) pins s σ H x y v u Q I rx ry ⟨p, ps, hd.dp h1, he.dp (by rw [D.py, h2]; rfl), h3, h4, fin0 q (.bl _)⟩
  · rename_i xs
    split at ho
    · rename_i hf
      rw [Bool.and_eq_true] at hf
      obtain ⟨c, e1, e2⟩ := Option.map_eq_some_iff.mp ho
      cases e2
      obtain ⟨p, ps, h1, h2, h3, h4, rfl⟩ := hasD_ok e1
      obtain ⟨a, vs, rfl, ha, hv⟩ := he.sqt
      obtain ⟨c1, c2⟩ := anyV_ok (hd.flat hf.1) hf.1 h1 hv hf.2 h2
      have fx : flatV x = true := (eqV_ok (hd.flat hf.1) (hd.flat hf.1) hf.1 hf.1 h1 h1).2.1
      refine op_in_seq pins s σ H x _ v u Q I rx ry ⟨a, vs, rfl, .inr ha, fx, c2, ?_⟩
      rw [if_neg Bool.false_ne_true]
      exact fin0 q (by rw [inV, c1]; exact .bl _)
    · cases ho
  · rename_i ks vs
    obtain ⟨c, e1, e2⟩ := Option.map_eq_some_iff.mp ho
    cases e2
    obtain ⟨a, ws, rfl, ha, hl, hv⟩ := he.dk
    have g := dget_ok (k := c) hl hv
    have ey : x = kV c := Den.key hd e1
    subst ey
    cases ry
    have hg : DGet H a (kV c) (valV (ks.zip ws) c) := .inl ⟨_, c, ha, rfl, rfl⟩
    refine d_in (by have := hr.un; omega) I hg rx fun s' I' => ⟨.bl (valV (ks.zip ws) c).isSome, H, I', rfl, ?_⟩
    cases hd' : dget ks vs c with
    | none =>
      rw [hd'] at g q
      rw [g]
      exact fin0 q (.bl _)
    | some z =>
      rw [hd'] at g q
      obtain ⟨w', g1, _⟩ := g
      rw [g1]
      exact fin0 q (.bl _)
  · rename_i ks vs
    cases d <;> simp only at ho <;> try (cases ho; done)
    rename_i q0
    cases ho
    obtain ⟨a, ws, rfl, hk, hv⟩ := he.kd
    have := hd.str
    subst this
    obtain ⟨es, n, r, K, h1, h2, _⟩ := kd_ns (q := q0) hk hv
    exact op_in_kd K pins s σ H _ _ v u Q I rx ry ⟨q0, r, rfl, rfl, h1, by rw [h2]; exact fin0 q (.bl _)⟩
theorem op_notin' (hr : Room k X.A) : OpR X (compareOp .NotIn) (w2 (kw X cn) .notin) := by
  intro pins s σ H x y v u Q I rx ry h
  obtain ⟨Z, d, e, r, f, hz, hd, he, ho, q⟩ := h
  cases e <;> simp only [op2] at ho <;> try (cases ho; done)
  · rename_i xs
    obtain ⟨c, e1, e2⟩ := Option.map_eq_some_iff.mp ho
    cases e2
    obtain ⟨p, ps, h1, h2, h3, h4, rfl⟩ := hasD_ok e1
    exact op_notInD (by have := hr.un; omega) pins s σ H x y v u Q I rx ry ⟨p, ps, hd.dp h1, he.dp (by rw [D.py, h2]; rfl), h3, h4, fin0 q (.bl _)⟩
  · rename_i xs
    split at ho
    · rename_i hf
      rw [Bool.and_eq_true] at hf
      obtain ⟨c, e1, e2⟩ := Option.map_eq_some_iff.mp ho
      cases e2
      obtain ⟨p, ps, h1, h2, h3, h4, rfl⟩ := hasD_ok e1
      obtain ⟨a, vs, rfl, ha, hv⟩ := he.sqt
      obtain ⟨c1, c2⟩ := anyV_ok (hd.flat hf.1) hf.1 h1 hv hf.2 h2
      have fx : flatV x = true := (eqV_ok (hd.flat hf.1) (hd.flat hf.1) hf.1 hf.1 h1 h1).2.1
      refine op_notIn_seq pins s σ H x _ v u Q I rx ry ⟨a, vs, rfl, .inr ha, fx, c2, ?_⟩
      rw [if_pos rfl]
      exact fin0 q (by rw [inV, c1]; exact .bl _)
    · cases ho
  · rename_i ks vs
    obtain ⟨c, e1, e2⟩ := Option.map_eq_some_iff.mp ho
    cases e2
    obtain ⟨a, ws, rfl, ha, hl, hv⟩ := he.dk
    have g := dget_ok (k := c) hl hv
    have ey : x = kV c := Den.key hd e1
    subst ey
    cases ry
    have hg : DGet H a (kV c) (valV (ks.zip ws) c) := .inl ⟨_, c, ha, rfl, rfl⟩
    refine d_notIn (by have := hr.un; omega) I hg rx fun s' I' => ⟨.bl (!(valV (ks.zip ws) c).isSome), H, I', rfl, ?_⟩
    cases hd' : dget ks vs c with
    | none =>
      rw [hd'] at g q
      rw [g]
      exact fin0 q (.bl _)
    | some z =>
      rw [hd'] at g q
      obtain ⟨w', g1, _⟩ := g
      rw [g1]
      exact fin0 q (.bl _)
/-! a built-in of one argument -/
def o1 (C : Kw) (op : Op) : List V → Hp → VK → Prop := fun xs H Q => ∃ x, xs = [x] ∧ w1 C op x H Q
theorem cr_len : CallR X (.builtin "len") (o1 (kw X cn) .len) := by
  intro pins s σ H xs us Q I r h
  obtain ⟨x, rfl, Z, d, r', f, hz, hd, he, q⟩ := h
  cases d <;> simp only [op1] at he <;> try (cases he; done)
  · rename_i z
    split at he
    · rename_i hl
      cases he
      have := hd.str
      subst this
      exact call_len_str pins s σ H _ us Q I r ⟨z, rfl, most_le hl, fin0 q (.int _)⟩
    · cases he
  · rename_i ds
    cases he
    obtain ⟨a, vs, rfl, ha, hv⟩ := hd.lst
    exact call_len_seq pins s σ H _ us Q I r ⟨a, vs, rfl, .inl (.inl (.inl ha)), by rw [hv.length]; exact fin0 q (.int _)⟩
  · rename_i ds
    cases he
    obtain ⟨a, vs, rfl, ha, hv⟩ := hd.sqt
    exact call_len_seq pins s σ H _ us Q I r ⟨a, vs, rfl, .inr ha, by rw [hv.length]; exact fin0 q (.int _)⟩
theorem cr_abs : CallR X (.builtin "abs") (o1 (kw X cn) .abs) := by
  intro pins s σ H xs us Q I r h
  obtain ⟨x, rfl, Z, d, r', f, hz, hd, he, q⟩ := h
  cases d <;> simp only [op1] at he <;> try (cases he; done)
  rename_i i
  cases he
  have := hd.int
  subst this
  exact call_abs pins s σ H _ us Q I r ⟨i, rfl, fin0 q (.int _)⟩
theorem cr_int : CallR X (.type "int") (o1 (kw X cn) .int) := by
  intro pins s σ H xs us Q I r h
  obtain ⟨x, rfl, Z, d, r', f, hz, hd, he, q⟩ := h
  cases d <;> simp only [op1] at he <;> try (cases he; done)
  · rename_i b
    cases he
    have := hd.bl
    subst this
    exact call_int1 pins s σ H _ us Q I r (.inr ⟨b, rfl, fin0 q (.int _)⟩)
  · rename_i i
    cases he
    have := hd.int
    subst this
    exact call_int1 pins s σ H _ us Q I r (.inl ⟨i, rfl, fin0 q (.int _)⟩)
theorem den_signs {C : Kw} {Z : Addr → Prop} {H : Hp} : ∀ {cs : List Nat}, DenAll C Z H (cs.map fun c => V.str ⟨#[c]⟩) (cs.map fun c => D.str ⟨#[c]⟩)
  | [] => .nil
  | _ :: _ => .cons (.str _) den_signs
theorem vals_signs : ∀ (l : List Nat) (its : List Value), its.length = l.length → (∀ (j : Nat) (v : Value), its[j]? = some v → ∃ c u, l[j]? = some c ∧ v = Value.str ⟨#[c]⟩ u) → Vals (l.map fun c => V.str ⟨#[c]⟩) its
  | [], [], _, _ => .nil
  | [], _ :: _, h, _ => by simp at h
  | _ :: _, [], h, _ => by simp at h
  | c :: l, v :: its, h, hj => by
    obtain ⟨c', u, e1, e2⟩ := hj 0 v rfl
    cases e1
    exact .cons ⟨u, e2⟩ (vals_signs l its (by simpa using h) fun j w hw => by simpa using hj (j + 1) w (by simpa using hw))
theorem cr_listS (hc : X.calm = true) : CallR X (.type "list") (fun xs H Q => ∃ z : Str, xs = [.str z] ∧ z.length ≤ most ∧ ∀ l, H l = none → Q (.ref l) (upd H l (.lst (z.cps.toList.map fun c => V.str ⟨#[c]⟩)))) := by
  intro pins s σ H xs us Q I r h
  obtain ⟨z, rfl, hl, q⟩ := h
  obtain ⟨u, rfl, rx⟩ := vals1 r
  obtain ⟨t, rfl⟩ := rx
  refine call_list_str (I.ok.hd hc) z t (hn := most_le hl) fun h' tk acc' c' kp e hacc => ?_
  have hv : Vals (z.cps.toList.map fun c => V.str ⟨#[c]⟩) acc'.toList := by
    refine vals_signs _ _ (by simpa using hacc.1) fun j v hv => ?_
    obtain ⟨c, u, e1, e2⟩ := hacc.2 j v (by simpa using hv)
    exact ⟨c, u, by simpa using e1, e2⟩
  exact ⟨.ref s.heap.objs.size, _, I.laid (t' := tk) kp (Nat.le_refl _) (show ObjOk X.prog X.w _ h' _ (.lst _) from ⟨by rw [List.length_map]; exact most_le hl, acc'.toList, c', hv, e⟩), rfl, q _ (I.hok.fresh (Nat.le_refl _))⟩
theorem cr_list (hc : X.calm = true) : CallR X (.type "list") (o1 (kw X cn) .list) := by
  intro pins s σ H xs us Q I r h
  obtain ⟨x, rfl, Z, d, r', f, hz, hd, he, q⟩ := h
  cases d <;> simp only [op1] at he <;> try (cases he; done)
  · rename_i z
    split at he
    · rename_i hl
      cases he
      have e : x = .str z := hd.str
      subst e
      exact cr_listS hc pins s σ H _ us Q I r ⟨z, rfl, hl, fun p n => q _ _ (Ext.new n) (newl n den_signs)⟩
    · cases he
  · rename_i ds
    cases he
    obtain ⟨a, vs, rfl, ha, hv⟩ := hd.lst
    exact call_list_of pins s σ H _ us Q I r ⟨a, vs, rfl, .inl (.inl (.inl ha)), fun p n => q _ _ (Ext.new n) (newl n hv)⟩
  · rename_i ds
    cases he
    obtain ⟨a, vs, rfl, ha, hv⟩ := hd.sqt
    exact call_list_of pins s σ H _ us Q I r ⟨a, vs, rfl, .inr ha, fun p n => q _ _ (Ext.new n) (newl n hv)⟩
theorem cr_tuple : CallR X (.type "tuple") (o1 (kw X cn) .tup) := by
  intro pins s σ H xs us Q I r h
  obtain ⟨x, rfl, Z, d, r', f, hz, hd, he, q⟩ := h
  cases d <;> simp only [op1] at he <;> try (cases he; done)
  · rename_i ds
    cases he
    obtain ⟨a, vs, rfl, ha, hv⟩ := hd.lst
    exact call_tuple_of pins s σ H _ us Q I r ⟨a, vs, rfl, .inl ⟨.inl (.inl ha), fun p n => q _ _ (Ext.new n) (newt hz n hv)⟩⟩
  · rename_i ds
    cases he
    obtain ⟨a, vs, rfl, ha, hv⟩ := hd.sqt
    exact call_tuple_of pins s σ H _ us Q I r ⟨a, vs, rfl, .inr ⟨ha, fin0 q hd.tup⟩⟩
/-- a tracked dict of flat values, as it is read -/
theorem reads_flat {C : Kw} {Z : Addr → Prop} {H : Hp} {h : Heap} {v : V} {d : D} {p : PyData} {u : Value} (hd : Den C Z H v d) (f : d.flat = true) (e : d.py = some p) (r : RelV v u) : Reads h u p [] := by
  cases hd <;> try (cases f; done)
  · cases e
    have e2 : u = Value.none := r
    subst e2
    exact .none
  · cases e
    rename_i b
    have e2 : u = Value.bool b := r
    subst e2
    exact .bool b
  · cases e
    obtain ⟨t, rfl⟩ := r
    exact .int _ t
  · cases e
    obtain ⟨t, rfl⟩ := r
    exact .str _ t
theorem reads_pairs {C : Kw} {Z : Addr → Prop} {H : Hp} {h : Heap} {P : Program} {w : World} : ∀ {ks : List Key} {vs : List V} {ds : List D} {ps : List PyData} {xs : List (Key × Value)} {es : List DictEntry},
    KV (ks.zip vs) xs → Pairs (mixKind P w) es xs → ks.length = vs.length → DenAll C Z H vs ds → ds.all D.flat = true → D.pys ds = some ps →
    ReadsAll h (es.map (·.key)) (((ks.map keyPy).zip ps).map (·.1)) [] ∧ ReadsAll h (es.map (·.val)) (((ks.map keyPy).zip ps).map (·.2)) []
  | [], [], _, ps, xs, es, kv, hp, _, .nil, _, e => by
    cases kv
    cases hp
    cases e
    exact ⟨.nil, .nil⟩
  | [], _ :: _, _, _, _, _, _, _, l, _, _, _ => by simp at l
  | _ :: _, [], _, _, _, _, _, _, l, _, _, _ => by simp at l
  | k :: ks, v :: vs, d :: ds, ps, xs, es, kv, hp, l, .cons hd ht, f, e => by
    rw [List.zip_cons_cons] at kv
    cases kv with
    | cons q1 q2 =>
      rename_i q qs
      obtain ⟨q3, q4⟩ := q1
      cases hp with
      | cons r1 r2 r3 =>
        rw [List.all_cons, Bool.and_eq_true] at f
        rw [D.pys] at e
        obtain ⟨p, e1, e2⟩ := Option.bind_eq_some_iff.mp e
        obtain ⟨ps', e3, rfl⟩ := Option.map_eq_some_iff.mp e2
        obtain ⟨a1, a2⟩ := reads_pairs (h := h) q2 r3 (by simpa using l) ht f.2 e3
        have q3' : k = q.1 := q3
        rw [← q3'] at r1
        refine ⟨?_, ?_⟩
        · rw [List.map_cons, List.map_cons, List.zip_cons_cons, List.map_cons]
          refine ReadsAll.cons (as := []) ?_ a1
          rcases keyIs_shape r1 with ⟨i, t, rfl, e⟩ | ⟨x, t, rfl, e⟩
          · rw [e]; exact .int i t
          · rw [e]; exact .str x t
        · rw [List.map_cons, List.map_cons, List.zip_cons_cons, List.map_cons]
          refine ReadsAll.cons (as := []) ?_ a2
          rw [r2]
          exact reads_flat hd f.1 e1 q4
theorem cr_repr (hr : Room k X.A) (hg : X.A.guards = some []) : CallR X (.builtin "repr") (o1 (kw X cn) .repr) := by
  intro pins s σ H xs us Q I r h
  obtain ⟨x, rfl, Z, d, r', f, hz, hd, he, q⟩ := h
  by_cases hk : ∃ ks vs, d = .dk ks vs
  · obtain ⟨ks, ds, rfl⟩ := hk
    simp only [op1, reprD] at he
    split at he
    · rename_i p ep
      split at he
      · rename_i ho
        cases he
        simp only [okReprK, Bool.and_eq_true, decide_eq_true_eq] at ho
        unfold dkPy at ep
        split at ep
        · rename_i hc
          rw [Bool.and_eq_true, decide_eq_true_eq] at hc
          obtain ⟨ps, e1, rfl⟩ := Option.map_eq_some_iff.mp ep
          obtain ⟨u, rfl, rx⟩ := vals1 r
          obtain ⟨a, vs, rfl, ha, hl, hv⟩ := hd.dk
          obtain ⟨_, na, ys, kv, o, es, n, g1, g2, g3, _, g4, _⟩ := dk_rd I.hok ha
          obtain ⟨b1, b2⟩ := reads_pairs (h := s.heap) kv g4 hl hv hc.1 e1
          have rd : Reads s.heap (.ref a) (.dict ((ks.map keyPy).zip ps)) [a] := Reads.dict g1 g2.1 g3 b1 b2
          have e2 : u = Value.ref a := rx
          subst e2
          have hu : X.A.units + ((PyData.dict ((ks.map keyPy).zip ps)).depth + 1) < cLine := by have := hr.un; omega
          refine repr_of_reads' rd ho.1.1 (fun _ z => ?_) hg hu (fun _ _ e => e) (fun h' u tk hk => ?_) (most_le ho.2)
          · rw [List.mem_singleton] at z
            rw [← z] at na
            simp at na
          · exact ⟨.str _, H, I.kept hk, ⟨u, rfl⟩, fin0 q (.str _)⟩
        · cases ep
      · cases he
    · cases he
  have e0 : op1 .repr d = match d.py with
    | some p => if okRepr p then some (D.str p.shown, false) else none
    | none => none := by
    show reprD d = _
    cases d <;> first
      | rfl
      | exact absurd ⟨_, _, rfl⟩ hk
  rw [e0] at he
  split at he
  · rename_i p ep
    split at he
    · rename_i ho
      cases he
      simp only [okRepr, Bool.and_eq_true, Bool.not_eq_true', decide_eq_true_eq] at ho
      obtain ⟨u, rfl, rx⟩ := vals1 r
      have dp := hd.dp ep
      obtain ⟨as, rd⟩ := Dp.reads I p x u dp rx
      have hu : X.A.units + (p.depth + 1) < cLine := by have := hr.un; omega
      have go : ∀ a, u = Value.ref a → wpAny (model X.prog X.w) X.A (call (.builtin "repr") [u]) (EP X pins σ Q) X.xe s := by
        rintro a rfl
        refine repr_of_reads' rd ho.1.1.1 (fun z => by rw [ho.1.1.2] at z; cases z) hg hu (fun _ _ e => e) (fun h' u tk hk => ?_) (most_le ho.2)
        exact ⟨.str p.shown, H, I.kept hk, ⟨u, rfl⟩, fin0 q (.str _)⟩
      cases rd with
      | list h1 => exact go _ rfl
      | tuple h1 => exact go _ rfl
      | dict h1 => exact go _ rfl
      | none => exact PySem.P.repr_of_none ⟨.str _, H, I.tok _, ⟨_, rfl⟩, fin0 q (.str _)⟩
      | bool b => exact PySem.P.repr_of_bool ⟨.str _, H, I.tok _, ⟨_, rfl⟩, fin0 q (.str _)⟩
      | int i t => exact PySem.P.repr_of_int (of_decide_eq_true ho.1.1.1) ⟨.str _, H, I.tok _, ⟨_, rfl⟩, fin0 q (.str _)⟩
      | str z t => exact PySem.P.repr_of_str ⟨.str _, H, I.tok _, ⟨_, rfl⟩, fin0 q (.str _)⟩ (most_le ho.2)
    · cases he
  · cases he
/-! places -/
theorem atD_ok {C : Kw} {Z : Addr → Prop} {H : Hp} {vs : List V} {ds : List D} {i : Int} {d : D} (h : DenAll C Z H vs ds) (e : atD ds i = some d) : ∃ v, atI vs i = some v ∧ Den C Z H v d := by
  unfold atD atI at e
  obtain ⟨j, e1, e2⟩ := Option.bind_eq_some_iff.mp e
  obtain ⟨v, h1, h2⟩ := h.get e2
  refine ⟨v, ?_, h2⟩
  unfold atI
  rw [h.length, e1]
  exact h1
theorem ix' (hr : Room k X.A) : IxR X (w2 (kw X cn) .idx) := by
  intro value slice pins s σ H x y v u Q I rx ry h hs
  obtain ⟨Z, d, e, r, f, hz, hd, he, ho, q⟩ := h
  cases d <;> simp only [op2] at ho <;> try (cases ho; done)
  · rename_i z
    cases e <;> simp only [op2] at ho <;> try (cases ho; done)
    rename_i i
    split at ho
    · rename_i hl
      obtain ⟨c, e1, e2⟩ := Option.map_eq_some_iff.mp ho
      cases e2
      have := hd.str
      subst this
      have := he.int
      subst this
      exact ix_str value slice pins s σ H _ _ v u Q I rx ry ⟨z, i, c, rfl, rfl, most_le hl, e1, fin0 q (.str _)⟩ hs
    · cases ho
  · rename_i ds
    cases e <;> simp only [op2] at ho <;> try (cases ho; done)
    rename_i i
    obtain ⟨c, e1, e2⟩ := Option.map_eq_some_iff.mp ho
    cases e2
    have := he.int
    subst this
    obtain ⟨a, vs, rfl, ha, hv⟩ := hd.lst
    obtain ⟨w', h1, h2⟩ := atD_ok hv e1
    exact ix_list value slice pins s σ H _ _ v u Q I rx ry ⟨a, vs, i, w', rfl, rfl, .inl (.inl ha), h1, fin0 q h2⟩ hs
  · rename_i ds
    cases e <;> simp only [op2] at ho <;> try (cases ho; done)
    rename_i i
    obtain ⟨c, e1, e2⟩ := Option.map_eq_some_iff.mp ho
    cases e2
    have := he.int
    subst this
    obtain ⟨a, vs, rfl, ha, hv⟩ := hd.sqt
    obtain ⟨w', h1, h2⟩ := atD_ok hv e1
    exact ix_tup value slice pins s σ H _ _ v u Q I rx ry ⟨a, vs, i, w', rfl, rfl, ha, h1, fin0 q h2⟩ hs
  · rename_i ks ds
    obtain ⟨c, e1, e2⟩ := Option.bind_eq_some_iff.mp ho
    obtain ⟨z, e3, e4⟩ := Option.map_eq_some_iff.mp e2
    cases e4
    obtain ⟨a, ws, rfl, ha, hl, hv⟩ := hd.dk
    have g := dget_ok (k := c) hl hv
    rw [e3] at g
    obtain ⟨w', g1, g2⟩ := g
    have ey : y = kV c := Den.key he e1
    subst ey
    cases rx
    have hg : DGet H a (kV c) (some w') := .inl ⟨_, c, ha, rfl, g1.symm⟩
    exact tail_any (dict_typeIs I hg) PySem.F.slot_dict_getitem.lookup (d_getItem (by have := hr.un; omega) I hg ry fun u' s' I' ru => ⟨w', H, I', ru, fin0 q g2⟩) hs
  · rename_i ks ds
    cases e <;> simp only at ho <;> try (cases ho; done)
    rename_i q0
    obtain ⟨c, e1, e2⟩ := Option.map_eq_some_iff.mp ho
    cases e2
    obtain ⟨a, ws, rfl, hk, hv⟩ := hd.kd
    have := he.str
    subst this
    obtain ⟨es, n, r, K, h1, h2, h3⟩ := kd_ns (q := q0) hk hv
    obtain ⟨u0, v0, hr0, rv, dv⟩ := h3 _ e1
    subst hr0
    exact ix_kdict value slice pins s σ H _ _ v u Q I rx ry ⟨a, q0, v0, rfl, rfl, ⟨es, n, u0, K.at_, K.lit, h1, rv⟩, fin0 q dv⟩ hs
end
end BK

set_option Elab.async false
set_option linter.all false
set_option maxRecDepth 100000
set_option maxHeartbeats 2000000
/-! BK4: what a reckoning promises of the machine's steps; expressions, one construct after another. -/
namespace BK
open PySem PySem.Spec PyProof.Rows L2

theorem _root_.L2.PE.imp {X : Cx} {e : Expr} {t t' : TE} (h : PE X e t) (i : ∀ σ H Q, t' σ H Q → t σ H Q) : PE X e t' := ⟨fun pins s σ H Q I w => h.run pins s σ H Q I (i σ H Q w)⟩
theorem _root_.L2.PT.imp {X : Cx} {e : Expr} {t t' : TT} (h : PT X e t) (i : ∀ σ H Q, t' σ H Q → t σ H Q) : PT X e t' := ⟨fun pins s σ H Q I w => h.run pins s σ H Q I (i σ H Q w)⟩
theorem _root_.L2.PA.imp {X : Cx} {e : List Expr} {t t' : TA} (h : PA X e t) (i : ∀ σ H Q, t' σ H Q → t σ H Q) : PA X e t' := ⟨fun pos pins s σ H Q I w => h.run pos pins s σ H Q I (i σ H Q w)⟩

/-! ### names keep their marks -/
structure Pn (ρ ρ' : Rho) : Prop where
  len : ρ'.length = ρ.length
  pin : ∀ k : Nat, (ρ'[k]?).map Sl.pin = (ρ[k]?).map Sl.pin
theorem Pn.refl {ρ : Rho} : Pn ρ ρ := ⟨rfl, fun _ => rfl⟩
theorem Pn.trans {ρ ρ1 ρ2 : Rho} (a : Pn ρ ρ1) (b : Pn ρ1 ρ2) : Pn ρ ρ2 := ⟨b.len.trans a.len, fun k => (b.pin k).trans (a.pin k)⟩
theorem Pn.set {ρ : Rho} {i : Nat} {s t : Sl} (e : ρ[i]? = some s) (p : t.pin = s.pin) : Pn ρ (ρ.set i t) := by
  refine ⟨List.length_set, fun k => ?_⟩
  by_cases h : i = k
  · subst h
    rw [List.getElem?_set_self (List.getElem?_eq_some_iff.mp e).1, e]
    simp [p]
  · rw [List.getElem?_set_ne h]

/-! ### a state of names changes at one name -/
section
variable {C : Kw} {B B' : Addr → Prop} {o o' : Ow} {ρ : Rho} {σ σ' : L2.St} {H H' : Hp} {i : Nat} {s : Sl}
theorem Ho.chg (h : Ho C B o ρ σ H) (hi : i < ρ.length) (kz : ∀ a u, ¬ Zo B o a → H a = some u → H' a = some u ∧ ¬ Zo B' o' a) (ko : ∀ j a, j ≠ i → o j = some a → H' a = H a)
    (ho : ∀ j, j ≠ i → o' j = o j) (hn : SlOk C (Zo B' o') H' (o' i) (σ'[i]?) s) (hσ : ∀ j, j ≠ i → σ'[j]? = σ[j]?) (hl : σ'.length = σ.length)
    (inj : ∀ j a, j ≠ i → o' i = some a → o j ≠ some a) (nb : ∀ j a, o' j = some a → ¬ B' a) (bd : ∀ a, B' a → H' a ≠ none) : Ho C B' o' (ρ.set i s) σ' H' where
  sl := fun j t e => by
    by_cases hj : i = j
    · subst hj
      rw [List.getElem?_set_self hi] at e
      cases e
      exact hn
    · rw [List.getElem?_set_ne hj] at e
      rw [ho j (Ne.symm hj), hσ j (Ne.symm hj)]
      exact (h.sl j t e).mono kz fun a q => ko j a (Ne.symm hj) q
  out := fun j e => by
    have hj : j ≠ i := fun z => by
      subst z
      rw [List.getElem?_set_self hi] at e
      cases e
    rw [List.getElem?_set_ne (Ne.symm hj)] at e
    rw [ho j hj]
    exact h.out j e
  inj := fun j k a e1 e2 => by
    by_cases hj : j = i
    · subst hj
      by_cases hk : k = j
      · exact hk.symm
      · rw [ho k hk] at e2
        exact absurd e2 (inj k a hk e1)
    · by_cases hk : k = i
      · subst hk
        rw [ho j hj] at e1
        exact absurd e1 (inj j a hj e2)
      · rw [ho j hj] at e1
        rw [ho k hk] at e2
        exact h.inj j k a e1 e2
  nb := nb
  bd := bd
  len := by rw [List.length_set, hl]; exact h.len
def Ow.off (o : Ow) (i : Nat) : Ow := fun j => if j = i then none else o j
theorem Ow.off_at {o : Ow} {i : Nat} : Ow.off o i i = none := if_pos rfl
theorem Ow.off_ne {o : Ow} {i j : Nat} (h : j ≠ i) : Ow.off o i j = o j := if_neg h
theorem Ow.off_some {o : Ow} {i j : Nat} {a : Addr} (h : Ow.off o i j = some a) : o j = some a ∧ j ≠ i := by
  by_cases e : j = i
  · subst e
    rw [Ow.off_at] at h; cases h
  · rw [Ow.off_ne e] at h
    exact ⟨h, e⟩
theorem Zo.off {o : Ow} {i : Nat} : ∀ a, Zo B (Ow.off o i) a → Zo B o a := fun a z => z.elim .inl fun ⟨j, e⟩ => .inr ⟨j, (Ow.off_some e).1⟩
/-- what a name owns is handed on -/
theorem Ho.release {p : Bool} {d : D} (h : Ho C B o ρ σ H) (e : ρ[i]? = some (.ow p d)) :
    ∃ a, o i = some a ∧ σ[i]? = some (some (.ref a)) ∧ Ho C B (Ow.off o i) (ρ.set i (.sh p d)) σ H ∧ Den C (Zo B (Ow.off o i)) H (.ref a) d ∧ StepE H o H (Ow.off o i) := by
  obtain ⟨a, e1, e2, e3⟩ := h.sl i _ e
  have hi := (List.getElem?_eq_some_iff.mp e).1
  have na : ¬ Zo B (Ow.off o i) a := fun z => by
    rcases z with z | ⟨j, z⟩
    · exact h.nb i a e1 z
    · obtain ⟨z1, z2⟩ := Ow.off_some z
      exact z2 (h.inj j i a z1 e1)
  have den : Den C (Zo B (Ow.off o i)) H (.ref a) d := e3.den Zo.off na
  refine ⟨a, e1, e2, h.chg hi (fun b u n q => ⟨q, fun z => n (Zo.off b z)⟩) (fun _ _ _ _ => rfl) (fun j hj => Ow.off_ne hj) ?_ (fun _ _ => rfl) rfl (fun j b _ z => ?_) (fun j b z => h.nb j b (Ow.off_some z).1) h.bd, den, ⟨fun _ _ _ q => q, fun _ q => q, fun j b z => (Ow.off_some z).1⟩⟩
  · rw [Ow.off_at]
    exact ⟨rfl, _, e2, den⟩
  · rw [Ow.off_at] at z; cases z
/-- what a name owns is changed -/
theorem Ho.change {p : Bool} {d d' : D} {a : Addr} (h : Ho C B o ρ σ H) (e : ρ[i]? = some (.ow p d)) (ea : o i = some a) (kp : ∀ b, b ≠ a → H' b = H b) (hd : OwnAt C (Zo B o) H' a d') :
    Ho C B o (ρ.set i (.ow p d')) σ H' ∧ StepE H o H' o := by
  obtain ⟨a', e1, e2, e3⟩ := h.sl i _ e
  rw [ea] at e1
  cases e1
  have hi := (List.getElem?_eq_some_iff.mp e).1
  have za : Zo B o a := .inr ⟨i, ea⟩
  have dm : ∀ b, H b ≠ none → H' b ≠ none := fun b n => by
    by_cases hb : b = a
    · subst hb
      exact hd.some
    · rw [kp b hb]; exact n
  refine ⟨h.chg hi (fun b u n q => ⟨(kp b fun z => n (by rw [z]; exact za)).trans q, n⟩) (fun j b hj q => kp b fun z => hj (h.inj j i b q (by rw [z]; exact ea))) (fun _ _ => rfl) ⟨a, ea, e2, hd⟩ (fun _ _ => rfl) rfl (fun j b hj z q => hj (h.inj j i b q z)) h.nb fun b z => dm b (h.bd b z),
    ⟨fun b u n q => (kp b fun z => n (by rw [z]; exact ⟨i, ea⟩)).trans q, dm, fun _ _ q => q⟩⟩
end

/-! ### results -/
def Res (C : Kw) (B : Addr → Prop) (o : Ow) (ρ : Rho) (σ : L2.St) (H0 H : Hp) (v : V) (d : D) : Bool → Prop
  | false => Ho C B o ρ σ H ∧ Den C (Zo B o) H v d
  | true => ∃ r, v = .ref r ∧ H0 r = none ∧ Ho C (fun a => B a ∨ a = r) o ρ σ H ∧ OwnAt C (Zo (fun a => B a ∨ a = r) o) H r d
theorem Res.shared {C : Kw} {B : Addr → Prop} {o : Ow} {ρ : Rho} {σ : L2.St} {H0 H : Hp} {v : V} {d : D} (bd : ∀ a, B a → H0 a ≠ none) : ∀ {f : Bool}, Res C B o ρ σ H0 H v d f → Ho C B o ρ σ H ∧ Den C (Zo B o) H v d
  | false, h => h
  | true, ⟨r, e, n, h, w⟩ => by
    subst e
    refine ⟨h.show fun a z => .inl z, w.den (fun a z => z.elim (fun y => .inl (.inl y)) .inr) fun z => ?_⟩
    rcases z with z | ⟨i, z⟩
    · exact bd r z n
    · exact h.nb i r z (.inr rfl)
/-- an expression that comes to x's answer -/
def tX (C : Kw) (x : Rho → Option (D × Bool × Rho)) : TE := fun σ H Q => ∃ B o ρ r, Ho C B o ρ σ H ∧ x ρ = some r ∧
  ∀ v H' o', StepE H o H' o' → Pn ρ r.2.2 → Res C B o' r.2.2 σ H H' v r.1 r.2.1 → Q v H'
/-- an operand -/
def AdOk (C : Kw) (B : Addr → Prop) (o : Ow) (H : Hp) (v : V) : Ad → Prop
  | .vl d => Den C (Zo B o) H v d
  | .pk i => ∃ a, v = .ref a ∧ ∀ b, o i = some b → b = a
def tP (C : Kw) (x : Rho → Option (Ad × Rho)) : TE := fun σ H Q => ∃ B o ρ r, Ho C B o ρ σ H ∧ x ρ = some r ∧
  ∀ v H' o', StepE H o H' o' → Pn ρ r.2 → Ho C B o' r.2 σ H' → AdOk C B o' H' v r.1 → Q v H'
def tB (C : Kw) (x : Rho → Option (Bool × Rho)) : TT := fun σ H Q => ∃ B o ρ r, Ho C B o ρ σ H ∧ x ρ = some r ∧
  ∀ H' o', StepE H o H' o' → Pn ρ r.2 → Ho C B o' r.2 σ H' → Q r.1 H'
def tEs (C : Kw) (x : Rho → Option (List D × Rho)) : TA := fun σ H Q => ∃ B o ρ r, Ho C B o ρ σ H ∧ x ρ = some r ∧
  ∀ vs H' o', StepE H o H' o' → Pn ρ r.2 → Ho C B o' r.2 σ H' → DenAll C (Zo B o') H' vs r.1 → Q vs H'
def AdsOk (C : Kw) (B : Addr → Prop) (o : Ow) (H : Hp) : List V → List Ad → Prop
  | [], [] => True
  | v :: vs, a :: as => AdOk C B o H v a ∧ AdsOk C B o H vs as
  | _, _ => False
def tPs (C : Kw) (x : Rho → Option (List Ad × Rho)) : TA := fun σ H Q => ∃ B o ρ r, Ho C B o ρ σ H ∧ x ρ = some r ∧
  ∀ vs H' o', StepE H o H' o' → Pn ρ r.2 → Ho C B o' r.2 σ H' → AdsOk C B o' H' vs r.1 → Q vs H'
section
variable {C : Kw} {B : Addr → Prop} {o o' : Ow} {ρ : Rho} {σ : L2.St} {H H' : Hp} {v : V}
theorem AdOk.step {a : Ad} (s : StepE H o H' o') (h : AdOk C B o H v a) : AdOk C B o' H' v a := by
  cases a with
  | vl d => exact Den.step s.step h
  | pk i =>
    obtain ⟨b, e, u⟩ := h
    exact ⟨b, e, fun c q => u c (s.own i c q)⟩
theorem AdsOk.step (s : StepE H o H' o') : ∀ {vs : List V} {as : List Ad}, AdsOk C B o H vs as → AdsOk C B o' H' vs as
  | [], [], h => h
  | _ :: _, _ :: _, ⟨a, b⟩ => ⟨a.step s, AdsOk.step s b⟩
/-- an operand's datum, where the operation is done -/
theorem AdOk.den {a : Ad} {d : D} (h : AdOk C B o H v a) (ho : Ho C B o ρ σ H) (e : rs ρ a = some d) : DenT C (Zo B o) H v d := by
  cases a with
  | vl x =>
    cases e
    exact .inl h
  | pk i =>
    obtain ⟨b, ev, u⟩ := h
    simp only [rs] at e
    split at e
    · rename_i p x q
      cases e
      obtain ⟨c, e1, e2, e3⟩ := ho.sl i _ q
      have := u c e1
      subst this
      exact .inr ⟨c, ev, e3⟩
    · cases e
/-- an operation's answer, as an expression's -/
theorem res_of {r : D} {f : Bool} (ho : Ho C B o ρ σ H) (x : Ext H H') (h : ResZ C (Zo B o) H H' v r f) {H0 : Hp} (h0 : ∀ p, H p = none → H0 p = none) : Res C B o ρ σ H0 H' v r f := by
  cases f with
  | false => exact ⟨ho.ext x, h⟩
  | true =>
    obtain ⟨p, e, n, w⟩ := h
    have n1 : H' p ≠ none := by
      cases r <;> first
        | exact w.elim
        | (obtain ⟨vs, q, _⟩ := w; intro z; rw [z] at q; cases q)
        | (obtain ⟨dx, vs, q, _⟩ := w; intro z; rw [z] at q; cases q)
    refine ⟨p, e, h0 p n, ho.hide x n n1, ?_⟩
    have kz : ∀ a u, ¬ Zo B o a → H a = some u → H' a = some u ∧ ¬ Zo (fun b => B b ∨ b = p) o a := fun a u nz q => ⟨x a u q, fun z => by
      rcases z with (z | z) | z
      · exact nz (.inl z)
      · rw [z, n] at q; cases q
      · exact nz (.inr z)⟩
    cases r <;> first
      | exact w.elim
      | (obtain ⟨vs, q, w⟩ := w; exact ⟨vs, q, w.mono kz⟩)
      | (obtain ⟨vs, q, l, w⟩ := w; exact ⟨vs, q, l, w.mono kz⟩)
      | (obtain ⟨dx, vs, q, l, w⟩ := w; exact ⟨dx, vs, q, l, w.mono kz⟩)
theorem StepE.back (s : StepE H o H' o') : ∀ p, H' p = none → H p = none := fun p n => by
  cases z : H p with
  | none => rfl
  | some u => exact absurd n (s.dom p (by rw [z]; intro y; cases y))
end

/-! ### expressions -/
section
variable {X : Cx} {cn : Nat → Addr} {P : Pr} {cf : Call} {e a b c : Expr} {x y z : E} {pos : Pos} {k : Nat}
theorem bind_some {α β : Type} {m : Option α} {f : α → Option β} {r : β} (h : m.bind f = some r) : ∃ q, m = some q ∧ f q = some r := Option.bind_eq_some_iff.mp h
/-- an expression, as an operand -/
theorem pe_opn (h : PE X e (tX (kw X cn) fun ρ => ev P cf ρ x)) (hv : ∀ i, x = .var i → PE X e (tVar i)) : PE X e (tP (kw X cn) fun ρ => opn ρ x (ev P cf ρ x)) := by
  have gen : (∀ ρ, opn ρ x (ev P cf ρ x) = (ev P cf ρ x).map fun q => (Ad.vl q.1, q.2.2)) → PE X e (tP (kw X cn) fun ρ => opn ρ x (ev P cf ρ x)) := fun g => by
    refine h.imp fun σ H Q ⟨B, o, ρ, r, ho, he, q⟩ => ?_
    have he : opn ρ x (ev P cf ρ x) = some r := he
    rw [g] at he
    obtain ⟨t, e1, e2⟩ := Option.map_eq_some_iff.mp he
    cases e2
    refine ⟨B, o, ρ, t, ho, e1, fun v H' o' s pn rs => ?_⟩
    obtain ⟨h1, h2⟩ := rs.shared ho.bd
    exact q v H' o' s pn h1 h2
  cases x with
  | var i =>
    refine (hv i rfl).imp fun σ H Q ⟨B, o, ρ, r, ho, he, q⟩ => ?_
    simp only [opn] at he
    split at he
    · rename_i p d e1
      cases he
      obtain ⟨e2, v, e3, e4⟩ := ho.sl i _ e1
      exact ⟨v, e3, q v H o .refl .refl ho e4⟩
    · rename_i p d e1
      cases he
      obtain ⟨a, e2, e3, e4⟩ := ho.sl i _ e1
      refine ⟨_, e3, q _ H o .refl .refl ho ⟨a, rfl, fun b q => ?_⟩⟩
      rw [e2] at q
      exact (Option.some.inj q).symm
    · cases he
  | _ => exact gen fun ρ => rfl
theorem px_var {i : Nat} (h : PE X e (tVar i)) : PE X e (tX (kw X cn) fun ρ => ev P cf ρ (.var i)) := by
  refine h.imp fun σ H Q ⟨B, o, ρ, r, ho, he, q⟩ => ?_
  simp only [ev] at he
  split at he
  · rename_i p d e1
    cases he
    obtain ⟨e2, v, e3, e4⟩ := ho.sl i _ e1
    exact ⟨v, e3, q v H o .refl .refl ⟨ho, e4⟩⟩
  · rename_i p d e1
    cases he
    obtain ⟨a, e2, e3, h1, h2, h3⟩ := ho.release e1
    exact ⟨_, e3, q _ H _ h3 (Pn.set e1 rfl) ⟨h1, h2⟩⟩
  · cases he
theorem den_flat {C : Kw} {Z : Addr → Prop} {H : Hp} {d : D} (f : d.flat = true) : ∃ v, Den C Z H v d := by
  cases d <;> first | exact ⟨_, .non⟩ | exact ⟨_, .bl _⟩ | exact ⟨_, .int _⟩ | exact ⟨_, .str _⟩ | (simp [D.flat] at f)
def vOf : D → V
  | .bl b => .bl b
  | .int i => .int i
  | .str x => .str x
  | _ => .non
theorem px_cst {d : D} (h : PE X e (tC (vOf d))) : PE X e (tX (kw X cn) fun ρ => ev P cf ρ (.cst d)) := by
  refine h.imp fun σ H Q ⟨B, o, ρ, r, ho, he, q⟩ => ?_
  simp only [ev] at he
  split at he
  · rename_i f
    cases he
    have : Den (kw X cn) (Zo B o) H (vOf d) d := by
      cases d <;> first | exact .non | exact .bl _ | exact .int _ | exact .str _ | (simp [D.flat] at f)
    exact q _ H o .refl .refl ⟨ho, this⟩
  · cases he
theorem px_glb {g : Nat} {nm : Str} {d : D} {v : V} (hp : P.gls[g]? = some (nm, d)) (h : PE X e (tC v)) (hd : ∀ Z H, Den (kw X cn) Z H v d) : PE X e (tX (kw X cn) fun ρ => ev P cf ρ (.glb g)) := by
  refine h.imp fun σ H Q ⟨B, o, ρ, r, ho, he, q⟩ => ?_
  simp only [ev, hp] at he
  cases he
  exact q v H o .refl .refl ⟨ho, hd _ _⟩
/-- an operator that an own class says, where its operands stand -/
def wOw (C : Kw) (P : Pr) (cf : Call) (op : Op) (c : Nat) (m : Str) (vs : List V) (as : List Ad) : Hp → VK → Prop := fun H2 Q => ∃ B o2 ρ2 σ H0 o0 r, Ho C B o2 ρ2 σ H2 ∧ AdsOk C B o2 H2 vs as ∧ StepE H0 o0 H2 o2 ∧ ownEnd op (ownGo P cf c m ρ2 as) = some r ∧
  ∀ v' H' o', StepE H0 o0 H' o' → Pn ρ2 r.2.2 → Res C B o' r.2.2 σ H0 H' v' r.1 r.2.1 → Q v' H'
def wOw1 (C : Kw) (P : Pr) (cf : Call) (op : Op) : V → Hp → VK → Prop := fun v H2 Q => ∃ Z d c m x, DenT C Z H2 v d ∧ spc1 op d = some (c, m) ∧ wOw C P cf op c m [v] [x] H2 Q
def swV (b : Bool) (v u : V) : List V := if b then [u, v] else [v, u]
def wOw2 (C : Kw) (P : Pr) (cf : Call) (op : Op) : V → V → Hp → VK → Prop := fun v u H2 Q => ∃ Z d e c m sw x y, DenT C Z H2 v d ∧ DenT C Z H2 u e ∧ spc2 op d e = some (c, m, sw) ∧ wOw C P cf op c m (swV sw v u) (swp sw x y) H2 Q
/-- one operand -/
theorem tx1 {op : Op} {t : TE} (hw : ∀ σ H Q, tP (kw X cn) (fun ρ => opn ρ x (ev P cf ρ x)) σ H (fun v H1 => w1 (kw X cn) op v H1 Q ∨ wOw1 (kw X cn) P cf op v H1 Q) → t σ H Q) : ∀ σ H Q, tX (kw X cn) (fun ρ => ev P cf ρ (.ap1 op x)) σ H Q → t σ H Q := by
  rintro σ H Q ⟨B, o, ρ, r, ho, he, q⟩
  simp only [ev] at he
  obtain ⟨⟨ad, ρ1⟩, e1, he⟩ := bind_some he
  obtain ⟨d, e2, he⟩ := bind_some he
  refine hw σ H Q ⟨B, o, ρ, _, ho, e1, fun v H1 o1 s1 pn h1 a1 => ?_⟩
  split at he
  · rename_i c m hs
    refine .inr ⟨Zo B o1, d, c, m, ad, a1.den h1 e2, hs, B, o1, ρ1, σ, H, o, r, h1, ⟨a1, True.intro⟩, s1, he, fun v' H' o' s' pn' rs => q v' H' o' s' (pn.trans pn') rs⟩
  · obtain ⟨⟨r1, f⟩, e3, he⟩ := Option.map_eq_some_iff.mp he
    cases he
    refine .inl ⟨Zo B o1, d, r1, f, h1.zd, a1.den h1 e2, e3, fun v' H' x' rz => ?_⟩
    exact q v' H' o1 (s1.trans x'.stepE) pn (res_of h1 x' rz s1.back)
theorem ads2 {C : Kw} {B : Addr → Prop} {o : Ow} {H : Hp} {v u : V} {x y : Ad} (a : AdOk C B o H v x) (b : AdOk C B o H u y) (sw : Bool) : AdsOk C B o H (swV sw v u) (swp sw x y) := by
  cases sw
  · exact ⟨a, b, True.intro⟩
  · exact ⟨b, a, True.intro⟩
theorem tx2 {op : Op} {t : TE} (hw : ∀ σ H Q, tP (kw X cn) (fun ρ => opn ρ x (ev P cf ρ x)) σ H (fun v H1 => tP (kw X cn) (fun ρ => opn ρ y (ev P cf ρ y)) σ H1 fun u H2 => w2 (kw X cn) op v u H2 Q ∨ wOw2 (kw X cn) P cf op v u H2 Q) → t σ H Q) :
    ∀ σ H Q, tX (kw X cn) (fun ρ => ev P cf ρ (.ap2 op x y)) σ H Q → t σ H Q := by
  rintro σ H Q ⟨B, o, ρ, r, ho, he, q⟩
  simp only [ev] at he
  obtain ⟨⟨ad, ρ1⟩, e1, he⟩ := bind_some he
  obtain ⟨⟨bd, ρ2⟩, e2, he⟩ := bind_some he
  obtain ⟨d, e3, he⟩ := bind_some he
  obtain ⟨d', e4, he⟩ := bind_some he
  refine hw σ H Q ⟨B, o, ρ, _, ho, e1, fun v H1 o1 s1 pn1 h1 a1 => ?_⟩
  refine ⟨B, o1, ρ1, _, h1, e2, fun u H2 o2 s2 pn2 h2 a2 => ?_⟩
  split at he
  · rename_i c m sw hs
    exact .inr ⟨Zo B o2, d, d', c, m, sw, ad, bd, (a1.step s2).den h2 e3, a2.den h2 e4, hs, B, o2, ρ2, σ, H, o, r, h2, ads2 (a1.step s2) a2 sw, s1.trans s2, he, fun v' H' o' s' pn' rs => q v' H' o' s' ((pn1.trans pn2).trans pn') rs⟩
  · obtain ⟨⟨r1, f⟩, e5, he⟩ := Option.map_eq_some_iff.mp he
    cases he
    refine .inl ⟨Zo B o2, d, d', r1, f, h2.zd, (a1.step s2).den h2 e3, a2.den h2 e4, e5, fun v' H' x' rz => ?_⟩
    exact q v' H' o2 ((s1.trans s2).trans x'.stepE) (pn1.trans pn2) (res_of h2 x' rz (s1.trans s2).back)
theorem tx3 {op : Op} {t : TE} (hw : ∀ σ H Q, tP (kw X cn) (fun ρ => opn ρ x (ev P cf ρ x)) σ H (fun v H1 => tP (kw X cn) (fun ρ => opn ρ y (ev P cf ρ y)) σ H1 fun u H2 => tP (kw X cn) (fun ρ => opn ρ z (ev P cf ρ z)) σ H2 fun w H3 => w3 (kw X cn) op v u w H3 Q) → t σ H Q) :
    ∀ σ H Q, tX (kw X cn) (fun ρ => ev P cf ρ (.ap3 op x y z)) σ H Q → t σ H Q := by
  rintro σ H Q ⟨B, o, ρ, r, ho, he, q⟩
  simp only [ev] at he
  obtain ⟨⟨ad, ρ1⟩, e1, he⟩ := bind_some he
  obtain ⟨⟨bd, ρ2⟩, e2, he⟩ := bind_some he
  obtain ⟨⟨cd, ρ3⟩, e2', he⟩ := bind_some he
  obtain ⟨d, e3, he⟩ := bind_some he
  obtain ⟨d', e4, he⟩ := bind_some he
  obtain ⟨d'', e4', he⟩ := bind_some he
  obtain ⟨⟨r1, f⟩, e5, he⟩ := Option.map_eq_some_iff.mp he
  cases he
  refine hw σ H Q ⟨B, o, ρ, _, ho, e1, fun v H1 o1 s1 pn1 h1 a1 => ?_⟩
  refine ⟨B, o1, ρ1, _, h1, e2, fun u H2 o2 s2 pn2 h2 a2 => ?_⟩
  refine ⟨B, o2, ρ2, _, h2, e2', fun w H3 o3 s3 pn3 h3 a3 => ?_⟩
  refine ⟨Zo B o3, d, d', d'', r1, f, h3.zd, ((a1.step s2).step s3).den h3 e3, (a2.step s3).den h3 e4, a3.den h3 e4', e5, fun v' H' x' rz => ?_⟩
  exact q v' H' o3 (((s1.trans s2).trans s3).trans x'.stepE) ((pn1.trans pn2).trans pn3) (res_of h3 x' rz ((s1.trans s2).trans s3).back)
/-- members of a display -/
theorem tes_nil : PA X [] (tEs (kw X cn) fun ρ => evs P cf ρ .nil) := by
  refine pa_nil.imp fun σ H Q ⟨B, o, ρ, r, ho, he, q⟩ => ?_
  simp only [evs] at he
  cases he
  exact q [] H o .refl .refl ho .nil
theorem tes_cons {es : List Expr} {xs : Es} (h : PE X e (tX (kw X cn) fun ρ => ev P cf ρ x)) (ht : PA X es (tEs (kw X cn) fun ρ => evs P cf ρ xs)) (hs : starEach (e :: es) X.env = (false, eval e X.env) :: starEach es X.env) :
    PA X (e :: es) (tEs (kw X cn) fun ρ => evs P cf ρ (.cons x xs)) := by
  refine (pa_cons h ht hs).imp fun σ H Q ⟨B, o, ρ, r, ho, he, q⟩ => ?_
  simp only [evs] at he
  obtain ⟨⟨d, f, ρ1⟩, e1, he⟩ := bind_some he
  obtain ⟨⟨ds, ρ2⟩, e2, he⟩ := Option.map_eq_some_iff.mp he
  cases he
  refine ⟨B, o, ρ, _, ho, e1, fun v H1 o1 s1 pn1 rs => ?_⟩
  obtain ⟨h1, d1⟩ := rs.shared ho.bd
  refine ⟨B, o1, ρ1, _, h1, e2, fun vs H2 o2 s2 pn2 h2 d2 => ?_⟩
  exact q (v :: vs) H2 o2 (s1.trans s2) (pn1.trans pn2) h2 (.cons (d1.step s2.step) d2)
theorem tps_nil : PA X [] (tPs (kw X cn) fun ρ => evos P cf ρ .nil) := by
  refine pa_nil.imp fun σ H Q ⟨B, o, ρ, r, ho, he, q⟩ => ?_
  simp only [evos] at he
  cases he
  exact q [] H o .refl .refl ho True.intro
theorem tps_cons {es : List Expr} {xs : Es} (h : PE X e (tP (kw X cn) fun ρ => opn ρ x (ev P cf ρ x))) (ht : PA X es (tPs (kw X cn) fun ρ => evos P cf ρ xs)) (hs : starEach (e :: es) X.env = (false, eval e X.env) :: starEach es X.env) :
    PA X (e :: es) (tPs (kw X cn) fun ρ => evos P cf ρ (.cons x xs)) := by
  refine (pa_cons h ht hs).imp fun σ H Q ⟨B, o, ρ, r, ho, he, q⟩ => ?_
  simp only [evos] at he
  obtain ⟨⟨d, ρ1⟩, e1, he⟩ := bind_some he
  obtain ⟨⟨ds, ρ2⟩, e2, he⟩ := Option.map_eq_some_iff.mp he
  cases he
  refine ⟨B, o, ρ, _, ho, e1, fun v H1 o1 s1 pn1 h1 a1 => ?_⟩
  refine ⟨B, o1, ρ1, _, h1, e2, fun vs H2 o2 s2 pn2 h2 a2 => ?_⟩
  exact q (v :: vs) H2 o2 (s1.trans s2) (pn1.trans pn2) h2 ⟨a1.step s2, a2⟩
theorem px_tup {es : List Expr} {xs : Es} {j : Nat} (h : PA X es (tEs (kw X cn) fun ρ => evs P cf ρ xs)) : PE X (.Tuple es j pos) (tX (kw X cn) fun ρ => ev P cf ρ (.tup xs)) := by
  refine (pe_tup h).imp fun σ H Q ⟨B, o, ρ, r, ho, he, q⟩ => ?_
  simp only [ev] at he
  obtain ⟨⟨ds, ρ1⟩, e1, he⟩ := bind_some he
  split at he
  · rename_i hl
    cases he
    refine ⟨B, o, ρ, _, ho, e1, fun vs H1 o1 s1 pn1 h1 d1 => ⟨most_le (by rw [d1.length]; exact hl), fun p n => ?_⟩⟩
    exact q _ _ o1 (s1.trans (Ext.new n).stepE) pn1 (res_of h1 (Ext.new n) (newt h1.zd n d1) s1.back)
  · cases he
theorem px_lst {es : List Expr} {xs : Es} (h : PA X es (tEs (kw X cn) fun ρ => evs P cf ρ xs)) : PE X (.List es pos) (tX (kw X cn) fun ρ => ev P cf ρ (.lst xs)) := by
  refine (pe_lst h).imp fun σ H Q ⟨B, o, ρ, r, ho, he, q⟩ => ?_
  simp only [ev] at he
  obtain ⟨⟨ds, ρ1⟩, e1, he⟩ := bind_some he
  split at he
  · rename_i hl
    cases he
    refine ⟨B, o, ρ, _, ho, e1, fun vs H1 o1 s1 pn1 h1 d1 => ⟨most_le (by rw [d1.length]; exact hl), fun p n => ?_⟩⟩
    exact q _ _ o1 (s1.trans (Ext.new n).stepE) pn1 (res_of h1 (Ext.new n) (newl n d1) s1.back)
  · cases he
/-! tests -/
theorem res_bl {C : Kw} {B : Addr → Prop} {o : Ow} {ρ : Rho} {σ : L2.St} {H0 H : Hp} {v : V} {t f : Bool} (h : Res C B o ρ σ H0 H v (.bl t) f) : v = .bl t ∧ Ho C B o ρ σ H := by
  cases f with
  | false => exact ⟨(show DenT _ _ _ _ _ from .inl h.2).bl, h.1⟩
  | true =>
    obtain ⟨_, _, _, _, w⟩ := h
    exact w.elim
theorem pt_opn {op : Op} {oc : CmpOp} (hop : OpR X (compareOp oc) (fun v u H Q => w2 (kw X cn) op v u H Q ∨ wOw2 (kw X cn) P cf op v u H Q)) (hx : PE X a (tP (kw X cn) fun ρ => opn ρ x (ev P cf ρ x))) (hy : PE X b (tP (kw X cn) fun ρ => opn ρ y (ev P cf ρ y))) (hm : behindInMarks oc b = false) :
    PT X (.Compare a [oc] [b] pos) (tB (kw X cn) fun ρ => evT P cf ρ (.cmp op x y)) := by
  refine (pt_cmpR hop hx hy hm).imp ?_
  rintro σ H Q ⟨B, o, ρ, r, ho, he, q⟩
  simp only [evT] at he
  obtain ⟨⟨ad, ρ1⟩, e1, he⟩ := bind_some he
  obtain ⟨⟨bd, ρ2⟩, e2, he⟩ := bind_some he
  obtain ⟨d, e3, he⟩ := bind_some he
  obtain ⟨d', e4, he⟩ := bind_some he
  refine ⟨B, o, ρ, _, ho, e1, fun v H1 o1 s1 pn1 h1 a1 => ?_⟩
  refine ⟨B, o1, ρ1, _, h1, e2, fun u H2 o2 s2 pn2 h2 a2 => ?_⟩
  split at he
  · rename_i c m sw hs
    split at he
    · rename_i t f ρ3 e5
      cases he
      exact .inr ⟨Zo B o2, d, d', c, m, sw, ad, bd, (a1.step s2).den h2 e3, a2.den h2 e4, hs, B, o2, ρ2, σ, H, o, _, h2, ads2 (a1.step s2) a2 sw, s1.trans s2, e5, fun v' H' o' s' pn' rs => ⟨t, (res_bl rs).1, q H' o' s' ((pn1.trans pn2).trans pn') (res_bl rs).2⟩⟩
    · cases he
  · split at he
    · rename_i t f e5
      cases he
      refine .inl ⟨Zo B o2, d, d', .bl t, f, h2.zd, (a1.step s2).den h2 e3, a2.den h2 e4, e5, fun v' H' x' rz => ?_⟩
      have ev' : v' = .bl t := by
        cases f with
        | false => exact (show DenT _ _ _ _ _ from .inl rz).bl
        | true =>
          obtain ⟨_, _, _, w⟩ := rz
          exact w.elim
      exact ⟨t, ev', q H' o2 ((s1.trans s2).trans x'.stepE) (pn1.trans pn2) (h2.ext x')⟩
    · cases he
theorem tru_ok {C : Kw} {Z : Addr → Prop} {H : Hp} {v : V} {d : D} {t : Bool} (h : DenT C Z H v d) (e : tru d = some t) : TruV C.K v H t := by
  cases d <;> simp only [tru] at e <;> try (cases e; done)
  · cases e
    rcases h with h | ⟨_, _, h⟩
    · cases h; rfl
    · exact h.elim
  · cases e
    rw [h.bl]; rfl
  · cases e
    rw [h.int]; rfl
  · rename_i z
    split at e
    · rename_i hl
      cases e
      rw [h.str]
      exact ⟨most_le hl, rfl⟩
    · cases e
  · cases e
    obtain ⟨a, vs, rfl, ha, hv⟩ := h.lst
    exact .inl ⟨vs, .inl (.inl ha), by cases hv <;> rfl⟩
  · cases e
    obtain ⟨a, vs, rfl, ha, hv⟩ := h.sqt
    exact .inr (.inl ⟨vs, ha, by cases hv <;> rfl⟩)
theorem pt_val' {t : TT} (ht : ∀ ta : TE, PE X e ta → PT X e (fun σ H Q => ta σ H fun v H1 => ∃ c, TruV X.K v H1 c ∧ Q c H1)) (hx : PE X e (tP (kw X cn) fun ρ => opn ρ x (ev P cf ρ x))) : PT X e (tB (kw X cn) fun ρ => evT P cf ρ (.val x)) := by
  refine (ht _ hx).imp ?_
  rintro σ H Q ⟨B, o, ρ, r, ho, he, q⟩
  simp only [evT] at he
  obtain ⟨⟨ad, ρ1⟩, e1, he⟩ := bind_some he
  obtain ⟨d, e2, he⟩ := bind_some he
  obtain ⟨c, e3, he⟩ := Option.map_eq_some_iff.mp he
  cases he
  refine ⟨B, o, ρ, _, ho, e1, fun v H1 o1 s1 pn1 h1 a1 => ?_⟩
  exact ⟨c, tru_ok (a1.den h1 e2) e3, q H1 o1 s1 pn1 h1⟩
end
end BK

set_option Elab.async false
set_option linter.all false
set_option maxRecDepth 100000
set_option maxHeartbeats 2000000
/-! BK5: calls: what a def promises (with no repr under way), how it is called, how its body keeps it. -/
namespace BK
open PySem PySem.Spec PyProof.Rows L2

abbrev SpG := List V → Hp → VK → Prop
structure FnG (P : Program) (w : World) (K : PySem.W.Frag) (mg : Str → Option Value) (base : Heap) (k : Nat) (f : Addr) (fd : FuncData) (ps : List Str) (sp : SpG) : Prop where
  len : ∀ vs H Q, sp vs H Q → vs.length = ps.length
  run : ∀ (A : Around) (outer : List Env) (s : Shared) (H : Hp) (args : Args) (us : List Value) (vs : List V) (Q : VK), Room k A → A.guards = some [] → Env0 P w K mg base A outer s H →
    BindsTo s fd args (ps.zip us) → Vals vs us → sp vs H Q → codeAny (model P w) A (.call (.ref f) args) (CR CX0 outer P w H s Q E0) s
section
variable {X : Cx} {k : Nat} {f C : Addr} {fd : FuncData} {ps : List Str} {sp : SpG} {x m : Str} {p pos apos : Pos} {e o : Expr} {es : List Expr} {ta : TE} {t : TA}
theorem run_fng {pins : List (Addr × Obj)} {σ : L2.St} {H : Hp} {s : Shared} {Q : VK} {us : List Value} {vs : List V} (F : FnG X.prog X.w X.K X.mg X.base k f fd ps sp) (hr : Room k X.A) (hg : X.A.guards = some []) (hb : Binds X.K fd ps [])
    (I : Inv X pins σ H s) (r : Vals vs us) (h : sp vs H Q) : wpAny (model X.prog X.w) X.A (call (.ref f) us) (EP X pins σ Q) X.xe s := by
  have hl : us.length = ps.length := r.length.symm.trans (F.len _ _ _ h)
  have hb' := hb s us I.kIn (by rw [List.append_nil]; exact hl)
  rw [List.append_nil] at hb'
  refine wpAny_call (codeAny_mono (F.run X.A X.stack s H ⟨us, []⟩ us vs Q hr hg I.env0 hb' r h) fun r s' hq => ?_)
  cases r with
  | error e => exact False.elim hq
  | ok fl =>
    cases fl with
    | ret u => exact I.after hq
    | _ => exact False.elim hq
def tCl (sp : SpG) (t : TA) : TE := fun σ H Q => t σ H fun vs H1 => sp vs H1 Q
theorem pe_clg (F : FnG X.prog X.w X.K X.mg X.base k f fd ps sp) (hr : Room k X.A) (hgu : X.A.guards = some []) (hg : Gl X x) (hm : X.mg x = some (.ref f)) (hk : PySem.W.keepIn X.K (.ref f) = true) (hb : Binds X.K fd ps [])
    (ha : PA X (e :: es) t) (hdb : (x == ("__debug__" : Str)) = false) (he : starEach (e :: es) X.env = (false, eval e X.env) :: starEach es X.env) (hpl : (backTo pos (starEach es X.env)).any (·.1) = false) : PE X (.Call (.Name x p) (e :: es) [] pos) (tCl sp t) :=
  ⟨fun pins s σ H Q I h => wpAny_Call_Name_kw (ld_glob I hg hm (PySem.W.callWith_K (h₀ := X.base) I.ok.mod.kin hk
    (thn (ha.run pos pins s σ H _ I h) fun us s1 ⟨vs, H1, I1, r, q⟩ => ⟨I1.kIn, run_fng F hr hgu hb I1 r q⟩) he hpl) hdb)⟩
theorem pe_clg0 (F : FnG X.prog X.w X.K X.mg X.base k f fd ps sp) (hr : Room k X.A) (hgu : X.A.guards = some []) (hg : Gl X x) (hm : X.mg x = some (.ref f)) (hk : PySem.W.keepIn X.K (.ref f) = true) (hb : Binds X.K fd ps [])
    (hdb : (x == ("__debug__" : Str)) = false) : PE X (.Call (.Name x p) [] [] pos) (tCl sp tNil) :=
  ⟨fun pins s σ H Q I h => wpAny_Call_Name_kw (ld_glob I hg hm (PySem.W.callWith_K0 I.kIn hk (run_fng (us := []) F hr hgu hb I .nil h)) hdb)⟩
def tMe (C : Addr) (m : Str) (sp : SpG) (ta : TE) (t : TA) : TE := fun σ H Q => ta σ H fun x H1 => ∃ a dx fs, x = .ref a ∧ H1 a = some (.ins C dx fs) ∧ fs.lookup m = none ∧ t σ H1 fun vs H2 => sp (x :: vs) H2 Q
theorem pe_mg {pl : Sem Bool} (he : PE X o ta) (c : L2.Cls X.K C) (hm : Meth X.K C m f) (F : FnG X.prog X.w X.K X.mg X.base k f fd ps sp) (hr : Room k X.A) (hgu : X.A.guards = some []) (hb : Binds X.K fd ps []) (ha : PA X (e :: es) t)
    (hst : starEach (e :: es) X.env = (false, eval e X.env) :: starEach es X.env) (hpl : (backTo pos (starEach es X.env)).any (·.1) = false)
    (ht : eval (.Call (.Attribute o m apos) (e :: es) [] pos) X.env = (do
      let ov ← eval o X.env
      standAt apos.atName
      let (g, first) ← holding [ov] (getMethod ov m pl)
      callWith pos g first (backTo pos (starEach (e :: es) X.env)) (backToKw pos (keywordEach [] X.env)))) : PE X (.Call (.Attribute o m apos) (e :: es) [] pos) (tMe C m sp ta t) := by
  refine ⟨fun pins s σ H Q I h => PySem.W.methodCall_KW (pl := pl) (thn (he.run pins s σ H _ I h) ?_) ht⟩
  rintro u s1 ⟨x, H1, I1, rx, a, dx, fs, rfl, ea, l, q⟩
  cases rx
  refine getmeth_ok I1 ea c hm l (PySem.W.callWith_K (first := [.ref a]) (h₀ := X.base) I.ok.mod.kin hm.kp (thn (ha.run pos pins s1 σ H1 _ I1 q) ?_) hst hpl)
  rintro us s2 ⟨vs, H2, I2, r, q2⟩
  exact ⟨I2.kIn, run_fng (us := .ref a :: us) (vs := .ref a :: vs) F hr hgu hb I2 (.cons rfl r) q2⟩
theorem pe_mg0 {pl : Sem Bool} (he : PE X o ta) (c : L2.Cls X.K C) (hm : Meth X.K C m f) (F : FnG X.prog X.w X.K X.mg X.base k f fd ps sp) (hr : Room k X.A) (hgu : X.A.guards = some []) (hb : Binds X.K fd ps [])
    (ht : eval (.Call (.Attribute o m apos) [] [] pos) X.env = (do
      let ov ← eval o X.env
      standAt apos.atName
      let (g, first) ← holding [ov] (getMethod ov m pl)
      callWith pos g first (backTo pos (starEach [] X.env)) (backToKw pos (keywordEach [] X.env)))) : PE X (.Call (.Attribute o m apos) [] [] pos) (tMe C m sp ta tNil) := by
  refine ⟨fun pins s σ H Q I h => PySem.W.methodCall_KW (pl := pl) (thn (he.run pins s σ H _ I h) ?_) ht⟩
  rintro u s1 ⟨x, H1, I1, rx, a, dx, fs, rfl, ea, l, q⟩
  cases rx
  exact getmeth_ok I1 ea c hm l (PySem.W.callWith_K0 (first := [.ref a]) I1.kIn hm.kp (run_fng (us := [.ref a]) (vs := [.ref a]) F hr hgu hb I1 (.cons rfl .nil) q))
/-! a new instance -/
def tNw (C : Addr) (sp : SpG) (t : TA) : TE := fun σ H Q => t σ H fun vs H1 => ∀ x dx, H1 x = none → H1 dx = none → dx ≠ x → sp (.ref x :: vs) (upd (upd H1 dx (.own x)) x (.ins C dx [])) fun v H2 => v = .non ∧ Q (.ref x) H2
theorem run_nw {pins : List (Addr × Obj)} {σ : L2.St} {H : Hp} {s : Shared} {Q : VK} {us : List Value} {vs : List V} (M : Mk X.K C f) (F : FnG X.prog X.w X.K X.mg X.base k f fd ps sp) (hr : Room (k + 1) X.A) (hgu : X.A.guards = some []) (hb : Binds X.K fd ps [])
    (I : Inv X pins σ H s) (r : Vals vs us) (h : ∀ x dx, H x = none → H dx = none → dx ≠ x → sp (.ref x :: vs) (upd (upd H dx (.own x)) x (.ins C dx [])) fun v H2 => v = .non ∧ Q (.ref x) H2) :
    wpAny (model X.prog X.w) X.A (call (.ref C) us) (EP X pins σ Q) X.xe s := by
  have hq := h (s.heap.objs.size + 1) s.heap.objs.size (I.hok.fresh (Nat.le_succ _)) (I.hok.fresh (Nat.le_refl _)) (Nat.ne_of_lt (Nat.lt_succ_self _))
  have J := Inv.made (C := C) I
  have r2 : Vals (V.ref (s.heap.objs.size + 1) :: vs) (Value.ref (s.heap.objs.size + 1) :: us) := .cons rfl r
  have hl : (Value.ref (s.heap.objs.size + 1) :: us).length = ps.length := r2.length.symm.trans (F.len _ _ _ hq)
  have hbb := hb _ (Value.ref (s.heap.objs.size + 1) :: us) J.kIn (by rw [List.append_nil]; exact hl)
  rw [List.append_nil] at hbb
  have gu : (X.A.under (.builtin "type.__call__" ⟨.ref C :: us, []⟩)).guards = some [] := by
    have : Code.guards (.builtin "type.__call__" ⟨.ref C :: us, []⟩) = [] := by
      unfold Code.guards
      rw [if_neg]
      show ¬ guardIds.contains "type.__call__" = true
      decide +kernel
    simp only [Around.under, this, hgu]
    rfl
  refine wpAny_call (make_map (f := f) I.kIn M.makes M.init (beq_iff_eq.mp M.fn) (codeAny_mono (F.run _ X.stack _ _ ⟨Value.ref (s.heap.objs.size + 1) :: us, []⟩ _ _ _ (hr.make C us []) gu (J.env0.make C us []) hbb r2 hq) fun r s' hq' => ?_))
  cases r with
  | error e => exact False.elim hq'
  | ok fl =>
    cases fl with
    | ret u =>
      obtain ⟨v, H', I3, rv, ev, q3⟩ := J.after hq'
      subst ev
      exact ⟨rv, ⟨V.ref (s.heap.objs.size + 1), H', I3, rfl, q3⟩⟩
    | _ => exact False.elim hq'
theorem pe_nw (M : Mk X.K C f) (F : FnG X.prog X.w X.K X.mg X.base k f fd ps sp) (hr : Room (k + 1) X.A) (hgu : X.A.guards = some []) (hg : Gl X x) (hm : X.mg x = some (.ref C)) (hb : Binds X.K fd ps [])
    (ha : PA X (e :: es) t) (hdb : (x == ("__debug__" : Str)) = false) (he : starEach (e :: es) X.env = (false, eval e X.env) :: starEach es X.env) (hpl : (backTo pos (starEach es X.env)).any (·.1) = false) : PE X (.Call (.Name x p) (e :: es) [] pos) (tNw C sp t) :=
  ⟨fun pins s σ H Q I h => wpAny_Call_Name_kw (ld_glob I hg hm (PySem.W.callWith_K (h₀ := X.base) I.ok.mod.kin M.kp
    (thn (ha.run pos pins s σ H _ I h) fun us s1 ⟨vs, H1, I1, r, q⟩ => ⟨I1.kIn, run_nw M F hr hgu hb I1 r q⟩) he hpl) hdb)⟩
theorem pe_nw0 (M : Mk X.K C f) (F : FnG X.prog X.w X.K X.mg X.base k f fd ps sp) (hr : Room (k + 1) X.A) (hgu : X.A.guards = some []) (hg : Gl X x) (hm : X.mg x = some (.ref C)) (hb : Binds X.K fd ps [])
    (hdb : (x == ("__debug__" : Str)) = false) : PE X (.Call (.Name x p) [] [] pos) (tNw C sp tNil) :=
  ⟨fun pins s σ H Q I h => wpAny_Call_Name_kw (ld_glob I hg hm (PySem.W.callWith_K0 I.kIn M.kp (run_nw (us := []) M F hr hgu hb I .nil h)) hdb)⟩
end

/-- a def of the text keeps its promise, by its body -/
theorem fng_of {P : Program} {w : World} {K : PySem.W.Frag} {mg : Str → Option Value} {base : Heap} {k : Nat} {x qual : Str} {st : Stmt} {f : Addr} {fd : FuncData} {N ps : List Str} {sp : SpG} (F : Fun K x qual st f fd) (S : FnScope N ps (defScope st))
    (len : ∀ vs H Q, sp vs H Q → vs.length = ps.length)
    (hbody : ∀ (cdv : Value) (A : Around) (outer : List Env) (s : Shared) (H : Hp) (vs : List V) (Q : VK), Room k (A.deeper (envOfC qual (defScope st) s.heap.objs.size f cdv)) → (A.deeper (envOfC qual (defScope st) s.heap.objs.size f cdv)).guards = some [] → sp vs H Q →
      ∃ t, PSs (cxOf CX0 P w K mg base N qual (defScope st) f cdv A outer s H E0) (defBody st) t ∧ t { nx := fun _ H' => Q .non H', rt := Q } (start N vs) H) : FnG P w K mg base (k + 1) f fd ps sp := by
  obtain ⟨oc, od, kV, doc, pm, an, cdv, ct, osl, rfl, lk, hcd⟩ := F.ex
  refine ⟨len, fun A outer s H args us vs Q hr hgu e0 hb r hsp => ?_⟩
  have hl := len _ _ _ hsp
  have hk : ∀ b o, base.get? b = some o → s.heap.get? b = some o := fun b o e => (e0.bs b o e).1
  have names : ∀ y ∈ ps.zip us, (defScope st).names.lookup y.1 = some .local ∨ ((defScope st).names.lookup y.1 = some .cell ∧ ((cellsFrom (s.heap.objs.size + 1) (defScope st).names []).lookup y.1).isSome = true) := fun y hy =>
    (S.par y.1 (List.of_mem_zip hy).1).imp id fun q => ⟨q, PySem.W.cellsFrom_some _ _ _ (.inl q)⟩
  refine codeAny_call_function hr.depth (e0.mod.kin.keeps hk _ _ lk) rfl S.co S.gen rfl (PySem.W.codeRec_of (e0.mod.kin.keeps hk) hcd) (hb _ _ _ _ ?_)
  refine wpAny_newFunctionEnv_cells S.kind names fun env he s1 x => ?_
  cases he
  refine ⟨(e0.mod.nolimit.keeps hk).keeps x.toInCall.keep, codeAny_func ?_⟩
  have gd : (A.deeper (envOfC qual (defScope st) s.heap.objs.size f cdv)).guards = some [] := hgu
  obtain ⟨t, ht, hq⟩ := hbody cdv A outer s H vs Q (hr.deeper _) gd hsp
  have I : Inv (cxOf CX0 P w K mg base N qual (defScope st) f cdv A outer s H E0) [] (start N vs) H s1 := inv_start S hr.hd e0 hl r x
  refine wpAny_mono (ht.run [] s1 (start N vs) H _ I hq) (fun fl s' hs => ?_) fun e s' hs => hs
  cases fl with
  | ret u =>
    obtain ⟨v, σ', H', J, rv, q⟩ := hs
    exact ⟨v, H', J.os, J.bare, J.base, J.hok, rv, q⟩
  | next =>
    obtain ⟨σ', H', J, q⟩ := hs
    exact ⟨V.non, H', J.os, J.bare, J.base, J.hok, rfl, q⟩
  | brk =>
    obtain ⟨_, _, _, q⟩ := hs
    exact False.elim q
  | cont =>
    obtain ⟨_, _, _, q⟩ := hs
    exact False.elim q
end BK

set_option Elab.async false
set_option linter.all false
set_option maxRecDepth 100000
set_option maxHeartbeats 2000000
/-! BK6: what is lent to a call and comes back; calls of defs, methods, classes. -/
namespace BK
open PySem PySem.Spec PyProof.Rows L2

theorem argsOf_len {ρ : Rho} : ∀ {as : List Ad} {sl : List Sl}, argsOf ρ as = some sl → sl.length = as.length
  | [], sl, h => by simp only [argsOf] at h; cases h; rfl
  | a :: as, sl, h => by
    simp only [argsOf] at h
    obtain ⟨s, e1, h⟩ := bind_some h
    obtain ⟨sl', e2, e3⟩ := Option.map_eq_some_iff.mp h
    subst e3
    rw [List.length_cons, List.length_cons, argsOf_len e2]
theorem argsOf_get {ρ : Rho} : ∀ {as : List Ad} {sl : List Sl} {k : Nat} {s : Sl}, argsOf ρ as = some sl → sl[k]? = some s → ∃ a, as[k]? = some a ∧ arg ρ a = some s
  | [], sl, k, s, h, e => by simp only [argsOf] at h; cases h; simp at e
  | a :: as, sl, k, s, h, e => by
    simp only [argsOf] at h
    obtain ⟨t, e1, h⟩ := bind_some h
    obtain ⟨sl', e2, e3⟩ := Option.map_eq_some_iff.mp h
    subst e3
    cases k with
    | zero =>
      simp at e
      subst e
      exact ⟨a, rfl, e1⟩
    | succ k =>
      obtain ⟨b, h1, h2⟩ := argsOf_get (k := k) e2 (by simpa using e)
      exact ⟨b, by simpa using h1, h2⟩
theorem lent_mem {i : Nat} : ∀ {as : List Ad} {k : Nat}, as[k]? = some (.pk i) → i ∈ lent as
  | [], k, h => by simp at h
  | .vl d :: as, 0, h => by simp at h
  | .vl d :: as, k + 1, h => by
    simp only [lent]
    exact lent_mem (k := k) (by simpa using h)
  | .pk j :: as, 0, h => by
    simp at h
    subst h
    exact List.mem_cons_self
  | .pk j :: as, k + 1, h => List.mem_cons_of_mem _ (lent_mem (k := k) (by simpa using h))
theorem mem_lent {i : Nat} : ∀ {as : List Ad}, i ∈ lent as → ∃ k : Nat, as[k]? = some (.pk i)
  | [], h => by simp [lent] at h
  | .vl d :: as, h => by
    simp only [lent] at h
    obtain ⟨k, e⟩ := mem_lent h
    exact ⟨k + 1, by simpa using e⟩
  | .pk j :: as, h => by
    simp only [lent] at h
    rcases List.mem_cons.mp h with e | h
    · subst e
      exact ⟨0, rfl⟩
    · obtain ⟨k, e⟩ := mem_lent h
      exact ⟨k + 1, by simpa using e⟩
theorem distinct_at {i : Nat} : ∀ {as : List Ad} {k j : Nat}, distinct (lent as) = true → as[k]? = some (.pk i) → as[j]? = some (.pk i) → k = j
  | [], k, j, _, h, _ => by simp at h
  | .vl d :: as, 0, j, _, h, _ => by simp at h
  | .vl d :: as, k + 1, 0, _, _, h => by simp at h
  | .vl d :: as, k + 1, j + 1, hd, h1, h2 => by
    have q := distinct_at (i := i) (as := as) (k := k) (j := j) (by simpa only [lent] using hd) (by simpa using h1) (by simpa using h2)
    omega
  | .pk m :: as, k, j, hd, h1, h2 => by
    simp only [lent, distinct, Bool.and_eq_true, Bool.not_eq_true', List.contains_eq_mem, decide_eq_false_iff_not] at hd
    cases k with
    | zero =>
      simp at h1
      subst h1
      cases j with
      | zero => rfl
      | succ j => exact absurd (lent_mem (k := j) (by simpa using h2)) hd.1
    | succ k =>
      cases j with
      | zero =>
        simp at h2
        subst h2
        exact absurd (lent_mem (k := k) (by simpa using h1)) hd.1
      | succ j =>
        have q := distinct_at (i := i) (as := as) (k := k) (j := j) hd.2 (by simpa using h1) (by simpa using h2)
        omega
/-- what comes back, name by name -/
theorem back_ok : ∀ {ρ : Rho} {as : List Ad} {os : List Sl} {ρ2 : Rho}, distinct (lent as) = true → back ρ as os = some ρ2 →
    Pn ρ ρ2 ∧ (∀ i : Nat, i ∉ lent as → ρ2[i]? = ρ[i]?) ∧
    ∀ k i : Nat, as[k]? = some (.pk i) → ∃ p d d', ρ[i]? = some (.ow p d) ∧ ((os[k]? = some (.ow true d') ∧ ρ2[i]? = some (.ow p d')) ∨ (os[k]? = some (.sh true d') ∧ ρ2[i]? = some (.sh p d')))
  | ρ, [], os, ρ2, _, h => by
    simp only [back] at h
    cases h
    exact ⟨.refl, fun _ _ => rfl, fun k i e => by simp at e⟩
  | ρ, .vl d :: as, [], ρ2, _, h => by simp [back] at h
  | ρ, .pk d :: as, [], ρ2, _, h => by simp [back] at h
  | ρ, .vl d :: as, o :: os, ρ2, hd, h => by
    simp only [back] at h
    obtain ⟨h1, h2, h3⟩ := back_ok (as := as) (by simpa only [lent] using hd) h
    refine ⟨h1, fun i n => h2 i (by simpa only [lent] using n), fun k i e => ?_⟩
    cases k with
    | zero => simp at e
    | succ k =>
      obtain ⟨p, d1, d2, q1, q2⟩ := h3 k i (by simpa using e)
      exact ⟨p, d1, d2, q1, by simpa using q2⟩
  | ρ, .pk m :: as, o :: os, ρ2, hd, h => by
    have hd' := hd
    simp only [lent, distinct, Bool.and_eq_true, Bool.not_eq_true', List.contains_eq_mem, decide_eq_false_iff_not] at hd
    have step : ∀ (p : Bool) (d : D) (s' : Sl), ρ[m]? = some (.ow p d) → s'.pin = p → back (ρ.set m s') as os = some ρ2 →
        ((∃ d', o = .ow true d' ∧ s' = .ow p d') ∨ ∃ d', o = .sh true d' ∧ s' = .sh p d') →
        Pn ρ ρ2 ∧ (∀ i : Nat, i ∉ lent (.pk m :: as) → ρ2[i]? = ρ[i]?) ∧
        ∀ k i : Nat, (Ad.pk m :: as)[k]? = some (.pk i) → ∃ p d d', ρ[i]? = some (.ow p d) ∧ (((o :: os)[k]? = some (.ow true d') ∧ ρ2[i]? = some (.ow p d')) ∨ ((o :: os)[k]? = some (.sh true d') ∧ ρ2[i]? = some (.sh p d'))) := by
      intro p d s' e1 ep e2 e3
      obtain ⟨h1, h2, h3⟩ := back_ok (as := as) hd.2 e2
      have em : ρ2[m]? = some s' := by
        rw [h2 m hd.1]
        exact List.getElem?_set_self (List.getElem?_eq_some_iff.mp e1).1
      refine ⟨(Pn.set e1 ep).trans h1, fun i n => ?_, fun k i e => ?_⟩
      · simp only [lent, List.mem_cons, not_or] at n
        rw [h2 i n.2, List.getElem?_set_ne (Ne.symm n.1)]
      · cases k with
        | zero =>
          simp at e
          subst e
          rcases e3 with ⟨d', q1, q2⟩ | ⟨d', q1, q2⟩
          · exact ⟨p, d, d', e1, .inl ⟨by rw [q1]; rfl, by rw [em, q2]⟩⟩
          · exact ⟨p, d, d', e1, .inr ⟨by rw [q1]; rfl, by rw [em, q2]⟩⟩
        | succ k =>
          have e' : as[k]? = some (.pk i) := by simpa using e
          have ne : m ≠ i := fun z => hd.1 (by rw [z]; exact lent_mem e')
          obtain ⟨p', d1, d2, q1, q2⟩ := h3 k i e'
          rw [List.getElem?_set_ne ne] at q1
          exact ⟨p', d1, d2, q1, by simpa using q2⟩
    simp only [back] at h
    split at h
    · rename_i p d0 d' e1
      exact step p d0 _ e1 rfl h (.inl ⟨d', rfl, rfl⟩)
    · rename_i p d0 d' e1
      exact step p d0 _ e1 rfl h (.inr ⟨d', rfl, rfl⟩)
    · cases h
section
variable {C : Kw} {B Bx By : Addr → Prop} {o1 oc oc' : Ow} {ρ1 ρ2 : Rho} {σ σ' : L2.St} {H1 H' : Hp} {vs : List V} {as : List Ad} {sl os : List Sl}
theorem AdsOk.length : ∀ {vs : List V} {as : List Ad}, AdsOk C B o1 H1 vs as → vs.length = as.length
  | [], [], _ => rfl
  | _ :: _, _ :: _, ⟨_, h⟩ => by rw [List.length_cons, List.length_cons, AdsOk.length h]
theorem AdsOk.get : ∀ {vs : List V} {as : List Ad} {k : Nat} {a : Ad}, AdsOk C B o1 H1 vs as → as[k]? = some a → ∃ v, vs[k]? = some v ∧ AdOk C B o1 H1 v a
  | [], [], k, a, _, e => by simp at e
  | v :: vs, b :: as, 0, a, ⟨h, _⟩, e => by
    simp at e
    subst e
    exact ⟨v, rfl, h⟩
  | v :: vs, b :: as, k + 1, a, ⟨_, h⟩, e => by
    obtain ⟨w, h1, h2⟩ := AdsOk.get (k := k) h (by simpa using e)
    exact ⟨w, by simpa using h1, h2⟩
/-- the callee's names -/
def owC (o1 : Ow) (as : List Ad) : Ow := fun k => match as[k]? with
  | some (.pk i) => o1 i
  | _ => none
theorem owC_some {k : Nat} {a : Addr} (h : owC o1 as k = some a) : ∃ i, as[k]? = some (.pk i) ∧ o1 i = some a := by
  unfold owC at h
  split at h
  · rename_i i e
    exact ⟨i, e, h⟩
  · cases h
def BC (B : Addr → Prop) (o1 : Ow) (as : List Ad) : Addr → Prop := fun a => B a ∨ ∃ i, o1 i = some a ∧ i ∉ lent as
theorem args_ho (h1 : Ho C B o1 ρ1 σ H1) (ha : AdsOk C B o1 H1 vs as) (hd : distinct (lent as) = true) (hs : argsOf ρ1 as = some sl) : Ho C (BC B o1 as) (owC o1 as) sl (vs.map some) H1 := by
  have zs : ∀ a, Zo (BC B o1 as) (owC o1 as) a → Zo B o1 a := fun a z => by
    rcases z with (z | ⟨i, z, _⟩) | ⟨k, z⟩
    · exact .inl z
    · exact .inr ⟨i, z⟩
    · obtain ⟨i, _, e⟩ := owC_some z
      exact .inr ⟨i, e⟩
  have kz : ∀ a u, ¬ Zo B o1 a → H1 a = some u → H1 a = some u ∧ ¬ Zo (BC B o1 as) (owC o1 as) a := fun a u n e => ⟨e, fun z => n (zs a z)⟩
  refine ⟨fun k s e => ?_, fun k e => ?_, fun k j a e1 e2 => ?_, fun k a e z => ?_, fun a z => h1.zd a (zs a (.inl z)), ?_⟩
  · obtain ⟨ad, q1, q2⟩ := argsOf_get hs e
    obtain ⟨v, q3, q4⟩ := ha.get q1
    have ev : (vs.map some)[k]? = some (some v) := by rw [List.getElem?_map, q3]; rfl
    cases ad with
    | vl d =>
      cases q2
      exact ⟨by unfold owC; rw [q1], v, ev, Den.mono kz q4⟩
    | pk i =>
      simp only [arg] at q2
      split at q2
      · rename_i p d e3
        cases q2
        obtain ⟨a, r1, r2, r3⟩ := h1.sl i _ e3
        obtain ⟨b, q5, q6⟩ := q4
        have := q6 a r1
        subst this
        exact ⟨a, by unfold owC; rw [q1]; exact r1, by rw [ev, q5], r3.mono kz rfl⟩
      · cases q2
  · have : as[k]? = none := by
      rw [List.getElem?_eq_none_iff] at e ⊢
      rw [← argsOf_len hs]; exact e
    unfold owC
    rw [this]
  · obtain ⟨i, q1, q2⟩ := owC_some e1
    obtain ⟨j', q3, q4⟩ := owC_some e2
    have := h1.inj i j' a q2 q4
    subst this
    exact distinct_at hd q1 q3
  · obtain ⟨i, q1, q2⟩ := owC_some e
    rcases z with z | ⟨j, z, n⟩
    · exact h1.nb i a q2 z
    · have := h1.inj i j a q2 z
      subst this
      exact n (lent_mem q1)
  · rw [argsOf_len hs, List.length_map]; exact ha.length.symm
/-- behind the call -/
theorem call_back (h1 : Ho C B o1 ρ1 σ H1) (ha : AdsOk C B o1 H1 vs as) (hd : distinct (lent as) = true) (hb : back ρ1 as os = some ρ2)
    (keep : ∀ a u, ¬ In (owC o1 as) a → H1 a = some u → H' a = some u) (dom : ∀ a, H1 a ≠ none → H' a ≠ none)
    (hc : Ho C Bx oc' os σ' H') (hB : ∀ a, BC B o1 as a → Bx a) (pins : ∀ (k : Nat) s', os[k]? = some s' → s'.pin = true → σ'[k]? = (vs.map some)[k]?)
    (hy : ∀ a, By a → Bx a) (hy2 : ∀ a, By a → B a ∨ H1 a = none) :
    ∃ o2, Ho C By o2 ρ2 σ H' ∧ StepE H1 o1 H' o2 ∧ Pn ρ1 ρ2 ∧ ∀ a, Zo By o2 a → Zo Bx oc' a := by
  obtain ⟨pn, hn, hl⟩ := back_ok hd hb
  let o2 : Ow := fun i => match ρ2[i]? with
    | some (.ow _ _) => o1 i
    | _ => none
  have o2s : ∀ {i : Nat} {a : Addr}, o2 i = some a → o1 i = some a ∧ ∃ p d, ρ2[i]? = some (.ow p d) := fun {i a} e => by
    have e' : (match ρ2[i]? with
      | some (.ow _ _) => o1 i
      | _ => none) = some a := e
    split at e'
    · rename_i p d q
      exact ⟨e', p, d, q⟩
    · cases e'
  -- what a lent name has behind the call
  have at_ : ∀ {k i : Nat}, as[k]? = some (.pk i) → ∃ a, o1 i = some a ∧ σ[i]? = some (some (.ref a)) ∧ (vs.map some)[k]? = some (some (.ref a)) := fun {k i} e => by
    obtain ⟨p, d, d', q1, _⟩ := hl k i e
    obtain ⟨a, r1, r2, _⟩ := h1.sl i _ q1
    obtain ⟨v, r3, b, r4, r5⟩ := ha.get e
    have := r5 a r1
    subst this
    exact ⟨a, r1, r2, by rw [List.getElem?_map, r3, r4]; rfl⟩
  have zsub : ∀ a, Zo By o2 a → Zo Bx oc' a := fun a z => by
    rcases z with z | ⟨i, z⟩
    · exact .inl (hy a z)
    · obtain ⟨e1, p, d, e2⟩ := o2s z
      by_cases hi : i ∈ lent as
      · obtain ⟨k, ek⟩ := mem_lent hi
        obtain ⟨p', d1, d2, q1, q2⟩ := hl k i ek
        obtain ⟨b, r1, r2, r3⟩ := at_ ek
        rw [e1] at r1
        cases r1
        rcases q2 with ⟨q2, q3⟩ | ⟨q2, q3⟩
        · obtain ⟨c, t1, t2, _⟩ := hc.sl k _ q2
          rw [pins k _ q2 rfl, r3] at t2
          cases t2
          exact .inr ⟨k, t1⟩
        · rw [q3] at e2; cases e2
      · exact .inl (hB a (.inr ⟨i, e1, hi⟩))
  have ninC : ∀ {a}, ¬ In o1 a → ¬ In (owC o1 as) a := fun {a} n ⟨k, z⟩ => by
    obtain ⟨i, _, e⟩ := owC_some z
    exact n ⟨i, e⟩
  have kz : ∀ a u, ¬ Zo B o1 a → H1 a = some u → H' a = some u ∧ ¬ Zo By o2 a := fun a u n e => ⟨keep a u (ninC fun z => n (.inr z)) e, fun z => by
    rcases z with z | ⟨i, z⟩
    · rcases hy2 a z with z | z
      · exact n (.inl z)
      · rw [e] at z; cases z
    · exact n (.inr ⟨i, (o2s z).1⟩)⟩
  have sub : ∀ a u, ¬ Zo Bx oc' a → H' a = some u → H' a = some u ∧ ¬ Zo By o2 a := fun a u n e => ⟨e, fun z => n (zsub a z)⟩
  refine ⟨o2, ⟨fun i s e => ?_, fun i e => ?_, fun i j a e1 e2 => h1.inj i j a (o2s e1).1 (o2s e2).1, fun i a e z => ?_, fun a z => ?_, pn.len.trans h1.len⟩, ⟨fun a u n e => keep a u (ninC n) e, dom, fun i a e => (o2s e).1⟩, pn, zsub⟩
  · by_cases hi : i ∈ lent as
    · obtain ⟨k, ek⟩ := mem_lent hi
      obtain ⟨p', d1, d2, q1, q2⟩ := hl k i ek
      obtain ⟨a, r1, r2, r3⟩ := at_ ek
      rcases q2 with ⟨q2, q3⟩ | ⟨q2, q3⟩
      · rw [q3] at e
        cases e
        obtain ⟨c, t1, t2, t3⟩ := hc.sl k _ q2
        rw [pins k _ q2 rfl, r3] at t2
        cases t2
        refine ⟨a, ?_, r2, t3.mono sub rfl⟩
        show (match ρ2[i]? with
          | some (.ow _ _) => o1 i
          | _ => none) = some a
        rw [q3]; exact r1
      · rw [q3] at e
        cases e
        obtain ⟨t1, v, t2, t3⟩ := hc.sl k _ q2
        rw [pins k _ q2 rfl, r3] at t2
        cases t2
        refine ⟨?_, _, r2, t3.mono sub⟩
        show (match ρ2[i]? with
          | some (.ow _ _) => o1 i
          | _ => none) = none
        rw [q3]
    · have e0 : ρ1[i]? = some s := by rw [← hn i hi]; exact e
      have oe : o2 i = o1 i := by
        show (match ρ2[i]? with
          | some (.ow _ _) => o1 i
          | _ => none) = o1 i
        rw [e]
        have q := h1.sl i s e0
        cases s with
        | un => exact (show o1 i = none from q).symm
        | sh p d => exact q.1.symm
        | ow p d => rfl
      rw [oe]
      refine (h1.sl i s e0).mono kz fun a q => ?_
      have nz := h1.zd a (.inr ⟨i, q⟩)
      cases z : H1 a with
      | none => exact absurd z nz
      | some u =>
        refine keep a u (fun ⟨k, y⟩ => ?_) z
        obtain ⟨j, y1, y2⟩ := owC_some y
        have := h1.inj i j a q y2
        subst this
        exact hi (lent_mem y1)
  · show (match ρ2[i]? with
      | some (.ow _ _) => o1 i
      | _ => none) = none
    rw [e]
  · obtain ⟨e1, _⟩ := o2s e
    rcases hy2 a z with z | z
    · exact h1.nb i a e1 z
    · exact h1.zd a (.inr ⟨i, e1⟩) z
  · rcases hy2 a z with y | y
    · exact dom a (h1.bd a y)
    · exact hc.bd a (hy a z)
end

/-! ### the promise of a def by its reckoning -/
def spOf (C : Kw) (cf : Call) (f : Nat) : SpG := fun vs H Q => ∃ B o sl r, Ho C B o sl (vs.map some) H ∧ cf f sl = some r ∧
  ∀ v H' o' σ', Step H o H' o' → (∀ (k : Nat) s', r.2.2[k]? = some s' → s'.pin = true → σ'[k]? = (vs.map some)[k]?) → Res C B o' r.2.2 σ' H H' v r.1 r.2.1 → Q v H'
section
variable {X : Cx} {cn : Nat → Addr} {P : Pr} {cf : Call} {e a b c : Expr} {es : List Expr} {x y z : E} {xs : Es} {pos p : Pos} {k : Nat}
/-- a call's answer, handed back -/
theorem res_back {C : Kw} {B : Addr → Prop} {o o1 oc' : Ow} {ρ1 ρ2 : Rho} {σ σ' : L2.St} {H H1 H' : Hp} {vs : List V} {as : List Ad} {os : List Sl} {v : V} {d : D} {fr : Bool}
    (h1 : Ho C B o1 ρ1 σ H1) (ha : AdsOk C B o1 H1 vs as) (hd : distinct (lent as) = true) (hb : back ρ1 as os = some ρ2) (s1 : StepE H o H1 o1)
    (st : Step H1 (owC o1 as) H' oc') (pins : ∀ (k : Nat) s', os[k]? = some s' → s'.pin = true → σ'[k]? = (vs.map some)[k]?) (rs : Res C (BC B o1 as) oc' os σ' H1 H' v d fr) :
    ∃ o2, StepE H o H' o2 ∧ Pn ρ1 ρ2 ∧ Res C B o2 ρ2 σ H H' v d fr := by
  cases fr with
  | false =>
    obtain ⟨hc, den⟩ := rs
    obtain ⟨o2, h2, s2, pn, zs⟩ := call_back (By := B) h1 ha hd hb st.keep st.dom hc (fun _ z => z) pins (fun a z => .inl z) fun a z => .inl z
    exact ⟨o2, s1.trans s2, pn, h2, den.mono fun a u n q => ⟨q, fun z => n (zs a z)⟩⟩
  | true =>
    obtain ⟨r, ev, n, hc, own⟩ := rs
    obtain ⟨o2, h2, s2, pn, zs⟩ := call_back (By := fun a => B a ∨ a = r) h1 ha hd hb st.keep st.dom hc (fun _ z => .inl z) pins (fun a z => z.imp .inl id) fun a z => z.imp id fun y => by rw [y]; exact n
    exact ⟨o2, s1.trans s2, pn, r, ev, s1.back r n, h2, own.mono (fun a u n q => ⟨q, fun z => n (zs a z)⟩) rfl⟩
theorem tx_call {f : Nat} : ∀ σ H Q, tX (kw X cn) (fun ρ => ev P cf ρ (.call f xs)) σ H Q → tCl (spOf (kw X cn) cf f) (tPs (kw X cn) fun ρ => evos P cf ρ xs) σ H Q := by
  rintro σ H Q ⟨B, o, ρ, r, ho, he, q⟩
  simp only [ev] at he
  obtain ⟨⟨as, ρ1⟩, e1, he⟩ := bind_some he
  obtain ⟨sl, e2, he⟩ := bind_some he
  split at he
  · rename_i hd
    obtain ⟨⟨d, fr, os⟩, e3, he⟩ := bind_some he
    obtain ⟨ρ2, e4, he⟩ := Option.map_eq_some_iff.mp he
    cases he
    refine ⟨B, o, ρ, _, ho, e1, fun vs H1 o1 s1 pn1 h1 ha => ?_⟩
    refine ⟨_, _, sl, _, args_ho h1 ha hd e2, e3, fun v H' o' σ' st pins rs => ?_⟩
    obtain ⟨o2, s2, pn2, r2⟩ := res_back h1 ha hd e4 s1 st pins rs
    exact q v H' o2 s2 (pn1.trans pn2) r2
  · cases he
end
end BK

set_option Elab.async false
set_option linter.all false
set_option maxRecDepth 100000
set_option maxHeartbeats 2000000
/-! BK6b: own objects that are walked: an __iter__ that returns iter(self.F), F a tuple. -/
namespace BK
open PySem PySem.Spec PyProof.Rows L2

def tuIt (t : Addr) : Obj := { cls := .type "tuple_iterator", data := .fields #[.ref t, .int 0 0] }
/-- at it a new iterator over the tuple at t -/
def ItOT (t it : Addr) : HO := .ext fun h => h.get? it = some (tuIt t)
/-- iter(t), t a tuple -/
def rIterT (K : PySem.W.Frag) (n : Nat) : List V → Hp → VK → Prop := fun xs H Q => ∃ (t : Addr) (zs : List V), xs = [.ref t] ∧ SqT K H t zs ∧ ∀ it, H it = none → n ≤ it → Q (.ref it) (upd H it (ItOT t it))
section
variable {X : Cx}
theorem itOT_ok {it t : Addr} {P : Program} {w : World} {H : Hp} {h : Heap} (e : h.get? it = some (tuIt t)) : ObjOk P w H h it (ItOT t it) := ⟨e, ⟨_, e⟩, fun h1 h2 q k => k _ q⟩
theorem call_iterT : CallR X (.builtin "iter") (rIterT X.K X.s_0.heap.objs.size) := by
  intro pins s σ H xs us Q I r h
  obtain ⟨t, zs, rfl, hq, q⟩ := h
  obtain ⟨u, rfl, ru⟩ := vals1 r
  cases ru
  obtain ⟨its, rv, pl, hz⟩ := I.tuple hq
  refine Calls.call_function_entry (by decide +kernel) (by decide +kernel) PySem.W.kdk_entry_iter (PySem.W.kdk_args_iter _) ?_
  unfold Builtin.«iter»
  refine wpAny_bind (m := someArgs "iter" 1 2 _) (wpAny_of_eq (a := [Value.ref t]) (by first | rfl | kernel_rfl!) ?_)
  show wpAny _ _ (pyIter (.ref t) >>= _) _ _ _
  refine wpAny_bind (wpAny_pyIter_tuple pl ?_)
  refine wpAny_pure ⟨_, rfl, ?_⟩
  exact ⟨.ref s.heap.objs.size, _, I.laid (t' := s.toks) (fun b u e => Heap.get?_push_of_some _ e) (Nat.le_refl _) (itOT_ok (Heap.get?_push_size _ rfl)), rfl, q _ (I.hok.fresh (Nat.le_refl _)) I.sz⟩
end
/-- what such an __iter__ promises: a new iterator -/
def ItRun (P : Program) (w : World) (K : PySem.W.Frag) (mg : Str → Option Value) (base : Heap) (f : Addr) (fd : FuncData) (ps : List Str) (n : Str) : Prop :=
  ps.length = 1 ∧ ∀ (A : Around) (outer : List Env) (s : Shared) (H : Hp) (args : Args) (a C dx t : Addr) (fs : List (Str × V)) (xs : List V), Room 1 A → A.guards = some [] → Env0 P w K mg base A outer s H → BindsTo s fd args (ps.zip [.ref a]) →
    H a = some (.ins C dx fs) → L2.Cls K C → NoAttr K C n → fs.lookup n = some (.ref t) → SqT K H t xs →
    codeAny (model P w) A (.call (.ref f) args) (CR CX0 outer P w H s (fun v H' => ∃ it, v = .ref it ∧ s.heap.objs.size ≤ it ∧ H' = upd H it (ItOT t it)) E0) s
/-- the class at C has such an __iter__ -/
def ItOk (P : Program) (w : World) (K : PySem.W.Frag) (mg : Str → Option Value) (base : Heap) (C : Addr) (n : Str) : Prop :=
  ∃ f fd ps, PySem.W.findIn K (.ref C) "__iter__" = some (some (.ref f)) ∧ PySem.W.isFn K (.ref f) = true ∧ ItRun P w K mg base f fd ps n ∧ Binds K fd ps []
section
variable {X : Cx} {pins : List (Addr × Obj)} {σ : L2.St} {H : Hp} {s : Shared} {tg : Expr}
theorem own_iter {R : It → Hp → Prop} {a C dx t : Addr} {fs : List (Str × V)} {xs : List V} {n : Str} (ok : ItOk X.prog X.w X.K X.mg X.base C n) (hr : Room 1 X.A) (hg : X.A.guards = some []) (I : Inv X pins σ H s)
    (ha : H a = some (.ins C dx fs)) (hc : L2.Cls X.K C) (hn : NoAttr X.K C n) (hl : fs.lookup n = some (.ref t)) (ht : SqT X.K H t xs) (q : R (Itt X.K t) H) : wpAny (model X.prog X.w) X.A (pyIter (.ref a)) (PIE X pins σ tg R) X.xe s := by
  obtain ⟨f, fd, ps, h1, h2, ⟨hlen, F⟩, B⟩ := ok
  obtain ⟨mA, J, _⟩ := ins_get I.hok ha
  obtain ⟨od, J, _⟩ := J.look
  obtain ⟨m0, hF⟩ := I.fr
  refine PySem.W.owit_iter hF I.ok.mod.kin J h1 h2 ?_
  have hb := B s [.ref a] I.kIn (by simpa using hlen.symm)
  rw [List.append_nil] at hb
  refine wpAny_call (codeAny_mono (F X.A X.stack s H ⟨[.ref a], []⟩ a C dx t fs xs hr hg I.env0 hb ha hc hn hl ht) fun r s' hq => ?_)
  cases r with
  | error e => exact False.elim hq
  | ok fl =>
    cases fl with
    | next => exact False.elim hq
    | brk => exact False.elim hq
    | cont => exact False.elim hq
    | ret u =>
      obtain ⟨v, H', I', rv, it, rfl, hsz, rfl⟩ := I.after hq
      cases rv
      have e0 : (upd H it (ItOT t it)) it = some (.ext fun h => h.get? it = some (tuIt t)) := upd_same
      have eo : s'.heap.get? it = some (tuIt t) := (I'.hok it _ e0).1
      have hH : ItX.dropH (upd H it (ItOT t it)) it = H := ItX.dropH_upd (I.hok.fresh hsz)
      have st : s'.heap.IsTupleIter it t 0 := ⟨_, eo, rfl, rfl⟩
      have I2 := ItX.inv_drop I' e0
      have fp := ItX.inv_fp I' e0 (Nat.le_trans I.sz hsz)
      rw [hH] at I2 fp
      unfold PySem.W.OwitIt
      refine wpAny_specialOf (name := Str.ofString "__next__") st.typeIs PySem.F.slot_tuple_iterator_next.lookup ?_
      refine ⟨it, [it], _, _, H, rfl, I2, turn_tuple t it, st, fun b hb => ?_, q⟩
      have e : b = it := by simpa using hb
      rw [e]
      exact fp
end
end BK

set_option Elab.async false
set_option linter.all false
set_option maxRecDepth 100000
set_option maxHeartbeats 2000000
/-! BK7: expressions, on: methods, new instances, changes of lists, truths, tests, chains, displays of dicts. -/
namespace BK
open PySem PySem.Spec PyProof.Rows L2
section
variable {X : Cx} {cn : Nat → Addr} {P : Pr} {cf : Call} {e a b c ob : Expr} {es : List Expr} {x y z : E} {xs : Es} {pos p apos : Pos} {k : Nat} {m : Str} {ta : TE} {t : TA}
/-! a method: the class is known at the object alone -/
def tMd (X : Cx) (k : Nat) (m : Str) (ta : TE) (t : TA) : TE := fun σ H Q => ta σ H fun x H1 => ∃ C f fd ps sp a dx fs, x = .ref a ∧ H1 a = some (.ins C dx fs) ∧ fs.lookup m = none ∧ L2.Cls X.K C ∧ Meth X.K C m f ∧ FnG X.prog X.w X.K X.mg X.base k f fd ps sp ∧ Binds X.K fd ps [] ∧
  t σ H1 fun vs H2 => sp (x :: vs) H2 Q
theorem pe_md {pl : Sem Bool} (he : PE X ob ta) (hr : Room k X.A) (hgu : X.A.guards = some []) (ha : PA X (e :: es) t)
    (hst : starEach (e :: es) X.env = (false, eval e X.env) :: starEach es X.env) (hpl : (backTo pos (starEach es X.env)).any (·.1) = false)
    (ht : eval (.Call (.Attribute ob m apos) (e :: es) [] pos) X.env = (do
      let ov ← eval ob X.env
      standAt apos.atName
      let (g, first) ← holding [ov] (getMethod ov m pl)
      callWith pos g first (backTo pos (starEach (e :: es) X.env)) (backToKw pos (keywordEach [] X.env)))) : PE X (.Call (.Attribute ob m apos) (e :: es) [] pos) (tMd X k m ta t) := by
  refine ⟨fun pins s σ H Q I h => PySem.W.methodCall_KW (pl := pl) (thn (he.run pins s σ H _ I h) ?_) ht⟩
  rintro u s1 ⟨x, H1, I1, rx, C, f, fd, ps, sp, a, dx, fs, rfl, ea, l, hc, hm, F, hb, q⟩
  cases rx
  refine getmeth_ok I1 ea hc hm l (PySem.W.callWith_K (first := [.ref a]) (h₀ := X.base) I.ok.mod.kin hm.kp (thn (ha.run pos pins s1 σ H1 _ I1 q) ?_) hst hpl)
  rintro us s2 ⟨vs, H2, I2, r, q2⟩
  exact ⟨I2.kIn, run_fng (us := .ref a :: us) (vs := .ref a :: vs) F hr hgu hb I2 (.cons rfl r) q2⟩
theorem pe_md0 {pl : Sem Bool} (he : PE X ob ta) (hr : Room k X.A) (hgu : X.A.guards = some [])
    (ht : eval (.Call (.Attribute ob m apos) [] [] pos) X.env = (do
      let ov ← eval ob X.env
      standAt apos.atName
      let (g, first) ← holding [ov] (getMethod ov m pl)
      callWith pos g first (backTo pos (starEach [] X.env)) (backToKw pos (keywordEach [] X.env)))) : PE X (.Call (.Attribute ob m apos) [] [] pos) (tMd X k m ta tNil) := by
  refine ⟨fun pins s σ H Q I h => PySem.W.methodCall_KW (pl := pl) (thn (he.run pins s σ H _ I h) ?_) ht⟩
  rintro u s1 ⟨x, H1, I1, rx, C, f, fd, ps, sp, a, dx, fs, rfl, ea, l, hc, hm, F, hb, q⟩
  cases rx
  exact getmeth_ok I1 ea hc hm l (PySem.W.callWith_K0 (first := [.ref a]) I1.kIn hm.kp (run_fng (us := [.ref a]) (vs := [.ref a]) F hr hgu hb I1 (.cons rfl .nil) q))
def tyU (cn : Nat → Addr) : Ty → Value
  | .int => .type "int"
  | .bool => .type "bool"
  | .str => .type "str"
  | .list => .type "list"
  | .tuple => .type "tuple"
  | .dict => .type "dict"
  | .own c => .ref (cn c)
def tyNs : List String := ["NoneType", "bool", "int", "str", "list", "tuple", "dict"]
def tyOk (P : Pr) : Ty → Bool
  | .own c => (P.cls[c]?).isSome
  | _ => true
/-- isinstance at a class -/
structure IsC (K : PySem.W.Frag) (cn : Nat → Addr) (P : Pr) (c : Nat) : Prop where
  kx : PySem.W.findIn K (.ref (cn c)) "__class__" = some (some (.builtin "object.__class__"))
  kg : PySem.W.specialIn K (.builtin "object.__class__") "__get__" = some (some (.builtin "getset_descriptor.__get__"))
  kt : PySem.W.takesIn K (.builtin "object.__class__") = some true
  ki : ∀ t, tyOk P t = true → PySem.W.kitOne K (.ref (cn c)) (tyU cn t) = some ((D.ins c [] []).isi t)
  kb : ∀ n, n ∈ tyNs → PySem.W.kitOne K (.type n) (.ref (cn c)) = some false
/-- what is known of the program's classes -/
structure CkOk (X : Cx) (cn : Nat → Addr) (P : Pr) (cf : Call) (k : Nat) (c : Nat) (kl : Cls) : Prop where
  mgC : X.mg kl.name = some (.ref (cn c))
  cls : L2.Cls X.K (cn c)
  made : ∃ f fd ps, Mk X.K (cn c) f ∧ FnG X.prog X.w X.K X.mg X.base k f fd ps (spOf (kw X cn) cf kl.init) ∧ Binds X.K fd ps []
  ms : ∀ m g, kl.ms.lookup m = some g → ∃ f fd ps, (Meth X.K (cn c) m f ∧ PySem.W.fnIn X.K f = true) ∧ FnG X.prog X.w X.K X.mg X.base k f fd ps (spOf (kw X cn) cf g) ∧ Binds X.K fd ps []
  na : ∀ n, kl.fs.contains n = true → NoAttr X.K (cn c) n
  sf : PySem.W.selfFirst X.K (cn c) = true
  nq : PySem.W.noSeq X.K (cn c) = true
  ne : PySem.W.findIn X.K (.ref (cn c)) "__ne__" = some (some (.builtin "object.__ne__"))
  ob : PySem.W.mroIn X.K (cn c) (.type "object") = some true
  is : IsC X.K cn P c
  it : ∀ n, kl.itf = some n → ItOk X.prog X.w X.K X.mg X.base (cn c) n ∧ kl.fs.contains n = true
theorem look_zip {m : Str} : ∀ {ns : List Str} {vs : List V}, ns.contains m = false → (ns.zip vs).lookup m = none
  | [], vs, _ => by simp
  | n :: ns, [], _ => by simp
  | n :: ns, v :: vs, h => by
    rw [List.contains_cons, Bool.or_eq_false_iff] at h
    rw [List.zip_cons_cons, List.lookup_cons, h.1]
    exact look_zip h.2
theorem tx_meth (hc : ∀ (c : Nat) kl, P.cls[c]? = some kl → CkOk X cn P cf k c kl) : ∀ σ H Q, tX (kw X cn) (fun ρ => ev P cf ρ (.meth m x xs)) σ H Q →
    tMd X k m (tP (kw X cn) fun ρ => opn ρ x (ev P cf ρ x)) (tPs (kw X cn) fun ρ => evos P cf ρ xs) σ H Q := by
  rintro σ H Q ⟨B, o, ρ, r, ho, he, q⟩
  simp only [ev] at he
  obtain ⟨⟨ad, ρ1⟩, e1, he⟩ := bind_some he
  obtain ⟨⟨as, ρ2⟩, e2, he⟩ := bind_some he
  obtain ⟨od, e3, he⟩ := bind_some he
  split at he
  · rename_i c ns ds
    split at he
    · cases he
    rename_i hn
    obtain ⟨f, e4, he⟩ := bind_some he
    obtain ⟨sl, e5, he⟩ := bind_some he
    split at he
    · rename_i hd
      obtain ⟨⟨d, fr, os⟩, e6, he⟩ := bind_some he
      obtain ⟨ρ3, e7, he⟩ := Option.map_eq_some_iff.mp he
      cases he
      unfold mth at e4
      obtain ⟨kl, e8, e9⟩ := bind_some e4
      have K := hc c kl e8
      obtain ⟨g, fd, ps, ⟨hm, _⟩, F, hb⟩ := K.ms m f e9
      refine ⟨B, o, ρ, _, ho, e1, fun v H1 o1 s1 pn1 h1 a1 => ?_⟩
      obtain ⟨a, dx, vs, rfl, ha, hl, hv⟩ := (a1.den h1 e3).ins
      refine ⟨cn c, g, fd, ps, _, a, dx, _, rfl, ha, look_zip (by simpa using hn), K.cls, hm, F, hb, ?_⟩
      refine ⟨B, o1, ρ1, _, h1, e2, fun ws H2 o2 s2 pn2 h2 ha2 => ?_⟩
      have hads : AdsOk (kw X cn) B o2 H2 (V.ref a :: ws) (ad :: as) := ⟨a1.step s2, ha2⟩
      refine ⟨_, _, sl, _, args_ho h2 hads hd e5, e6, fun v H' o' σ' st pins rs => ?_⟩
      obtain ⟨o3, s3, pn3, r3⟩ := res_back h2 hads hd e7 (s1.trans s2) st pins rs
      exact q v H' o3 s3 ((pn1.trans pn2).trans pn3) r3
    · cases he
  · cases he
/-! a new instance -/
theorem Ho.tail {C : Kw} {B : Addr → Prop} {o : Ow} {s : Sl} {sl : List Sl} {v : Option V} {σ : L2.St} {H : Hp} (h : Ho C B o (s :: sl) (v :: σ) H) :
    Ho C (fun a => B a ∨ o 0 = some a) (fun k => o (k + 1)) sl σ H := by
  have zs : ∀ a, Zo (fun a => B a ∨ o 0 = some a) (fun k => o (k + 1)) a → Zo B o a := fun a z => by
    rcases z with (z | z) | ⟨k, z⟩
    · exact .inl z
    · exact .inr ⟨0, z⟩
    · exact .inr ⟨k + 1, z⟩
  refine ⟨fun i t e => ?_, fun i e => h.out (i + 1) (by simpa using e), fun i j a e1 e2 => by simpa using h.inj (i + 1) (j + 1) a e1 e2, fun i a e z => ?_, fun a z => ?_, by simpa using h.len⟩
  · have q := h.sl (i + 1) t (by simpa using e)
    exact (by simpa using q : SlOk C (Zo B o) H (o (i + 1)) (σ[i]?) t).mono (fun a u n q => ⟨q, fun z => n (zs a z)⟩) fun _ _ => rfl
  · rcases z with z | z
    · exact h.nb _ a e z
    · exact absurd (h.inj (i + 1) 0 a e z) (by omega)
  · exact h.zd a (z.elim .inl fun y => .inr ⟨0, y⟩)
theorem tx_new {c : Nat} {kl : Cls} (hk : P.cls[c]? = some kl) : ∀ σ H Q, tX (kw X cn) (fun ρ => ev P cf ρ (.new c xs)) σ H Q → tNw (cn c) (spOf (kw X cn) cf kl.init) (tPs (kw X cn) fun ρ => evos P cf ρ xs) σ H Q := by
  rintro σ H Q ⟨B, o, ρ, r, ho, he, q⟩
  simp only [ev, hk, Option.bind_some] at he
  obtain ⟨⟨as, ρ1⟩, e1, he⟩ := bind_some he
  obtain ⟨sl, e2, he⟩ := bind_some he
  split at he
  · rename_i hd
    refine ⟨B, o, ρ, _, ho, e1, fun vs H1 o1 s1 pn1 h1 ha => fun xa dx n1 n2 ne => ?_⟩
    -- the callee's names: the new object, then the arguments
    have hc := args_ho h1 ha hd e2
    generalize hH2 : upd (upd H1 dx (.own xa)) xa (.ins (cn c) dx []) = H2
    have x2 : Ext H1 H2 := fun b u eb => by
      rw [← hH2, upd_ne (ne_of_none eb n1), upd_ne (ne_of_none eb n2)]
      exact eb
    have hx2 : H2 xa = some (.ins (cn c) dx []) := by rw [← hH2]; exact upd_same
    have h12 := h1.ext x2
    have ha2 : AdsOk (kw X cn) B o1 H2 vs as := ha.step x2.stepE
    let oc : Ow := fun k => match k with
      | 0 => some xa
      | k + 1 => owC o1 as k
    have fz : ∀ a, Zo (BC B o1 as) (owC o1 as) a → a ≠ xa := fun a z y => hc.zd a z (by rw [y]; exact n1)
    have hcn : Ho (kw X cn) (BC B o1 as) oc (.ow true (.ins c [] []) :: sl) (some (.ref xa) :: vs.map some) H2 := by
      refine ⟨fun k s ek => ?_, fun k ek => ?_, fun k j a ek ej => ?_, fun k a ek z => ?_, fun a z => x2.dom a (hc.bd a z), by simpa using hc.len⟩
      · cases k with
        | zero =>
          simp at ek
          subst ek
          exact ⟨xa, rfl, rfl, dx, [], hx2, rfl, .nil⟩
        | succ k =>
          have q := hc.sl k s (by simpa using ek)
          have q' : SlOk (kw X cn) (Zo (BC B o1 as) oc) H2 (owC o1 as k) ((vs.map some)[k]?) s := q.mono (fun a u n y => ⟨x2 a u y, fun z => by
            rcases z with z | ⟨j, z⟩
            · exact n (.inl z)
            · cases j with
              | zero =>
                have : xa = a := Option.some.inj z
                rw [← this, n1] at y; cases y
              | succ j => exact n (.inr ⟨j, z⟩)⟩) fun a y => by
            have nz := hc.zd a (.inr ⟨k, y⟩)
            cases w : H1 a with
            | none => exact absurd w nz
            | some u => exact x2 a u w
          simpa using q'
      · cases k with
        | zero => simp at ek
        | succ k => exact hc.out k (by simpa using ek)
      · cases k with
        | zero =>
          cases j with
          | zero => rfl
          | succ j =>
            have : xa = a := Option.some.inj ek
            exact absurd this.symm (fz a (.inr ⟨j, ej⟩))
        | succ k =>
          cases j with
          | zero =>
            have : xa = a := Option.some.inj ej
            exact absurd this.symm (fz a (.inr ⟨k, ek⟩))
          | succ j => rw [hc.inj k j a ek ej]
      · cases k with
        | zero =>
          have : xa = a := Option.some.inj ek
          exact fz a (.inl z) this.symm
        | succ k => exact hc.nb k a ek z
    -- behind __init__
    have fin : ∀ (d : D) (f0 fr : Bool) (s0 : Sl) (os : List Sl) (ρ2 : Rho), cf kl.init (.ow true (.ins c [] []) :: sl) = some (.non, f0, s0 :: os) → back ρ1 as os = some ρ2 → r = (d, fr, ρ2) →
        ((s0 = .ow true d ∧ fr = true) ∨ (s0 = .sh true d ∧ fr = false)) → spOf (kw X cn) cf kl.init (.ref xa :: vs) H2 fun v H3 => v = .non ∧ Q (.ref xa) H3 := by
      intro d f0 fr s0 os ρ2 g1 g2 g3 g4
      subst g3
      refine ⟨_, oc, _, _, hcn, g1, fun v H3 o3 σ3 st pins rs => ?_⟩
      have rs' := rs.shared hcn.bd
      obtain ⟨ho3, dv⟩ := rs'
      refine ⟨by cases dv; rfl, ?_⟩
      obtain ⟨w0, σr, es3⟩ : ∃ w0 σr, σ3 = w0 :: σr := by
        cases σ3 with
        | nil =>
          have := ho3.len
          simp at this
        | cons w0 σr => exact ⟨w0, σr, rfl⟩
      subst es3
      have p0 : w0 = some (.ref xa) := by
        have := pins 0 s0 rfl (by rcases g4 with ⟨g, _⟩ | ⟨g, _⟩ <;> rw [g] <;> rfl)
        simpa using this
      have ht := ho3.tail
      have s0k := ho3.sl 0 s0 rfl
      have kp : ∀ a u, ¬ In (owC o1 as) a → H2 a = some u → a ≠ xa → H3 a = some u := fun a u n y z => st.keep a u (fun ⟨j, w⟩ => by
        cases j with
        | zero => exact z (Option.some.inj w).symm
        | succ j => exact n ⟨j, w⟩) y
      have kp1 : ∀ a u, ¬ In (owC o1 as) a → H1 a = some u → H3 a = some u := fun a u n y => kp a u n (x2 a u y) fun z => by rw [z, n1] at y; cases y
      have pins' : ∀ (k : Nat) s', os[k]? = some s' → s'.pin = true → σr[k]? = (vs.map some)[k]? := fun k s' y z => by simpa using pins (k + 1) s' (by simpa using y) z
      have dm : ∀ a, H1 a ≠ none → H3 a ≠ none := fun a n => st.dom a (x2.dom a n)
      rcases g4 with ⟨g, gf⟩ | ⟨g, gf⟩
      · subst g gf
        obtain ⟨a0, y1, y2, y3⟩ := s0k
        have : a0 = xa := by
          have y2' : some w0 = some (some (V.ref a0)) := y2
          rw [p0] at y2'
          cases y2'; rfl
        subst this
        obtain ⟨o2, h2, s2, pn2, zs⟩ := call_back (By := fun a => B a ∨ a = a0) h1 ha hd g2 kp1 dm ht (fun a z => .inl z) pins' (fun a z => z.elim (fun w => .inl (.inl w)) fun w => .inr (by rw [w]; exact y1)) fun a z => z.imp id fun w => by rw [w]; exact n1
        refine q _ H3 o2 (s1.trans s2) (pn1.trans pn2) ⟨a0, rfl, s1.back a0 n1, h2, y3.mono (fun a u n y => ⟨y, fun z => ?_⟩) rfl⟩
        rcases zs a z with (z | z) | ⟨j, z⟩
        · exact n (.inl z)
        · exact n (.inr ⟨0, z⟩)
        · exact n (.inr ⟨j + 1, z⟩)
      · subst g gf
        obtain ⟨y1, w, y2, y3⟩ := s0k
        have : w = .ref xa := by
          have y2' : some w0 = some (some w) := y2
          rw [p0] at y2'
          cases y2'; rfl
        subst this
        obtain ⟨o2, h2, s2, pn2, zs⟩ := call_back (By := B) h1 ha hd g2 kp1 dm ht (fun a z => .inl z) pins' (fun a z => .inl (.inl z)) fun a z => .inl z
        refine q _ H3 o2 (s1.trans s2) (pn1.trans pn2) ⟨h2, y3.mono fun a u n y => ⟨y, fun z => ?_⟩⟩
        rcases zs a z with (z | z) | ⟨j, z⟩
        · exact n (.inl z)
        · exact n (.inr ⟨0, z⟩)
        · exact n (.inr ⟨j + 1, z⟩)
    split at he
    · rename_i f0 d os g1
      obtain ⟨ρ2, g2, g3⟩ := Option.map_eq_some_iff.mp he
      exact fin d f0 true _ os ρ2 g1 g2 g3.symm (.inl ⟨rfl, rfl⟩)
    · rename_i f0 d os g1
      obtain ⟨ρ2, g2, g3⟩ := Option.map_eq_some_iff.mp he
      exact fin d f0 false _ os ρ2 g1 g2 g3.symm (.inr ⟨rfl, rfl⟩)
    · cases he
  · cases he
end
end BK

set_option Elab.async false
set_option linter.all false
set_option maxRecDepth 100000
set_option maxHeartbeats 2000000
/-! BK7b: operators that an own class says. -/
namespace BK
open PySem PySem.Spec PyProof.Rows L2
theorem _root_.L2.OpR.or2 {X : Cx} {f : Value → Value → Sem Value} {r r' : R2} (h : OpR X f r) (h' : OpR X f r') : OpR X f (fun x y H Q => r x y H Q ∨ r' x y H Q) :=
  fun pins s σ H x y v u Q I rx ry q => q.elim (h pins s σ H x y v u Q I rx ry) (h' pins s σ H x y v u Q I rx ry)
section
variable {X : Cx} {cn : Nat → Addr} {P : Pr} {cf : Call} {k : Nat} {op : Op}
/-- what comes of the method's answer -/
def pst (op : Op) (Q : VK) : VK := fun v H' => match op with
  | .eq => ∃ t, v = .bl t ∧ Q (.bl t) H'
  | .ne => ∃ t, v = .bl t ∧ Q (.bl (!t)) H'
  | .isin => ∃ t, v = .bl t ∧ Q (.bl t) H'
  | .notin => ∃ t, v = .bl t ∧ Q (.bl (!t)) H'
  | .len => ∃ n, v = .int n ∧ 0 ≤ n ∧ n < 1000000000 ∧ Q (.int n) H'
  | _ => Q v H'
theorem res_int {C : Kw} {B : Addr → Prop} {o : Ow} {ρ : Rho} {σ : L2.St} {H0 H : Hp} {v : V} {t : Int} {f : Bool} (h : Res C B o ρ σ H0 H v (.int t) f) : v = .int t := by
  cases f with
  | false => exact (show DenT _ _ _ _ _ from .inl h.2).int
  | true =>
    obtain ⟨_, _, _, _, w⟩ := h
    exact w.elim
theorem res_not {C : Kw} {B : Addr → Prop} {o : Ow} {ρ : Rho} {σ : L2.St} {H0 H : Hp} {v : V} {t f : Bool} (h : Res C B o ρ σ H0 H v (.bl t) f) : Res C B o ρ σ H0 H (.bl (!t)) (.bl (!t)) f := by
  cases f with
  | false => exact ⟨h.1, .bl _⟩
  | true =>
    obtain ⟨_, _, _, _, w⟩ := h
    exact w.elim
theorem own_sp (hc : ∀ (c : Nat) kl, P.cls[c]? = some kl → CkOk X cn P cf k c kl) {c : Nat} {m : Str} {vs : List V} {as : List Ad} {H2 : Hp} {Q : VK} (h : wOw (kw X cn) P cf op c m vs as H2 Q) :
    ∃ kl g fd ps f, CkOk X cn P cf k c kl ∧ (Meth X.K (cn c) m g ∧ PySem.W.fnIn X.K g = true) ∧ FnG X.prog X.w X.K X.mg X.base k g fd ps (spOf (kw X cn) cf f) ∧ Binds X.K fd ps [] ∧ spOf (kw X cn) cf f vs H2 (pst op Q) := by
  obtain ⟨B, o2, ρ2, σ, H0, o0, r, h2, ha, s2, he, q⟩ := h
  unfold ownEnd at he
  obtain ⟨⟨d, fr, ρ3⟩, e1, he⟩ := bind_some he
  obtain ⟨d', e2, he⟩ := Option.map_eq_some_iff.mp he
  cases he
  unfold ownGo at e1
  obtain ⟨f, e3, e1⟩ := bind_some e1
  obtain ⟨sl, e4, e1⟩ := bind_some e1
  split at e1
  · rename_i hd
    obtain ⟨⟨d0, fr0, os⟩, e6, e1⟩ := bind_some e1
    obtain ⟨ρ4, e7, e1⟩ := Option.map_eq_some_iff.mp e1
    cases e1
    unfold mth at e3
    obtain ⟨kl, e8, e9⟩ := bind_some e3
    have K := hc c kl e8
    obtain ⟨g, fd, ps, hm, F, hb⟩ := K.ms m f e9
    refine ⟨kl, g, fd, ps, f, K, hm, F, hb, _, _, sl, _, args_ho h2 ha hd e4, e6, fun v H' o' σ' st pins rs => ?_⟩
    obtain ⟨o3, s3, pn3, r3⟩ := res_back h2 ha hd e7 s2 st pins rs
    cases op <;> first
      | (simp only [post] at e2; cases e2; exact q v H' o3 s3 pn3 r3)
      | (cases d <;> simp only [post] at e2 <;> first
          | (cases e2; done)
          | (cases e2
             have hv := (res_bl r3).1
             subst hv
             first
               | exact ⟨_, rfl, q _ H' o3 s3 pn3 r3⟩
               | exact ⟨_, rfl, q _ H' o3 s3 pn3 (res_not r3)⟩)
          | (split at e2
             · rename_i hn
               cases e2
               have hv := res_int r3
               subst hv
               exact ⟨_, rfl, hn.1, hn.2, q _ H' o3 s3 pn3 r3⟩
             · cases e2))
  · cases e1
/-- a value's own place, as the interpreter looks for methods -/
theorem inst_at {pins : List (Addr × Obj)} {σ : L2.St} {H : Hp} {s : Shared} {a C dx : Addr} {fs : List (Str × V)} (I : Inv X pins σ H s) (e : H a = some (.ins C dx fs)) : ∃ od, PySem.W.InstAt s.heap a (PySem.W.instObj C dx) C (some od) := by
  obtain ⟨mA, J, _⟩ := ins_get I.hok e
  obtain ⟨od, J, _⟩ := J.look
  exact ⟨od, J⟩
theorem cmpback {Q : VK} {pins : List (Addr × Obj)} {σ : L2.St} {v : Value} {s : Shared} (h : EP X pins σ Q v s) : PySem.W.CmpBack (EP X pins σ Q) v s := by
  obtain ⟨z, H', I', r, q⟩ := h
  cases v <;> first
    | exact ⟨z, H', I', r, q⟩
    | (cases z <;> first
        | (cases r; done)
        | (obtain ⟨_, r⟩ := r; cases r))
def kBin : Op → Option (Operator × String)
  | .bor => some (.BitOr, "or")
  | .band => some (.BitAnd, "and")
  | .sub => some (.Sub, "sub")
  | _ => none
theorem both_ok {d e : D} {m : Str} {c : Nat} {m' : Str} {sw : Bool} (h : both d e m = some (c, m', sw)) : m' = m ∧ sw = false ∧ ∃ ns vs ns' vs', d = .ins c ns vs ∧ e = .ins c ns' vs' := by
  unfold both at h
  split at h
  · rename_i c1 c2 h1 h2
    split at h
    · rename_i hcc
      cases h
      subst hcc
      refine ⟨rfl, rfl, ?_⟩
      cases d <;> simp [isIns] at h1
      cases e <;> simp [isIns] at h2
      subst h1 h2
      exact ⟨_, _, _, _, rfl, rfl⟩
    · cases h
  · cases h
theorem op_bin_own (hc : ∀ (c : Nat) kl, P.cls[c]? = some kl → CkOk X cn P cf k c kl) (hr : Room k X.A) (hg : X.A.guards = some []) {oc : Operator} {nm : String} (hk : kBin op = some (oc, nm)) : OpR X (binaryOp oc) (wOw2 (kw X cn) P cf op) := by
  intro pins s σ H x y v u Q I rx ry h
  obtain ⟨Z, d, e, c, m, sw, xa, ya, hd, he, hs, w⟩ := h
  have hb : ∃ m0, both d e m0 = some (c, m, sw) ∧ m0 = PySem.dunder oc.info.2 ∧ (∀ Q : VK, pst op Q = Q) := by
    cases op <;> simp only [kBin] at hk <;> try (cases hk; done)
    all_goals
      cases hk
      exact ⟨_, hs, rfl, fun _ => rfl⟩
  obtain ⟨m0, hb, hm0, hp⟩ := hb
  obtain ⟨rfl, rfl, ns, ds, ns', es, rfl, rfl⟩ := both_ok hb
  obtain ⟨a, dx, vs, rfl, ha, _, _⟩ := hd.ins
  obtain ⟨b, dy, us, rfl, hb', _, _⟩ := he.ins
  cases rx
  cases ry
  obtain ⟨kl, g, fd, ps, f, K, ⟨M, FI⟩, F, B, sp⟩ := own_sp hc w
  obtain ⟨od, J⟩ := inst_at I ha
  obtain ⟨od', J'⟩ := inst_at I hb'
  obtain ⟨mm, hF⟩ := I.fr
  refine PySem.W.binop_K hF I.ok.mod.kin J J'.type K.sf (by rw [← hm0]; exact M.at_) M.fn ?_
  refine thn (run_fng (us := [.ref a, .ref b]) (vs := [.ref a, .ref b]) F hr hg B I (.cons rfl (.cons rfl .nil)) sp) fun v' s' h' => ?_
  rw [hp] at h'
  exact cmpback h'
theorem op_eq_own (hc : ∀ (c : Nat) kl, P.cls[c]? = some kl → CkOk X cn P cf k c kl) (hr : Room k X.A) (hg : X.A.guards = some []) : OpR X (compareOp .Eq) (wOw2 (kw X cn) P cf .eq) := by
  intro pins s σ H x y v u Q I rx ry h
  obtain ⟨Z, d, e, c, m, sw, xa, ya, hd, he, hs, w⟩ := h
  obtain ⟨rfl, rfl, ns, ds, ns', es, rfl, rfl⟩ := both_ok (show both d e "__eq__" = _ from hs)
  obtain ⟨a, dx, vs, rfl, ha, _, _⟩ := hd.ins
  obtain ⟨b, dy, us, rfl, hb', _, _⟩ := he.ins
  cases rx
  cases ry
  obtain ⟨kl, g, fd, ps, f, K, ⟨M, FI⟩, F, B, sp⟩ := own_sp hc w
  obtain ⟨od, J⟩ := inst_at I ha
  obtain ⟨od', J'⟩ := inst_at I hb'
  obtain ⟨mm, hF⟩ := I.fr
  show wpAny (model X.prog X.w) X.A (richCompare .Eq (.ref a) (.ref b)) (EP X pins σ Q) X.xe s
  refine PySem.W.cmp_K (op := .Eq) (tb := .ref (cn c)) (by have := hr.un; omega) hF I.ok.mod.kin J J'.type (by simp [PySem.W.notFirst]; exact .inl rfl) M.at_ M.fn ?_
  refine thn (run_fng (us := [.ref a, .ref b]) (vs := [.ref a, .ref b]) F hr hg B I (.cons rfl (.cons rfl .nil)) sp) fun v' s' h' => ?_
  obtain ⟨z, H', I', r, t, rfl, q⟩ := h'
  exact cmpback ⟨_, H', I', r, q⟩
theorem un_inv_own (hc : ∀ (c : Nat) kl, P.cls[c]? = some kl → CkOk X cn P cf k c kl) (hr : Room k X.A) (hg : X.A.guards = some []) : UnR X (unaryOp .Invert) (wOw1 (kw X cn) P cf .inv) := by
  intro pins s σ H x v Q I rx h
  obtain ⟨Z, d, c, m, xa, hd, hs, w⟩ := h
  simp only [spc1] at hs
  obtain ⟨c', hs, hs2⟩ := Option.map_eq_some_iff.mp hs
  cases hs2
  cases d <;> simp [isIns] at hs
  subst hs
  obtain ⟨a, dx, vs, rfl, ha, _, _⟩ := hd.ins
  cases rx
  obtain ⟨kl, g, fd, ps, f, K, ⟨M, FI⟩, F, B, sp⟩ := own_sp hc w
  obtain ⟨od, J⟩ := inst_at I ha
  obtain ⟨mm, hF⟩ := I.fr
  exact PySem.W.ksp_inv hF I.ok.mod.kin J M.at_ M.fn (run_fng (us := [.ref a]) (vs := [.ref a]) F hr hg B I (.cons rfl .nil) sp)
theorem run_fngA {f : Addr} {fd : FuncData} {ps : List Str} {sp : SpG} {A : Around} {pins : List (Addr × Obj)} {σ : L2.St} {H : Hp} {s : Shared} {Q : VK} {us : List Value} {vs : List V} (F : FnG X.prog X.w X.K X.mg X.base k f fd ps sp) (hA : A.frames = X.A.frames) (hr : Room k A) (hg : A.guards = some []) (hb : Binds X.K fd ps [])
    (I : Inv X pins σ H s) (r : Vals vs us) (h : sp vs H Q) : wpAny (model X.prog X.w) A (call (.ref f) us) (EP X pins σ Q) X.xe s := by
  have hl : us.length = ps.length := r.length.symm.trans (F.len _ _ _ h)
  have hb' := hb s us I.kIn (by rw [List.append_nil]; exact hl)
  rw [List.append_nil] at hb'
  have e := I.env0
  have e0 : Env0 X.prog X.w X.K X.mg X.base A X.stack s H := ⟨by rw [hA]; exact e.frames, e.mod, e.bs, e.bsz, e.funs, e.frf, e.hok, e.bare⟩
  refine wpAny_call (codeAny_mono (F.run A X.stack s H ⟨us, []⟩ us vs Q hr hg e0 hb' r h) fun r s' hq => ?_)
  cases r with
  | error e => exact False.elim hq
  | ok fl =>
    cases fl with
    | ret u => exact I.after hq
    | _ => exact False.elim hq
theorem isIns_ok {d : D} {c : Nat} (h : isIns d = some c) : ∃ ns vs, d = .ins c ns vs := by
  cases d <;> simp [isIns] at h
  subst h
  exact ⟨_, _, rfl⟩
theorem op_in_own (hc : ∀ (c : Nat) kl, P.cls[c]? = some kl → CkOk X cn P cf k c kl) (hr : Room k X.A) (hg : X.A.guards = some []) : OpR X (compareOp .In) (wOw2 (kw X cn) P cf .isin) := by
  intro pins s σ H x y v u Q I rx ry h
  obtain ⟨Z, d, e, c, m, sw, xa, ya, hd, he, hs, w⟩ := h
  simp only [spc2] at hs
  obtain ⟨c', hsi, hs2⟩ := Option.map_eq_some_iff.mp hs
  cases hs2
  obtain ⟨ns, vs, rfl⟩ := isIns_ok hsi
  obtain ⟨b, dy, us, rfl, hb', _, _⟩ := he.ins
  cases ry
  obtain ⟨kl, g, fd, ps, f, K, ⟨M, FI⟩, F, B, sp⟩ := own_sp hc w
  obtain ⟨od, J⟩ := inst_at I hb'
  obtain ⟨mm, hF⟩ := I.fr
  refine PySem.W.in_K hF I.ok.mod.kin J M.at_ M.fn (thn (run_fng (us := [.ref b, v]) (vs := [.ref b, x]) F hr hg B I (.cons rfl (.cons rx .nil)) sp) fun v' s' h' => ?_)
  obtain ⟨z, H', I', r, t, rfl, q⟩ := h'
  cases r
  exact wpAny_truthy_bool ⟨.bl t, H', I', rfl, q⟩
theorem op_notin_own (hc : ∀ (c : Nat) kl, P.cls[c]? = some kl → CkOk X cn P cf k c kl) (hr : Room k X.A) (hg : X.A.guards = some []) : OpR X (compareOp .NotIn) (wOw2 (kw X cn) P cf .notin) := by
  intro pins s σ H x y v u Q I rx ry h
  obtain ⟨Z, d, e, c, m, sw, xa, ya, hd, he, hs, w⟩ := h
  simp only [spc2] at hs
  obtain ⟨c', hsi, hs2⟩ := Option.map_eq_some_iff.mp hs
  cases hs2
  obtain ⟨ns, vs, rfl⟩ := isIns_ok hsi
  obtain ⟨b, dy, us, rfl, hb', _, _⟩ := he.ins
  cases ry
  obtain ⟨kl, g, fd, ps, f, K, ⟨M, FI⟩, F, B, sp⟩ := own_sp hc w
  obtain ⟨od, J⟩ := inst_at I hb'
  obtain ⟨mm, hF⟩ := I.fr
  refine PySem.W.notIn_K hF I.ok.mod.kin J M.at_ M.fn (thn (run_fng (us := [.ref b, v]) (vs := [.ref b, x]) F hr hg B I (.cons rfl (.cons rx .nil)) sp) fun v' s' h' => ?_)
  obtain ⟨z, H', I', r, t, rfl, q⟩ := h'
  cases r
  exact wpAny_truthy_bool ⟨.bl (!t), H', I', rfl, q⟩
theorem cr_len_own (hc : ∀ (c : Nat) kl, P.cls[c]? = some kl → CkOk X cn P cf k c kl) (hr : Room (k + 1) X.A) (hg : X.A.guards = some []) : CallR X (.builtin "len") (fun xs H Q => ∃ x, xs = [x] ∧ wOw1 (kw X cn) P cf .len x H Q) := by
  intro pins s σ H xs us Q I r h
  obtain ⟨x, rfl, Z, d, c, m, xa, hd, hs, w⟩ := h
  simp only [spc1] at hs
  obtain ⟨c', hsi, hs2⟩ := Option.map_eq_some_iff.mp hs
  cases hs2
  obtain ⟨ns, vs, rfl⟩ := isIns_ok hsi
  obtain ⟨a, dx, ws, rfl, ha, _, _⟩ := hd.ins
  obtain ⟨kl, g, fd, ps, f, K, ⟨M, FI⟩, F, B, sp⟩ := own_sp hc w
  obtain ⟨od, J⟩ := inst_at I ha
  obtain ⟨mm, hF⟩ := I.fr
  obtain ⟨u, rfl, ru⟩ := vals1 r
  cases ru
  refine PySem.W.len_K hF I.ok.mod.kin J M.at_ M.fn (thn (run_fngA (A := X.A.in1) (us := [.ref a]) (vs := [.ref a]) F rfl hr.in1 hg B I (.cons rfl .nil) sp) fun v' s' h' => ?_)
  obtain ⟨z, H', I', r, n, rfl, n0, n1, q⟩ := h'
  obtain ⟨t, rfl⟩ := r
  exact ⟨⟨n0, by omega⟩, .int n, H', I'.tok _, ⟨_, rfl⟩, q⟩
/-- a[i], of an own class too -/
theorem pe_ixo {a b : Expr} {pos : Pos} {ta tb : TE} {r : R2} (hc : ∀ (c : Nat) kl, P.cls[c]? = some kl → CkOk X cn P cf k c kl) (hr : Room (k + 1) X.A) (hg : X.A.guards = some []) (hi : IxR X r) (ha : PE X a ta) (hb : PE X b tb) (hs : PlainIx b)
    (hs2 : ∀ o i, subscripted b true o i = runValue (.builtin "lifetime.subscript" ⟨[o, i], []⟩)) : PE X (.Subscript a b pos) (tOp (fun v u H Q => r v u H Q ∨ wOw2 (kw X cn) P cf .idx v u H Q) ta tb) := by
  refine ⟨fun pins s σ H Q I h => ?_⟩
  refine Subscript_ (binT ha hb I h fun v u s2 x y H2 I2 rx ry q => ?_)
  rcases q with q | h
  · exact hi a b pins s2 σ H2 x y v u Q I2 rx ry q (hs _ _)
  · obtain ⟨Z, d, e, c, m, sw, xa, ya, hd, he, hs', w⟩ := h
    simp only [spc2] at hs'
    obtain ⟨c', hsi, hs3⟩ := Option.map_eq_some_iff.mp hs'
    cases hs3
    obtain ⟨ns, vs, rfl⟩ := isIns_ok hsi
    obtain ⟨a', dx, us, rfl, ha', _, _⟩ := hd.ins
    cases rx
    obtain ⟨kl, g, fd, ps, f, K, ⟨M, FI⟩, F, B, sp⟩ := own_sp hc w
    obtain ⟨od, J⟩ := inst_at I2 ha'
    obtain ⟨mm, hF⟩ := I2.fr
    exact PySem.W.sub_K hF I2.ok.mod.kin J M.at_ FI M.fn (run_fngA (A := X.A.in1) (us := [.ref a', u]) (vs := [.ref a', y]) F rfl hr.in1 hg B I2 (.cons rfl (.cons ry .nil)) sp) (hs2 _ _)
end
section
variable {M : Model} {prog : Program} {w : World} {A : Around} {E : Value → Shared → Prop} {s : Shared} {K : PySem.W.Frag} {x y C L f : Addr} {h₀ : Heap} {m : Str → Option Value} {ox : Obj} {od : Option Obj}
theorem ifBound_objNe {args : List Value} {Q : Option Value → Shared → Prop} (X : K.In s.heap) (I : PySem.W.InstAt s.heap x ox C od) (hs : PySem.W.findIn K (.ref C) "__ne__" = some (some (.builtin "object.__ne__")))
    (h : wpAny M A (call (.builtin "object.__ne__") (.ref x :: args)) (fun v => Q (some v)) E s) : wpAny M A (callSpecialIfBound? (.ref x) "__ne__" args) Q E s := by
  simp only [callSpecialIfBound?, bindSpecialIfBound?]
  refine wpAny_holding (wpAny_bind (wpAny_bind (wpAny_bind (I.type.here ((PySem.W.looks_findIn X hs).here ?_)))))
  refine wpAny_bind (wpAny_askSetting (wpAny_ite ?_))
  have fin : wpAny M A (call (.builtin "object.__ne__") ([.ref x] ++ args) >>= fun v => pure (some v)) Q E s := wpAny_bind (wpAny_mono h (fun v s' h' => wpAny_pure h') fun _ _ h' => h')
  split
  · exact wpAny_bind (wpAny_of_eq (F.cmp_object.ne.bind _) (wpAny_pure (by exact fin)))
  · exact wpAny_tryCatch (wpAny_bind (wpAny_of_eq (F.cmp_object.ne.bind _) (wpAny_pure (by exact fin))))
theorem objNe_entry {Q : Fin → Shared → Prop} (hu : A.units < cLine) (X : K.In s.heap) (I : PySem.W.InstAt s.heap x ox C od) (heq : PySem.W.findIn K (.ref C) "__eq__" = some (some (.ref f))) (hf : PySem.W.isFn K (.ref f) = true)
    (h : wpAny (model prog w) A (call (.ref f) [.ref x, .ref y]) (fun v s' => ∃ b, v = .bool b ∧ Q (.done (.ret (.bool (!b)))) s') E s) : wpAny (model prog w) A (Builtin.«object.__ne__» ⟨[.ref x, .ref y], []⟩) Q E s := by
  unfold Builtin.«object.__ne__»
  refine wpAny_bind (m := slotArgs "__ne__" 1 _) (wpAny_pure ?_)
  refine wpAny_bind (wpAny_cRoomFor hu ?_)
  refine wpAny_bind (PySem.W.ifBound_K X I heq hf (wpAny_mono h (fun v s' h' => ?_) fun _ _ e => e))
  obtain ⟨b, rfl, q⟩ := h'
  refine wpAny_bind (wpAny_truthy_bool ?_)
  exact wpAny_pure q
theorem ne_K {Q : Value → Shared → Prop} (hu : A.units + 1 < cLine) (Fh : Fr h₀ L s.heap m) (X₀ : K.In h₀) (I : PySem.W.InstAt s.heap x ox C od) (hb : PySem.W.Looks (model prog w) s.heap (typeOf (.ref y)) (.ref C))
    (hne : PySem.W.findIn K (.ref C) "__ne__" = some (some (.builtin "object.__ne__"))) (heq : PySem.W.findIn K (.ref C) "__eq__" = some (some (.ref f))) (hf : PySem.W.isFn K (.ref f) = true) (hm : PySem.W.mroIn K C (.type "object") = some true)
    (h : wpAny (model prog w) A.in1 (call (.ref f) [.ref x, .ref y]) (fun v s' => ∃ b, v = .bool b ∧ Q (.bool (!b)) s') E s) : wpAny (model prog w) A (compareOp .NotEq (.ref x) (.ref y)) Q E s := by
  have X := X₀.keeps Fh.keep
  have ent : wpAny (model prog w) A (call (.builtin "object.__ne__") [.ref x, .ref y]) (fun v s' => ∃ b, v = .bool b ∧ Q (.bool b) s') E s :=
    wpAny_call (codeAny_call_builtin PySem.F.cmp_object.ne.plain PySem.F.cmpEntry_ne (PySem.W.check_slot PySem.F.cmpKind_ne PySem.F.cmpSplit_ne (I.type.andThen (PySem.W.looks_mroIn X hm)) (PySem.F.cmpArgs_ne _ _)
      (objNe_entry (A := A.in1) hu X I heq hf (wpAny_mono h (fun v s' h' => by obtain ⟨b, e, q⟩ := h'; exact ⟨b, e, _, rfl, q⟩) fun _ _ e => e))))
  have one : wpAny (model prog w) A (tryCompare (.ref x) "__ne__" (.ref y)) (fun r s' => ∃ v, r = some v ∧ Q v s') E s := by
    unfold tryCompare
    refine wpAny_bind (ifBound_objNe X I hne (wpAny_mono ent (fun v s' hv => ?_) fun _ _ e => e))
    obtain ⟨b, rfl, q⟩ := hv
    exact wpAny_pure ⟨_, rfl, q⟩
  show wpAny (model prog w) A (richCompare .NotEq (.ref x) (.ref y)) Q E s
  unfold richCompare
  simp only [oneThing_ref]
  refine wpAny_holding (wpAny_bind (wpAny_cRoomFor (by omega) ?_))
  refine wpAny_bind (I.type.here (wpAny_bind (hb.here ?_)))
  split
  · rename_i q
    simp at q
  · refine wpAny_bind (wpAny_pure ?_)
    simp only [Bool.false_eq_true, if_false]
    refine wpAny_bind (m := tryCompare (.ref x) _ _) (wpAny_mono one (fun r s' z => ?_) fun _ _ e => e)
    obtain ⟨v, rfl, hq⟩ := z
    exact wpAny_pure hq
end
section
variable {X : Cx} {cn : Nat → Addr} {P : Pr} {cf : Call} {k : Nat} {op : Op}
theorem op_ne_own (hc : ∀ (c : Nat) kl, P.cls[c]? = some kl → CkOk X cn P cf k c kl) (hr : Room (k + 1) X.A) (hg : X.A.guards = some []) : OpR X (compareOp .NotEq) (wOw2 (kw X cn) P cf .ne) := by
  intro pins s σ H x y v u Q I rx ry h
  obtain ⟨Z, d, e, c, m, sw, xa, ya, hd, he, hs, w⟩ := h
  obtain ⟨rfl, rfl, ns, ds, ns', es, rfl, rfl⟩ := both_ok (show both d e "__eq__" = _ from hs)
  obtain ⟨a, dx, vs, rfl, ha, _, _⟩ := hd.ins
  obtain ⟨b, dy, us, rfl, hb', _, _⟩ := he.ins
  cases rx
  cases ry
  obtain ⟨kl, g, fd, ps, f, K, ⟨M, FI⟩, F, B, sp⟩ := own_sp hc w
  obtain ⟨od, J⟩ := inst_at I ha
  obtain ⟨od', J'⟩ := inst_at I hb'
  obtain ⟨mm, hF⟩ := I.fr
  refine ne_K (by have := hr.un; omega) hF I.ok.mod.kin J J'.type K.ne M.at_ M.fn K.ob ?_
  refine thn (run_fngA (A := X.A.in1) (us := [.ref a, .ref b]) (vs := [.ref a, .ref b]) F rfl hr.in1 hg B I (.cons rfl (.cons rfl .nil)) sp) fun v' s' h' => ?_
  obtain ⟨z, H', I', r, t, rfl, q⟩ := h'
  cases r
  exact ⟨t, rfl, .bl (!t), H', I', rfl, q⟩
end
end BK

set_option Elab.async false
set_option linter.all false
set_option maxRecDepth 100000
set_option maxHeartbeats 2000000
/-! BK7c: isinstance. -/
namespace BK
open PySem PySem.Spec PyProof.Rows L2
def tyW (cn : Nat → Addr) : Ty → V
  | .int => .ty "int"
  | .bool => .ty "bool"
  | .str => .ty "str"
  | .list => .ty "list"
  | .tuple => .ty "tuple"
  | .dict => .ty "dict"
  | .own c => .ref (cn c)
theorem tyW_cls (cn : Nat → Addr) (t : Ty) : ClsV (tyW cn t) (tyU cn t) := by
  cases t <;> first | exact .ty _ | exact .own _
section
variable {X : Cx} {cn : Nat → Addr} {P : Pr} {cf : Call} {k : Nat}
theorem kit_b {n : String} {d : D} (hc : ∀ (c : Nat) kl, P.cls[c]? = some kl → CkOk X cn P cf k c kl) (hn : n ∈ tyNs) (h : ∀ t, (∀ c, t ≠ .own c) → ∃ m, tyU cn t = .type m ∧ kitB n m = some (d.isi t)) (h2 : ∀ c, d.isi (.own c) = false) :
    ∀ t, tyOk P t = true → PySem.W.kitOne X.K (.type n) (tyU cn t) = some (d.isi t) := by
  intro t ht
  cases t with
  | own c =>
    obtain ⟨kl, hk⟩ := Option.isSome_iff_exists.mp ht
    rw [h2 c]
    exact (hc c kl hk).is.kb n hn
  | int => obtain ⟨m, e, w⟩ := h .int (fun c z => by cases z); rw [e]; exact kit_ty w
  | bool => obtain ⟨m, e, w⟩ := h .bool (fun c z => by cases z); rw [e]; exact kit_ty w
  | str => obtain ⟨m, e, w⟩ := h .str (fun c z => by cases z); rw [e]; exact kit_ty w
  | list => obtain ⟨m, e, w⟩ := h .list (fun c z => by cases z); rw [e]; exact kit_ty w
  | tuple => obtain ⟨m, e, w⟩ := h .tuple (fun c z => by cases z); rw [e]; exact kit_ty w
  | dict => obtain ⟨m, e, w⟩ := h .dict (fun c z => by cases z); rw [e]; exact kit_ty w
theorem tyx_of (hc : ∀ (c : Nat) kl, P.cls[c]? = some kl → CkOk X cn P cf k c kl) {Z : Addr → Prop} {H : Hp} {v : V} {d : D} (hd : DenT (kw X cn) Z H v d) (ok : okI P d = true) :
    ∃ t, TyX X.K H v t ∧ ∀ ty, tyOk P ty = true → PySem.W.kitOne X.K t (tyU cn ty) = some (d.isi ty) := by
  cases d with
  | non =>
    have : v = .non := by
      rcases hd with hd | ⟨_, _, hd⟩
      · cases hd; rfl
      · exact hd.elim
    subst this
    exact ⟨_, .base .non, kit_b hc (by decide) (fun t ht => by cases t <;> first | exact ⟨_, rfl, by decide +kernel⟩ | exact absurd rfl (ht _)) fun _ => rfl⟩
  | bl b =>
    have := hd.bl
    subst this
    exact ⟨_, .base (.bl _), kit_b hc (by decide) (fun t ht => by cases t <;> first | exact ⟨_, rfl, by show _ = some true; decide +kernel⟩ | exact ⟨_, rfl, by show _ = some false; decide +kernel⟩ | exact absurd rfl (ht _)) fun _ => rfl⟩
  | int i =>
    have := hd.int
    subst this
    exact ⟨_, .base (.int _), kit_b hc (by decide) (fun t ht => by cases t <;> first | exact ⟨_, rfl, by show _ = some true; decide +kernel⟩ | exact ⟨_, rfl, by show _ = some false; decide +kernel⟩ | exact absurd rfl (ht _)) fun _ => rfl⟩
  | str x =>
    have := hd.str
    subst this
    exact ⟨_, .base (.str _), kit_b hc (by decide) (fun t ht => by cases t <;> first | exact ⟨_, rfl, by show _ = some true; decide +kernel⟩ | exact ⟨_, rfl, by show _ = some false; decide +kernel⟩ | exact absurd rfl (ht _)) fun _ => rfl⟩
  | lst xs =>
    obtain ⟨a, vs, rfl, ha, _⟩ := hd.lst
    exact ⟨_, .base (.lst ha), kit_b hc (by decide) (fun t ht => by cases t <;> first | exact ⟨_, rfl, by show _ = some true; decide +kernel⟩ | exact ⟨_, rfl, by show _ = some false; decide +kernel⟩ | exact absurd rfl (ht _)) fun _ => rfl⟩
  | rl xs =>
    have hk := kit_b (n := "list") (d := .rl xs) hc (by decide) (fun t ht => by cases t <;> first | exact ⟨_, rfl, by show _ = some true; decide +kernel⟩ | exact ⟨_, rfl, by show _ = some false; decide +kernel⟩ | exact absurd rfl (ht _)) fun _ => rfl
    obtain ⟨a, vs, rfl, ha, _⟩ := hd.rl
    rcases ha with (ha | ⟨o, ha⟩) | ⟨o, its, n, e, c, _⟩
    · exact ⟨_, .base (.lst ha), hk⟩
    · exact ⟨_, .base (.frz ha), hk⟩
    · exact ⟨_, .kList e c, hk⟩
  | tup xs =>
    have hk := kit_b (n := "tuple") (d := .tup xs) hc (by decide) (fun t ht => by cases t <;> first | exact ⟨_, rfl, by show _ = some true; decide +kernel⟩ | exact ⟨_, rfl, by show _ = some false; decide +kernel⟩ | exact absurd rfl (ht _)) fun _ => rfl
    obtain ⟨a, vs, rfl, ha, _⟩ := hd.sqt
    rcases ha with (ha | ⟨o, ha⟩) | ⟨o, its, n, e, c, _⟩
    · exact ⟨_, .base (.tup ha), hk⟩
    · exact ⟨_, .fTuple ha, hk⟩
    · exact ⟨_, .kTuple e c, hk⟩
  | dk ks xs =>
    have hk := kit_b (n := "dict") (d := .dk ks xs) hc (by decide) (fun t ht => by cases t <;> first | exact ⟨_, rfl, by show _ = some true; decide +kernel⟩ | exact ⟨_, rfl, by show _ = some false; decide +kernel⟩ | exact absurd rfl (ht _)) fun _ => rfl
    obtain ⟨a, vs, rfl, ha, _⟩ := hd.dk
    rcases ha with ha | ⟨o, ha⟩
    · exact ⟨_, .base (.dK ha), hk⟩
    · exact ⟨_, .fDict ha, hk⟩
  | kd ks xs =>
    have hk := kit_b (n := "dict") (d := .kd ks xs) hc (by decide) (fun t ht => by cases t <;> first | exact ⟨_, rfl, by show _ = some true; decide +kernel⟩ | exact ⟨_, rfl, by show _ = some false; decide +kernel⟩ | exact absurd rfl (ht _)) fun _ => rfl
    obtain ⟨a, vs, rfl, ⟨es, n, hl, _⟩, _⟩ := hd.kd
    exact ⟨_, .kDict hl.at_ rfl, hk⟩
  | ins c ns ds =>
    obtain ⟨kl, hk⟩ := Option.isSome_iff_exists.mp ok
    have K := hc c kl hk
    obtain ⟨a, dx, vs, rfl, ha, _, _⟩ := hd.ins
    refine ⟨_, .base (.ins ha K.cls K.is.kx K.is.kg K.is.kt K.ob), fun t ht => ?_⟩
    have e : (D.ins c ns ds).isi t = (D.ins c [] []).isi t := by cases t <;> rfl
    rw [e]
    exact K.is.ki t ht
theorem kitAny_of {K : PySem.W.Frag} {t : Value} {d : D} : ∀ {ts : List Ty}, (∀ ty ∈ ts, PySem.W.kitOne K t (tyU cn ty) = some (d.isi ty)) → PySem.W.kitAny K t (ts.map (tyU cn)) = some (ts.any fun t => d.isi t)
  | [], _ => rfl
  | ty :: ts, h => by
    rw [List.map_cons, List.any_cons]
    refine kitAny_cons (h ty (List.mem_cons_self ..)) (fun e => ?_) (fun e => by rw [e]; rfl)
    rw [e, Bool.false_or]
    exact kitAny_of fun ty m => h ty (List.mem_cons_of_mem _ m)
theorem paired_ty : ∀ ts : List Ty, Paired ClsV (ts.map (tyW cn)) (ts.map (tyU cn))
  | [] => .nil
  | t :: ts => .cons (tyW_cls cn t) (paired_ty ts)
end
end BK

set_option Elab.async false
set_option linter.all false
set_option maxRecDepth 100000
set_option maxHeartbeats 2000000
/-! BK8: truths joined, choices, tests joined, chains, changes of lists, displays of dicts. -/
namespace BK
open PySem PySem.Spec PyProof.Rows L2
section
variable {X : Cx} {cn : Nat → Addr} {P : Pr} {cf : Call} {e a b c ob : Expr} {es : List Expr} {x y z : E} {xs : Es} {pos p apos : Pos} {k : Nat} {m : Str} {ta : TE} {t : TA}
theorem Res.bl {C : Kw} {B : Addr → Prop} {o : Ow} {ρ : Rho} {σ : L2.St} {H0 H : Hp} {v : V} {d : D} {k f : Bool} (h : Res C B o ρ σ H0 H v d f) (e : d = .bl k) : v = .bl k ∧ Ho C B o ρ σ H := by
  subst e
  cases f with
  | false => obtain ⟨h, d⟩ := h; cases d; exact ⟨rfl, h⟩
  | true => obtain ⟨_, _, _, _, w⟩ := h; exact w.elim
/-! and, or, not as values (of truths) -/
theorem px_and1 (h : PE X a (tX (kw X cn) fun ρ => ev P cf ρ x)) : PE X (.BoolOp .And [a] pos) (tX (kw X cn) fun ρ => ev P cf ρ (.and (.cons x .nil))) := by
  refine (pe_one h).imp fun σ H Q ⟨B, o, ρ, r, ho, he, q⟩ => ?_
  simp only [ev, evAnd] at he
  obtain ⟨⟨t, ρ1⟩, hj, e2⟩ := Option.map_eq_some_iff.mp he
  cases e2
  clear he
  have he := hj; clear hj
  obtain ⟨⟨d, f, ρ2⟩, e1, he⟩ := bind_some he
  refine ⟨B, o, ρ, _, ho, e1, fun v H' o' s pn rs => ?_⟩
  split at he <;> rename_i hd <;> cases he
  all_goals
    obtain ⟨hv, h1⟩ := rs.bl hd
    subst hv
    exact q _ H' o' s pn ⟨h1, .bl _⟩
theorem px_and (h : PE X a (tX (kw X cn) fun ρ => ev P cf ρ x)) (ht : PE X (.BoolOp .And (b :: es) pos) (tX (kw X cn) fun ρ => ev P cf ρ (.and xs))) :
    PE X (.BoolOp .And (a :: b :: es) pos) (tX (kw X cn) fun ρ => ev P cf ρ (.and (.cons x xs))) := by
  refine (pe_and h ht).imp fun σ H Q ⟨B, o, ρ, r, ho, he, q⟩ => ?_
  simp only [ev, evAnd] at he
  obtain ⟨⟨t, ρ1⟩, hj, e2⟩ := Option.map_eq_some_iff.mp he
  cases e2
  clear he
  have he := hj; clear hj
  obtain ⟨⟨d, f, ρ2⟩, e1, he⟩ := bind_some he
  refine ⟨B, o, ρ, _, ho, e1, fun v H1 o1 s1 pn1 rs => ?_⟩
  split at he
  · rename_i hd
    obtain ⟨hv, h1⟩ := rs.bl hd
    subst hv
    refine ⟨true, rfl, ?_⟩
    rw [if_pos rfl]
    exact ⟨B, o1, ρ2, (.bl t, false, ρ1), h1, by simp only [ev]; rw [he]; rfl, fun v H2 o2 s2 pn2 rs2 => q v H2 o2 (s1.trans s2) (pn1.trans pn2) rs2⟩
  · rename_i hd
    cases he
    obtain ⟨hv, h1⟩ := rs.bl hd
    subst hv
    exact ⟨false, rfl, q _ H1 o1 s1 pn1 ⟨h1, .bl _⟩⟩
  · cases he
theorem px_or1 (h : PE X a (tX (kw X cn) fun ρ => ev P cf ρ x)) : PE X (.BoolOp .Or [a] pos) (tX (kw X cn) fun ρ => ev P cf ρ (.or (.cons x .nil))) := by
  refine (pe_one h).imp fun σ H Q ⟨B, o, ρ, r, ho, he, q⟩ => ?_
  simp only [ev, evOr] at he
  obtain ⟨⟨t, ρ1⟩, hj, e2⟩ := Option.map_eq_some_iff.mp he
  cases e2
  clear he
  have he := hj; clear hj
  obtain ⟨⟨d, f, ρ2⟩, e1, he⟩ := bind_some he
  refine ⟨B, o, ρ, _, ho, e1, fun v H' o' s pn rs => ?_⟩
  split at he <;> rename_i hd <;> cases he
  all_goals
    obtain ⟨hv, h1⟩ := rs.bl hd
    subst hv
    exact q _ H' o' s pn ⟨h1, .bl _⟩
theorem px_or (h : PE X a (tX (kw X cn) fun ρ => ev P cf ρ x)) (ht : PE X (.BoolOp .Or (b :: es) pos) (tX (kw X cn) fun ρ => ev P cf ρ (.or xs))) :
    PE X (.BoolOp .Or (a :: b :: es) pos) (tX (kw X cn) fun ρ => ev P cf ρ (.or (.cons x xs))) := by
  refine (pe_or h ht).imp fun σ H Q ⟨B, o, ρ, r, ho, he, q⟩ => ?_
  simp only [ev, evOr] at he
  obtain ⟨⟨t, ρ1⟩, hj, e2⟩ := Option.map_eq_some_iff.mp he
  cases e2
  clear he
  have he := hj; clear hj
  obtain ⟨⟨d, f, ρ2⟩, e1, he⟩ := bind_some he
  refine ⟨B, o, ρ, _, ho, e1, fun v H1 o1 s1 pn1 rs => ?_⟩
  split at he
  · rename_i hd
    cases he
    obtain ⟨hv, h1⟩ := rs.bl hd
    subst hv
    exact ⟨true, rfl, by rw [if_pos rfl]; exact q _ H1 o1 s1 pn1 ⟨h1, .bl _⟩⟩
  · rename_i hd
    obtain ⟨hv, h1⟩ := rs.bl hd
    subst hv
    refine ⟨false, rfl, ?_⟩
    rw [if_neg Bool.false_ne_true]
    exact ⟨B, o1, ρ2, (.bl t, false, ρ1), h1, by simp only [ev]; rw [he]; rfl, fun v H2 o2 s2 pn2 rs2 => q v H2 o2 (s1.trans s2) (pn1.trans pn2) rs2⟩
  · cases he
theorem px_not (h : PE X a (tX (kw X cn) fun ρ => ev P cf ρ x)) : PE X (.UnaryOp .Not a pos) (tX (kw X cn) fun ρ => ev P cf ρ (.not x)) := by
  refine (pe_not h).imp fun σ H Q ⟨B, o, ρ, r, ho, he, q⟩ => ?_
  simp only [ev] at he
  obtain ⟨⟨d, f, ρ2⟩, e1, he⟩ := bind_some he
  refine ⟨B, o, ρ, _, ho, e1, fun v H1 o1 s1 pn1 rs => ?_⟩
  split at he
  · rename_i hd
    cases he
    obtain ⟨hv, h1⟩ := rs.bl hd
    subst hv
    exact ⟨_, rfl, q _ H1 o1 s1 pn1 ⟨h1, .bl _⟩⟩
  · cases he
/-! tests -/
theorem pb_all1 {w : T} (h : PT X a (tB (kw X cn) fun ρ => evT P cf ρ w)) : PT X (.BoolOp .And [a] pos) (tB (kw X cn) fun ρ => evT P cf ρ (.all (.cons w .nil))) := by
  refine (pw_and1 h).pt.imp fun σ H Q ⟨B, o, ρ, r, ho, he, q⟩ => ?_
  refine ⟨B, o, ρ, r, ho, ?_, q⟩
  simp only [evT, evAll] at he
  obtain ⟨⟨t, ρ1⟩, e1, he⟩ := bind_some he
  show evT P cf ρ w = some r
  rw [e1]
  cases t <;> simpa using he
theorem pb_all {w : T} {ws : Ts} (h : PT X a (tB (kw X cn) fun ρ => evT P cf ρ w)) (ht : PW X (.BoolOp .And (b :: es) pos) (tB (kw X cn) fun ρ => evT P cf ρ (.all ws))) :
    PW X (.BoolOp .And (a :: b :: es) pos) (tB (kw X cn) fun ρ => evT P cf ρ (.all (.cons w ws))) := by
  refine ⟨fun whole pins s σ H Q I hh => (pw_and h ht).run whole pins s σ H Q I ?_⟩
  obtain ⟨B, o, ρ, r, ho, he, q⟩ := hh
  simp only [evT, evAll] at he
  obtain ⟨⟨t, ρ1⟩, e1, he⟩ := bind_some he
  refine ⟨B, o, ρ, _, ho, e1, fun H1 o1 s1 pn1 h1 => ?_⟩
  cases t with
  | true =>
    rw [if_pos rfl] at he ⊢
    exact ⟨B, o1, ρ1, r, h1, by simpa only [evT] using he, fun H2 o2 s2 pn2 h2 => q H2 o2 (s1.trans s2) (pn1.trans pn2) h2⟩
  | false =>
    rw [if_neg Bool.false_ne_true] at he ⊢
    cases he
    exact q H1 o1 s1 pn1 h1
theorem pb_all1w {w : T} (h : PT X a (tB (kw X cn) fun ρ => evT P cf ρ w)) : PW X (.BoolOp .And [a] pos) (tB (kw X cn) fun ρ => evT P cf ρ (.all (.cons w .nil))) := by
  refine ⟨fun whole pins s σ H Q I hh => (pw_and1 h).run whole pins s σ H Q I ?_⟩
  obtain ⟨B, o, ρ, r, ho, he, q⟩ := hh
  refine ⟨B, o, ρ, r, ho, ?_, q⟩
  simp only [evT, evAll] at he
  obtain ⟨⟨t, ρ1⟩, e1, he⟩ := bind_some he
  show evT P cf ρ w = some r
  rw [e1]
  cases t <;> simpa using he
theorem pb_any1w {w : T} (h : PT X a (tB (kw X cn) fun ρ => evT P cf ρ w)) : PW X (.BoolOp .Or [a] pos) (tB (kw X cn) fun ρ => evT P cf ρ (.any (.cons w .nil))) := by
  refine ⟨fun whole pins s σ H Q I hh => (pw_or1 h).run whole pins s σ H Q I ?_⟩
  obtain ⟨B, o, ρ, r, ho, he, q⟩ := hh
  refine ⟨B, o, ρ, r, ho, ?_, q⟩
  simp only [evT, evAny] at he
  obtain ⟨⟨t, ρ1⟩, e1, he⟩ := bind_some he
  show evT P cf ρ w = some r
  rw [e1]
  cases t <;> simpa using he
theorem pb_any {w : T} {ws : Ts} (h : PT X a (tB (kw X cn) fun ρ => evT P cf ρ w)) (ht : PW X (.BoolOp .Or (b :: es) pos) (tB (kw X cn) fun ρ => evT P cf ρ (.any ws))) :
    PW X (.BoolOp .Or (a :: b :: es) pos) (tB (kw X cn) fun ρ => evT P cf ρ (.any (.cons w ws))) := by
  refine ⟨fun whole pins s σ H Q I hh => (pw_or h ht).run whole pins s σ H Q I ?_⟩
  obtain ⟨B, o, ρ, r, ho, he, q⟩ := hh
  simp only [evT, evAny] at he
  obtain ⟨⟨t, ρ1⟩, e1, he⟩ := bind_some he
  refine ⟨B, o, ρ, _, ho, e1, fun H1 o1 s1 pn1 h1 => ?_⟩
  cases t with
  | true =>
    rw [if_pos rfl] at he ⊢
    cases he
    exact q H1 o1 s1 pn1 h1
  | false =>
    rw [if_neg Bool.false_ne_true] at he ⊢
    exact ⟨B, o1, ρ1, r, h1, by simpa only [evT] using he, fun H2 o2 s2 pn2 h2 => q H2 o2 (s1.trans s2) (pn1.trans pn2) h2⟩
theorem pb_not {w : T} (h : PT X a (tB (kw X cn) fun ρ => evT P cf ρ w)) : PT X (.UnaryOp .Not a pos) (tB (kw X cn) fun ρ => evT P cf ρ (.not w)) := by
  refine (pt_not h).imp fun σ H Q ⟨B, o, ρ, r, ho, he, q⟩ => ?_
  simp only [evT] at he
  obtain ⟨⟨t, ρ1⟩, e1, he⟩ := Option.map_eq_some_iff.mp he
  cases he
  exact ⟨B, o, ρ, _, ho, e1, q⟩
theorem px_ite {w : T} (h : PT X c (tB (kw X cn) fun ρ => evT P cf ρ w)) (ha : PE X a (tX (kw X cn) fun ρ => ev P cf ρ x)) (hb : PE X b (tX (kw X cn) fun ρ => ev P cf ρ y)) :
    PE X (.IfExp c a b pos) (tX (kw X cn) fun ρ => ev P cf ρ (.ite w x y)) := by
  refine (pe_ifExp h ha hb).imp fun σ H Q ⟨B, o, ρ, r, ho, he, q⟩ => ?_
  simp only [ev] at he
  obtain ⟨⟨t, ρ1⟩, e1, he⟩ := bind_some he
  refine ⟨B, o, ρ, _, ho, e1, fun H1 o1 s1 pn1 h1 => ?_⟩
  have fin : ∀ (u : E), ev P cf ρ1 u = some r → tX (kw X cn) (fun ρ => ev P cf ρ u) σ H1 Q := fun u hu =>
    ⟨B, o1, ρ1, r, h1, hu, fun v H2 o2 s2 pn2 rs => q v H2 o2 (s1.trans s2) (pn1.trans pn2) (by
      cases hf : r.2.1 with
      | false => rw [hf] at rs; exact rs
      | true =>
        rw [hf] at rs
        obtain ⟨p, w1, w2, w3, w4⟩ := rs
        exact ⟨p, w1, s1.back p w2, w3, w4⟩)⟩
  cases t with
  | true => exact fin x he
  | false => exact fin y he
/-! chains of comparisons -/
theorem w2_bl {C : Kw} {Z : Addr → Prop} {H H' : Hp} {v : V} {d : D} {k f : Bool} (h : ResZ C Z H H' v d f) (e : d = .bl k) : v = .bl k := by
  subst e
  cases f with
  | false => exact (show DenT _ _ _ _ _ from .inl h).bl
  | true => obtain ⟨_, _, _, w⟩ := h; exact w.elim
theorem px_chn {op op' : Op} {oc oc' : CmpOp} (h1 : OpR X (compareOp oc) (w2 (kw X cn) op)) (h2 : OpR X (compareOp oc') (w2 (kw X cn) op')) (ha : PE X a (tX (kw X cn) fun ρ => ev P cf ρ x)) (hb : PE X b (tX (kw X cn) fun ρ => ev P cf ρ y)) (hc : PE X c (tX (kw X cn) fun ρ => ev P cf ρ z)) (hm : lastMarks [oc, oc'] [b, c] = false) :
    PE X (.Compare a [oc, oc'] [b, c] pos) (tX (kw X cn) fun ρ => ev P cf ρ (.chn op op' x y z)) := by
  refine (pe_chain h1 h2 ha hb hc hm).imp fun σ H Q ⟨B, o, ρ, r, ho, he, q⟩ => ?_
  simp only [ev] at he
  obtain ⟨⟨d1, f1, ρ1⟩, e1, he⟩ := bind_some he
  obtain ⟨⟨d2, f2, ρ2⟩, e2, he⟩ := bind_some he
  refine ⟨B, o, ρ, _, ho, e1, fun v1 H1 o1 s1 pn1 r1 => ?_⟩
  obtain ⟨g1, k1⟩ := r1.shared ho.bd
  refine ⟨B, o1, ρ1, _, g1, e2, fun v2 H2 o2 s2 pn2 r2 => ?_⟩
  obtain ⟨g2, k2⟩ := r2.shared g1.bd
  have k1' := k1.step s2.step
  split at he
  · rename_i t f e3
    obtain ⟨⟨d3, f3, ρ3⟩, e4, he⟩ := bind_some he
    obtain ⟨⟨r5, f5⟩, e5, he⟩ := Option.map_eq_some_iff.mp he
    subst he
    refine ⟨Zo B o2, d1, d2, .bl true, _, g2.zd, .inl k1', .inl k2, e3, fun v' H' x' rz => ⟨true, w2_bl rz rfl, ?_⟩⟩
    rw [if_pos rfl]
    refine ⟨B, o2, ρ2, _, g2.ext x', e4, fun v3 H3 o3 s3 pn3 r3 => ?_⟩
    obtain ⟨g3, k3⟩ := r3.shared (g2.ext x').bd
    refine ⟨Zo B o3, d2, d3, r5, f5, g3.zd, .inl ((k2.step x'.stepE.step).step s3.step), .inl k3, e5, fun v4 H4 x4 rz4 => ?_⟩
    have st := ((s1.trans s2).trans x'.stepE).trans s3
    exact q v4 H4 o3 (st.trans x4.stepE) ((pn1.trans pn2).trans pn3) (res_of g3 x4 rz4 st.back)
  · rename_i t f e3
    cases he
    refine ⟨Zo B o2, d1, d2, .bl false, _, g2.zd, .inl k1', .inl k2, e3, fun v' H' x' rz => ⟨false, w2_bl rz rfl, ?_⟩⟩
    rw [if_neg Bool.false_ne_true]
    exact q _ H' o2 ((s1.trans s2).trans x'.stepE) (pn1.trans pn2) ⟨g2.ext x', .bl _⟩
  · cases he
theorem pb_chn {op op' : Op} {oc oc' : CmpOp} (h1 : OpR X (compareOp oc) (w2 (kw X cn) op)) (h2 : OpR X (compareOp oc') (w2 (kw X cn) op')) (ha : PE X a (tX (kw X cn) fun ρ => ev P cf ρ x)) (hb : PE X b (tX (kw X cn) fun ρ => ev P cf ρ y)) (hc : PE X c (tX (kw X cn) fun ρ => ev P cf ρ z)) (hm : lastMarks [oc, oc'] [b, c] = false) :
    PT X (.Compare a [oc, oc'] [b, c] pos) (tB (kw X cn) fun ρ => evT P cf ρ (.chn op op' x y z)) := by
  refine (pt_chain h1 h2 ha hb hc hm).imp fun σ H Q ⟨B, o, ρ, r, ho, he, q⟩ => ?_
  simp only [evT] at he
  obtain ⟨⟨d1, f1, ρ1⟩, e1, he⟩ := bind_some he
  obtain ⟨⟨d2, f2, ρ2⟩, e2, he⟩ := bind_some he
  refine ⟨B, o, ρ, _, ho, e1, fun v1 H1 o1 s1 pn1 r1 => ?_⟩
  obtain ⟨g1, k1⟩ := r1.shared ho.bd
  refine ⟨B, o1, ρ1, _, g1, e2, fun v2 H2 o2 s2 pn2 r2 => ?_⟩
  obtain ⟨g2, k2⟩ := r2.shared g1.bd
  have k1' := k1.step s2.step
  split at he
  · rename_i t f e3
    obtain ⟨⟨d3, f3, ρ3⟩, e4, he⟩ := bind_some he
    split at he
    · rename_i t5 f5 e5
      cases he
      refine ⟨Zo B o2, d1, d2, .bl true, _, g2.zd, .inl k1', .inl k2, e3, fun v' H' x' rz => ⟨true, w2_bl rz rfl, ?_⟩⟩
      rw [if_pos rfl]
      refine ⟨B, o2, ρ2, _, g2.ext x', e4, fun v3 H3 o3 s3 pn3 r3 => ?_⟩
      obtain ⟨g3, k3⟩ := r3.shared (g2.ext x').bd
      refine ⟨Zo B o3, d2, d3, .bl t5, f5, g3.zd, .inl ((k2.step x'.stepE.step).step s3.step), .inl k3, e5, fun v4 H4 x4 rz4 => ?_⟩
      have st := ((s1.trans s2).trans x'.stepE).trans s3
      exact ⟨t5, w2_bl rz4 rfl, q H4 o3 (st.trans x4.stepE) ((pn1.trans pn2).trans pn3) (g3.ext x4)⟩
    · cases he
  · rename_i t f e3
    cases he
    refine ⟨Zo B o2, d1, d2, .bl false, _, g2.zd, .inl k1', .inl k2, e3, fun v' H' x' rz => ⟨false, w2_bl rz rfl, ?_⟩⟩
    rw [if_neg Bool.false_ne_true]
    exact ⟨false, rfl, q H' o2 ((s1.trans s2).trans x'.stepE) (pn1.trans pn2) (g2.ext x')⟩
  · cases he
end
end BK

set_option Elab.async false
set_option linter.all false
set_option maxRecDepth 100000
set_option maxHeartbeats 2000000
/-! BK8b: changes of lists, displays of dicts. -/
namespace BK
open PySem PySem.Spec PyProof.Rows L2
section
variable {X : Cx} {cn : Nat → Addr} {P : Pr} {cf : Call} {e a b c ob : Expr} {es : List Expr} {x y z : E} {xs : Es} {pos p apos : Pos} {k : Nat} {m : Str} {ta : TE} {t : TA}
theorem tm_gen {i : Nat} {mu : Mu} {r : V → List V → Hp → VK → Prop} {K : PySem.W.Frag}
    (hr : ∀ {B : Addr → Prop} {o : Ow} {ρ ρ2 : Rho} {σ : L2.St} {H : Hp} {a : Addr} {vs : List V} {ds ls : List D} {d : D} {pn fr : Bool} {Q : VK}, Ho (kw X cn) B o ρ σ H → ρ[i]? = some (.ow pn (.lst ls)) → o i = some a → DenAll (kw X cn) (Zo B o) H vs ds →
      (match mu, some (Sl.ow pn (.lst ls)), ds with
        | .app, some (.ow p (.lst xs)), [d] => if xs.length < most then some (D.non, false, ρ.set i (.ow p (.lst (xs ++ [d])))) else none
        | .ins, some (.ow p (.lst xs)), [.int j, d] => if xs.length < most ∧ 0 ≤ j ∧ j ≤ xs.length then some (.non, false, ρ.set i (.ow p (.lst (xs.take j.toNat ++ d :: xs.drop j.toNat)))) else none
        | .ext, some (.ow p (.lst xs)), [.lst ys] => if xs.length + ys.length < most then some (.non, false, ρ.set i (.ow p (.lst (xs ++ ys)))) else none
        | .pop, some (.ow p (.lst xs)), [] => match xs.getLast? with
          | some d => some (d, false, ρ.set i (.ow p (.lst xs.dropLast)))
          | none => none
        | _, _, _ => none) = some (d, fr, ρ2) →
      (∀ v H', StepE H o H' o → Pn ρ ρ2 → Ho (kw X cn) B o ρ2 σ H' → fr = false → Den (kw X cn) (Zo B o) H' v d → Q v H') → r (.ref a) vs H Q) :
    ∀ σ H Q, tX (kw X cn) (fun ρ => ev P cf ρ (.mut mu i xs)) σ H Q → tBM K "list" r (tVar i) (tEs (kw X cn) fun ρ => evs P cf ρ xs) σ H Q := by
  rintro σ H Q ⟨B, o, ρ, r, ho, he, q⟩
  simp only [ev] at he
  split at he
  · rename_i p0 l0 e0
    obtain ⟨⟨ds, ρ1⟩, e1, he⟩ := bind_some he
    obtain ⟨a, y1, y2, vs0, y3, y4⟩ := ho.sl i _ e0
    refine ⟨_, y2, .inl ⟨rfl, _, SqL.of y3⟩, ?_⟩
    refine ⟨B, o, ρ, _, ho, e1, fun vs H1 o1 s1 pn1 h1 d1 => ?_⟩
    have hx : ∃ pn ls, ρ1[i]? = some (.ow pn (.lst ls)) := by
      cases hh : ρ1[i]? with
      | none => rw [hh] at he; cases mu <;> simp at he
      | some s =>
        rw [hh] at he
        cases s with
        | un => cases mu <;> simp at he
        | sh _ _ => cases mu <;> simp at he
        | ow pn w =>
          cases w <;> first
            | exact ⟨_, _, rfl⟩
            | (cases mu <;> simp at he)
    obtain ⟨pn, ls, hx⟩ := hx
    have y5 : o1 i = some a := by
      obtain ⟨a', z1, _⟩ := h1.sl i _ hx
      have := s1.own i a' z1
      rw [y1] at this
      cases this
      exact z1
    obtain ⟨d, fr, ρ2⟩ := r
    rw [hx] at he
    refine hr h1 hx y5 d1 he fun v H' s' pn' h' hf dv => ?_
    subst hf
    exact q v H' o1 (s1.trans s') (pn1.trans pn') ⟨h', dv⟩
  · cases he
theorem upd_off {H : Hp} {a : Addr} {h : HO} : ∀ b, b ≠ a → upd H a h b = H b := fun b n => upd_ne n
theorem tm_app {i : Nat} : ∀ σ H Q, tX (kw X cn) (fun ρ => ev P cf ρ (.mut .app i xs)) σ H Q → tBM X.K "list" rAppend (tVar i) (tEs (kw X cn) fun ρ => evs P cf ρ xs) σ H Q := by
  refine tm_gen fun {B o ρ ρ2 σ H a vs ds ls d pn fr Q} ho hx ha hd he q => ?_
  split at he <;> rename_i h1 h2 <;> try (cases h1; done)
  · rename_i p xs d0
    cases h2
    split at he
    · rename_i hl
      cases he
      obtain ⟨a', z1, z2, vs0, z3, z4⟩ := ho.sl i _ hx
      rw [ha] at z1
      cases z1
      obtain ⟨w, rfl⟩ : ∃ w, vs = [w] := by cases hd with | cons _ t => cases t; exact ⟨_, rfl⟩
      have hd0 := hd.sq
      have kp : ∀ b u, ¬ Zo B o b → H b = some u → upd H a (.lst (vs0 ++ [w])) b = some u ∧ ¬ Zo B o b := fun b u n e => ⟨by rw [upd_ne fun z => n (.inr ⟨i, by rw [z]; exact ha⟩)]; exact e, n⟩
      have := ho.change hx ha upd_off (d' := .lst (ls ++ [d0])) (H' := upd H a (.lst (vs0 ++ [w]))) ⟨_, upd_same, (z4.append hd).mono kp⟩
      exact ⟨a, vs0, w, rfl, rfl, z3, most_lt (by rw [z4.length]; exact hl), q _ _ this.2 (Pn.set hx rfl) this.1 rfl .non⟩
    · cases he
  all_goals first | (cases h2; done) | (cases he; done) | skip
theorem lst_own {C : Kw} {B : Addr → Prop} {o : Ow} {ρ : Rho} {σ : L2.St} {H : Hp} {i : Nat} {p : Bool} {ls : List D} {a : Addr} (ho : Ho C B o ρ σ H) (hx : ρ[i]? = some (.ow p (.lst ls))) (ha : o i = some a) : ∃ vs, H a = some (.lst vs) ∧ DenAll C (Zo B o) H vs ls := by
  obtain ⟨a', z1, z2, vs0, z3, z4⟩ := ho.sl i _ hx
  rw [ha] at z1
  cases z1
  exact ⟨vs0, z3, z4⟩
theorem kp_own {B : Addr → Prop} {o : Ow} {H : Hp} {i : Nat} {a : Addr} {h : HO} (ha : o i = some a) : ∀ b u, ¬ Zo B o b → H b = some u → upd H a h b = some u ∧ ¬ Zo B o b := fun b u n e => ⟨by rw [upd_ne fun z => n (.inr ⟨i, by rw [z]; exact ha⟩)]; exact e, n⟩
def rIns : V → List V → Hp → VK → Prop := fun x vs H Q =>
  ∃ l xs i y, x = V.ref l ∧ vs = [V.int i, y] ∧ H l = some (HO.lst xs) ∧ xs.length < sizeLine ∧ 0 ≤ i ∧ i < 2 ^ 63 ∧ Q V.non (upd H l (HO.lst (List.take i.toNat xs ++ [y] ++ List.drop i.toNat xs)))
theorem mt_ins : MtR X "list.insert" rIns := mt_insert
theorem tm_ins {i : Nat} : ∀ σ H Q, tX (kw X cn) (fun ρ => ev P cf ρ (.mut .ins i xs)) σ H Q → tBM X.K "list" rIns (tVar i) (tEs (kw X cn) fun ρ => evs P cf ρ xs) σ H Q := by
  refine tm_gen fun {B o ρ ρ2 σ H a vs ds ls d pn fr Q} ho hx ha hd he q => ?_
  split at he <;> rename_i h1 h2 <;> try (cases h1; done)
  · rename_i p xs j d0
    cases h2
    split at he
    · rename_i hl
      cases he
      obtain ⟨vs0, z3, z4⟩ := lst_own ho hx ha
      obtain ⟨w, rfl, hw⟩ : ∃ w, vs = [.int j, w] ∧ Den (kw X cn) (Zo B o) H w d0 := by
        cases hd with
        | cons h t => cases h; cases t with | cons h2 t2 => cases t2; exact ⟨_, rfl, h2⟩
      have := ho.change hx ha upd_off (d' := .lst (ls.take j.toNat ++ d0 :: ls.drop j.toNat)) (H' := upd H a (.lst (vs0.take j.toNat ++ [w] ++ vs0.drop j.toNat))) ⟨_, upd_same, ?_⟩
      · refine ⟨a, vs0, j, w, rfl, rfl, z3, most_lt (by rw [z4.length]; exact hl.1), hl.2.1, ?_, q _ _ this.2 (Pn.set hx rfl) this.1 rfl .non⟩
        have h3 := hl.1
        have h4 := hl.2.2
        simp only [most] at h3
        omega
      · have := ((z4.take j.toNat).append (.cons hw (z4.drop j.toNat))).mono (kp_own (B := B) ha (h := .lst (vs0.take j.toNat ++ [w] ++ vs0.drop j.toNat)))
        rw [List.append_assoc]
        rw [List.append_assoc] at this
        exact this
    · cases he
  all_goals first | (cases h2; done) | (cases he; done) | skip
theorem tm_ext {i : Nat} : ∀ σ H Q, tX (kw X cn) (fun ρ => ev P cf ρ (.mut .ext i xs)) σ H Q → tBM X.K "list" rExtend (tVar i) (tEs (kw X cn) fun ρ => evs P cf ρ xs) σ H Q := by
  refine tm_gen fun {B o ρ ρ2 σ H a vs ds ls d pn fr Q} ho hx ha hd he q => ?_
  split at he <;> rename_i h1 h2 <;> try (cases h1; done)
  · rename_i p xs ys
    cases h2
    split at he
    · rename_i hl
      cases he
      obtain ⟨vs0, z3, z4⟩ := lst_own ho hx ha
      obtain ⟨w, rfl⟩ : ∃ w, vs = [w] := by cases hd with | cons _ t => cases t; exact ⟨_, rfl⟩
      obtain ⟨b, ws, rfl, hb, hw⟩ := (show DenT (kw X cn) (Zo B o) H w (.lst ys) from .inl hd.sq).lst
      have := ho.change hx ha upd_off (d' := .lst (ls ++ ys)) (H' := upd H a (.lst (vs0 ++ ws))) ⟨_, upd_same, (z4.append hw).mono (kp_own ha)⟩
      exact ⟨a, b, vs0, ws, rfl, rfl, z3, hb, most_le (by rw [z4.length, hw.length]; exact Nat.le_of_lt hl), q _ _ this.2 (Pn.set hx rfl) this.1 rfl .non⟩
    · cases he
  all_goals first | (cases h2; done) | (cases he; done) | skip
theorem tm_pop {i : Nat} : ∀ σ H Q, tX (kw X cn) (fun ρ => ev P cf ρ (.mut .pop i .nil)) σ H Q → tBM0 X.K "list" rPop (tVar i) σ H Q := by
  intro σ H Q h
  have := tm_gen (K := X.K) (r := rPop) (fun {B o ρ ρ2 σ H a vs ds ls d pn fr Q} ho hx ha hd he q => by
    split at he <;> rename_i h1 h2 <;> try (cases h1; done)
    · rename_i p xs
      cases h2
      cases hd
      split at he
      · rename_i d0 hl
        cases he
        obtain ⟨vs0, z3, z4⟩ := lst_own ho hx ha
        have hl' : ls[vs0.length - 1]? = some d := by
          rw [z4.length, ← List.getLast?_eq_getElem?]; exact hl
        obtain ⟨w, hw1, hw2⟩ := z4.get hl'
        have := ho.change hx ha upd_off (d' := .lst ls.dropLast) (H' := upd H a (.lst vs0.dropLast)) ⟨_, upd_same, z4.dropLast.mono (kp_own ha)⟩
        exact ⟨a, vs0, w, rfl, rfl, z3, hw1, q _ _ this.2 (Pn.set hx rfl) this.1 rfl (hw2.mono (kp_own ha))⟩
      · cases he
    all_goals first | (cases h2; done) | (cases he; done) | skip) σ H Q h
  obtain ⟨v, y1, y2, y3⟩ := this
  refine ⟨v, y1, y2, ?_⟩
  obtain ⟨B, o, ρ, r, ho, he, q⟩ := y3
  simp only [evs] at he
  cases he
  exact q [] H o .refl .refl ho .nil
/-! displays of dicts -/
theorem Ho.under {C : Kw} {B : Addr → Prop} {o : Ow} {ρ : Rho} {σ : L2.St} {H H' : Hp} {p : Addr} (h : Ho C B o ρ σ H) (hp : B p) (kp : ∀ b, b ≠ p → H' b = H b) (hn : H' p ≠ none) : Ho C B o ρ σ H' where
  sl := fun i s e => (h.sl i s e).mono (fun a u n q => ⟨(kp a fun z => n (by rw [z]; exact .inl hp)).trans q, n⟩) fun a q => kp a fun z => h.nb i a q (by rw [z]; exact hp)
  out := h.out
  inj := h.inj
  nb := h.nb
  bd := fun a z => by
    by_cases e : a = p
    · rw [e]; exact hn
    · rw [kp a e]; exact h.bd a z
  len := h.len
inductive TrOk (X : Cx) (cn : Nat → Addr) (P : Pr) (cf : Call) : List Str → Es → List (TE × TE) → Prop
  | nil : TrOk X cn P cf [] .nil []
  | cons {k : Str} {ks : List Str} {x : E} {xs : Es} {trs : List (TE × TE)} : TrOk X cn P cf ks xs trs → TrOk X cn P cf (k :: ks) (.cons x xs) ((tC (.str k), tX (kw X cn) fun ρ => ev P cf ρ x) :: trs)
theorem tps_of {ks : List Str} {xs : Es} {trs : List (TE × TE)} (h : TrOk X cn P cf ks xs trs) : ∀ {B : Addr → Prop} {o : Ow} {ρ ρ1 : Rho} {σ : L2.St} {H : Hp} {ds : List D} {Q : List (V × V) → Hp → Prop}, Ho (kw X cn) B o ρ σ H → evs P cf ρ xs = some (ds, ρ1) →
    (∀ vs H' o', StepE H o H' o' → Pn ρ ρ1 → Ho (kw X cn) B o' ρ1 σ H' → DenAll (kw X cn) (Zo B o') H' vs ds → ks.length = ds.length → Q ((ks.map V.str).zip vs) H') → tPairs trs σ H Q := by
  induction h with
  | nil =>
    intro B o ρ ρ1 σ H ds Q ho he q
    simp only [evs] at he
    cases he
    exact q [] H o .refl .refl ho .nil rfl
  | cons h ih =>
    intro B o ρ ρ1 σ H ds Q ho he q
    simp only [evs] at he
    obtain ⟨⟨d, f, ρ2⟩, e1, he⟩ := bind_some he
    obtain ⟨⟨ds', ρ3⟩, e2, he⟩ := Option.map_eq_some_iff.mp he
    cases he
    refine ⟨B, o, ρ, _, ho, e1, fun v H1 o1 s1 pn1 rs => ?_⟩
    obtain ⟨h1, d1⟩ := rs.shared ho.bd
    refine ih h1 e2 fun vs H2 o2 s2 pn2 h2 d2 hl => ?_
    exact q (v :: vs) H2 o2 (s1.trans s2) (pn1.trans pn2) h2 (.cons (d1.step s2.step) d2) (by simp [hl])
theorem putK_new {kvs : List (Key × V)} {k : Key} {v : V} (h : k ∉ kvs.map Prod.fst) : putK kvs k v = kvs ++ [(k, v)] := by
  unfold putK
  rw [if_neg]
  intro z
  obtain ⟨kv, h1, h2⟩ := List.any_eq_true.mp z
  exact h (List.mem_map.mpr ⟨kv, h1, of_decide_eq_true h2⟩)
theorem merge_new : ∀ {more acc : List (Key × V)}, ((acc ++ more).map Prod.fst).Nodup → mergeK acc more = acc ++ more
  | [], acc, _ => by simp [mergeK]
  | (k, v) :: more, acc, h => by
    have h1 : k ∉ acc.map Prod.fst := by
      rw [List.map_append, List.map_cons] at h
      intro z
      have := (List.nodup_append.mp h).2.2 _ z _ List.mem_cons_self
      exact this rfl
    have := merge_new (more := more) (acc := acc ++ [(k, v)]) (by simpa using h)
    show mergeK (putK acc k v) more = _
    rw [putK_new h1, this]
    simp
theorem td_dsp {ks : List Str} {trs : List (TE × TE)} (h : TrOk X cn P cf ks xs trs) : ∀ σ H Q, tX (kw X cn) (fun ρ => ev P cf ρ (.dsp ks xs)) σ H Q → tDisp trs σ H Q := by
  rintro σ H Q ⟨B, o, ρ, r, ho, he, q⟩
  simp only [ev] at he
  obtain ⟨⟨ds, ρ1⟩, e1, he⟩ := bind_some he
  split at he
  · rename_i hc
    cases he
    intro p n
    have x0 : Ext H (upd H p (.dK [])) := Ext.new n
    have h0 := ho.hide x0 n (by rw [upd_same]; intro z; cases z)
    refine tps_of h h0 e1 fun vs H2 o2 s2 pn2 h2 d2 hl => ?_
    have hp : ∀ i a, o2 i = some a → a ≠ p := fun i a e z => h2.nb i a e (.inr z)
    have e2 : H2 p = some (.dK []) := s2.keep p _ (fun ⟨i, z⟩ => h0.nb i p z (.inr rfl)) upd_same
    refine ⟨e2, (ks.map Sum.inr).zip vs, ?_, ?_, ?_⟩
    · have gen : ∀ (ks : List Str) (vs : List V), (ks.map V.str).zip vs = ((ks.map (Sum.inr : Str → Key)).zip vs).map fun kv => (kV kv.1, kv.2) := fun ks => by
        induction ks with
        | nil => intro vs; rfl
        | cons k ks ih =>
          intro vs
          cases vs with
          | nil => rfl
          | cons v vs => simp only [List.map_cons, List.zip_cons_cons, ih vs]; rfl
      exact gen ks vs
    · rw [List.length_zip, List.length_map]
      exact Nat.le_trans (Nat.min_le_left _ _) hc.2.1
    · have lv : (ks.map (Sum.inr : Str → Key)).length = vs.length := by rw [List.length_map, d2.length]; exact hc.1
      have nd : (((ks.map (Sum.inr : Str → Key)).zip vs).map Prod.fst).Nodup := by
        rw [List.map_fst_zip (Nat.le_of_eq lv)]
        exact List.Pairwise.map _ (fun a b n z => n (by cases z; rfl)) hc.2.2
      rw [merge_new (acc := []) (by simpa using nd), List.nil_append]
      have kp : ∀ b, b ≠ p → upd H2 p (.dK ((ks.map Sum.inr).zip vs)) b = H2 b := upd_off
      have h3 := h2.under (.inr rfl) kp (by rw [upd_same]; intro z; cases z)
      refine q _ _ o2 ⟨fun a u n1 e => ?_, fun a e => ?_, s2.own⟩ pn2 ⟨p, rfl, n, h3, _, upd_same, lv, d2.mono fun a u n1 e => ⟨(kp a fun z => n1 (.inl (.inr z))).trans e, n1⟩⟩
      · have na : a ≠ p := fun z => by rw [z, n] at e; cases e
        rw [kp a na]
        exact s2.keep a u n1 (x0 a u e)
      · by_cases na : a = p
        · rw [na, upd_same]; intro z; cases z
        · rw [kp a na]
          exact s2.dom a (x0.dom a e)
  · cases he
/-- {} -/
theorem td_dsp0 : ∀ σ H Q, tX (kw X cn) (fun ρ => ev P cf ρ (.dsp [] .nil)) σ H Q → tDNewK σ H Q := by
  intro σ H Q h p n
  obtain ⟨_, kvs, e, _, q⟩ := td_dsp (X := X) (cn := cn) (P := P) (cf := cf) .nil σ H Q h p n
  have : kvs = [] := List.map_eq_nil_iff.mp e.symm
  subst this
  have u : upd (upd H p (.dK [])) p (.dK (mergeK [] [])) = upd H p (.dK []) := by
    funext a
    unfold upd
    by_cases z : a = p <;> simp [z, mergeK]
  rw [u] at q
  exact q
end
end BK

set_option Elab.async false
set_option linter.all false
set_option maxRecDepth 100000
set_option maxHeartbeats 2000000
/-! BK8c: built-in methods, by the datum's type. -/
namespace BK
open PySem PySem.Spec PyProof.Rows L2
/-- the value's type, whatever else the heap holds -/
def TyW (X : Cx) (T : String) (x : V) (H : Hp) : Prop := ∀ (pins : List (Addr × Obj)) (σ : L2.St) (s : Shared) (v : Value), Inv X pins σ H s → RelV x v → s.TypeIs v T ∧ ∀ a, v = .ref a → ∃ ob, s.heap.get? a = some ob ∧ ob.dict = none
def tBW (X : Cx) (T : String) (r : V → List V → Hp → VK → Prop) (to : TE) (t : TA) : TE := fun σ H Q => to σ H fun x H1 => TyW X T x H1 ∧ t σ H1 fun xs H2 => r x xs H2 Q
def tBW0 (X : Cx) (T : String) (r : V → List V → Hp → VK → Prop) (to : TE) : TE := fun σ H Q => to σ H fun x H1 => TyW X T x H1 ∧ r x [] H1 Q
section
variable {X : Cx} {o e : Expr} {es : List Expr} {to : TE} {t : TA} {name : Str} {apos cpos : Pos} {T id : String} {r : V → List V → Hp → VK → Prop}
theorem pe_bw (pa : PlainAttrs T) (slot : Slot T name id) (hty : typeOf (.builtin id) = pure (.type "method_descriptor")) (hm : MtR X id r) (ho : PE X o to) (ha : PA X (e :: es) t)
    (hbase : attributeBase o name X.env (eval o X.env) = eval o X.env)
    (hfew : ((backTo cpos (starEach (e :: es) X.env)).all (fun x => !x.1) && (backToKw cpos (keywordEach [] X.env)).all (fun x => x.1.isSome)
      && decide ((e :: es).length + ([] : List Keyword).length + (if ([] : List Keyword).isEmpty then 0 else 1) < 30)) = true)
    (hline : (apos.endLine == cpos.line) = true) (hs : starEach (e :: es) X.env = (false, eval e X.env) :: starEach es X.env) (hplain : (backTo cpos (starEach es X.env)).any (·.1) = false) :
    PE X (.Call (.Attribute o name apos) (e :: es) [] cpos) (tBW X T r to t) := by
  refine ⟨fun pins s σ H Q I h => ?_⟩
  refine wpAny_Call_method_late hbase hfew hline rfl (thn (ho.run pins s σ H _ I h) fun v s1 ⟨x, H1, I1, r1, ty, q1⟩ => ?_)
  obtain ⟨h1, h2⟩ := ty _ _ _ _ I1 r1
  refine ⟨T, id, pa, slot, hty, h1, h2, ?_⟩
  have hA := ha.run cpos pins s1 σ H1 _ I1 q1
  rw [hs] at hA ⊢
  refine Calls.callWith_builtin (by show (false || (backTo cpos (starEach es X.env)).any (·.1)) = false; rw [hplain] <;> rfl) (Calls.evalArgs_plain ?_)
  exact thn hA fun us s2 ⟨vs, H2, I2, r2, q2⟩ => hm pins s2 σ H2 x vs v us Q I2 r1 r2 q2
theorem pe_bw0 (pa : PlainAttrs T) (slot : Slot T name id) (hty : typeOf (.builtin id) = pure (.type "method_descriptor")) (hm : MtR X id r) (ho : PE X o to)
    (hbase : attributeBase o name X.env (eval o X.env) = eval o X.env) (hline : (apos.endLine == cpos.line) = true) : PE X (.Call (.Attribute o name apos) [] [] cpos) (tBW0 X T r to) := by
  refine ⟨fun pins s σ H Q I h => ?_⟩
  refine wpAny_Call_method0_late hbase hline (thn (ho.run pins s σ H _ I h) fun v s1 ⟨x, H1, I1, r1, ty, q1⟩ => ?_)
  obtain ⟨h1, h2⟩ := ty _ _ _ _ I1 r1
  exact ⟨T, id, pa, slot, hty, h1, h2, Calls.callWith_builtin rfl (PySem.evalArgs_none (hm pins s1 σ H1 x [] v [] Q I1 r1 .nil q1))⟩
end
section
variable {X : Cx} {cn : Nat → Addr} {P : Pr} {cf : Call} {x : E} {xs : Es} {k : Nat}
theorem den_str {C : Kw} {Z : Addr → Prop} {H : Hp} {v : V} {z : Str} (h : DenT C Z H v (.str z)) : v = .str z := by
  rcases h with h | ⟨a, _, h⟩
  · cases h; rfl
  · exact h.elim
def bmT : Bm → String
  | .index => "list"
  | .count => "list"
  | .get => "dict"
  | .scn => "str"
theorem ty_of {Z : Addr → Prop} {H : Hp} {v : V} {d : D} {m : Bm} (h : DenT (kw X cn) Z H v d) (e : bmTy m d = true) : TyW X (bmT m) v H := by
  have L : ∀ {ds : List D}, DenT (kw X cn) Z H v (.lst ds) → TyW X "list" v H := fun {ds} h pins σ s u I r => by
    obtain ⟨a, vs, rfl, ha, _⟩ := h.lst
    exact tyV_is I r (.inl ⟨rfl, vs, SqL.of ha⟩)
  have K : ∀ {ks : List Key} {ds : List D}, DenT (kw X cn) Z H v (.dk ks ds) → TyW X "dict" v H := fun {ks ds} h pins σ s u I r => by
    obtain ⟨a, ws, rfl, ha, _⟩ := h.dk
    cases r
    obtain ⟨t1, t2, _⟩ := isD_at I (.inl ⟨_, ha⟩)
    exact ⟨t1, t2⟩
  have W : ∀ {ks : List Str} {ds : List D}, DenT (kw X cn) Z H v (.kd ks ds) → TyW X "dict" v H := fun {ks ds} h pins σ s u I r => by
    obtain ⟨a, ws, rfl, kd, _⟩ := h.kd
    cases r
    obtain ⟨es, n, D, _⟩ := kd.ex
    refine ⟨kd_type D I, fun b e => ?_⟩
    cases e
    exact ⟨_, I.kIn a _ D.at_, rfl⟩
  have S : ∀ {z : Str}, DenT (kw X cn) Z H v (.str z) → TyW X "str" v H := fun {z} h pins σ s u I r => by
    have e := den_str h
    subst e
    obtain ⟨t, rfl⟩ := r
    exact ⟨typeIs_str _ _ _, fun _ e => nomatch e⟩
  cases m <;> cases d <;> first
    | (simp [bmTy] at e; done)
    | exact S h
    | exact L h
    | exact K h
    | exact W h
/-- the method's answer -/
def wB (C : Kw) (m : Bm) : V → List V → Hp → VK → Prop := fun x xs H Q => ∃ Z d ds r, DenT C Z H x d ∧ DenAll C Z H xs ds ∧ bmOp m d ds = some r ∧ ∀ v, Den C Z H v r → Q v H
theorem find_ok {p : PyData} : ∀ {ps : List PyData} {i k : Nat}, findD p ps i = some k → i ≤ k ∧ ∃ z, ps[k - i]? = some z ∧ PyData.eqv z p = true ∧ ∀ (m : Nat) (z' : PyData), m < k - i → ps[m]? = some z' → PyData.eqv z' p = false
  | [], i, k, h => by cases h
  | z :: zs, i, k, h => by
    rw [findD] at h
    split at h
    · rename_i e
      cases h
      exact ⟨Nat.le_refl _, z, by simp, e, fun m z' hm => by omega⟩
    · rename_i e
      obtain ⟨h1, z', h2, h3, h4⟩ := find_ok h
      have e1 : k - i = (k - (i + 1)) + 1 := by omega
      refine ⟨by omega, z', by rw [e1, List.getElem?_cons_succ]; exact h2, h3, fun m w hm hw => ?_⟩
      cases m with
      | zero =>
        simp at hw
        subst hw
        simpa using e
      | succ m => exact h4 m w (by omega) (by simpa using hw)
theorem den_one {C : Kw} {Z : Addr → Prop} {H : Hp} {vs : List V} {d : D} (h : DenAll C Z H vs [d]) : ∃ v, vs = [v] ∧ Den C Z H v d := by
  cases h with
  | cons h t => cases t; exact ⟨_, rfl, h⟩
theorem den_two {C : Kw} {Z : Addr → Prop} {H : Hp} {vs : List V} {d e : D} (h : DenAll C Z H vs [d, e]) : ∃ v w, vs = [v, w] ∧ Den C Z H v d ∧ Den C Z H w e := by
  cases h with
  | cons h t =>
    obtain ⟨w, rfl, h2⟩ := den_one t
    exact ⟨_, w, rfl, h, h2⟩
theorem mt_idx (hr : Room k X.A) : MtR X "list.index" (wB (kw X cn) .index) := by
  intro pins s σ H x xs v us Q I rx rxs h
  obtain ⟨Z, d, ds, r, hd, hds, he, q⟩ := h
  have : ∃ ls dd, d = .lst ls ∧ ds = [dd] ∧ bmIndex ls dd = some r := by
    have he : bmI d ds = some r := he
    unfold bmI at he
    split at he
    · exact ⟨_, _, rfl, rfl, he⟩
    · cases he
  obtain ⟨ls, dd, rfl, rfl, hb⟩ := this
  clear he
  have he := hb
  unfold bmIndex at he
  split at he <;> try (cases he; done)
  rename_i p ps e1 e2
  split at he <;> try (cases he; done)
  rename_i hs
  rw [Bool.and_eq_true] at hs
  obtain ⟨j, e3, e4⟩ := Option.map_eq_some_iff.mp he
  subst e4
  obtain ⟨_, z, f1, f2, f3⟩ := find_ok e3
  obtain ⟨y, rfl, hy⟩ := den_one hds
  obtain ⟨a, vs, rfl, ha, hv⟩ := hd.lst
  rw [Nat.sub_zero] at f1 f3
  exact mt_indexD (by have := hr.un; omega) pins s σ H _ _ v us Q I rx rxs ⟨a, y, p, ps, j, z, rfl, rfl, hd.dp (by rw [D.py, e2]; rfl), (show DenT (kw X cn) Z H y dd from .inl hy).dp e1, hs.2, hs.1, f1, f2, f3, q _ (.int _)⟩
def rCntD (K : PySem.W.Frag) : V → List V → Hp → VK → Prop := fun x xs H Q => ∃ (a : Addr) (y : V) (d : PyData) (ds : List PyData), x = V.ref a ∧ xs = [y] ∧ Dp K H (V.ref a) (.list ds) ∧ Dp K H y d ∧
  SeqAt.shaped (.list ds) = true ∧ SeqAt.shaped d = true ∧ Q (.int ((ds.countP fun z => PyData.eqv z d : Nat) : Int)) H
theorem mt_countD (hu : X.A.units + 65 < cLine) : MtR X "list.count" (rCntD X.K) := by
  intro pins s σ H x xs v us Q I rx rxs h
  obtain ⟨a, y, d, ds, rfl, rfl, hl, hy, sl, sd, q⟩ := h
  cases rx
  cases rxs with
  | cons ry rt =>
    rename_i uy ut
    cases rt
    obtain ⟨bs, r1⟩ := Dp.reads I d y uy hy ry
    have hxs : PyData.canLayAll0 ds = true := SeqAt.canLay_of_shaped sl
    have hroom : X.A.units + 1 + min (PyData.depthAll ds) d.depth < cLine := room_in_shaped sd hu
    cases hl with
    | lst hs ha =>
      obtain ⟨its, rv, pl, hlen⟩ := I.list hs
      obtain ⟨as, h4⟩ := Dp.readsAll I ds _ its ha rv
      exact SeqAt.count_list_data pl.isList (show ReadsAll s.heap its.toArray.toList ds as from h4) r1 (PyData.plainAll_of_canLay0 ds hxs) (PyData.plain_of_canLay0 d (SeqAt.canLay_of_shaped sd)) hroom ⟨.int _, H, I.tok _, ⟨_, rfl⟩, q⟩
theorem mt_cnt (hr : Room k X.A) : MtR X "list.count" (wB (kw X cn) .count) := by
  intro pins s σ H x xs v us Q I rx rxs h
  obtain ⟨Z, d, ds, r, hd, hds, he, q⟩ := h
  have : ∃ ls dd, d = .lst ls ∧ ds = [dd] ∧ bmCount ls dd = some r := by
    have he : bmC d ds = some r := he
    unfold bmC at he
    split at he
    · exact ⟨_, _, rfl, rfl, he⟩
    · cases he
  obtain ⟨ls, dd, rfl, rfl, hb⟩ := this
  clear he
  have he := hb
  unfold bmCount at he
  split at he <;> try (cases he; done)
  rename_i p ps e1 e2
  split at he <;> try (cases he; done)
  rename_i hs
  rw [Bool.and_eq_true] at hs
  cases he
  obtain ⟨y, rfl, hy⟩ := den_one hds
  obtain ⟨a, vs, rfl, ha, hv⟩ := hd.lst
  exact mt_countD (by have := hr.un; omega) pins s σ H _ _ v us Q I rx rxs ⟨a, y, p, ps, rfl, rfl, hd.dp (by rw [D.py, e2]; rfl), (show DenT (kw X cn) Z H y dd from .inl hy).dp e1, hs.2, hs.1, q _ (.int _)⟩
theorem mt_scn : MtR X "str.count" (wB (kw X cn) .scn) := by
  intro pins s σ H x xs v us Q I rx rxs h
  obtain ⟨Z, d, ds, r, hd, hds, he, q⟩ := h
  have he : bmS d ds = some r := he
  unfold bmS at he
  split at he
  · rename_i a b _
    cases he
    have e := den_str hd
    subst e
    obtain ⟨y, rfl, hy⟩ := den_one hds
    cases hy
    exact mt_count pins s σ H _ _ v us Q I rx rxs ⟨a, b, rfl, rfl, q _ (.int _)⟩
  · cases he
theorem kget_any0 {q : Str} : ∀ {ks : List Str} {ws : List D}, ks.length = ws.length → kget ks ws q = none → (ks.any fun k => decide (k = q)) = false
  | [], _, _, _ => rfl
  | k :: ks, [], h, _ => by simp at h
  | k :: ks, w :: ws, h, e => by
    rw [kget] at e
    split at e
    · cases e
    · rename_i n
      rw [List.any_cons, kget_any0 (ks := ks) (ws := ws) (by simpa using h) e]
      simp [n]
theorem kget_any {C : Kw} {Z : Addr → Prop} {H : Hp} {a : Addr} {ks : List Str} {vs : List V} {ws : List D} {q : Str} (hv : DenAll C Z H vs ws) (K0 : KDok C a ks vs) (e : kget ks ws q = none) : (ks.any fun k => decide (k = q)) = false := by
  obtain ⟨es, n, _, l1, l2, _⟩ := K0.ex
  exact kget_any0 (by rw [l1, ← l2, hv.length]) e
theorem kd_none {C : Kw} {Z : Addr → Prop} {H : Hp} {a : Addr} {ks : List Str} {vs : List V} {ws : List D} {q : Str} {r : Option Value} (hv : DenAll C Z H vs ws) (K0 : KDok C a ks vs) (hk : kget ks ws q = none) (n2 : r.isSome = (ks.any fun k => decide (k = q))) : r = none := by
  rw [kget_any hv K0 hk] at n2
  cases r with
  | none => rfl
  | some u => cases n2
theorem mt_get (hr : Room k X.A) : MtR X "dict.get" (wB (kw X cn) .get) := by
  intro pins s σ H x xs v us Q I rx rxs h
  obtain ⟨Z, d, ds, r, hd, hds, he, q⟩ := h
  have : (∃ k0, ds = [k0] ∧ bmGet1 d k0 = some r) ∨ ∃ k0 d0, ds = [k0, d0] ∧ bmGet2 d k0 d0 = some r := by
    have he : bmG d ds = some r := he
    unfold bmG at he
    split at he
    · exact .inl ⟨_, rfl, he⟩
    · exact .inr ⟨_, _, rfl, he⟩
    · cases he
  rcases this with ⟨k0, rfl, hb⟩ | ⟨k0, d0, rfl, hb⟩
  · clear he
    have he := hb
    obtain ⟨y, rfl, hy⟩ := den_one hds
    cases rxs with
    | cons ry rt =>
      cases rt
      unfold bmGet1 at he
      split at he
      · obtain ⟨a, vs, rfl, ha, hl, hv⟩ := hd.dk
        cases rx
        obtain ⟨c, e1, e2⟩ := Option.map_eq_some_iff.mp he
        subst e2
        have ey : y = kV c := Den.key (.inl hy) e1
        subst ey
        have g := dget_ok (k := c) hl hv
        refine d_get1 (by have := hr.un; omega) I (.inl ⟨_, c, ha, rfl, rfl⟩) ry fun w' s' I' rw' => ⟨_, H, I', rw', q _ ?_⟩
        revert g
        split
        · rename_i hd'; intro g; rw [hd', g]; exact .non
        · rename_i hd'; rintro ⟨w0, g1, g2⟩; rw [hd', g1]; exact g2
      · rename_i ks ws q0
        obtain ⟨a, vs, rfl, K0, hv⟩ := hd.kd
        cases rx
        cases he
        cases hy
        obtain ⟨es, n, r, D, n1, n2, n3⟩ := kd_ns (q := q0) K0 hv
        obtain ⟨t, rfl⟩ := ry
        have hm := PySem.W.mapOf_K (prog := X.prog) (w := X.w) I.kIn D.at_ D.lit
        refine call_meetsIn PySem.F.slot_dict_get hm.typeIs PySem.F.entry_dict_get (PySem.F.args_dict_get_2 _ _) (meets_dict_get (strKind X.prog X.w) a (PySem.strKind_is X.prog X.w q0 t) D.low) ⟨_, hm, ?_⟩
        rw [PySem.W.find_K D.at_ n1]
        cases hk : kget ks ws q0 with
        | none =>
          have := kd_none hv K0 hk n2
          subst this
          exact ⟨.non, H, I.tok _, rfl, q _ (by rw [hk]; exact .non)⟩
        | some z =>
          obtain ⟨u, w0, m1, m2, m3⟩ := n3 _ hk
          subst m1
          exact ⟨w0, H, I.tok _, m2, q _ (by rw [hk]; exact m3)⟩
      · cases he
  · clear he
    have he := hb
    obtain ⟨y, z0, rfl, hy, hz⟩ := den_two hds
    cases rxs with
    | cons ry rt =>
      cases rt with
      | cons rz rt =>
        cases rt
        unfold bmGet2 at he
        split at he
        · obtain ⟨a, vs, rfl, ha, hl, hv⟩ := hd.dk
          cases rx
          obtain ⟨c, e1, e2⟩ := Option.map_eq_some_iff.mp he
          subst e2
          have ey : y = kV c := Den.key (.inl hy) e1
          subst ey
          have g := dget_ok (k := c) hl hv
          refine d_get2 (by have := hr.un; omega) I (.inl ⟨_, c, ha, rfl, rfl⟩) ry rz fun w' s' I' rw' => ⟨_, H, I', rw', q _ ?_⟩
          revert g
          split
          · rename_i hd'; intro g; rw [hd', g]; exact hz
          · rename_i hd'; rintro ⟨w0, g1, g2⟩; rw [hd', g1]; exact g2
        · rename_i ks ws q0
          obtain ⟨a, vs, rfl, K0, hv⟩ := hd.kd
          cases rx
          cases he
          cases hy
          obtain ⟨es, n, r, D, n1, n2, n3⟩ := kd_ns (q := q0) K0 hv
          obtain ⟨t, rfl⟩ := ry
          have hm := PySem.W.mapOf_K (prog := X.prog) (w := X.w) I.kIn D.at_ D.lit
          refine call_meetsIn PySem.F.slot_dict_get hm.typeIs PySem.F.entry_dict_get (PySem.F.args_dict_get_3 _ _ _) (meets_dict_get_default (strKind X.prog X.w) a (PySem.strKind_is X.prog X.w q0 t) D.low _) ⟨_, hm, ?_⟩
          rw [PySem.W.find_K D.at_ n1]
          cases hk : kget ks ws q0 with
          | none =>
            have := kd_none hv K0 hk n2
            subst this
            exact ⟨z0, H, I.tok _, rz, q _ (by rw [hk]; exact hz)⟩
          | some z =>
            obtain ⟨u, w0, m1, m2, m3⟩ := n3 _ hk
            subst m1
            exact ⟨w0, H, I.tok _, m2, q _ (by rw [hk]; exact m3)⟩
        · cases he
theorem tx_bm {m : Bm} : ∀ σ H Q, tX (kw X cn) (fun ρ => ev P cf ρ (.bm m x xs)) σ H Q → tBW X (bmT m) (wB (kw X cn) m) (tP (kw X cn) fun ρ => opn ρ x (ev P cf ρ x)) (tEs (kw X cn) fun ρ => evs P cf ρ xs) σ H Q := by
  rintro σ H Q ⟨B, o, ρ, r, ho, he, q⟩
  simp only [ev] at he
  obtain ⟨⟨ad, ρ1⟩, e1, he⟩ := bind_some he
  obtain ⟨d0, e2, he⟩ := bind_some he
  split at he
  · rename_i hb
    obtain ⟨⟨ds, ρ2⟩, e3, he⟩ := bind_some he
    obtain ⟨d, e4, he⟩ := bind_some he
    obtain ⟨r1, e5, he⟩ := Option.map_eq_some_iff.mp he
    cases he
    refine ⟨B, o, ρ, _, ho, e1, fun v H1 o1 s1 pn1 h1 a1 => ⟨ty_of (a1.den h1 e2) hb, ?_⟩⟩
    refine ⟨B, o1, ρ1, _, h1, e3, fun vs H2 o2 s2 pn2 h2 d2 => ?_⟩
    refine ⟨Zo B o2, d, ds, r1, (a1.step s2).den h2 e4, d2, e5, fun v' dv => ?_⟩
    exact q v' H2 o2 (s1.trans s2) (pn1.trans pn2) ⟨h2, dv⟩
  · cases he
end
end BK

set_option Elab.async false
set_option linter.all false
set_option maxRecDepth 100000
set_option maxHeartbeats 2000000
/-! BK8d: what is only looked at: everything is shared for the time, and a flat answer comes of it. -/
namespace BK
open PySem PySem.Spec PyProof.Rows L2
theorem den_flat' {C : Kw} {Z Z' : Addr → Prop} {H H' : Hp} {v : V} {d : D} (f : d.flat = true) (h : Den C Z H v d) : Den C Z' H' v d := by
  cases h <;> first
    | exact .non
    | exact .bl _
    | exact .int _
    | exact .str _
    | (simp [D.flat] at f; done)
theorem Ho.shAll {C : Kw} {B : Addr → Prop} {o : Ow} {ρ : Rho} {σ : L2.St} {H : Hp} (h : Ho C B o ρ σ H) : Ho C B (fun _ => none) (shR ρ) σ H where
  sl := fun i s e => by
    have zz : ∀ b, Zo B (fun _ => none) b → B b := fun b z => by
      rcases z with z | ⟨j, z⟩
      · exact z
      · cases z
    unfold shR at e
    rw [List.getElem?_map] at e
    obtain ⟨t, e1, e2⟩ := Option.map_eq_some_iff.mp e
    have q := h.sl i t e1
    cases t with
    | un => subst e2; rfl
    | sh p d =>
      subst e2
      obtain ⟨_, v, q2, q3⟩ := q
      exact ⟨rfl, v, q2, q3.mono fun a u n r => ⟨r, fun z => n (.inl (zz a z))⟩⟩
    | ow p d =>
      subst e2
      obtain ⟨a, q1, q2, q3⟩ := q
      exact ⟨rfl, .ref a, q2, q3.den (fun b z => .inl (zz b z)) fun z => h.nb i a q1 (zz a z)⟩
  out := fun _ _ => rfl
  inj := fun i j a e _ => by cases e
  nb := fun i a e => by cases e
  bd := h.bd
  len := by rw [shR, List.length_map]; exact h.len
section
variable {X : Cx} {cn : Nat → Addr} {P : Pr} {cf : Call} {x : E}
theorem tx_tmp : ∀ σ H Q, tX (kw X cn) (fun ρ => ev P cf ρ (.tmp x)) σ H Q → tX (kw X cn) (fun ρ => ev P cf ρ x) σ H Q := by
  rintro σ H Q ⟨B, o, ρ, r, ho, he, q⟩
  simp only [ev] at he
  obtain ⟨⟨d, fr, ρ1⟩, e1, he⟩ := bind_some he
  split at he
  · rename_i hf
    cases he
    refine ⟨B, fun _ => none, shR ρ, (d, fr, ρ1), ho.shAll, e1, fun v H1 o1 s pn rs => ?_⟩
    obtain ⟨h1, dv⟩ := rs.shared ho.bd
    have ext : Ext H H1 := fun a u e => s.keep a u (fun ⟨i, z⟩ => by cases z) e
    exact q v H1 o ext.stepE .refl ⟨ho.ext ext, den_flat' hf dv⟩
  · cases he
end
end BK

set_option Elab.async false
set_option linter.all false
set_option maxRecDepth 100000
set_option maxHeartbeats 2000000
/-! BK9: targets. -/
namespace BK
open PySem PySem.Spec PyProof.Rows L2

/-- pinned names keep their values -/
def Kp (ρ : Rho) (σ σ' : L2.St) : Prop := ∀ (k : Nat) s, ρ[k]? = some s → s.pin = true → σ'[k]? = σ[k]?
theorem Kp.refl {ρ : Rho} {σ : L2.St} : Kp ρ σ σ := fun _ _ _ _ => rfl
theorem Pn.at {ρ ρ1 : Rho} (pn : Pn ρ ρ1) {k : Nat} {s : Sl} (e : ρ[k]? = some s) : ∃ s1, ρ1[k]? = some s1 ∧ s1.pin = s.pin := by
  have := pn.pin k
  rw [e] at this
  obtain ⟨s1, h1, h2⟩ := Option.map_eq_some_iff.mp this
  exact ⟨s1, h1, h2⟩
theorem Kp.trans {ρ ρ1 : Rho} {σ σ1 σ2 : L2.St} (a : Kp ρ σ σ1) (pn : Pn ρ ρ1) (b : Kp ρ1 σ1 σ2) : Kp ρ σ σ2 := fun k s e p => by
  obtain ⟨s1, h1, h2⟩ := pn.at e
  exact (b k s1 h1 (h2.trans p)).trans (a k s e p)
theorem Kp.of {ρ ρ1 : Rho} {σ σ1 : L2.St} (pn : Pn ρ ρ1) (b : Kp ρ1 σ σ1) : Kp ρ σ σ1 := Kp.refl.trans pn b
/-- names outside of these keep their values -/
def Same (σ σ' : L2.St) (own : List Nat) : Prop := σ'.length = σ.length ∧ ∀ j : Nat, j ∉ own → σ'[j]? = σ[j]?
theorem Same.refl {σ : L2.St} {own : List Nat} : Same σ σ own := ⟨rfl, fun _ _ => rfl⟩
theorem Same.trans {σ σ1 σ2 : L2.St} {a b c : List Nat} (h : Same σ σ1 a) (g : Same σ1 σ2 b) (ha : ∀ j, j ∈ a → j ∈ c) (hb : ∀ j, j ∈ b → j ∈ c) : Same σ σ2 c :=
  ⟨g.1.trans h.1, fun j n => (g.2 j fun z => n (hb j z)).trans (h.2 j fun z => n (ha j z))⟩

/-- a target takes an answer: H0, o0 are where the whole began -/
def tGb (C : Kw) (own : List Nat) (x : Rho → D → Bool → Option Rho) : TG := fun v σ H R => ∃ B o ρ d fr ρ' H0 o0, StepE H0 o0 H o ∧ (∀ a, B a → H0 a ≠ none) ∧ Res C B o ρ σ H0 H v d fr ∧ x ρ d fr = some ρ' ∧
  ∀ σ' H' o', Step H0 o0 H' o' → (fr = false → StepE H o H' o') → Pn ρ ρ' → Kp ρ σ σ' → Same σ σ' own → Ho C B o' ρ' σ' H' → R σ' H'
section
variable {X : Cx} {cn : Nat → Addr} {P : Pr} {cf : Call} {e a b c ob : Expr} {es : List Expr} {x y z : E} {xs : Es} {pos p apos : Pos} {k : Nat} {m : Str} {ta : TE} {t : TA}
theorem _root_.L2.PG.imp {X : Cx} {e : Expr} {t t' : TG} (h : PG X e t) (i : ∀ v σ H Q, t' v σ H Q → t v σ H Q) : PG X e t' := ⟨fun pins s σ H v u Q I r w => h.run pins s σ H v u Q I r (i v σ H Q w)⟩
theorem put_ok {ρ ρ' : Rho} {i : Nat} {s : Sl} (h : put ρ i s = some ρ') : ∃ t, ρ[i]? = some t ∧ t.pin = false ∧ ρ' = ρ.set i s := by
  unfold put at h
  split at h
  · rename_i t e
    split at h
    · cases h
    · rename_i hp
      cases h
      exact ⟨t, e, by simpa using hp, rfl⟩
  · cases h
theorem kp_set {ρ : Rho} {σ : L2.St} {i : Nat} {t : Sl} {w : Option V} (e : ρ[i]? = some t) (hp : t.pin = false) : Kp ρ σ (σ.set i w) := fun k s ek p => by
  by_cases h : i = k
  · subst h
    rw [e] at ek
    cases ek
    rw [hp] at p; cases p
  · rw [List.getElem?_set_ne h]
theorem tg_nm {i : Nat} : ∀ v σ H R, tGb (kw X cn) [i] (fun ρ d f => Tg1.bind ρ d f (.nm i)) v σ H R → gName i v σ H R := by
  rintro v σ H R ⟨B, o, ρ, d, fr, ρ', H0, o0, s0, hB, rs, hb, q⟩
  obtain ⟨t, e, hp, rfl⟩ := put_ok hb
  have hi := (List.getElem?_eq_some_iff.mp e).1
  have sm : Same σ (σ.set i (some v)) [i] := ⟨List.length_set, fun j n => List.getElem?_set_ne fun z => n (by rw [z]; exact List.mem_singleton.mpr rfl)⟩
  cases fr with
  | false =>
    obtain ⟨ho, dv⟩ := rs
    have hl : i < σ.length := by rw [← ho.len]; exact hi
    have se : StepE H o H (Ow.off o i) := ⟨fun _ _ _ e => e, fun _ e => e, fun j a z => (Ow.off_some z).1⟩
    refine q _ H _ (s0.trans se).step (fun _ => se) (Pn.set e (by rw [hp]; rfl)) (kp_set e hp) sm ?_
    refine ho.chg hi (fun b u n q => ⟨q, fun z => n (Zo.off b z)⟩) (fun _ _ _ _ => rfl) (fun j hj => Ow.off_ne hj) ?_ (fun j hj => List.getElem?_set_ne (Ne.symm hj)) List.length_set (fun j b _ z => ?_) (fun j b z => ho.nb j b (Ow.off_some z).1) ho.bd
    · rw [Ow.off_at]
      exact ⟨rfl, v, List.getElem?_set_self hl, dv.mono fun a u n q => ⟨q, fun z => n (Zo.off a z)⟩⟩
    · rw [Ow.off_at] at z; cases z
  | true =>
    obtain ⟨r, rfl, n, ho, ow⟩ := rs
    have hl : i < σ.length := by rw [← ho.len]; exact hi
    let o' : Ow := fun j => if j = i then some r else o j
    have oi : o' i = some r := if_pos rfl
    have on : ∀ j, j ≠ i → o' j = o j := fun j h => if_neg h
    have os : ∀ j a, o' j = some a → (j = i ∧ a = r) ∨ (j ≠ i ∧ o j = some a) := fun j a z => by
      by_cases h : j = i
      · subst h
        rw [oi] at z
        exact .inl ⟨rfl, (Option.some.inj z).symm⟩
      · rw [on j h] at z
        exact .inr ⟨h, z⟩
    have nbr : ¬ B r := fun z => hB r z n
    have zz : ∀ a, Zo B o' a → Zo (fun a => B a ∨ a = r) o a := fun a z => by
      rcases z with z | ⟨j, z⟩
      · exact .inl (.inl z)
      · rcases os j a z with ⟨_, h⟩ | ⟨_, h⟩
        · exact .inl (.inr h)
        · exact .inr ⟨j, h⟩
    have st : Step H0 o0 H o' := ⟨s0.keep, s0.dom, fun j a z => by
      rcases os j a z with ⟨_, h⟩ | ⟨_, h⟩
      · rw [h]; exact .inr n
      · exact .inl (s0.own j a h)⟩
    refine q _ H o' st (fun z => by cases z) (Pn.set e (by rw [hp]; rfl)) (kp_set e hp) sm ?_
    refine ho.chg hi (fun b u n q => ⟨q, fun z => n (zz b z)⟩) (fun _ _ _ _ => rfl) on ⟨r, oi, List.getElem?_set_self hl, ow.mono (fun b u n q => ⟨q, fun z => n (zz b z)⟩) rfl⟩ (fun j hj => List.getElem?_set_ne (Ne.symm hj)) List.length_set (fun j b hj z w => ?_) (fun j b z w => ?_) (fun b w => ho.bd b (.inl w))
    · rw [oi] at z
      cases z
      exact ho.nb j _ w (.inr rfl)
    · rcases os j b z with ⟨_, h⟩ | ⟨_, h⟩
      · exact nbr (by rw [← h]; exact w)
      · exact ho.nb j b h (.inl w)
/-! an item is set -/
def rSet : V → V → V → Hp → (Hp → Prop) → Prop := fun o i v H Q => rSetL o i v H Q ∨ rSetD o i v H Q
theorem set_any (hu : X.A.units + 1 < cLine) : PSet X rSet := fun pins s σ H o i v ov iv u Q I r1 r2 r3 h => h.elim (fun h => set_list pins s σ H o i v ov iv u Q I r1 r2 r3 h) fun h => set_dict hu pins s σ H o i v ov iv u Q I r1 r2 r3 h
theorem any_zip {q : Key} : ∀ {ks : List Key} {vs : List V}, ks.length = vs.length → ((ks.zip vs).any fun kv => decide (kv.1 = q)) = ks.any fun k => decide (k = q)
  | [], [], _ => rfl
  | [], _ :: _, h => by simp at h
  | _ :: _, [], h => by simp at h
  | k :: ks, v :: vs, h => by
    rw [List.zip_cons_cons, List.any_cons, List.any_cons, any_zip (by simpa using h)]
theorem map_zip {q : Key} {w : V} : ∀ {ks : List Key} {vs : List V}, ks.length = vs.length → ((ks.zip vs).map fun kv => if kv.1 = q then (kv.1, w) else kv) = ks.zip (List.zipWith (fun k v => if k = q then w else v) ks vs)
  | [], [], _ => rfl
  | [], _ :: _, h => by simp at h
  | _ :: _, [], h => by simp at h
  | k :: ks, v :: vs, h => by
    rw [List.zip_cons_cons, List.map_cons, map_zip (by simpa using h), List.zipWith_cons_cons, List.zip_cons_cons]
    by_cases e : k = q
    · rw [if_pos e, if_pos e]
    · rw [if_neg e, if_neg e]
theorem den_zw {C : Kw} {Z : Addr → Prop} {H : Hp} {w : V} {d : D} {q : Key} (hw : Den C Z H w d) : ∀ {ks : List Key} {vs : List V} {ds : List D}, DenAll C Z H vs ds → DenAll C Z H (List.zipWith (fun k v => if k = q then w else v) ks vs) (List.zipWith (fun k v => if k = q then d else v) ks ds)
  | [], _, _, _ => by simp only [List.zipWith_nil_left]; exact .nil
  | _ :: _, _, _, .nil => by simp only [List.zipWith_nil_right]; exact .nil
  | k :: ks, _, _, .cons h t => by
    rw [List.zipWith_cons_cons, List.zipWith_cons_cons]
    refine .cons ?_ (den_zw hw t)
    by_cases e : k = q
    · rw [if_pos e, if_pos e]; exact hw
    · rw [if_neg e, if_neg e]; exact h
theorem dput_ok {ks : List Key} {vs : List V} {ds : List D} {k : Key} {C : Kw} {Z : Addr → Prop} {H : Hp} {v : V} {d : D} (hl : ks.length = vs.length) (h : DenAll C Z H vs ds) (hv : Den C Z H v d) :
    ∃ ws, putK (ks.zip vs) k v = (dput ks ds k d).1.zip ws ∧ (dput ks ds k d).1.length = ws.length ∧ DenAll C Z H ws (dput ks ds k d).2 := by
  unfold putK dput
  rw [any_zip hl]
  split
  · exact ⟨_, map_zip hl, by simp [List.length_zipWith, hl], den_zw hv h⟩
  · refine ⟨vs ++ [v], ?_, by simp [hl], h.append (.cons hv .nil)⟩
    rw [List.zip_append hl]
    rfl
/-- x[k] = d, the object of x -/
theorem setAt_ok {B : Addr → Prop} {o : Ow} {ρ ρ' : Rho} {σ : L2.St} {H : Hp} {x : Nat} {kd d : D} {kv v : V} {Q : Hp → Prop} (ho : Ho (kw X cn) B o ρ σ H) (h : setAt ρ x kd d = some ρ') (hk : Den (kw X cn) (Zo B o) H kv kd) (hv : Den (kw X cn) (Zo B o) H v d) :
    ∃ a, o x = some a ∧ σ[x]? = some (some (.ref a)) ∧ ((∀ H', StepE H o H' o → Pn ρ ρ' → Ho (kw X cn) B o ρ' σ H' → Q H') → rSet (.ref a) kv v H Q) := by
  unfold setAt at h
  split at h
  · rename_i p xs n e
    obtain ⟨j, e1, e2⟩ := Option.map_eq_some_iff.mp h
    subst e2
    obtain ⟨a, z1, z2, vs, z3, z4⟩ := ho.sl x _ e
    refine ⟨a, z1, z2, fun q => .inl ⟨a, vs, n, j, rfl, by cases hk; rfl, z3, by rw [z4.length]; exact e1, ?_⟩⟩
    have := ho.change e z1 upd_off (d' := .lst (xs.set j d)) (H' := upd H a (.lst (vs.set j v))) ⟨_, upd_same, (z4.set j hv).mono (kp_own z1)⟩
    exact q _ this.2 (Pn.set e rfl) this.1
  · rename_i p ks ds e
    split at h
    · rename_i hl
      obtain ⟨q0, e1, e2⟩ := Option.map_eq_some_iff.mp h
      subst e2
      obtain ⟨a, z1, z2, vs, z3, z4, z5⟩ := ho.sl x _ e
      refine ⟨a, z1, z2, fun q => .inr ⟨a, upd H a (.dK (putK (ks.zip vs) q0 v)), rfl, ?_, ?_⟩⟩
      · have ek : kv = kV q0 := Den.key (.inl hk) e1
        rw [ek]
        exact DPut.k z3 (most_lt (by rw [List.length_zip]; exact Nat.lt_of_le_of_lt (Nat.min_le_left _ _) hl))
      · obtain ⟨ws, w1, w2, w3⟩ := dput_ok (k := q0) z4 z5 hv
        rw [w1]
        have := ho.change e z1 upd_off (d' := .dk (dput ks ds q0 d).1 (dput ks ds q0 d).2) (H' := upd H a (.dK ((dput ks ds q0 d).1.zip ws))) ⟨_, upd_same, w2, w3.mono (kp_own z1)⟩
        exact q _ this.2 (Pn.set e rfl) this.1
    · cases h
  · cases h
theorem tg_ix {i : Nat} {kd : D} (hf : kd.flat = true) : ∀ v σ H R, tGb (kw X cn) [] (fun ρ d f => Tg1.bind ρ d f (.ix i kd)) v σ H R → gSub (tVar i) (tC (vOf kd)) rSet v σ H R := by
  rintro v σ H R ⟨B, o, ρ, d, fr, ρ', H0, o0, s0, hB, rs, hb, q⟩
  obtain ⟨ho, dv⟩ := rs.shared hB
  have dk : Den (kw X cn) (Zo B o) H (vOf kd) kd := by
    cases kd <;> first | exact .non | exact .bl _ | exact .int _ | exact .str _ | (simp [D.flat] at hf)
  obtain ⟨a, e1, e2, e3⟩ := setAt_ok (Q := fun H3 => R σ H3) ho hb dk dv
  exact ⟨_, e2, e3 fun H' s pn h => q σ H' o (s0.trans s).step (fun _ => s) pn .refl .refl h⟩
/-! several targets -/
/-- the targets one after another, each takes a value -/
def tGs (C : Kw) (own : List Nat) (x : Rho → List D → Option Rho) : TGs := fun vs σ H R => ∃ B o ρ ds ρ', Ho C B o ρ σ H ∧ DenAll C (Zo B o) H vs ds ∧ x ρ ds = some ρ' ∧
  ∀ σ' H' o', StepE H o H' o' → Pn ρ ρ' → Kp ρ σ σ' → Same σ σ' own → Ho C B o' ρ' σ' H' → R σ' H'
def gOf (x : Tg1) : TG := match x with
  | .nm i => gName i
  | .ix i kd => gSub (tVar i) (tC (vOf kd)) rSet
def Tg1.okd : Tg1 → Bool
  | .nm _ => true
  | .ix _ kd => kd.flat
theorem tg_of {t : Tg1} (h : t.okd = true) : ∀ v σ H R, tGb (kw X cn) t.own (fun ρ d f => t.bind ρ d f) v σ H R → gOf t v σ H R := by
  cases t with
  | nm i => exact tg_nm
  | ix i kd => exact tg_ix h
def gsOf : List Tg1 → TGs
  | [] => gNil
  | t :: ts => gCons (gOf t) (gsOf ts)
theorem tgs_of : ∀ {ts : List Tg1}, (∀ t ∈ ts, t.okd = true) → ∀ vs σ H R, tGs (kw X cn) (ts.map Tg1.own).flatten (fun ρ ds => puts ρ ts (ds.map fun x => (x, false))) vs σ H R → gsOf ts vs σ H R
  | [], _, vs, σ, H, R, ⟨B, o, ρ, ds, ρ', ho, hd, hp, q⟩ => by
    cases ds with
    | nil =>
      cases hd
      simp only [List.map_nil, puts] at hp
      cases hp
      exact ⟨rfl, q σ H o .refl .refl .refl .refl ho⟩
    | cons d ds => simp [puts] at hp
  | t :: ts, ht, vs, σ, H, R, ⟨B, o, ρ, ds, ρ', ho, hd, hp, q⟩ => by
    cases hd with
    | nil => simp [puts] at hp
    | @cons v vs' d ds' h1 h2 =>
      simp only [List.map_cons, puts] at hp
      obtain ⟨ρ1, e1, e2⟩ := bind_some hp
      refine ⟨v, vs', rfl, tg_of (ht t List.mem_cons_self) v σ H _ ⟨B, o, ρ, d, false, ρ1, H, o, .refl, ho.bd, ⟨ho, h1⟩, e1, fun σ1 H1 o1 st se pn kp sm ho1 => ?_⟩⟩
      have se := se rfl
      refine tgs_of (fun t' h => ht t' (List.mem_cons_of_mem _ h)) vs' σ1 H1 R ⟨B, o1, ρ1, ds', ρ', ho1, h2.step se.step, e2, fun σ' H' o' s' pn' kp' sm' ho' => ?_⟩
      refine q σ' H' o' (se.trans s') (pn.trans pn') (kp.trans pn kp') (sm.trans sm' (fun j h => ?_) fun j h => ?_) ho'
      · simp only [List.map_cons, List.flatten_cons, List.mem_append]; exact .inl h
      · simp only [List.map_cons, List.flatten_cons, List.mem_append]; exact .inr h
/-- a tuple's or a list's members, to several targets -/
def gMany (K : PySem.W.Frag) (n : Nat) (t : TGs) : TG := fun v σ H Q => gTup K n t v σ H Q ∨ gUnl K n t v σ H Q
theorem tg_tp {ts : List Tg1} (ht : ∀ t ∈ ts, t.okd = true) : ∀ v σ H R, tGb (kw X cn) (Tg.tp ts).own (fun ρ d f => (Tg.tp ts).bind ρ d f) v σ H R → gMany X.K ts.length (gsOf ts) v σ H R := by
  rintro v σ H R ⟨B, o, ρ, d, fr, ρ', H0, o0, s0, hB, rs, hb, q⟩
  obtain ⟨ho, dv⟩ := rs.shared hB
  have hl : ∀ {ts : List Tg1} {ds : List D} {ρ ρ' : Rho}, puts ρ ts (ds.map fun x => (x, false)) = some ρ' → ds.length = ts.length := fun {ts} => by
    induction ts with
    | nil =>
      intro ds ρ ρ' h
      cases ds with
      | nil => rfl
      | cons d ds => simp [puts] at h
    | cons t ts ih =>
      intro ds ρ ρ' h
      cases ds with
      | nil => simp [puts] at h
      | cons d ds =>
        simp only [List.map_cons, puts] at h
        obtain ⟨ρ1, _, e2⟩ := bind_some h
        rw [List.length_cons, List.length_cons, ih e2]
  simp only [Tg.bind] at hb
  split at hb
  · rename_i ds
    obtain ⟨a, vs, rfl, ha, hv⟩ := dv.sqt
    refine .inl ⟨a, vs, rfl, ha, by rw [hv.length, hl hb], tgs_of ht vs σ H R ⟨B, o, ρ, ds, ρ', ho, hv, hb, fun σ' H' o' s pn kp sm h' => ?_⟩⟩
    exact q σ' H' o' (s0.trans s).step (fun _ => s) pn kp sm h'
  · rename_i ds
    obtain ⟨a, vs, rfl, ha, hv⟩ := (show DenT (kw X cn) (Zo B o) H v (.lst ds) from .inl dv).lst
    refine .inr ⟨a, vs, rfl, SqL.of ha, by rw [hv.length, hl hb], tgs_of ht vs σ H R ⟨B, o, ρ, ds, ρ', ho, hv, hb, fun σ' H' o' s pn kp sm h' => ?_⟩⟩
    exact q σ' H' o' (s0.trans s).step (fun _ => s) pn kp sm h'
  · cases hb
/-- whatever the target -/
def gTg (K : PySem.W.Frag) : Tg → TG
  | .one t => gOf t
  | .tp ts => gMany K ts.length (gsOf ts)
def Tg.okd : Tg → Bool
  | .one t => t.okd
  | .tp ts => ts.all Tg1.okd
theorem tg_any {tg : Tg} (h : tg.okd = true) : ∀ v σ H R, tGb (kw X cn) tg.own (fun ρ d f => tg.bind ρ d f) v σ H R → gTg X.K tg v σ H R := by
  cases tg with
  | one t => exact tg_of h
  | tp ts => exact tg_tp (List.all_eq_true.mp h)
end
end BK

set_option Elab.async false
set_option linter.all false
set_option maxRecDepth 100000
set_option maxHeartbeats 2000000
/-! BK10: what is walked. -/
namespace BK
open PySem PySem.Spec PyProof.Rows L2
section
variable {X : Cx} {cn : Nat → Addr} {P : Pr} {cf : Call} {e a b c ob tg : Expr} {es : List Expr} {x y z : E} {xs : Es} {pos p apos : Pos} {k : Nat} {m : Str} {te : TE} {t : TA}
theorem _root_.L2.PI.imp {X : Cx} {tg e : Expr} {t t' : TI} (h : PI X tg e t) (i : ∀ σ H R, t' σ H R → t σ H R) : PI X tg e t' := ⟨fun pins s σ H R I w => h.run pins s σ H R I (i σ H R w)⟩
/-- a walk over these values, as long as G holds -/
structure Wk (J : It) (G : Hp → Prop) (vs : List V) : Prop where
  go : ∀ i H, G H → i < vs.length → J.go i H
  yld : ∀ i H x H', G H → i < vs.length → J.yld i H x H' → H' = H ∧ vs[i]? = some x
  stop : ∀ i H, G H → vs.length ≤ i → J.stop i H
/-- a dict that is walked is locked: nothing may change it from now on -/
def tLock (te : TE) : TE := fun σ H Q => te σ H fun x H1 => Q x H1 ∨ ∃ d kvs, x = .ref d ∧ H1 d = some (.dK kvs) ∧ ∀ od, Q x (upd H1 d (.frz od (.dK kvs)))
theorem pe_lock (h : PE X e te) : PE X e (tLock te) := by
  refine ⟨fun pins s σ H Q I w => thn (h.run pins s σ H _ I w) ?_⟩
  rintro u s1 ⟨v, H1, I1, r, q⟩
  rcases q with q | ⟨d, kvs, rfl, hd, q⟩
  · exact ⟨v, H1, I1, r, q⟩
  · obtain ⟨od, I2⟩ := I1.lock hd (by first | exact True.intro | trivial | simp [Mut])
    exact ⟨_, _, I2, r, q od⟩
/-- the keys of a written dict -/
def Itkd (ks : List Str) : It := ⟨fun i _ => i < ks.length, fun i H x H' => H' = H ∧ ∃ k, ks[i]? = some k ∧ x = .str k, fun i _ => ks.length ≤ i⟩
theorem turn_kd {P : Program} {w : World} {K : PySem.W.Frag} {tg : Expr} {d : Addr} {es : Array DictEntry} {n : Nat} {ks : List Str} (D : L2.KDict K w d es n) (hl : ks.length = es.toList.length)
    (hk : ∀ (i : Nat) e k, es.toList[i]? = some e → ks[i]? = some k → e.key.isStr k = true) (it : Addr) : Turn P w K tg (Itkd ks) [it] it (fun i h => h.IsKeyIter it d i ks.length n) where
  mem := by simp
  obj := fun i h st b hb => by
    have e : b = it := by simpa using hb
    subst e
    obtain ⟨oi, e, c, dd⟩ := st
    exact ⟨oi, e, fun v z => by rw [dd] at z; cases z⟩
  keep := fun i h h' st k => st.at fun oi e => k it (by simp) oi e
  item := by
    intro X hP hw hK hc i pins s σ H E I hf st hg
    subst hP hw hK
    have hi : i < ks.length := hg
    obtain ⟨f0, f1, f2, f3, f4, f5⟩ := hf it (by simp)
    have hi2 : i < es.toList.length := by rw [← hl]; exact hi
    have hen : es[i]? = some (es.toList[i]) := by rw [← Array.getElem?_toList]; exact List.getElem?_eq_getElem hi2
    refine next_key_item st (I.kIn d _ D.at_) rfl (by rw [hl]; rfl) hen fun h' st' sb => ?_
    have I1 : Inv X pins σ H { s with heap := h' } := I.turned (t' := s.toks) (fun b ob hb e => (sb.2 b hb).trans e) f0 f1 f3 f4 f5
    obtain ⟨oi, e, c, dd⟩ := id st'
    have hkk := hk i (es.toList[i]) (ks[i]) (List.getElem?_eq_getElem hi2) (List.getElem?_eq_getElem hi)
    obtain ⟨x, t, ek, _⟩ := PySem.W.KeysLit.all D.lit (es.toList[i]) (List.getElem_mem hi2)
    rw [ek] at hkk
    have ex : x = ks[i] := by simpa [Value.isStr] using hkk
    exact ⟨_, rfl, go_of (s := { s with heap := h' }) e c dd (by decide) ⟨.str (ks[i]), H, I1, ⟨t, by rw [ek, ex]⟩, ⟨rfl, ks[i], List.getElem?_eq_getElem hi, rfl⟩, st', fun b hb => (hf b hb).1⟩⟩
  done := by
    intro X hP hw hK hc i pins s σ H E I hf st hg
    subst hP hw hK
    obtain ⟨f0, f1, f2, f3, f4, f5⟩ := hf it (by simp)
    exact next_key_end (I.ok.hd hc) st (I.kIn d _ D.at_) rfl (by rw [hl]; rfl) hg fun h' eb => ⟨rfl, I.turned (t' := s.toks) (fun b ob hb e => eb b ob hb e) f0 f1 f3 f4 f5⟩
  self := fun A i s Q E st h => wpAny_pyIter_keyiter st h
/-- a list, a tuple, the keys of a locked dict, of a written dict -/
def iAny (X : Cx) (te : TE) : TI := fun σ H R => te σ H fun x H1 => ∃ a, x = .ref a ∧ ((∃ xs, SqL X.K H1 a xs ∧ R (Itl X.K a) H1) ∨ (∃ xs, SqT X.K H1 a xs ∧ R (Itt X.K a) H1) ∨ (∃ o kvs, H1 a = some (.frz o (.dK kvs)) ∧ R (Itk a o kvs) H1) ∨
  (∃ ks es n, L2.KDict X.K X.w a es n ∧ ks.length = es.toList.length ∧ (∀ (i : Nat) e k, es.toList[i]? = some e → ks[i]? = some k → e.key.isStr k = true) ∧ R (Itkd ks) H1) ∨
  ∃ C dx fs t xs n, ItOk X.prog X.w X.K X.mg X.base C n ∧ H1 a = some (.ins C dx fs) ∧ L2.Cls X.K C ∧ NoAttr X.K C n ∧ fs.lookup n = some (.ref t) ∧ SqT X.K H1 t xs ∧ R (Itt X.K t) H1)
theorem pi_any (hr : Room 1 X.A) (hgu : X.A.guards = some []) (h : PE X e te) : PI X tg e (iAny X te) := by
  refine ⟨fun pins s σ H R I w => thn (h.run pins s σ H _ I w) ?_⟩
  rintro u s1 ⟨v, H1, I1, r, a, rfl, q⟩
  cases r
  rcases q with ⟨xs, hx, q⟩ | ⟨xs, hx, q⟩ | ⟨o, kvs, hd, q⟩ | ⟨ks, es, n, D, hl, hk, q⟩ | ⟨C, dx, fs, t, xs, n, ok, ha, hcl, hn, hl, ht, q⟩
  · obtain ⟨its, rv, pl, hz⟩ := I1.list hx
    exact wpAny_pyIter_list (PlainL.isList pl) (pi_one I1 _ (turn_list a _) ⟨_, Heap.get?_push_size s1.heap rfl, rfl, rfl⟩ q)
  · obtain ⟨its, rv, pl, hz⟩ := I1.tuple hx
    exact wpAny_pyIter_tuple pl (pi_one I1 _ (turn_tuple a _) ⟨_, Heap.get?_push_size s1.heap rfl, rfl, rfl⟩ q)
  · obtain ⟨hs, hgd, hxd, es, ep, vs, hdt, hsz, kv, hm⟩ := Inv.frzK I1 hd
    exact iter_keys hs hgd hxd hdt (pi_one I1 _ (turn_keys _ hdt) ⟨_, Heap.get?_push_size s1.heap rfl, rfl, by rw [hsz]; rfl⟩ q)
  · refine iter_keys D.low (I1.kIn a _ D.at_) ⟨rfl, rfl, rfl⟩ rfl (pi_one I1 _ (turn_kd D hl hk _) ⟨_, Heap.get?_push_size s1.heap rfl, rfl, by rw [hl]; rfl⟩ q)
  · exact own_iter ok hr hgu I1 ha hcl hn hl ht q
/-- .. a text too -/
def iAll (X : Cx) (te : TE) : TI := fun σ H R => te σ H fun x H1 => (∃ z, x = .str z ∧ R (Its z) H1) ∨ (∃ a, x = .ref a ∧ ((∃ xs, SqL X.K H1 a xs ∧ R (Itl X.K a) H1) ∨ (∃ xs, SqT X.K H1 a xs ∧ R (Itt X.K a) H1) ∨ (∃ o kvs, H1 a = some (.frz o (.dK kvs)) ∧ R (Itk a o kvs) H1) ∨
  (∃ ks es n, L2.KDict X.K X.w a es n ∧ ks.length = es.toList.length ∧ (∀ (i : Nat) e k, es.toList[i]? = some e → ks[i]? = some k → e.key.isStr k = true) ∧ R (Itkd ks) H1) ∨
  ∃ C dx fs t xs n, ItOk X.prog X.w X.K X.mg X.base C n ∧ H1 a = some (.ins C dx fs) ∧ L2.Cls X.K C ∧ NoAttr X.K C n ∧ fs.lookup n = some (.ref t) ∧ SqT X.K H1 t xs ∧ R (Itt X.K t) H1))
theorem pi_all (hr : Room 1 X.A) (hgu : X.A.guards = some []) (h : PE X e te) : PI X tg e (iAll X te) := by
  refine ⟨fun pins s σ H R I w => thn (h.run pins s σ H _ I w) ?_⟩
  rintro u s1 ⟨v, H1, I1, r, q0⟩
  rcases q0 with ⟨x, rfl, q⟩ | ⟨a, rfl, q⟩
  · obtain ⟨t, rfl⟩ := r
    cases ha : x.cps.all (· < 128)
    · exact wpAny_pyIter_wide ha (pi_one (tk := s1.toks) I1 _ (turn_str _ x t "str_iterator" (.inr rfl)) ⟨_, Heap.get?_push_size _ rfl, rfl, rfl⟩ q)
    · exact wpAny_pyIter_ascii ha (pi_one (tk := s1.toks) I1 _ (turn_str _ x t "str_ascii_iterator" (.inl rfl)) ⟨_, Heap.get?_push_size _ rfl, rfl, rfl⟩ q)
  cases r
  rcases q with ⟨xs, hx, q⟩ | ⟨xs, hx, q⟩ | ⟨o, kvs, hd, q⟩ | ⟨ks, es, n, D, hl, hk, q⟩ | ⟨C, dx, fs, t, xs, n, ok, ha, hcl, hn, hl, ht, q⟩
  · obtain ⟨its, rv, pl, hz⟩ := I1.list hx
    exact wpAny_pyIter_list (PlainL.isList pl) (pi_one I1 _ (turn_list a _) ⟨_, Heap.get?_push_size s1.heap rfl, rfl, rfl⟩ q)
  · obtain ⟨its, rv, pl, hz⟩ := I1.tuple hx
    exact wpAny_pyIter_tuple pl (pi_one I1 _ (turn_tuple a _) ⟨_, Heap.get?_push_size s1.heap rfl, rfl, rfl⟩ q)
  · obtain ⟨hs, hgd, hxd, es, ep, vs, hdt, hsz, kv, hm⟩ := Inv.frzK I1 hd
    exact iter_keys hs hgd hxd hdt (pi_one I1 _ (turn_keys _ hdt) ⟨_, Heap.get?_push_size s1.heap rfl, rfl, by rw [hsz]; rfl⟩ q)
  · refine iter_keys D.low (I1.kIn a _ D.at_) ⟨rfl, rfl, rfl⟩ rfl (pi_one I1 _ (turn_kd D hl hk _) ⟨_, Heap.get?_push_size s1.heap rfl, rfl, by rw [hl]; rfl⟩ q)
  · exact own_iter ok hr hgu I1 ha hcl hn hl ht q
/-! the walks -/
theorem wk_str {z : Str} : Wk (Its z) (fun _ => True) (z.cps.toList.map fun c => V.str ⟨#[c]⟩) := by
  refine ⟨fun i H g h => ?_, fun i H x H' g h y => ⟨y.1, ?_⟩, fun i H g h => ?_⟩
  · show i < z.cps.size
    simpa using h
  · obtain ⟨c, e1, e2⟩ := y.2
    rw [e2, List.getElem?_map, Array.getElem?_toList, e1]
    rfl
  · show z.cps.size ≤ i
    simpa using h
theorem wk_kd {ks : List Str} : Wk (Itkd ks) (fun _ => True) (ks.map V.str) := by
  refine ⟨fun i H g h => ?_, fun i H x H' g h y => ⟨y.1, ?_⟩, fun i H g h => ?_⟩
  · show i < ks.length
    simpa using h
  · obtain ⟨k, h1, h2⟩ := y.2
    rw [List.getElem?_map, h1, h2]
    rfl
  · show ks.length ≤ i
    simpa using h
theorem den_strs {C : Kw} {Z : Addr → Prop} {H : Hp} : ∀ {ks : List Str}, DenAll C Z H (ks.map V.str) (ks.map D.str)
  | [] => .nil
  | k :: ks => .cons (.str k) den_strs
theorem wk_list {K : PySem.W.Frag} {a : Addr} {vs : List V} : Wk (Itl K a) (fun H => SqL K H a vs) vs :=
  ⟨fun i H g h => ⟨vs, _, g, List.getElem?_eq_getElem h⟩, fun i H x H' g h y => ⟨y.1, y.2 vs g⟩, fun i H g h => ⟨vs, g, h⟩⟩
theorem wk_tup {K : PySem.W.Frag} {a : Addr} {vs : List V} : Wk (Itt K a) (fun H => SqT K H a vs) vs :=
  ⟨fun i H g h => ⟨vs, _, g, List.getElem?_eq_getElem h⟩, fun i H x H' g h y => ⟨y.1, y.2 vs g⟩, fun i H g h => ⟨vs, g, h⟩⟩
theorem wk_rng {lo : Int} {n : Nat} : Wk (Itr lo n) (fun _ => True) ((List.range n).map fun k => V.int (lo + (k : Nat))) := by
  refine ⟨fun i H g h => ?_, fun i H x H' g h y => ⟨y.1, ?_⟩, fun i H g h => ?_⟩
  · show i < n
    simpa using h
  · rw [y.2]
    simp at h
    simp [h]
  · show n ≤ i
    simpa using h
theorem wk_keys {d : Addr} {o : Obj} {kvs : List (Key × V)} : Wk (Itk d o kvs) (fun H => H d = some (.frz o (.dK kvs))) (kvs.map fun kv => kV kv.1) := by
  refine ⟨fun i H g h => ⟨g, by simpa using h⟩, fun i H x H' g h y => ⟨y.1, ?_⟩, fun i H g h => ⟨g, by simpa using h⟩⟩
  obtain ⟨k, v, h1, h2⟩ := y.2
  rw [List.getElem?_map, h1, h2]
  rfl
theorem wk_vals {d : Addr} {o : Obj} {kvs : List (Key × V)} : Wk (Itd d o kvs) (fun H => H d = some (.frz o (.dK kvs))) (kvs.map fun kv => kv.2) := by
  refine ⟨fun i H g h => ⟨g, by simpa using h⟩, fun i H x H' g h y => ⟨y.1, ?_⟩, fun i H g h => ⟨g, by simpa using h⟩⟩
  obtain ⟨k, h1⟩ := y.2
  rw [List.getElem?_map, h1]
  rfl
/-- what is walked comes to these members -/
def tI (C : Kw) (x : Rho → Option (List D × Rho)) : TI := fun σ H R => ∃ B o ρ r, Ho C B o ρ σ H ∧ x ρ = some r ∧
  ∀ J G vs H' o', StepE H o H' o' → Pn ρ r.2 → Ho C B o' r.2 σ H' → DenAll C (Zo B o') H' vs r.1 → Wk J G vs → (∀ H2, (∀ a h, ¬ Zo B o' a → H' a = some h → H2 a = some h) → G H2) → R J H'
theorem den_int {C : Kw} {Z : Addr → Prop} {H : Hp} {lo hi : Int} : DenAll C Z H ((List.range (hi - lo).toNat).map fun k => V.int (lo + (k : Nat))) (rngD lo hi) := by
  unfold rngD
  generalize List.range (hi - lo).toNat = l
  induction l with
  | nil => exact .nil
  | cons k l ih => exact .cons (.int _) ih
theorem px_rng1 (hg : Gl X "range") (hm : X.mg "range" = none) (ha : PE X a (tX (kw X cn) fun ρ => ev P cf ρ x)) (hs : starEach [a] X.env = [(false, eval a X.env)]) (hs2 : starEach [a] X.env = (false, eval a X.env) :: starEach [] X.env) :
    PI X tg (.Call (.Name "range" p) [a] [] pos) (tI (kw X cn) fun ρ => evI P cf ρ (.rng1 x)) := by
  refine (pi_range1 hg hm (tes_cons ha tes_nil hs2) hs).imp fun σ H R ⟨B, o, ρ, r, ho, he, q⟩ => ?_
  simp only [evI] at he
  obtain ⟨⟨d, f, ρ1⟩, e1, he⟩ := bind_some he
  split at he
  · rename_i n hn
    have hn : d = .int n := hn
    subst hn
    split at he
    · rename_i hl
      rw [Bool.and_eq_true, decide_eq_true_eq, decide_eq_true_eq] at hl
      cases he
      refine ⟨B, o, ρ, ([.int n], ρ1), ho, by simp [evs, e1], fun vs H1 o1 s1 pn1 h1 d1 => ?_⟩
      cases d1 with
      | cons w t =>
        cases t
        cases w
        have h0 := hl.1
        have h1' := hl.2
        simp only [most] at h0 h1'
        refine ⟨n, rfl, by omega, by omega, ?_⟩
        refine q _ _ _ H1 o1 s1 pn1 h1 ?_ (wk_rng (lo := 0) (n := n.toNat)) fun _ _ => True.intro
        have := den_int (C := kw X cn) (Z := Zo B o1) (H := H1) (lo := 0) (hi := n)
        rw [Int.sub_zero] at this
        exact this
    · cases he
  · cases he
theorem px_rng2 (hg : Gl X "range") (hm : X.mg "range" = none) (ha : PE X a (tX (kw X cn) fun ρ => ev P cf ρ x)) (hb : PE X b (tX (kw X cn) fun ρ => ev P cf ρ y)) (hs : starEach [a, b] X.env = [(false, eval a X.env), (false, eval b X.env)]) (hs2 : starEach [b] X.env = [(false, eval b X.env)]) (hs3 : starEach [a, b] X.env = (false, eval a X.env) :: starEach [b] X.env) (hs4 : starEach [b] X.env = (false, eval b X.env) :: starEach [] X.env) :
    PI X tg (.Call (.Name "range" p) [a, b] [] pos) (tI (kw X cn) fun ρ => evI P cf ρ (.rng2 x y)) := by
  refine (pi_range2 hg hm (tes_cons ha (tes_cons hb tes_nil hs4) hs3) hs hs2).imp fun σ H R ⟨B, o, ρ, r, ho, he, q⟩ => ?_
  simp only [evI] at he
  obtain ⟨⟨d, f, ρ1⟩, e1, he⟩ := bind_some he
  obtain ⟨⟨d2, f2, ρ2⟩, e2, he⟩ := bind_some he
  split at he
  · rename_i n1 n2 hn hm
    have hn : d = .int n1 := hn
    have hm : d2 = .int n2 := hm
    subst hn hm
    split at he
    · rename_i hl
      simp only [Bool.and_eq_true, decide_eq_true_eq] at hl
      cases he
      refine ⟨B, o, ρ, ([.int n1, .int n2], ρ2), ho, by simp [evs, e1, e2], fun vs H1 o1 s1 pn1 h1 d1 => ?_⟩
      cases d1 with
      | cons w t =>
        cases w
        cases t with
        | cons w t =>
          cases w
          cases t
          obtain ⟨⟨⟨l1, l2⟩, l3⟩, l4⟩ := hl
          simp only [most] at l1 l2 l3 l4
          refine ⟨n1, n2, rfl, ⟨by omega, by omega, by omega, by omega⟩, ?_⟩
          exact q _ _ _ H1 o1 s1 pn1 h1 den_int wk_rng fun _ _ => True.intro
    · cases he
  · cases he
/-- the keys, the members of a dict -/
theorem den_keys {C : Kw} {Z : Addr → Prop} {H : Hp} : ∀ {ks : List Key} {vs : List V}, ks.length = vs.length → DenAll C Z H ((ks.zip vs).map fun kv => kV kv.1) (ks.map keyD)
  | [], [], _ => .nil
  | [], _ :: _, h => by simp at h
  | _ :: _, [], h => by simp at h
  | k :: ks, v :: vs, h => by
    rw [List.zip_cons_cons, List.map_cons, List.map_cons]
    refine .cons ?_ (den_keys (by simpa using h))
    cases k with
    | inl i => exact .int i
    | inr s => exact .str s
theorem map_snd_zip' : ∀ {ks : List Key} {vs : List V}, ks.length = vs.length → ((ks.zip vs).map fun kv => kv.2) = vs
  | [], [], _ => rfl
  | [], _ :: _, h => by simp at h
  | _ :: _, [], h => by simp at h
  | k :: ks, v :: vs, h => by rw [List.zip_cons_cons, List.map_cons, map_snd_zip' (by simpa using h)]
/-- some dicts were locked -/
def Lk (Z Z' : Addr → Prop) (H H' : Hp) : Prop := ∀ a h, ¬ Z a → H a = some h → ¬ Z' a ∧ (H' a = some h ∨ ∃ kvs o, h = .dK kvs ∧ H' a = some (.frz o (.dK kvs)))
theorem Lk.at {Z Z' : Addr → Prop} {H H' : Hp} {a : Addr} {h : HO} (k : Lk Z Z' H H') (z : ¬ Z a) (e : H a = some h) (n : ∀ kvs, h ≠ .dK kvs) : ¬ Z' a ∧ H' a = some h := by
  obtain ⟨h1, h2 | ⟨kvs, o, h2, _⟩⟩ := k a h z e
  · exact ⟨h1, h2⟩
  · exact absurd h2 (n kvs)
mutual
theorem Den.lk {C : Kw} {Z Z' : Addr → Prop} {H H' : Hp} (k : Lk Z Z' H H') : ∀ {d : D} {v : V}, Den C Z H v d → Den C Z' H' v d
  | _, _, .non => .non
  | _, _, .bl b => .bl b
  | _, _, .int i => .int i
  | _, _, .str x => .str x
  | _, _, .lst z r h => .lst (k.at z r (fun _ => by intro y; cases y)).1 (k.at z r (fun _ => by intro y; cases y)).2 (DenAll.lk k h)
  | _, _, .rl z r h => .rl (k.at z r (fun _ => by intro y; cases y)).1 (k.at z r (fun _ => by intro y; cases y)).2 (DenAll.lk k h)
  | _, _, .rlK r h => .rlK r (DenAll.lk k h)
  | _, _, .tup z r h => .tup (k.at z r (fun _ => by intro y; cases y)).1 (k.at z r (fun _ => by intro y; cases y)).2 (DenAll.lk k h)
  | _, _, .tupK r h => .tupK r (DenAll.lk k h)
  | _, _, .dk z r e h => by
    rcases r with r | ⟨o, r⟩
    · obtain ⟨h1, h2 | ⟨kvs, o, h2, h3⟩⟩ := k _ _ z r
      · exact .dk h1 (.inl h2) e (DenAll.lk k h)
      · cases h2
        exact .dk h1 (.inr ⟨o, h3⟩) e (DenAll.lk k h)
    · exact .dk (k.at z r (fun _ => by intro y; cases y)).1 (.inr ⟨o, (k.at z r (fun _ => by intro y; cases y)).2⟩) e (DenAll.lk k h)
  | _, _, .ins z r e h => .ins (k.at z r (fun _ => by intro y; cases y)).1 (k.at z r (fun _ => by intro y; cases y)).2 e (DenAll.lk k h)
  | _, _, .kd r h => .kd r (DenAll.lk k h)
theorem DenAll.lk {C : Kw} {Z Z' : Addr → Prop} {H H' : Hp} (k : Lk Z Z' H H') : ∀ {ds : List D} {vs : List V}, DenAll C Z H vs ds → DenAll C Z' H' vs ds
  | _, _, .nil => .nil
  | _, _, .cons h t => .cons (Den.lk k h) (DenAll.lk k t)
end
/-- a dict that is new, or was a name's own, and is a value now, may be locked -/
theorem lock_ok {C : Kw} {B : Addr → Prop} {o o1 : Ow} {ρ1 : Rho} {σ : L2.St} {H H1 : Hp} {a : Addr} {od : Obj} {kvs : List (Key × V)} (s : StepE H o H1 o1) (h1 : Ho C B o1 ρ1 σ H1) (nz : ¬ Zo B o1 a) (ha : H1 a = some (.dK kvs))
    (hf : H a = none ∨ In o a) : StepE H o (upd H1 a (.frz od (.dK kvs))) o1 ∧ Ho C B o1 ρ1 σ (upd H1 a (.frz od (.dK kvs))) ∧ Lk (Zo B o1) (Zo B o1) H1 (upd H1 a (.frz od (.dK kvs))) := by
  have lk : Lk (Zo B o1) (Zo B o1) H1 (upd H1 a (.frz od (.dK kvs))) := fun b h z e => by
    refine ⟨z, ?_⟩
    by_cases eb : b = a
    · subst eb
      rw [ha] at e
      cases e
      exact .inr ⟨kvs, od, rfl, upd_same⟩
    · exact .inl (by rw [upd_ne eb]; exact e)
  have ne : ∀ b, Zo B o1 b → b ≠ a := fun b z y => nz (by rw [← y]; exact z)
  refine ⟨⟨fun b h n e => ?_, fun b n => ?_, s.own⟩, ⟨fun i t e => ?_, h1.out, h1.inj, h1.nb, fun b z => by rw [upd_ne (ne b (.inl z))]; exact h1.bd b z, h1.len⟩, lk⟩
  · have eb : b ≠ a := fun y => by
      subst y
      rcases hf with hf | hf
      · rw [hf] at e; cases e
      · exact n hf
    rw [upd_ne eb]
    exact s.keep b h n e
  · by_cases eb : b = a
    · rw [eb, upd_same]; intro y; cases y
    · rw [upd_ne eb]; exact s.dom b n
  · have q := h1.sl i t e
    cases t with
    | un => exact q
    | sh p d =>
      obtain ⟨q1, v, q2, q3⟩ := q
      exact ⟨q1, v, q2, q3.lk lk⟩
    | ow p d =>
      obtain ⟨b, q1, q2, q3⟩ := q
      have eb := ne b (.inr ⟨i, q1⟩)
      have kb : upd H1 a (.frz od (.dK kvs)) b = H1 b := upd_ne eb
      refine ⟨b, q1, q2, ?_⟩
      cases d <;> first
        | exact q3.elim
        | (obtain ⟨vs, w1, w2⟩ := q3; exact ⟨vs, kb.trans w1, w2.lk lk⟩)
        | (obtain ⟨vs, w1, w2, w3⟩ := q3; exact ⟨vs, kb.trans w1, w2, w3.lk lk⟩)
        | (obtain ⟨dx, vs, w1, w2, w3⟩ := q3; exact ⟨dx, vs, kb.trans w1, w2, w3.lk lk⟩)
/-- what is walked, evaluated: a dict is locked -/
def evF (P : Pr) (cf : Call) (x : E) (ρ : Rho) : Option (D × Rho) := (ev P cf ρ x).bind fun (d, fr, ρ1) => match d with
  | .dk _ _ => if still ρ x fr then some (d, ρ1) else none
  | _ => some (d, ρ1)
def tFz (C : Kw) (x : Rho → Option (D × Rho)) : TE := fun σ H Q => ∃ B o ρ r, Ho C B o ρ σ H ∧ x ρ = some r ∧
  ∀ v H' o', StepE H o H' o' → Pn ρ r.2 → Ho C B o' r.2 σ H' → Den C (Zo B o') H' v r.1 →
    (∀ ks ds, r.1 = .dk ks ds → ∃ a od vs, v = .ref a ∧ ¬ Zo B o' a ∧ H' a = some (.frz od (.dK (ks.zip vs))) ∧ ks.length = vs.length ∧ DenAll C (Zo B o') H' vs ds) → Q v H'
/-- .. from a value, known to be new or one's own -/
theorem fz_of {C : Kw} {B : Addr → Prop} {o o1 : Ow} {ρ ρ1 : Rho} {σ : L2.St} {H H1 : Hp} {v : V} {d : D} {Q : VK} (s : StepE H o H1 o1) (pn : Pn ρ ρ1) (h1 : Ho C B o1 ρ1 σ H1) (dv : Den C (Zo B o1) H1 v d)
    (hf : ∀ ks ds, d = .dk ks ds → ∀ a, v = .ref a → H a = none ∨ In o a)
    (q : ∀ v H' o', StepE H o H' o' → Pn ρ ρ1 → Ho C B o' ρ1 σ H' → Den C (Zo B o') H' v d →
      (∀ ks ds, d = .dk ks ds → ∃ a od vs, v = .ref a ∧ ¬ Zo B o' a ∧ H' a = some (.frz od (.dK (ks.zip vs))) ∧ ks.length = vs.length ∧ DenAll C (Zo B o') H' vs ds) → Q v H') :
    Q v H1 ∨ ∃ d kvs, v = .ref d ∧ H1 d = some (.dK kvs) ∧ ∀ od, Q v (upd H1 d (.frz od (.dK kvs))) := by
  by_cases hd : ∃ ks ds, d = .dk ks ds
  · obtain ⟨ks, ds, rfl⟩ := hd
    cases dv with
    | @dk a _ vs _ nz r l h =>
      rcases r with r | ⟨od, r⟩
      · refine .inr ⟨a, _, rfl, r, fun od => ?_⟩
        obtain ⟨w1, w2, w3⟩ := lock_ok (od := od) s h1 nz r (hf ks ds rfl a rfl)
        refine q _ _ o1 w1 pn w2 (.dk nz (.inr ⟨od, upd_same⟩) l (h.lk w3)) fun ks' ds' e => ?_
        cases e
        exact ⟨a, od, vs, rfl, nz, upd_same, l, h.lk w3⟩
      · refine .inl (q _ H1 o1 s pn h1 (.dk nz (.inr ⟨od, r⟩) l h) fun ks' ds' e => ?_)
        cases e
        exact ⟨a, od, vs, rfl, nz, r, l, h⟩
  · exact .inl (q v H1 o1 s pn h1 dv fun ks ds e => absurd ⟨ks, ds, e⟩ hd)
theorem pe_fz (h : PE X e (tX (kw X cn) fun ρ => ev P cf ρ x)) (hv : ∀ i, x = .var i → PE X e (tVar i)) : PE X e (tFz (kw X cn) (evF P cf x)) := by
  by_cases hx : ∃ i, x = .var i
  · obtain ⟨i, rfl⟩ := hx
    refine (pe_lock (hv i rfl)).imp fun σ H Q ⟨B, o, ρ, r, ho, he, q⟩ => ?_
    unfold evF at he
    simp only [ev] at he
    split at he
    · rename_i p d e1
      obtain ⟨e2, v, e3, e4⟩ := ho.sl i _ e1
      refine ⟨v, e3, ?_⟩
      simp only [Option.bind_some, still, Bool.false_or, e1] at he
      have he' : r = (d, ρ) ∧ ∀ ks ds, d ≠ .dk ks ds := by
        cases d <;> first
          | (simp at he; done)
          | (cases he; exact ⟨rfl, fun _ _ => by intro y; cases y⟩)
      obtain ⟨rfl, nd⟩ := he'
      exact fz_of .refl .refl ho e4 (fun ks ds e => absurd e (nd ks ds)) q
    · rename_i p d e1
      obtain ⟨a, e2, e3, h1, h2, h3⟩ := ho.release e1
      refine ⟨_, e3, ?_⟩
      have he' : r = (d, ρ.set i (.sh p d)) := by
        simp only [Option.bind_some, still, Bool.false_or, e1, if_true] at he
        cases d <;> (cases he; rfl)
      subst he'
      exact fz_of h3 (Pn.set (t := .sh p d) e1 rfl) h1 h2 (fun ks ds e b eb => by cases eb; exact .inr ⟨i, e2⟩) q
    · cases he
  · have hs : ∀ ρ fr, still ρ x fr = fr := fun ρ fr => by
      cases x <;> first
        | exact absurd ⟨_, rfl⟩ hx
        | (simp [still])
    refine (pe_lock h).imp fun σ H Q ⟨B, o, ρ, r, ho, he, q⟩ => ?_
    unfold evF at he
    obtain ⟨⟨d, fr, ρ1⟩, e1, he⟩ := bind_some he
    refine ⟨B, o, ρ, _, ho, e1, fun v H1 o1 s pn rs => ?_⟩
    obtain ⟨h1, dv⟩ := rs.shared ho.bd
    have hd : r = (d, ρ1) ∧ ∀ ks ds, d = .dk ks ds → fr = true := by
      simp only [hs] at he
      cases d <;> first
        | (cases he; exact ⟨rfl, fun _ _ => by intro y; cases y⟩)
        | (cases fr <;> simp at he; subst he; exact ⟨rfl, fun _ _ _ => rfl⟩)
    obtain ⟨rfl, hfr⟩ := hd
    refine fz_of s pn h1 dv (fun ks ds e a ea => ?_) q
    have := hfr ks ds e
    subst this
    obtain ⟨r, er, n, _⟩ := rs
    rw [ea] at er
    cases er
    exact .inl n
theorem fget_ok {C : Kw} {Z : Addr → Prop} {H : Hp} {n : Str} {d : BK.D} : ∀ {ns : List Str} {vs : List V} {ds : List BK.D}, ns.length = vs.length → DenAll C Z H vs ds → fget ns ds n = some d → ∃ v, (ns.zip vs).lookup n = some v ∧ Den C Z H v d
  | [], vs, ds, hl, hv, e => by simp [fget] at e
  | m :: ns, _, _, hl, .nil, e => by simp [fget] at e
  | m :: ns, _, _, hl, .cons w t, e => by
    simp only [fget] at e
    rw [List.zip_cons_cons, List.lookup_cons]
    split at e
    · rename_i hm
      cases e
      subst hm
      rw [beq_self_eq_true]
      exact ⟨_, rfl, w⟩
    · rename_i hm
      have : (n == m) = false := beq_eq_false_iff_ne.mpr (Ne.symm hm)
      rw [this]
      exact fget_ok (by simpa using hl) t e
/-- a list, a tuple, a dict's keys -/
theorem px_seq (hc : ∀ (c : Nat) kl, P.cls[c]? = some kl → CkOk X cn P cf k c kl) (hr : Room (k + 1) X.A) (hgu : X.A.guards = some []) (h : PE X e (tX (kw X cn) fun ρ => ev P cf ρ x)) (hv : ∀ i, x = .var i → PE X e (tVar i)) : PI X tg e (tI (kw X cn) fun ρ => evI P cf ρ (.seq x)) := by
  refine (pi_all (hr.mono (Nat.succ_le_succ (Nat.zero_le k))) hgu (pe_fz h hv)).imp fun σ H R ⟨B, o, ρ, r, ho, he, q⟩ => ?_
  simp only [evI] at he
  obtain ⟨⟨d, fr, ρ1⟩, e1, he⟩ := bind_some he
  have e2 : evF P cf x ρ = some (d, ρ1) := by
    unfold evF
    rw [e1]
    cases d <;> first
      | rfl
      | (simp only [Option.bind_some]
         simp only at he
         split at he
         · rename_i hs; rw [if_pos hs]
         · cases he)
  refine ⟨B, o, ρ, (d, ρ1), ho, e2, fun v H1 o1 s pn h1 dv hd => ?_⟩
  cases d <;> simp only at he <;> try (cases he; done)
  · rename_i z
    cases he
    cases dv
    exact .inl ⟨z, rfl, q _ _ _ H1 o1 s pn h1 den_signs wk_str fun _ _ => True.intro⟩
  · rename_i xs
    cases he
    obtain ⟨a, vs, rfl, ha, hv⟩ := (show DenT (kw X cn) (Zo B o1) H1 v (.lst xs) from .inl dv).lst
    refine .inr ⟨a, rfl, .inl ⟨vs, SqL.of ha, q _ _ vs H1 o1 s pn h1 hv wk_list fun H2 k => ?_⟩⟩
    cases dv with
    | lst nz r _ => exact SqL.of ((k a _ nz r).trans (by rw [← r, ha]))
  · rename_i xs
    cases he
    cases dv with
    | @tup a vs _ nz r hv => exact .inr ⟨a, rfl, .inr (.inl ⟨vs, SqT.of r, q _ _ vs H1 o1 s pn h1 hv wk_tup fun H2 k => SqT.of (k a _ nz r)⟩)⟩
    | @tupK a vs _ r hv => exact .inr ⟨a, rfl, .inr (.inl ⟨vs, r.sqt, q _ _ vs H1 o1 s pn h1 hv wk_tup fun H2 k => r.sqt⟩)⟩
  · rename_i ks ds
    split at he
    · cases he
      obtain ⟨a, od, vs, rfl, nz, r, l, hv⟩ := hd ks ds rfl
      exact .inr ⟨a, rfl, .inr (.inr (.inl ⟨od, _, r, q _ _ _ H1 o1 s pn h1 (den_keys l) wk_keys fun H2 k => k a _ nz r⟩))⟩
    · cases he
  · rename_i c ns ds
    split at he
    · rename_i xs hit
      cases he
      unfold itD at hit
      obtain ⟨n, e3, e4⟩ := bind_some hit
      obtain ⟨kl, e5, e6⟩ := bind_some e3
      have Kc := hc c kl e5
      obtain ⟨ok, hfs⟩ := Kc.it n e6
      obtain ⟨a, dx, vs, rfl, ha, hl, hv⟩ := (show DenT (kw X cn) (Zo B o1) H1 v (.ins c ns ds) from .inl dv).ins
      obtain ⟨w, w1, w2⟩ := fget_ok hl hv e4
      cases w2 with
      | @tup t us _ nz r hu => exact .inr ⟨a, rfl, .inr (.inr (.inr (.inr ⟨cn c, dx, _, t, us, n, ok, ha, Kc.cls, Kc.na n hfs, w1, SqT.of r, q _ _ us H1 o1 s pn h1 hu wk_tup fun H2 k => SqT.of (k t _ nz r)⟩)))⟩
      | @tupK t us _ r hu => exact .inr ⟨a, rfl, .inr (.inr (.inr (.inr ⟨cn c, dx, _, t, us, n, ok, ha, Kc.cls, Kc.na n hfs, w1, r.sqt, q _ _ us H1 o1 s pn h1 hu wk_tup fun H2 k => r.sqt⟩)))⟩
    · cases he
  · rename_i ks ds
    cases he
    obtain ⟨a, vs, rfl, K0, hv⟩ := (show DenT (kw X cn) (Zo B o1) H1 v (.kd ks ds) from .inl dv).kd
    obtain ⟨es, n, K, l1, l2, h3⟩ := K0.ex
    refine .inr ⟨a, rfl, .inr (.inr (.inr (.inl ⟨ks, es, n, K, l1, fun i e k a1 a2 => ?_, q _ _ _ H1 o1 s pn h1 den_strs wk_kd fun _ _ => True.intro⟩)))⟩
    have hi : i < vs.length := by
      rw [l2]
      exact (List.getElem?_eq_some_iff.mp a1).1
    exact (h3 i e k (vs[i]) a1 a2 (List.getElem?_eq_getElem hi)).1
theorem px_vals (h : PE X e (tX (kw X cn) fun ρ => ev P cf ρ x)) (hv : ∀ i, x = .var i → PE X e (tVar i))
    (hb : attributeBase e (Str.ofString "values") X.env (eval e X.env) = eval e X.env) (hl : (apos.endLine == pos.line) = true) : PI X tg (.Call (.Attribute e (Str.ofString "values") apos) [] [] pos) (tI (kw X cn) fun ρ => evI P cf ρ (.vals x)) := by
  refine (pi_values (pe_fz h hv) hb hl).imp fun σ H R ⟨B, o, ρ, r, ho, he, q⟩ => ?_
  simp only [evI] at he
  obtain ⟨⟨d, fr, ρ1⟩, e1, he⟩ := bind_some he
  cases d <;> simp only at he <;> try (cases he; done)
  rename_i ks ds
  split at he
  · rename_i hs
    cases he
    have e2 : evF P cf x ρ = some (.dk ks ds, ρ1) := by
      unfold evF
      rw [e1]
      simp only [Option.bind_some]
      rw [if_pos hs]
    refine ⟨B, o, ρ, (.dk ks ds, ρ1), ho, e2, fun v H1 o1 s pn h1 dv hd => ?_⟩
    obtain ⟨a, od, vs, rfl, nz, r, l, hv⟩ := hd ks ds rfl
    refine ⟨a, od, _, rfl, r, q _ _ vs H1 o1 s pn h1 hv ?_ fun H2 k => k a _ nz r⟩
    have := wk_vals (d := a) (o := od) (kvs := ks.zip vs)
    rw [map_snd_zip' l] at this
    exact this
  · cases he
end
end BK

set_option Elab.async false
set_option linter.all false
set_option maxRecDepth 100000
set_option maxHeartbeats 2000000
/-! BK11: comprehensions. -/
namespace BK
open PySem PySem.Spec PyProof.Rows L2

theorem wipeR_len {ρ : Rho} : ∀ {own : List Nat}, (wipeR ρ own).length = ρ.length
  | [] => rfl
  | i :: is => by simp only [wipeR, List.length_set]; exact wipeR_len
theorem wipeR_in {ρ : Rho} {j : Nat} (hj : j < ρ.length) : ∀ {own : List Nat}, j ∈ own → (wipeR ρ own)[j]? = some .un
  | i :: is, h => by
    simp only [wipeR]
    by_cases e : i = j
    · subst e
      exact List.getElem?_set_self (by rw [wipeR_len]; exact hj)
    · rw [List.getElem?_set_ne e]
      exact wipeR_in hj ((List.mem_cons.mp h).resolve_left (Ne.symm e))
theorem wipeR_out {ρ : Rho} {j : Nat} : ∀ {own : List Nat}, j ∉ own → (wipeR ρ own)[j]? = ρ[j]?
  | [], _ => rfl
  | i :: is, h => by
    simp only [wipeR]
    rw [List.getElem?_set_ne (fun e => h (by rw [e]; exact List.mem_cons_self))]
    exact wipeR_out fun z => h (List.mem_cons_of_mem _ z)
theorem unwipe_len {ρ0 ρ : Rho} : ∀ {own : List Nat}, (unwipe ρ0 ρ own).length = ρ.length
  | [] => rfl
  | i :: is => by simp only [unwipe, List.length_set]; exact unwipe_len
theorem unwipe_in {ρ0 ρ : Rho} {j : Nat} (hj : j < ρ.length) : ∀ {own : List Nat}, j ∈ own → (unwipe ρ0 ρ own)[j]? = some (ρ0.getD j .un)
  | i :: is, h => by
    simp only [unwipe]
    by_cases e : i = j
    · subst e
      exact List.getElem?_set_self (by rw [unwipe_len]; exact hj)
    · rw [List.getElem?_set_ne e]
      exact unwipe_in hj ((List.mem_cons.mp h).resolve_left (Ne.symm e))
theorem unwipe_out {ρ0 ρ : Rho} {j : Nat} : ∀ {own : List Nat}, j ∉ own → (unwipe ρ0 ρ own)[j]? = ρ[j]?
  | [], _ => rfl
  | i :: is, h => by
    simp only [unwipe]
    rw [List.getElem?_set_ne (fun e => h (by rw [e]; exact List.mem_cons_self))]
    exact unwipe_out fun z => h (List.mem_cons_of_mem _ z)
theorem wipe_len {σ : L2.St} : ∀ {own : List Nat}, (wipe σ own).length = σ.length
  | [] => rfl
  | i :: is => by
    show ((wipe σ is).set i none).length = _
    rw [List.length_set]; exact wipe_len
theorem wipe_out {σ : L2.St} {j : Nat} : ∀ {own : List Nat}, j ∉ own → (wipe σ own)[j]? = σ[j]?
  | [], _ => rfl
  | i :: is, h => by
    show ((wipe σ is).set i none)[j]? = _
    rw [List.getElem?_set_ne (fun e => h (by rw [e]; exact List.mem_cons_self))]
    exact wipe_out fun z => h (List.mem_cons_of_mem _ z)
theorem wipe_in {σ : L2.St} {j : Nat} (hj : j < σ.length) : ∀ {own : List Nat}, j ∈ own → (wipe σ own)[j]? = some none
  | i :: is, h => by
    show ((wipe σ is).set i none)[j]? = _
    by_cases e : i = j
    · subst e
      exact List.getElem?_set_self (by rw [wipe_len]; exact hj)
    · rw [List.getElem?_set_ne e]
      exact wipe_in hj ((List.mem_cons.mp h).resolve_left (Ne.symm e))
theorem Same.symm {σ σ' : L2.St} {own : List Nat} (h : Same σ σ' own) : Same σ' σ own := ⟨h.1.symm, fun j n => (h.2 j n).symm⟩
theorem wipe_eq {σ σ' : L2.St} {own : List Nat} (sm : Same σ σ' own) : wipe σ' own = wipe σ own := by
  refine List.ext_getElem? fun j => ?_
  by_cases h : j ∈ own
  · by_cases hj : j < σ.length
    · rw [wipe_in hj h, wipe_in (by rw [sm.1]; exact hj) h]
    · rw [List.getElem?_eq_none (by rw [wipe_len, sm.1]; omega), List.getElem?_eq_none (by rw [wipe_len]; omega)]
  · rw [wipe_out h, wipe_out h, sm.2 j h]
theorem wipe_same {σ : L2.St} {own : List Nat} : Same σ (wipe σ own) own := ⟨wipe_len, fun j n => wipe_out n⟩
def offs (o : Ow) (own : List Nat) : Ow := fun j => if j ∈ own then none else o j
theorem offs_some {o : Ow} {own : List Nat} {j : Nat} {a : Addr} (h : offs o own j = some a) : o j = some a ∧ j ∉ own := by
  unfold offs at h
  split at h
  · cases h
  · rename_i n; exact ⟨h, n⟩
theorem offs_in {o : Ow} {own : List Nat} {j : Nat} (h : j ∈ own) : offs o own j = none := if_pos h
theorem offs_out {o : Ow} {own : List Nat} {j : Nat} (h : j ∉ own) : offs o own j = o j := if_neg h
section
variable {C : Kw} {B : Addr → Prop} {o o' : Ow} {ρ ρ1 ρ5 : Rho} {σ σ' : L2.St} {H H' : Hp} {own : List Nat}
theorem Ho.wipe (h : Ho C B o ρ σ H) (sm : Same σ σ' own) : Ho C B (offs o own) (wipeR ρ own) σ' H ∧ StepE H o H (offs o own) := by
  have zs : ∀ a, Zo B (offs o own) a → Zo B o a := fun a z => z.imp id fun ⟨j, e⟩ => ⟨j, (offs_some e).1⟩
  refine ⟨⟨fun i s e => ?_, fun i e => ?_, fun i j a e1 e2 => h.inj i j a (offs_some e1).1 (offs_some e2).1, fun i a e => h.nb i a (offs_some e).1, h.bd, by rw [wipeR_len, sm.1]; exact h.len⟩, ⟨fun _ _ _ e => e, fun _ e => e, fun i a e => (offs_some e).1⟩⟩
  · by_cases hi : i ∈ own
    · have hl : i < ρ.length := by
        have := (List.getElem?_eq_some_iff.mp e).1
        rwa [wipeR_len] at this
      rw [wipeR_in hl hi] at e
      cases e
      exact offs_in hi
    · rw [wipeR_out hi] at e
      rw [offs_out hi, sm.2 i hi]
      exact (h.sl i s e).mono (fun a u n q => ⟨q, fun z => n (zs a z)⟩) fun _ _ => rfl
  · by_cases hi : i ∈ own
    · exact offs_in hi
    · rw [wipeR_out hi] at e
      rw [offs_out hi]
      exact h.out i e
theorem loose_at (h : loose ρ own = true) {i : Nat} (hi : i ∈ own) : (∃ d, ρ[i]? = some (.sh false d)) ∨ ρ[i]? = some .un := by
  have := List.all_eq_true.mp h i hi
  split at this
  · rename_i d e; exact .inl ⟨d, e⟩
  · rename_i e; exact .inr e
  · cases this
theorem loose_pn (h : loose ρ own = true) (pn : Pn ρ ρ1) : Pn ρ (wipeR ρ1 own) := by
  refine ⟨by rw [wipeR_len]; exact pn.len, fun k => ?_⟩
  by_cases hk : k ∈ own
  · rcases loose_at h hk with ⟨d, e⟩ | e
    all_goals
      have hl : k < ρ1.length := by rw [pn.len]; exact (List.getElem?_eq_some_iff.mp e).1
      rw [wipeR_in hl hk, e]
      try rfl
  · rw [wipeR_out hk]; exact pn.pin k
theorem Ho.unwipe {B' : Addr → Prop} (h1 : Ho C B o ρ1 σ H) (kz : ∀ a h, ¬ Zo B o a → H a = some h → H' a = some h ∧ ¬ Zo B' o' a) (ow : ∀ i a, o' i = some a → o i = some a) (h5 : Ho C B' o' ρ5 (L2.wipe σ own) H') (pn : Pn ρ1 ρ5) (hl : loose ρ1 own = true) : Ho C B' o' (unwipe ρ1 ρ5 own) σ H' ∧ Pn ρ1 (BK.unwipe ρ1 ρ5 own) := by
  have ol : ∀ {i}, i ∈ own → o' i = none := fun {i} hi => by
    cases z : o' i with
    | none => rfl
    | some a =>
      have q := ow i a z
      rcases loose_at hl hi with ⟨d, e⟩ | e
      · rw [(h1.sl i _ e).1] at q; cases q
      · rw [show o i = none from h1.sl i _ e] at q; cases q
  have len5 : ρ5.length = ρ1.length := pn.len
  have at_ : ∀ {i}, i ∈ own → i < ρ5.length := fun {i} hi => by
    rw [len5]
    rcases loose_at hl hi with ⟨d, e⟩ | e <;> exact (List.getElem?_eq_some_iff.mp e).1
  refine ⟨⟨fun i t e => ?_, fun i e => ?_, h5.inj, h5.nb, h5.bd, by rw [unwipe_len, h5.len, wipe_len]⟩, ⟨by rw [unwipe_len]; exact pn.len, fun k => ?_⟩⟩
  · by_cases hi : i ∈ own
    · rw [unwipe_in (at_ hi) hi] at e
      rcases loose_at hl hi with ⟨d, e1⟩ | e1
      · rw [List.getD_eq_getElem?_getD, e1] at e
        cases e
        obtain ⟨q1, v, q2, q3⟩ := h1.sl i _ e1
        exact ⟨ol hi, v, q2, q3.mono kz⟩
      · rw [List.getD_eq_getElem?_getD, e1] at e
        cases e
        exact ol hi
    · rw [unwipe_out hi] at e
      have := h5.sl i t e
      rw [wipe_out hi] at this
      exact this
  · by_cases hi : i ∈ own
    · exact ol hi
    · rw [unwipe_out hi] at e
      exact h5.out i e
  · by_cases hk : k ∈ own
    · rw [unwipe_in (at_ hk) hk]
      rcases loose_at hl hk with ⟨d, e⟩ | e <;> (rw [List.getD_eq_getElem?_getD, e]; rfl)
    · rw [unwipe_out hk]; exact pn.pin k
end
section
variable {X : Cx} {cn : Nat → Addr} {P : Pr} {cf : Call} {e a b c ob tgE iter elt : Expr} {es ifs : List Expr} {x y z ex : E} {xs : Es} {pos p apos : Pos} {k : Nat} {m : Str} {te : TE} {t : TA} {tg : Tg} {it : I} {cd : Ts}
/-- a turn of a comprehension -/
def turnLc (P : Pr) (cf : Call) (ex : E) (tg : Tg) (cd : Ts) (ρ' : Rho) (x : D) : Option (Option D × Rho) :=
  (tg.bind (wipeR ρ' tg.own) x false).bind fun ρ2 => (evAll P cf ρ2 cd).bind fun (t, ρ3) => if t then (ev P cf ρ3 ex).map fun (d, _, ρ4) => (some d, wipeR ρ4 tg.own) else some (none, wipeR ρ3 tg.own)
/-- a comprehension's turns, over what is walked -/
theorem lc_run {B : Addr → Prop} {o1 : Ow} {ρ1 ρ5 : Rho} {xs ds : List D} {σ : L2.St} {H0 H1 : Hp} {Q : VK} {J : It} {G : Hp → Prop} {vs : List V} (ht : tg.okd = true) (hl : loose ρ1 tg.own = true) (hm : xs.length ≤ most) (e2 : lcLoop (turnLc P cf ex tg cd) (wipeR ρ1 tg.own) xs = some (ds, ρ5))
    (h1 : Ho (kw X cn) B o1 ρ1 σ H1) (dv : DenAll (kw X cn) (Zo B o1) H1 vs xs) (wk : Wk J G vs) (kG : ∀ H2, (∀ a h, ¬ In o1 a → H1 a = some h → H2 a = some h) → G H2)
    (q : ∀ D0 H2 o' acc, StepE H1 o1 H2 o' → Pn ρ1 (BK.unwipe ρ1 ρ5 tg.own) → H1 D0 = none → Ho (kw X cn) (fun a => B a ∨ a = D0) o' (BK.unwipe ρ1 ρ5 tg.own) σ H2 → H2 D0 = some (.lst acc) → DenAll (kw X cn) (Zo (fun a => B a ∨ a = D0) o') H2 acc ds → Q (.ref D0) H2) :
    tLc (fun _ _ R => R J H1) (gTg X.K tg) (tB (kw X cn) fun ρ => evAll P cf ρ cd) (tX (kw X cn) fun ρ => ev P cf ρ ex) tg.own σ H0 Q := by
  intro D0 nD
  generalize hH : upd H1 D0 (.lst []) = H1'
  have hD1 : H1' D0 = some (.lst []) := by rw [← hH]; exact upd_same
  have x1 : Ext H1 H1' := by rw [← hH]; exact Ext.new nD
  have h1' := h1.hide x1 nD (by rw [hD1]; intro z; cases z)
  obtain ⟨hw, sw⟩ := h1'.wipe (wipe_same (own := tg.own))
  have lenv : vs.length = xs.length := dv.length
  let W : Nat → Nat → Hp → Prop := fun i m H => m = vs.length - i ∧ i ≤ vs.length ∧ ∃ o' ρ' acc ad rest, StepE H1 o1 H o' ∧ Pn ρ1 ρ' ∧ Ho (kw X cn) (fun a => B a ∨ a = D0) o' ρ' (wipe σ tg.own) H ∧ H D0 = some (.lst acc) ∧
    DenAll (kw X cn) (Zo (fun a => B a ∨ a = D0) o') H acc ad ∧ ad.length ≤ i ∧ lcLoop (turnLc P cf ex tg cd) ρ' (xs.drop i) = some (rest, ρ5) ∧ ad ++ rest = ds
  refine ⟨W, ⟨vs.length, by simp, Nat.zero_le _, _, _, [], [], ds, x1.stepE.trans sw, loose_pn hl .refl, hw, hD1, .nil, Nat.le_refl _, by simpa using e2, rfl⟩, ?_⟩
  rintro i m H2 ⟨rfl, hi, o', ρ', acc, ad, rest, s2, pn2, h2, hD2, da, ha, hloop, hds⟩
  have gG : G H2 := kG H2 fun a h n e => s2.keep a h n e
  by_cases hi2 : i < vs.length
  · refine .inr ⟨wk.go i H2 gG hi2, fun H' => W (i + 1) (vs.length - (i + 1)) H', fun H' w => ⟨_, by omega, w⟩, fun w H' hy => ?_⟩
    obtain ⟨rfl, ew⟩ := wk.yld i H2 w H' gG hi2 hy
    have hx : ∃ d, xs[i]? = some d := ⟨_, List.getElem?_eq_getElem (by rw [← lenv]; exact hi2)⟩
    obtain ⟨d, ed⟩ := hx
    obtain ⟨w', ew', dw⟩ := dv.get ed
    rw [ew] at ew'
    cases ew'
    have dw2 : Den (kw X cn) (Zo (fun a => B a ∨ a = D0) o') H' w d := dw.mono fun a h n e => ⟨s2.keep a h (fun z => n (.inr z)) e, fun z => by
      rcases z with (z | z) | ⟨j, z⟩
      · exact n (.inl z)
      · rw [z, nD] at e; cases e
      · exact n (.inr ⟨j, s2.own j a z⟩)⟩
    have hdrop : xs.drop i = d :: xs.drop (i + 1) := by
      rw [List.drop_eq_getElem_cons (by rw [← lenv]; exact hi2)]
      congr 1
      rw [List.getElem?_eq_getElem (by rw [← lenv]; exact hi2)] at ed
      exact Option.some.inj ed
    rw [hdrop] at hloop
    simp only [lcLoop] at hloop
    obtain ⟨⟨yo, ρ6⟩, f1, hloop⟩ := bind_some hloop
    obtain ⟨⟨ys, ρ7⟩, f2, hloop⟩ := Option.map_eq_some_iff.mp hloop
    unfold turnLc at f1
    obtain ⟨ρ8, f3, f1⟩ := bind_some f1
    obtain ⟨⟨t, ρ9⟩, f4, f1⟩ := bind_some f1
    obtain ⟨hw2, sw2⟩ := h2.wipe (σ' := wipe σ tg.own) (own := tg.own) Same.refl
    have dw3 := dw2.step sw2.step
    refine tg_any ht w _ H' _ ⟨_, _, _, d, false, ρ8, H', _, .refl, hw2.bd, ⟨hw2, dw3⟩, f3, fun σ2 H3 o3 st se pn3 kp sm h3 => ?_⟩
    have se := se rfl
    have hwp : wipe σ2 tg.own = wipe (wipe σ tg.own) tg.own := wipe_eq sm
    have hwp2 : wipe (wipe σ tg.own) tg.own = wipe σ tg.own := wipe_eq wipe_same
    refine ⟨hwp.trans hwp2, ?_⟩
    refine ⟨_, o3, ρ8, (t, ρ9), h3, f4, fun H4 o4 s4 pn4 h4 => ?_⟩
    have sD : ∀ {Hx ox}, StepE H' o' Hx ox → Hx D0 = some (.lst acc) := fun {Hx ox} s => s.keep D0 _ (fun ⟨j, z⟩ => h2.nb j D0 z (.inr rfl)) hD2
    have pnw : Pn ρ1 ρ8 := (loose_pn hl pn2).trans pn3
    cases t with
    | true =>
      simp only [if_true] at f1 ⊢
      obtain ⟨⟨d4, fr4, ρ10⟩, f5, f1⟩ := Option.map_eq_some_iff.mp f1
      cases f1
      refine ⟨_, o4, ρ9, _, h4, f5, fun v H5 o5 s5 pn5 rs => ?_⟩
      obtain ⟨h5, d5⟩ := rs.shared h4.bd
      have st5 : StepE H' o' H5 o5 := ((sw2.trans se).trans s4).trans s5
      have hD5 := sD st5
      refine ⟨acc, hD5, most_lt (by rw [da.length]; omega), rfl, by omega, ?_⟩
      obtain ⟨h6, s6⟩ := h5.wipe (sm.symm)
      have kp : ∀ b, b ≠ D0 → upd H5 D0 (.lst (acc ++ [v])) b = H5 b := upd_off
      have h7 := h6.under (.inr rfl) kp (by rw [upd_same]; intro z; cases z)
      have st6 := st5.trans s6
      have kz : ∀ a u, ¬ Zo (fun a => B a ∨ a = D0) (offs o5 tg.own) a → H5 a = some u → upd H5 D0 (.lst (acc ++ [v])) a = some u ∧ ¬ Zo (fun a => B a ∨ a = D0) (offs o5 tg.own) a := fun a u n e => ⟨(kp a fun z => n (.inl (.inr z))).trans e, n⟩
      refine ⟨offs o5 tg.own, _, acc ++ [v], ad ++ [d4], ys, ?_, loose_pn hl ((pnw.trans pn4).trans pn5), h7, upd_same, ?_, by rw [List.length_append]; simp; omega, f2.trans ?_, ?_⟩
      · have st7 := s2.trans st6
        refine ⟨fun a u n e => ?_, fun a e => ?_, st7.own⟩
        · have na : a ≠ D0 := fun z => by rw [z, nD] at e; cases e
          rw [kp a na]
          exact st7.keep a u n e
        · by_cases na : a = D0
          · rw [na, upd_same]; intro z; cases z
          · rw [kp a na]; exact st7.dom a e
      · exact ((da.step st6.step).append (.cons (d5.step s6.step) .nil)).mono kz
      · cases hloop; rfl
      · cases hloop
        rw [List.append_assoc]
        exact hds
    | false =>
      simp only [Bool.false_eq_true, if_false] at f1 ⊢
      cases f1
      cases hloop
      obtain ⟨h6, s6⟩ := h4.wipe (sm.symm)
      have st6 : StepE H' o' H4 (offs o4 tg.own) := ((sw2.trans se).trans s4).trans s6
      exact ⟨rfl, by omega, offs o4 tg.own, _, acc, ad, ys, s2.trans st6, loose_pn hl (pnw.trans pn4), h6, sD st6, da.step st6.step, by omega, f2, hds⟩
  · have hi3 : i = vs.length := by omega
    subst hi3
    rw [List.drop_eq_nil_of_le (by omega)] at hloop
    simp only [lcLoop] at hloop
    cases hloop
    rw [List.append_nil] at hds
    subst hds
    obtain ⟨h6, pn6⟩ := h1.unwipe (fun a h n e => ⟨s2.keep a h (fun z => n (.inr z)) e, fun z => by
      rcases z with (z | z) | ⟨j, z⟩
      · exact n (.inl z)
      · rw [z, nD] at e; cases e
      · exact n (.inr ⟨j, s2.own j a z⟩)⟩) s2.own h2 pn2 hl
    exact .inl ⟨wk.stop _ H2 gG (Nat.le_refl _), q D0 H2 o' acc s2 pn6 nD h6 hD2 da⟩
theorem tlc_of (ht : tg.okd = true) : ∀ σ H Q, tX (kw X cn) (fun ρ => ev P cf ρ (.lc ex tg it cd)) σ H Q →
    tLc (tI (kw X cn) fun ρ => evI P cf ρ it) (gTg X.K tg) (tB (kw X cn) fun ρ => evAll P cf ρ cd) (tX (kw X cn) fun ρ => ev P cf ρ ex) tg.own σ H Q := by
  rintro σ H Q ⟨B, o, ρ, r, ho, he, q⟩
  simp only [ev] at he
  obtain ⟨⟨xs, ρ1⟩, e1, he⟩ := bind_some he
  split at he
  · rename_i hl
    simp only [Bool.and_eq_true, decide_eq_true_eq] at hl
    obtain ⟨⟨ds, ρ5⟩, e2, he⟩ := Option.map_eq_some_iff.mp he
    subst he
    have e2 : lcLoop (turnLc P cf ex tg cd) (wipeR ρ1 tg.own) xs = some (ds, ρ5) := e2
    refine ⟨B, o, ρ, (xs, ρ1), ho, e1, fun J G vs H1 o1 s1 pn1 h1 dv wk kG => ?_⟩
    exact lc_run (H0 := H) ht hl.1 hl.2 e2 h1 dv wk (fun H2 w => kG H2 fun a h n e => w a h (fun z => n (.inr z)) e) fun D0 H2 o' acc s2 pn6 nD h6 hD2 da => q (.ref D0) H2 o' (s1.trans s2) (pn1.trans pn6) ⟨D0, rfl, s1.back D0 nD, h6, acc, hD2, da⟩
  · cases he
end
end BK

set_option Elab.async false
set_option linter.all false
set_option maxRecDepth 100000
set_option maxHeartbeats 2000000
/-! BK11b: a comprehension over a list that a name owns, which keeps it. -/
namespace BK
open PySem PySem.Spec PyProof.Rows L2
def Ow.on (o : Ow) (i : Nat) (a : Addr) : Ow := fun j => if j = i then some a else o j
theorem Ow.on_at {o : Ow} {i : Nat} {a : Addr} : Ow.on o i a i = some a := if_pos rfl
theorem Ow.on_ne {o : Ow} {i j : Nat} {a : Addr} (h : j ≠ i) : Ow.on o i a j = o j := if_neg h
section
variable {C : Kw} {B : Addr → Prop} {o o' : Ow} {ρ ρ' : Rho} {σ : L2.St} {H H' : Hp} {i : Nat} {p : Bool} {d : D}
/-- what a name owns is laid aside -/
theorem Ho.park (h : Ho C B o ρ σ H) (e : ρ[i]? = some (.ow p d)) :
    ∃ a, o i = some a ∧ σ[i]? = some (some (.ref a)) ∧ ¬ B a ∧ OwnAt C (Zo (fun b => B b ∨ b = a) (Ow.off o i)) H a d ∧ Ho C (fun b => B b ∨ b = a) (Ow.off o i) (ρ.set i .un) σ H ∧ StepE H o H (Ow.off o i) := by
  obtain ⟨a, e1, e2, e3⟩ := h.sl i _ e
  have hi := (List.getElem?_eq_some_iff.mp e).1
  have zz : ∀ b, Zo (fun b => B b ∨ b = a) (Ow.off o i) b → Zo B o b := fun b z => by
    rcases z with (z | z) | ⟨j, z⟩
    · exact .inl z
    · exact .inr ⟨i, by rw [z]; exact e1⟩
    · exact .inr ⟨j, (Ow.off_some z).1⟩
  refine ⟨a, e1, e2, h.nb i a e1, e3.mono (fun b u n q => ⟨q, fun z => n (zz b z)⟩) rfl, h.chg hi (fun b u n q => ⟨q, fun z => n (zz b z)⟩) (fun _ _ _ _ => rfl) (fun j hj => Ow.off_ne hj) ?_ (fun _ _ => rfl) rfl (fun j b _ z => ?_) (fun j b z => ?_) (fun b z => ?_), ⟨fun _ _ _ q => q, fun _ q => q, fun j b z => (Ow.off_some z).1⟩⟩
  · exact Ow.off_at
  · rw [Ow.off_at] at z; cases z
  · obtain ⟨z1, z2⟩ := Ow.off_some z
    rintro (y | y)
    · exact h.nb j b z1 y
    · rw [y] at z1
      exact z2 (h.inj j i a z1 e1)
  · rcases z with z | z
    · exact h.bd b z
    · rw [z]; exact e3.some
/-- .. and taken back -/
theorem Ho.unpark {a : Addr} (h : Ho C (fun b => B b ∨ b = a) o' ρ' σ H') (e : ρ'[i]? = some .un) (hσ : σ[i]? = some (some (.ref a))) (nb : ¬ B a) (ow : OwnAt C (Zo (fun b => B b ∨ b = a) o') H' a d) : Ho C B (Ow.on o' i a) (ρ'.set i (.ow p d)) σ H' := by
  have hi := (List.getElem?_eq_some_iff.mp e).1
  have on : o' i = none := h.sl i _ e
  have zz : ∀ b, Zo B (Ow.on o' i a) b → Zo (fun b => B b ∨ b = a) o' b := fun b z => by
    rcases z with z | ⟨j, z⟩
    · exact .inl (.inl z)
    · by_cases hj : j = i
      · subst hj
        rw [Ow.on_at] at z
        cases z
        exact .inl (.inr rfl)
      · rw [Ow.on_ne hj] at z
        exact .inr ⟨j, z⟩
  refine h.chg hi (fun b u n q => ⟨q, fun z => n (zz b z)⟩) (fun _ _ _ _ => rfl) (fun j hj => Ow.on_ne hj) ⟨a, Ow.on_at, hσ, ow.mono (fun b u n q => ⟨q, fun z => n (zz b z)⟩) rfl⟩ (fun _ _ => rfl) rfl (fun j b hj z y => ?_) (fun j b z y => ?_) (fun b z => h.bd b (.inl z))
  · rw [Ow.on_at] at z
    cases z
    exact h.nb j a y (.inr rfl)
  · by_cases hj : j = i
    · subst hj
      rw [Ow.on_at] at z
      cases z
      exact nb y
    · rw [Ow.on_ne hj] at z
      exact h.nb j b z (.inl y)
end
section
variable {X : Cx} {cn : Nat → Addr} {P : Pr} {cf : Call} {ex : E} {tg : Tg} {i : Nat} {cd : Ts}
theorem tlcw_of (ht : tg.okd = true) : ∀ σ H Q, tX (kw X cn) (fun ρ => ev P cf ρ (.lcw ex tg i cd)) σ H Q →
    tLc (iAny X (tVar i)) (gTg X.K tg) (tB (kw X cn) fun ρ => evAll P cf ρ cd) (tX (kw X cn) fun ρ => ev P cf ρ ex) tg.own σ H Q := by
  rintro σ H Q ⟨B, o, ρ, r, ho, he, q⟩
  simp only [ev] at he
  split at he
  · rename_i p xs e1
    split at he
    · rename_i hl
      simp only [Bool.and_eq_true, decide_eq_true_eq] at hl
      obtain ⟨⟨ds, ρ5⟩, e2, he⟩ := bind_some he
      have e2 : lcLoop (turnLc P cf ex tg cd) (wipeR (ρ.set i .un) tg.own) xs = some (ds, ρ5) := e2
      simp only at he
      split at he
      · rename_i eu
        cases he
        obtain ⟨a, oi, hσ, nb, ow, h1, s1⟩ := ho.park e1
        obtain ⟨vs, ha, dv⟩ := ow
        refine ⟨.ref a, hσ, a, rfl, .inl ⟨vs, SqL.of ha, ?_⟩⟩
        have na : ¬ In (Ow.off o i) a := fun ⟨j, z⟩ => by
          obtain ⟨z1, z2⟩ := Ow.off_some z
          exact z2 (ho.inj j i a z1 oi)
        refine lc_run (H0 := H) ht hl.1 hl.2 e2 h1 dv wk_list (fun H2 w => SqL.of (w a _ na ha)) fun D0 H2 o' acc s2 pn6 nD h6 hD2 da => ?_
        have ha2 : H2 a = some (.lst vs) := s2.keep a _ na ha
        have nDa : D0 ≠ a := fun z => by rw [z, ha] at nD; cases nD
        have hB : ∀ b, ((fun b => (B b ∨ b = D0) ∨ b = a) b) → (B b ∨ b = a) ∨ b = D0 := fun b z => by
          rcases z with (z | z) | z
          · exact .inl (.inl z)
          · exact .inr z
          · exact .inl (.inr z)
        have h7 : Ho (kw X cn) (fun b => (B b ∨ b = D0) ∨ b = a) o' (BK.unwipe (ρ.set i .un) ρ5 tg.own) σ H2 := h6.show hB
        have zz : ∀ b, Zo (fun b => (B b ∨ b = D0) ∨ b = a) o' b → Zo (fun b => (B b ∨ b = a) ∨ b = D0) o' b := fun b z => z.imp (hB b) id
        have kz : ∀ b u, ¬ Zo (fun b => B b ∨ b = a) (Ow.off o i) b → H b = some u → H2 b = some u ∧ ¬ Zo (fun b => (B b ∨ b = D0) ∨ b = a) o' b := fun b u n e => by
          refine ⟨s2.keep b u (fun z => n (.inr z)) e, fun z => ?_⟩
          rcases z with ((z | z) | z) | ⟨j, z⟩
          · exact n (.inl (.inl z))
          · rw [z, nD] at e; cases e
          · exact n (.inl (.inr z))
          · exact n (.inr ⟨j, s2.own j b z⟩)
        have h8 := h7.unpark (i := i) (p := p) (d := .lst xs) eu hσ (fun z => by
          rcases z with z | z
          · exact nb z
          · exact nDa z.symm) ⟨vs, ha2, dv.mono kz⟩
        have ow2 : ∀ j b, Ow.on o' i a j = some b → o j = some b := fun j b z => by
          by_cases hj : j = i
          · subst hj
            rw [Ow.on_at] at z
            cases z
            exact oi
          · rw [Ow.on_ne hj] at z
            exact (Ow.off_some (s2.own j b z)).1
        refine q (.ref D0) H2 (Ow.on o' i a) ⟨fun b u n e => s2.keep b u (fun ⟨j, z⟩ => n ⟨j, (Ow.off_some z).1⟩) e, s2.dom, ow2⟩ ?_ ⟨D0, rfl, nD, h8, acc, hD2, da.mono fun b u n e => ⟨e, fun z => n ?_⟩⟩
        · refine ⟨by rw [List.length_set]; exact pn6.len.trans (by rw [List.length_set]), fun k => ?_⟩
          have li : i < ρ.length := (List.getElem?_eq_some_iff.mp e1).1
          by_cases hk : i = k
          · subst hk
            rw [List.getElem?_set_self (by rw [pn6.len, List.length_set]; exact li), e1]
          · rw [List.getElem?_set_ne hk]
            have := pn6.pin k
            rw [List.getElem?_set_ne hk] at this
            exact this
        · refine zz b ?_
          rcases z with z | ⟨j, z⟩
          · exact .inl (.inl z)
          · by_cases hj : j = i
            · subst hj
              rw [Ow.on_at] at z
              cases z
              exact .inl (.inr rfl)
            · rw [Ow.on_ne hj] at z
              exact .inr ⟨j, z⟩
      · cases he
    · cases he
  · rename_i p xs e1
    split at he
    · rename_i hl
      simp only [Bool.and_eq_true, decide_eq_true_eq] at hl
      obtain ⟨⟨ds, ρ5⟩, e2, he⟩ := Option.map_eq_some_iff.mp he
      cases he
      have e2 : lcLoop (turnLc P cf ex tg cd) (wipeR ρ tg.own) xs = some (ds, ρ5) := e2
      obtain ⟨_, v, hσ, dv⟩ := ho.sl i _ e1
      obtain ⟨a, vs, rfl, ha, hv⟩ := (show DenT (kw X cn) (Zo B o) H v (.lst xs) from .inl dv).lst
      refine ⟨.ref a, hσ, a, rfl, .inl ⟨vs, SqL.of ha, ?_⟩⟩
      exact lc_run (H0 := H) ht hl.1 hl.2 e2 ho hv wk_list (fun H2 w => by
        cases dv with
        | lst nz r _ => exact SqL.of ((w a _ (fun z => nz (.inr z)) r).trans (by rw [← r, ha]))) fun D0 H2 o' acc s2 pn6 nD h6 hD2 da => q (.ref D0) H2 o' s2 pn6 ⟨D0, rfl, nD, h6, acc, hD2, da⟩
    · cases he
  · rename_i p xs e1
    split at he
    · rename_i hl
      simp only [Bool.and_eq_true, decide_eq_true_eq] at hl
      obtain ⟨⟨ds, ρ5⟩, e2, he⟩ := Option.map_eq_some_iff.mp he
      cases he
      have e2 : lcLoop (turnLc P cf ex tg cd) (wipeR ρ tg.own) xs = some (ds, ρ5) := e2
      obtain ⟨_, v, hσ, dv⟩ := ho.sl i _ e1
      refine ⟨v, hσ, ?_⟩
      cases dv with
      | @tup a vs _ nz r hv => exact ⟨a, rfl, .inr (.inl ⟨vs, SqT.of r, lc_run (H0 := H) ht hl.1 hl.2 e2 ho hv wk_tup (fun H2 w => SqT.of (w a _ (fun z => nz (.inr z)) r)) fun D0 H2 o' acc s2 pn6 nD h6 hD2 da => q (.ref D0) H2 o' s2 pn6 ⟨D0, rfl, nD, h6, acc, hD2, da⟩⟩)⟩
      | @tupK a vs _ r hv => exact ⟨a, rfl, .inr (.inl ⟨vs, r.sqt, lc_run (H0 := H) ht hl.1 hl.2 e2 ho hv wk_tup (fun H2 w => r.sqt) fun D0 H2 o' acc s2 pn6 nD h6 hD2 da => q (.ref D0) H2 o' s2 pn6 ⟨D0, rfl, nD, h6, acc, hD2, da⟩⟩)⟩
    · cases he
  · cases he
end
end BK

set_option Elab.async false
set_option linter.all false
set_option maxRecDepth 100000
set_option maxHeartbeats 4000000
/-! BK11c: comprehensions of two fors. -/
namespace BK
open PySem PySem.Spec PyProof.Rows L2
theorem loose_pin {ρ : Rho} {own : List Nat} (h : loose ρ own = true) {k : Nat} (hk : k ∈ own) : (ρ[k]?).map Sl.pin = some false := by
  rcases loose_at h hk with ⟨d, e⟩ | e <;> rw [e] <;> rfl
theorem loose_pn2 {ρ ρ1 : Rho} {own own1 : List Nat} (h : loose ρ own = true) (hs : ∀ k ∈ own1, k ∈ own) (pn : Pn ρ ρ1) : Pn ρ (wipeR ρ1 own1) := by
  refine ⟨by rw [wipeR_len]; exact pn.len, fun k => ?_⟩
  by_cases hk : k ∈ own1
  · have e := loose_pin h (hs k hk)
    have hl : k < ρ1.length := by
      rw [pn.len]
      rcases loose_at h (hs k hk) with ⟨d, e⟩ | e <;> exact (List.getElem?_eq_some_iff.mp e).1
    rw [wipeR_in hl hk, e]
    rfl
  · rw [wipeR_out hk]; exact pn.pin k
theorem loose_sub {ρ : Rho} {own own1 : List Nat} (h : loose ρ own = true) (hs : ∀ k ∈ own1, k ∈ own) : loose ρ own1 = true := List.all_eq_true.mpr fun k hk => List.all_eq_true.mp h k (hs k hk)
theorem wipe_wipe {σ σ2 : L2.St} {own own1 : List Nat} (hs : ∀ k ∈ own1, k ∈ own) (e : wipe σ2 own = wipe σ own) : Same (wipe σ2 own1) (wipe σ own) own := by
  have l : σ2.length = σ.length := by
    have := congrArg List.length e
    rwa [wipe_len, wipe_len] at this
  refine ⟨by rw [wipe_len, wipe_len, l], fun j hj => ?_⟩
  have h2 : (wipe σ2 own)[j]? = (wipe σ own)[j]? := by rw [e]
  rw [wipe_out hj] at h2
  rw [h2.symm, wipe_out fun z => hj (hs j z)]
section
variable {X : Cx} {cn : Nat → Addr} {P : Pr} {cf : Call} {ex : E} {tg tg1 : Tg} {it it1 : I} {cd cd1 : Ts}
def turn2 (P : Pr) (cf : Call) (ex : E) (tg : Tg) (cd : Ts) (tg1 : Tg) (it1 : I) (cd1 : Ts) (ρ' : Rho) (x : D) : Option (List D × Rho) :=
  (tg.bind (wipeR ρ' (tg.own ++ tg1.own)) x false).bind fun ρ2 => (evAll P cf ρ2 cd).bind fun (t, ρ3) => if t then
          (evI P cf ρ3 it1).bind fun (ys, ρ4) => if decide (ys.length ≤ most) then
            (lcLoop (turnLc P cf ex tg1 cd1) (wipeR ρ4 tg1.own) ys).map fun (ds, ρ8) => (ds, wipeR ρ8 (tg.own ++ tg1.own))
          else none
        else some ([], wipeR ρ3 (tg.own ++ tg1.own))
theorem tlc2_of (ht : tg.okd = true) (ht1 : tg1.okd = true) : ∀ σ H Q, tX (kw X cn) (fun ρ => ev P cf ρ (.lc2 ex tg it cd tg1 it1 cd1)) σ H Q →
    tLc2 (tI (kw X cn) fun ρ => evI P cf ρ it) (gTg X.K tg) (tB (kw X cn) fun ρ => evAll P cf ρ cd) (tI (kw X cn) fun ρ => evI P cf ρ it1) (gTg X.K tg1) (tB (kw X cn) fun ρ => evAll P cf ρ cd1) (tX (kw X cn) fun ρ => ev P cf ρ ex) (tg.own ++ tg1.own) tg1.own σ H Q := by
  rintro σ H Q ⟨B, o, ρ, r, ho, he, q⟩
  simp only [ev] at he
  obtain ⟨⟨xs, ρ1⟩, e1, he⟩ := bind_some he
  split at he
  · rename_i hl
    simp only [Bool.and_eq_true, decide_eq_true_eq] at hl
    obtain ⟨⟨ds, ρ5⟩, e2, he⟩ := bind_some he
    have e2 : lc2Loop (turn2 P cf ex tg cd tg1 it1 cd1) (wipeR ρ1 (tg.own ++ tg1.own)) xs = some (ds, ρ5) := e2
    simp only at he
    split at he
    · rename_i hm
      cases he
      generalize hown : tg.own ++ tg1.own = own at *
      have s1 : ∀ k ∈ tg1.own, k ∈ own := fun k hk => by rw [← hown]; exact List.mem_append_right _ hk
      refine ⟨B, o, ρ, (xs, ρ1), ho, e1, fun J G vs H1 o1 s1' pn1 h1 dv wk kG => ?_⟩
      intro D0 nD
      generalize hH : upd H1 D0 (.lst []) = H1'
      have hD1 : H1' D0 = some (.lst []) := by rw [← hH]; exact upd_same
      have x1 : Ext H1 H1' := by rw [← hH]; exact Ext.new nD
      have h1' := h1.hide x1 nD (by rw [hD1]; intro z; cases z)
      obtain ⟨hw, sw⟩ := h1'.wipe (wipe_same (own := own))
      have lenv : vs.length = xs.length := dv.length
      let W : Nat → Nat → Hp → Prop := fun i m H => m = vs.length - i ∧ i ≤ vs.length ∧ ∃ o' ρ' acc ad rest, StepE H1 o1 H o' ∧ Pn ρ1 ρ' ∧ Ho (kw X cn) (fun a => B a ∨ a = D0) o' ρ' (wipe σ own) H ∧ H D0 = some (.lst acc) ∧
        DenAll (kw X cn) (Zo (fun a => B a ∨ a = D0) o') H acc ad ∧ lc2Loop (turn2 P cf ex tg cd tg1 it1 cd1) ρ' (xs.drop i) = some (rest, ρ5) ∧ ad ++ rest = ds
      refine ⟨W, ⟨vs.length, by simp, Nat.zero_le _, _, _, [], [], ds, x1.stepE.trans sw, loose_pn hl.1 .refl, hw, hD1, .nil, by simpa using e2, rfl⟩, ?_⟩
      rintro i m H2 ⟨rfl, hi, o', ρ', acc, ad, rest, s2, pn2, h2, hD2, da, hloop, hds⟩
      have gG : G H2 := kG H2 fun a h n e => s2.keep a h (fun z => n (.inr z)) e
      by_cases hi2 : i < vs.length
      · refine .inr ⟨wk.go i H2 gG hi2, fun H' => W (i + 1) (vs.length - (i + 1)) H', fun H' w => ⟨_, by omega, w⟩, fun w H' hy => ?_⟩
        obtain ⟨rfl, ew⟩ := wk.yld i H2 w H' gG hi2 hy
        have hx : ∃ d, xs[i]? = some d := ⟨_, List.getElem?_eq_getElem (by rw [← lenv]; exact hi2)⟩
        obtain ⟨d, ed⟩ := hx
        obtain ⟨w', ew', dw⟩ := dv.get ed
        rw [ew] at ew'
        cases ew'
        have dw2 : Den (kw X cn) (Zo (fun a => B a ∨ a = D0) o') H' w d := dw.mono fun a h n e => ⟨s2.keep a h (fun z => n (.inr z)) e, fun z => by
          rcases z with (z | z) | ⟨j, z⟩
          · exact n (.inl z)
          · rw [z, nD] at e; cases e
          · exact n (.inr ⟨j, s2.own j a z⟩)⟩
        have hdrop : xs.drop i = d :: xs.drop (i + 1) := by
          rw [List.drop_eq_getElem_cons (by rw [← lenv]; exact hi2)]
          congr 1
          rw [List.getElem?_eq_getElem (by rw [← lenv]; exact hi2)] at ed
          exact Option.some.inj ed
        rw [hdrop] at hloop
        simp only [lc2Loop] at hloop
        obtain ⟨⟨yo, ρ6⟩, f1, hloop⟩ := bind_some hloop
        obtain ⟨⟨ys', ρ7⟩, f2, hloop⟩ := Option.map_eq_some_iff.mp hloop
        cases hloop
        unfold turn2 at f1
        rw [hown] at f1
        obtain ⟨ρ8, f3, f1⟩ := bind_some f1
        obtain ⟨⟨t, ρ9⟩, f4, f1⟩ := bind_some f1
        obtain ⟨hw2, sw2⟩ := h2.wipe (σ' := wipe σ own) (own := own) Same.refl
        have dw3 := dw2.step sw2.step
        refine tg_any ht w _ H' _ ⟨_, _, _, d, false, ρ8, H', _, .refl, hw2.bd, ⟨hw2, dw3⟩, f3, fun σ2 H3 o3 st se pn3 kp sm h3 => ?_⟩
        have se := se rfl
        have sm' : Same (wipe σ own) σ2 own := ⟨sm.1, fun j hj => sm.2 j fun z => hj (by rw [← hown]; exact List.mem_append_left _ z)⟩
        have hwp : wipe σ2 own = wipe (wipe σ own) own := wipe_eq sm'
        have hwp2 : wipe (wipe σ own) own = wipe σ own := wipe_eq wipe_same
        have hws : wipe σ2 own = wipe σ own := hwp.trans hwp2
        refine ⟨hws, ?_⟩
        refine ⟨_, o3, ρ8, (t, ρ9), h3, f4, fun H4 o4 s4 pn4 h4 => ?_⟩
        have sD : ∀ {Hx ox}, StepE H' o' Hx ox → Hx D0 = some (.lst acc) := fun {Hx ox} s => s.keep D0 _ (fun ⟨j, z⟩ => h2.nb j D0 z (.inr rfl)) hD2
        have pnw : Pn ρ1 ρ8 := (loose_pn hl.1 pn2).trans pn3
        have st4 : StepE H' o' H4 o4 := (sw2.trans se).trans s4
        cases t with
        | true =>
          simp only [if_true] at f1 ⊢
          obtain ⟨⟨ys, ρ10⟩, f5, f1⟩ := bind_some f1
          simp only at f1
          split at f1
          · rename_i hym
            obtain ⟨⟨dx, ρ11⟩, f6, f1⟩ := Option.map_eq_some_iff.mp f1
            cases f1
            refine ⟨_, o4, ρ9, (ys, ρ10), h4, f5, fun J1 G1 vs1 H5 o5 s5 pn5 h5 dv1 wk1 kG1 => ?_⟩
            have st5 : StepE H' o' H5 o5 := st4.trans s5
            have hD5 := sD st5
            have pn10 : Pn ρ1 ρ10 := (pnw.trans pn4).trans pn5
            obtain ⟨h6, sw6⟩ := h5.wipe (σ' := wipe σ2 tg1.own) (own := tg1.own) wipe_same
            have lenv1 : vs1.length = ys.length := dv1.length
            let W1 : Nat → Nat → Hp → Prop := fun j k H => k = vs1.length - j ∧ j ≤ vs1.length ∧ ∃ o'' ρ'' acc2 ad2 rest2, StepE H1 o1 H o'' ∧ (∀ i a, o'' i = some a → o5 i = some a) ∧ (∀ a h, ¬ In o5 a → H5 a = some h → a ≠ D0 → H a = some h) ∧ Pn ρ1 ρ'' ∧ Ho (kw X cn) (fun a => B a ∨ a = D0) o'' ρ'' (wipe σ2 tg1.own) H ∧ H D0 = some (.lst acc2) ∧
              DenAll (kw X cn) (Zo (fun a => B a ∨ a = D0) o'') H acc2 ad2 ∧ lcLoop (turnLc P cf ex tg1 cd1) ρ'' (ys.drop j) = some (rest2, ρ11) ∧ ad2 ++ rest2 = ad ++ dx
            have dI5 : DenAll (kw X cn) (Zo (fun a => B a ∨ a = D0) (offs o5 tg1.own)) H5 acc ad := (da.step st5.step).step sw6.step
            refine ⟨W1, ⟨vs1.length, by simp, Nat.zero_le _, _, _, acc, ad, dx, (s2.trans st5).trans sw6, sw6.own, fun a h n e _ => e, loose_pn2 hl.1 s1 pn10, h6, hD5, dI5, by simpa using f6, rfl⟩, ?_⟩
            rintro j k H6 ⟨rfl, hj, o6, ρ12, acc2, ad2, rest2, t1, t2, t3, t4, t5, t6, t7, t8, t9⟩
            have nzD : ∀ a, ¬ Zo (fun a => B a ∨ a = D0) o5 a → a ≠ D0 := fun a n z => n (.inl (.inr z))
            have gG1 : G1 H6 := kG1 H6 fun a h n e => t3 a h (fun z => n (.inr z)) e (nzD a n)
            have lb : acc2.length + rest2.length ≤ most := by
              have h1 := congrArg List.length t9
              have h2 := congrArg List.length hds
              simp only [List.length_append] at h1 h2
              rw [t7.length]
              omega
            by_cases hj2 : j < vs1.length
            · refine .inr ⟨wk1.go j H6 gG1 hj2, fun H' => W1 (j + 1) (vs1.length - (j + 1)) H', fun H' w => ⟨_, by omega, w⟩, fun w1 H7 hy1 => ?_⟩
              obtain ⟨rfl, ew1⟩ := wk1.yld j H6 w1 H7 gG1 hj2 hy1
              have hx1 : ∃ d, ys[j]? = some d := ⟨_, List.getElem?_eq_getElem (by rw [← lenv1]; exact hj2)⟩
              obtain ⟨d1, ed1⟩ := hx1
              obtain ⟨w1', ew1', dw1⟩ := dv1.get ed1
              rw [ew1] at ew1'
              cases ew1'
              have dw12 : Den (kw X cn) (Zo (fun a => B a ∨ a = D0) o6) H7 w1 d1 := dw1.mono fun a h n e => ⟨t3 a h (fun z => n (.inr z)) e (nzD a n), fun z => by
                rcases z with z | ⟨j, z⟩
                · exact n (.inl z)
                · exact n (.inr ⟨j, t2 j a z⟩)⟩
              have hdrop1 : ys.drop j = d1 :: ys.drop (j + 1) := by
                rw [List.drop_eq_getElem_cons (by rw [← lenv1]; exact hj2)]
                congr 1
                rw [List.getElem?_eq_getElem (by rw [← lenv1]; exact hj2)] at ed1
                exact Option.some.inj ed1
              rw [hdrop1] at t8
              simp only [lcLoop] at t8
              obtain ⟨⟨yo1, ρ13⟩, g1, t8⟩ := bind_some t8
              obtain ⟨⟨zs, ρ14⟩, g2, t8⟩ := Option.map_eq_some_iff.mp t8
              unfold turnLc at g1
              obtain ⟨ρ15, g3, g1⟩ := bind_some g1
              obtain ⟨⟨u, ρ16⟩, g4, g1⟩ := bind_some g1
              obtain ⟨hw7, sw7⟩ := t5.wipe (σ' := wipe σ2 tg1.own) (own := tg1.own) Same.refl
              have dw13 := dw12.step sw7.step
              refine tg_any ht1 w1 _ H7 _ ⟨_, _, _, d1, false, ρ15, H7, _, .refl, hw7.bd, ⟨hw7, dw13⟩, g3, fun σ3 H8 o8 st8 se8 pn8 kp8 sm8 h8 => ?_⟩
              have se8 := se8 rfl
              have hwp3 : wipe σ3 tg1.own = wipe (wipe σ2 tg1.own) tg1.own := wipe_eq sm8
              have hwp4 : wipe (wipe σ2 tg1.own) tg1.own = wipe σ2 tg1.own := wipe_eq wipe_same
              refine ⟨hwp3.trans hwp4, ?_⟩
              refine ⟨_, o8, ρ15, (u, ρ16), h8, g4, fun H9 o9 s9 pn9 h9 => ?_⟩
              have sD2 : ∀ {Hx ox}, StepE H7 o6 Hx ox → Hx D0 = some (.lst acc2) := fun {Hx ox} s => s.keep D0 _ (fun ⟨j, z⟩ => t5.nb j D0 z (.inr rfl)) t6
              have pn15 : Pn ρ1 ρ15 := (loose_pn2 hl.1 s1 t4).trans pn8
              have keepS : ∀ {Hx ox}, StepE H7 o6 Hx ox → ∀ a h, ¬ In o5 a → H5 a = some h → a ≠ D0 → Hx a = some h := fun {Hx ox} s a h n e nd => s.keep a h (fun ⟨j, z⟩ => n ⟨j, t2 j a z⟩) (t3 a h n e nd)
              cases u with
              | true =>
                simp only [if_true] at g1 ⊢
                obtain ⟨⟨d4, fr4, ρ17⟩, g5, g1⟩ := Option.map_eq_some_iff.mp g1
                cases g1
                cases t8
                refine ⟨_, o9, ρ16, _, h9, g5, fun v H10 o10 s10 pn10' rs => ?_⟩
                obtain ⟨h10, d10⟩ := rs.shared h9.bd
                have st10 : StepE H7 o6 H10 o10 := ((sw7.trans se8).trans s9).trans s10
                have hD10 := sD2 st10
                refine ⟨acc2, hD10, most_lt (by simp only [List.length_cons] at lb; omega), rfl, by omega, ?_⟩
                obtain ⟨h11, s11⟩ := h10.wipe (sm8.symm)
                have kp : ∀ b, b ≠ D0 → upd H10 D0 (.lst (acc2 ++ [v])) b = H10 b := upd_off
                have h12 := h11.under (.inr rfl) kp (by rw [upd_same]; intro z; cases z)
                have st11 := st10.trans s11
                have kz : ∀ a u, ¬ Zo (fun a => B a ∨ a = D0) (offs o10 tg1.own) a → H10 a = some u → upd H10 D0 (.lst (acc2 ++ [v])) a = some u ∧ ¬ Zo (fun a => B a ∨ a = D0) (offs o10 tg1.own) a := fun a u n e => ⟨(kp a fun z => n (.inl (.inr z))).trans e, n⟩
                refine ⟨offs o10 tg1.own, _, acc2 ++ [v], ad2 ++ [d4], zs, ?_, fun i a e => t2 i a (st11.own i a e), fun a h n e nd => (kp a nd).trans (keepS st11 a h n e nd), loose_pn2 hl.1 s1 ((pn15.trans pn9).trans pn10'), h12, upd_same, ?_, g2, ?_⟩
                · have st12 := t1.trans st11
                  refine ⟨fun a u n e => ?_, fun a e => ?_, st12.own⟩
                  · have na : a ≠ D0 := fun z => by rw [z, nD] at e; cases e
                    rw [kp a na]
                    exact st12.keep a u n e
                  · by_cases na : a = D0
                    · rw [na, upd_same]; intro z; cases z
                    · rw [kp a na]; exact st12.dom a e
                · exact ((t7.step st11.step).append (.cons (d10.step s11.step) .nil)).mono kz
                · rw [List.append_assoc]
                  exact t9
              | false =>
                simp only [Bool.false_eq_true, if_false] at g1 ⊢
                cases g1
                cases t8
                obtain ⟨h11, s11⟩ := h9.wipe (sm8.symm)
                have st11 : StepE H7 o6 H9 (offs o9 tg1.own) := ((sw7.trans se8).trans s9).trans s11
                exact ⟨rfl, by omega, offs o9 tg1.own, _, acc2, ad2, zs, t1.trans st11, fun i a e => t2 i a (st11.own i a e), keepS st11, loose_pn2 hl.1 s1 (pn15.trans pn9), h11, sD2 st11, t7.step st11.step, g2, t9⟩
            · have hj3 : j = vs1.length := by omega
              subst hj3
              rw [List.drop_eq_nil_of_le (by omega)] at t8
              simp only [lcLoop] at t8
              cases t8
              rw [List.append_nil] at t9
              obtain ⟨h13, s13⟩ := t5.wipe (wipe_wipe s1 hws)
              refine .inl ⟨wk1.stop _ H6 gG1 (Nat.le_refl _), rfl, by omega, offs o6 own, _, acc2, ad2, ys', t1.trans s13, loose_pn hl.1 t4, h13, t6, t7.step s13.step, f2, ?_⟩
              rw [t9, List.append_assoc]
              exact hds
          · cases f1
        | false =>
          simp only [Bool.false_eq_true, if_false] at f1 ⊢
          cases f1
          obtain ⟨h6, s6⟩ := h4.wipe (sm'.symm)
          have st6 : StepE H' o' H4 (offs o4 own) := st4.trans s6
          exact ⟨rfl, by omega, offs o4 own, _, acc, ad, ys', s2.trans st6, loose_pn hl.1 (pnw.trans pn4), h6, sD st6, da.step st6.step, f2, by simpa using hds⟩
      · have hi3 : i = vs.length := by omega
        subst hi3
        rw [List.drop_eq_nil_of_le (by omega)] at hloop
        simp only [lc2Loop] at hloop
        cases hloop
        rw [List.append_nil] at hds
        subst hds
        obtain ⟨h6, pn6⟩ := h1.unwipe (fun a h n e => ⟨s2.keep a h (fun z => n (.inr z)) e, fun z => by
          rcases z with (z | z) | ⟨j, z⟩
          · exact n (.inl z)
          · rw [z, nD] at e; cases e
          · exact n (.inr ⟨j, s2.own j a z⟩)⟩) s2.own h2 pn2 hl.1
        exact .inl ⟨wk.stop _ H2 gG (Nat.le_refl _), q (.ref D0) H2 o' (s1'.trans s2) (pn1.trans pn6) ⟨D0, rfl, s1'.back D0 nD, h6, acc, hD2, da⟩⟩
    · cases he
  · cases he
end
end BK

set_option Elab.async false
set_option linter.all false
set_option maxRecDepth 100000
set_option maxHeartbeats 2000000
/-! BK12: statements. -/
namespace BK
open PySem PySem.Spec PyProof.Rows L2

theorem _root_.L2.PS.imp {X : Cx} {st : Stmt} {t t' : TS} (h : PS X st t) (i : ∀ D σ H, t' D σ H → t D σ H) : PS X st t' := ⟨fun pins s σ H D I w => h.run pins s σ H D I (i D σ H w)⟩
theorem _root_.L2.PSs.imp {X : Cx} {st : List Stmt} {t t' : TS} (h : PSs X st t) (i : ∀ D σ H, t' D σ H → t D σ H) : PSs X st t' := ⟨fun pins s σ H D I w => h.run pins s σ H D I (i D σ H w)⟩

/-- what a block gives back: new since its start, or what a name owned then -/
def ResS (C : Kw) (B : Addr → Prop) (o0 : Ow) (ρ0 : Rho) (o : Ow) (ρ : Rho) (σ : L2.St) (H0 H : Hp) (v : V) (d : D) : Bool → Prop
  | false => Ho C B o ρ σ H ∧ Den C (Zo B o) H v d
  | true => ∃ r, v = .ref r ∧ (H0 r = none ∨ ∃ (i : Nat) (e : D), ρ0[i]? = some (.ow false e) ∧ o0 i = some r) ∧ Ho C (fun a => B a ∨ a = r) o ρ σ H ∧ OwnAt C (Zo (fun a => B a ∨ a = r) o) H r d
theorem Res.s {C : Kw} {B : Addr → Prop} {o0 o : Ow} {ρ0 ρ : Rho} {σ : L2.St} {H0 H : Hp} {v : V} {d : D} {f : Bool} (h : Res C B o ρ σ H0 H v d f) : ResS C B o0 ρ0 o ρ σ H0 H v d f := by
  cases f with
  | false => exact h
  | true =>
    obtain ⟨r, e, n, h1, h2⟩ := h
    exact ⟨r, e, .inl n, h1, h2⟩
/-- from a later start -/
theorem ResS.back {C : Kw} {B : Addr → Prop} {o0 o1 o : Ow} {ρ0 ρ1 ρ : Rho} {σ0 σ : L2.St} {H0 H1 H : Hp} {v : V} {d : D} {f : Bool} (h : ResS C B o1 ρ1 o ρ σ H1 H v d f) (h0 : Ho C B o0 ρ0 σ0 H0) (st : Step H0 o0 H1 o1) (pn : Pn ρ0 ρ1) : ResS C B o0 ρ0 o ρ σ H0 H v d f := by
  cases f with
  | false => exact h
  | true =>
    obtain ⟨r, e, n, h1, h2⟩ := h
    refine ⟨r, e, ?_, h1, h2⟩
    rcases n with n | ⟨i, x, e1, e2⟩
    · refine .inl ?_
      cases z : H0 r with
      | none => rfl
      | some u => exact absurd n (st.dom r (by rw [z]; intro y; cases y))
    · rcases st.own i r e2 with e3 | e3
      · cases z : ρ0[i]? with
        | none => rw [h0.out i z] at e3; cases e3
        | some s =>
          obtain ⟨s1, e4, e5⟩ := pn.at z
          rw [e1] at e4
          cases e4
          have q := h0.sl i s z
          cases s with
          | un => rw [show o0 i = none from q] at e3; cases e3
          | sh p d => rw [q.1] at e3; cases e3
          | ow p d =>
            have : p = false := by simpa [Sl.pin] using e5.symm
            subst this
            exact .inr ⟨i, d, z, e3⟩
      · exact .inl e3
def EndOk (C : Kw) (B : Addr → Prop) (H : Hp) (o : Ow) (ρ : Rho) (σ : L2.St) (D : Ends) : Out → Prop
  | .nx ρ' => ∀ σ' H' o', Step H o H' o' → Pn ρ ρ' → Kp ρ σ σ' → Ho C B o' ρ' σ' H' → D.nx σ' H'
  | .bk ρ' => ∀ σ' H' o', Step H o H' o' → Pn ρ ρ' → Kp ρ σ σ' → Ho C B o' ρ' σ' H' → D.bk σ' H'
  | .ct ρ' => ∀ σ' H' o', Step H o H' o' → Pn ρ ρ' → Kp ρ σ σ' → Ho C B o' ρ' σ' H' → D.ct σ' H'
  | .rt d f ρ' => ∀ v σ' H' o', Step H o H' o' → Pn ρ ρ' → Kp ρ σ σ' → ResS C B o ρ o' ρ' σ' H H' v d f → D.rt v H'
/-- from a later start -/
theorem EndOk.of {C : Kw} {B : Addr → Prop} {H H1 : Hp} {o o1 : Ow} {ρ ρ1 : Rho} {σ σ1 : L2.St} {D : Ends} {r : Out} (h0 : Ho C B o ρ σ H) (st : Step H o H1 o1) (pn : Pn ρ ρ1) (kp : Kp ρ σ σ1) (h : EndOk C B H o ρ σ D r) : EndOk C B H1 o1 ρ1 σ1 D r := by
  cases r with
  | nx ρ' => exact fun σ' H' o' s p k ho => h σ' H' o' (st.trans s) (pn.trans p) (kp.trans pn k) ho
  | bk ρ' => exact fun σ' H' o' s p k ho => h σ' H' o' (st.trans s) (pn.trans p) (kp.trans pn k) ho
  | ct ρ' => exact fun σ' H' o' s p k ho => h σ' H' o' (st.trans s) (pn.trans p) (kp.trans pn k) ho
  | rt d f ρ' => exact fun v σ' H' o' s p k rs => h v σ' H' o' (st.trans s) (pn.trans p) (kp.trans pn k) (rs.back h0 st pn)
def tSt (C : Kw) (x : Rho → Option Out) : TS := fun D σ H => ∃ B o ρ r, Ho C B o ρ σ H ∧ x ρ = some r ∧ EndOk C B H o ρ σ D r
section
variable {X : Cx} {cn : Nat → Addr} {P : Pr} {cf : Call} {e a b c ob tgE iter elt : Expr} {es ifs : List Expr} {x y z ex' : E} {xs : Es} {pos p apos : Pos} {k : Nat} {m : Str} {te : TE} {t : TA} {tg : Tg} {it : I} {cd : Ts} {w : T} {st : Stmt} {sts : List Stmt} {s1 s2 : Ss} {s0 : S}
theorem ts_asg (ht : tg.okd = true) : ∀ D σ H, tSt (kw X cn) (fun ρ => ex P cf ρ (.asg tg x)) D σ H → tAsg (tX (kw X cn) fun ρ => ev P cf ρ x) (gTg X.K tg) D σ H := by
  rintro D σ H ⟨B, o, ρ, r, ho, he, q⟩
  simp only [ex] at he
  obtain ⟨⟨d, fr, ρ1⟩, e1, he⟩ := bind_some he
  obtain ⟨ρ2, e2, he⟩ := Option.map_eq_some_iff.mp he
  subst he
  refine ⟨B, o, ρ, _, ho, e1, fun v H1 o1 s1 pn1 rs => ?_⟩
  exact tg_any ht v σ H1 _ ⟨B, o1, ρ1, d, fr, ρ2, H, o, s1, ho.bd, rs, e2, fun σ' H' o' st _ pn kp _ h => q σ' H' o' st (pn1.trans pn) (kp.of pn1) h⟩
theorem ts_exp : ∀ D σ H, tSt (kw X cn) (fun ρ => ex P cf ρ (.exp x)) D σ H → tDrop (tX (kw X cn) fun ρ => ev P cf ρ x) D σ H := by
  rintro D σ H ⟨B, o, ρ, r, ho, he, q⟩
  simp only [ex] at he
  obtain ⟨⟨d, fr, ρ1⟩, e1, he⟩ := Option.map_eq_some_iff.mp he
  subst he
  exact ⟨B, o, ρ, _, ho, e1, fun v H1 o1 s1 pn1 rs => q σ H1 o1 s1.step pn1 .refl (rs.shared ho.bd).1⟩
theorem ts_ret (hx : ∀ i, x ≠ .var i) : ∀ D σ H, tSt (kw X cn) (fun ρ => ex P cf ρ (.ret x)) D σ H → tRet (tX (kw X cn) fun ρ => ev P cf ρ x) D σ H := by
  rintro D σ H ⟨B, o, ρ, r, ho, he, q⟩
  simp only [ex] at he
  have hr : retE ρ x (ev P cf ρ x) = ev P cf ρ x := by
    cases x <;> first | rfl | exact absurd rfl (hx _)
  rw [hr] at he
  obtain ⟨⟨d, fr, ρ1⟩, e1, he⟩ := Option.map_eq_some_iff.mp he
  subst he
  exact ⟨B, o, ρ, _, ho, e1, fun v H1 o1 s1 pn1 rs => q v σ H1 o1 s1.step pn1 .refl rs.s⟩
theorem ts_retv {i : Nat} : ∀ D σ H, tSt (kw X cn) (fun ρ => ex P cf ρ (.ret (.var i))) D σ H → tRet (tVar i) D σ H := by
  rintro D σ H ⟨B, o, ρ, r, ho, he, q⟩
  simp only [ex, retE] at he
  split at he
  · rename_i d e1
    cases he
    obtain ⟨a, e2, e3, e4⟩ := ho.sl i _ e1
    have hi := (List.getElem?_eq_some_iff.mp e1).1
    refine ⟨_, e3, q _ σ H (Ow.off o i) ⟨fun _ _ _ z => z, fun _ z => z, fun j b z => .inl (Ow.off_some z).1⟩ (Pn.set e1 rfl) .refl ⟨a, rfl, .inr ⟨i, d, e1, e2⟩, ?_, ?_⟩⟩
    · have zz : ∀ b, Zo (fun b => B b ∨ b = a) (Ow.off o i) b → Zo B o b := fun b z => by
        rcases z with (z | z) | ⟨j, z⟩
        · exact .inl z
        · exact .inr ⟨i, by rw [z]; exact e2⟩
        · exact .inr ⟨j, (Ow.off_some z).1⟩
      refine ho.chg hi (fun b u n q => ⟨q, fun z => n (zz b z)⟩) (fun _ _ _ _ => rfl) (fun j hj => Ow.off_ne hj) Ow.off_at (fun _ _ => rfl) rfl (fun j b _ z => ?_) (fun j b z w => ?_) fun b z => ?_
      · rw [Ow.off_at] at z; cases z
      · obtain ⟨z1, z2⟩ := Ow.off_some z
        rcases w with w | w
        · exact ho.nb j b z1 w
        · exact z2 (ho.inj j i a (by rw [← w]; exact z1) e2)
      · rcases z with z | z
        · exact ho.bd b z
        · rw [z]; exact e4.some
    · refine e4.mono (fun b u n q => ⟨q, fun z => n ?_⟩) rfl
      rcases z with (z | z) | ⟨j, z⟩
      · exact .inl z
      · exact .inr ⟨i, by rw [z]; exact e2⟩
      · exact .inr ⟨j, (Ow.off_some z).1⟩
  · obtain ⟨⟨d, fr, ρ1⟩, e1, he⟩ := Option.map_eq_some_iff.mp he
    subst he
    simp only [ev] at e1
    split at e1
    · rename_i p d0 e2
      cases e1
      obtain ⟨e3, v, e4, e5⟩ := ho.sl i _ e2
      exact ⟨v, e4, q v σ H o .refl .refl .refl ⟨ho, e5⟩⟩
    · rename_i p d0 e2
      cases e1
      obtain ⟨a, e3, e4, h1, h2, h3⟩ := ho.release e2
      exact ⟨_, e4, q _ σ H _ h3.step (Pn.set e2 rfl) .refl ⟨h1, h2⟩⟩
    · cases e1
theorem ts_reti {ta tb : TE} (h1 : ∀ D σ H, tSt (kw X cn) (fun ρ => ex P cf ρ (.ret x)) D σ H → tRet ta D σ H) (h2 : ∀ D σ H, tSt (kw X cn) (fun ρ => ex P cf ρ (.ret y)) D σ H → tRet tb D σ H) :
    ∀ D σ H, tSt (kw X cn) (fun ρ => ex P cf ρ (.reti w x y)) D σ H → tRet (tIf (tB (kw X cn) fun ρ => evT P cf ρ w) ta tb) D σ H := by
  rintro D σ H ⟨B, o, ρ, r, ho, he, q⟩
  simp only [ex] at he
  obtain ⟨⟨t, ρ1⟩, e1, he⟩ := bind_some he
  refine ⟨B, o, ρ, _, ho, e1, fun H1 o1 st1 pn1 g1 => ?_⟩
  cases t with
  | true => exact h1 D σ H1 ⟨B, o1, ρ1, r, g1, by simp only [ex]; exact he, q.of ho st1.step pn1 .refl⟩
  | false => exact h2 D σ H1 ⟨B, o1, ρ1, r, g1, by simp only [ex]; exact he, q.of ho st1.step pn1 .refl⟩
theorem ts_iff {c1 c2 : TS} (h1 : ∀ D σ H, tSt (kw X cn) (fun ρ => exs P cf ρ s1) D σ H → c1 D σ H) (h2 : ∀ D σ H, tSt (kw X cn) (fun ρ => exs P cf ρ s2) D σ H → c2 D σ H) :
    ∀ D σ H, tSt (kw X cn) (fun ρ => ex P cf ρ (.iff w s1 s2)) D σ H → tIfS (tB (kw X cn) fun ρ => evT P cf ρ w) c1 c2 D σ H := by
  rintro D σ H ⟨B, o, ρ, r, ho, he, q⟩
  simp only [ex] at he
  obtain ⟨⟨t, ρ1⟩, e1, he⟩ := bind_some he
  refine ⟨B, o, ρ, _, ho, e1, fun H1 o1 st1 pn1 g1 => ?_⟩
  cases t with
  | true => exact h1 D σ H1 ⟨B, o1, ρ1, r, g1, he, q.of ho st1.step pn1 .refl⟩
  | false => exact h2 D σ H1 ⟨B, o1, ρ1, r, g1, he, q.of ho st1.step pn1 .refl⟩
theorem tss_nil : ∀ D σ H, tSt (kw X cn) (fun ρ => exs P cf ρ .nil) D σ H → tNext D σ H := by
  rintro D σ H ⟨B, o, ρ, r, ho, he, q⟩
  simp only [exs] at he
  cases he
  exact q σ H o .refl .refl .refl ho
theorem tss_cons {c1 c2 : TS} (h1 : ∀ D σ H, tSt (kw X cn) (fun ρ => ex P cf ρ s0) D σ H → c1 D σ H) (h2 : ∀ D σ H, tSt (kw X cn) (fun ρ => exs P cf ρ s2) D σ H → c2 D σ H) :
    ∀ D σ H, tSt (kw X cn) (fun ρ => exs P cf ρ (.cons s0 s2)) D σ H → tSeq c1 c2 D σ H := by
  rintro D σ H ⟨B, o, ρ, r, ho, he, q⟩
  simp only [exs] at he
  obtain ⟨u, e1, he⟩ := bind_some he
  refine h1 _ σ H ⟨B, o, ρ, u, ho, e1, ?_⟩
  cases u with
  | nx ρ1 => exact fun σ1 H1 o1 st pn kp g => h2 D σ1 H1 ⟨B, o1, ρ1, r, g, he, q.of ho st pn kp⟩
  | bk ρ1 => cases he; exact q
  | ct ρ1 => cases he; exact q
  | rt d f ρ1 => cases he; exact q
theorem ts_brk : ∀ D σ H, tSt (kw X cn) (fun ρ => ex P cf ρ .brk) D σ H → tBreak D σ H := by
  rintro D σ H ⟨B, o, ρ, r, ho, he, q⟩
  simp only [ex] at he
  cases he
  exact q σ H o .refl .refl .refl ho
theorem ts_cnt : ∀ D σ H, tSt (kw X cn) (fun ρ => ex P cf ρ .cnt) D σ H → tCont D σ H := by
  rintro D σ H ⟨B, o, ρ, r, ho, he, q⟩
  simp only [ex] at he
  cases he
  exact q σ H o .refl .refl .refl ho
theorem ts_pss : ∀ D σ H, tSt (kw X cn) (fun ρ => ex P cf ρ .pss) D σ H → tNext D σ H := by
  rintro D σ H ⟨B, o, ρ, r, ho, he, q⟩
  simp only [ex] at he
  cases he
  exact q σ H o .refl .refl .refl ho
end
end BK

set_option Elab.async false
set_option linter.all false
set_option maxRecDepth 100000
set_option maxHeartbeats 2000000
/-! BK13: loops, items and fields set, changes in place. -/
namespace BK
open PySem PySem.Spec PyProof.Rows L2
section
variable {X : Cx} {cn : Nat → Addr} {P : Pr} {cf : Call} {e a b c ob tgE iter elt : Expr} {es ifs : List Expr} {x y z ex' : E} {xs : Es} {pos p apos : Pos} {k : Nat} {m : Str} {te : TE} {t : TA} {tg : Tg} {it : I} {cd : Ts} {w : T} {st : Stmt} {sts : List Stmt} {s1 s2 : Ss} {s0 : S}
theorem ts_for {tb : TS} (ht : tg.okd = true) (hb : ∀ D σ H, tSt (kw X cn) (fun ρ => exs P cf ρ s1) D σ H → tb D σ H) :
    ∀ D σ H, tSt (kw X cn) (fun ρ => ex P cf ρ (.for_ tg it s1)) D σ H → tFor (tI (kw X cn) fun ρ => evI P cf ρ it) (gTg X.K tg) tb D σ H := by
  rintro D σ H ⟨B, o, ρ, r, ho, he, q⟩
  simp only [ex] at he
  obtain ⟨⟨xs, ρ1⟩, e1, he⟩ := bind_some he
  refine ⟨B, o, ρ, (xs, ρ1), ho, e1, fun J G vs H1 o1 s1' pn1 h1 dv wk kG => ?_⟩
  have lenv : vs.length = xs.length := dv.length
  have q1 := q.of ho s1'.step pn1 .refl
  let f : Rho → BK.D → Option Out := fun ρ' x => (tg.bind ρ' x false).bind fun ρ2 => exs P cf ρ2 s1
  have he : forLoop f ρ1 xs = some r := he
  let W : Nat → Nat → L2.St → Hp → Prop := fun i m σi H => m = vs.length - i ∧ i ≤ vs.length ∧ ∃ o' ρ', Step H1 o1 H o' ∧ Pn ρ1 ρ' ∧ Kp ρ1 σ σi ∧ Ho (kw X cn) B o' ρ' σi H ∧ forLoop f ρ' (xs.drop i) = some r
  refine ⟨W, ⟨vs.length, by simp, Nat.zero_le _, o1, ρ1, .refl, .refl, .refl, h1, by simpa using he⟩, ?_⟩
  rintro i m σi H2 ⟨rfl, hi, o', ρ', s2', pn2, kp2, h2, hloop⟩
  have kz := s2'.kz (B' := B)
  have gG : G H2 := kG H2 fun a h n e => s2'.keep a h (fun z => n (.inr z)) e
  have q2 : EndOk (kw X cn) B H2 o' ρ' σi D r := q1.of h1 s2' pn2 kp2
  by_cases hi2 : i < vs.length
  · refine .inr ⟨wk.go i H2 gG hi2, fun σ' H' => W (i + 1) (vs.length - (i + 1)) σ' H', fun σ' H' w => ⟨_, by omega, w⟩, fun w H' hy => ?_⟩
    obtain ⟨rfl, ew⟩ := wk.yld i H2 w H' gG hi2 hy
    obtain ⟨d, ed⟩ : ∃ d, xs[i]? = some d := ⟨_, List.getElem?_eq_getElem (by rw [← lenv]; exact hi2)⟩
    obtain ⟨w', ew', dw⟩ := dv.get ed
    rw [ew] at ew'
    cases ew'
    have dw2 := dw.step s2'
    have hdrop : xs.drop i = d :: xs.drop (i + 1) := by
      rw [List.drop_eq_getElem_cons (by rw [← lenv]; exact hi2)]
      congr 1
      rw [List.getElem?_eq_getElem (by rw [← lenv]; exact hi2)] at ed
      exact Option.some.inj ed
    rw [hdrop] at hloop
    simp only [forLoop] at hloop
    obtain ⟨u, f1, hloop⟩ := bind_some hloop
    obtain ⟨ρ3, f2, f3⟩ := bind_some (m := tg.bind ρ' d false) f1
    refine tg_any ht w σi H' _ ⟨B, o', ρ', d, false, ρ3, H', o', .refl, h2.bd, ⟨h2, dw2⟩, f2, fun σ2 H3 o3 st3 se pn3 kp3 sm h3 => ?_⟩
    have se := se rfl
    refine hb _ σ2 H3 ⟨B, o3, ρ3, u, h3, f3, ?_⟩
    have q3 := q2.of h2 st3 pn3 kp3
    have next : ∀ ρ4, forLoop f ρ4 (xs.drop (i + 1)) = some r → ∀ σ' H' o'', Step H3 o3 H' o'' → Pn ρ3 ρ4 → Kp ρ3 σ2 σ' → Ho (kw X cn) B o'' ρ4 σ' H' → W (i + 1) (vs.length - (i + 1)) σ' H' := fun ρ4 hl σ' H' o'' st4 pn4 kp4 h4 =>
      ⟨rfl, by omega, o'', ρ4, (s2'.trans st3).trans st4, (pn2.trans pn3).trans pn4, kp2.trans pn2 (kp3.trans pn3 kp4), h4, hl⟩
    cases u with
    | nx ρ4 => exact next ρ4 hloop
    | ct ρ4 => exact next ρ4 hloop
    | bk ρ4 => cases hloop; exact q3
    | rt d' f' ρ4 => cases hloop; exact q3
  · have hi3 : i = vs.length := by omega
    subst hi3
    rw [List.drop_eq_nil_of_le (by omega)] at hloop
    simp only [forLoop] at hloop
    cases hloop
    exact .inl ⟨wk.stop _ H2 gG (Nat.le_refl _), q2 σi H2 o' .refl .refl .refl h2⟩
theorem ts_whl {tb : TS} (hb : ∀ D σ H, tSt (kw X cn) (fun ρ => exs P cf ρ s1) D σ H → tb D σ H) :
    ∀ D σ H, tSt (kw X cn) (fun ρ => ex P cf ρ (.whl w s1)) D σ H → tWhile (tB (kw X cn) fun ρ => evT P cf ρ w) tb D σ H := by
  rintro D σ H ⟨B, o, ρ, r, ho, he, q⟩
  simp only [ex] at he
  let W : Nat → L2.St → Hp → Prop := fun m σi H2 => ∃ o' ρ', Step H o H2 o' ∧ Pn ρ ρ' ∧ Kp ρ σ σi ∧ Ho (kw X cn) B o' ρ' σi H2 ∧ whlLoop (fun ρ' => evT P cf ρ' w) (fun ρ' => exs P cf ρ' s1) m ρ' = some r
  refine ⟨W, ⟨most, o, ρ, .refl, .refl, .refl, ho, he⟩, ?_⟩
  rintro m σi H2 ⟨o', ρ', s2', pn2, kp2, h2, hloop⟩
  cases m with
  | zero => simp [whlLoop] at hloop
  | succ m =>
    simp only [whlLoop] at hloop
    obtain ⟨⟨t, ρ1⟩, e1, hloop⟩ := bind_some hloop
    have q2 : EndOk (kw X cn) B H2 o' ρ' σi D r := q.of ho s2' pn2 kp2
    refine ⟨B, o', ρ', _, h2, e1, fun H3 o3 s3 pn3 h3 => ?_⟩
    have q3 := q2.of h2 s3.step pn3 .refl
    cases t with
    | true =>
      simp only [if_true] at hloop ⊢
      obtain ⟨u, e2, hloop⟩ := bind_some hloop
      refine ⟨fun σ' H' => W m σ' H', fun σ' H' w => ⟨m, Nat.lt_succ_self _, w⟩, hb _ σi H3 ⟨B, o3, ρ1, u, h3, e2, ?_⟩⟩
      have next : ∀ ρ4, whlLoop (fun ρ' => evT P cf ρ' w) (fun ρ' => exs P cf ρ' s1) m ρ4 = some r → ∀ σ' H' o'', Step H3 o3 H' o'' → Pn ρ1 ρ4 → Kp ρ1 σi σ' → Ho (kw X cn) B o'' ρ4 σ' H' → W m σ' H' := fun ρ4 hl σ' H' o'' st4 pn4 kp4 h4 =>
        ⟨o'', ρ4, (s2'.trans s3.step).trans st4, (pn2.trans pn3).trans pn4, kp2.trans pn2 (kp4.of pn3), h4, hl⟩
      cases u with
      | nx ρ4 => exact next ρ4 hloop
      | ct ρ4 => exact next ρ4 hloop
      | bk ρ4 => cases hloop; exact q3
      | rt d' f' ρ4 => cases hloop; exact q3
    | false =>
      simp only [Bool.false_eq_true, if_false] at hloop ⊢
      cases hloop
      exact q3 σi H3 o3 .refl .refl .refl h3
/-! x[i] = e -/
theorem ts_set {i : Nat} : ∀ D σ H, tSt (kw X cn) (fun ρ => ex P cf ρ (.set i x y)) D σ H → tAsg (tX (kw X cn) fun ρ => ev P cf ρ y) (gSub (tVar i) (tX (kw X cn) fun ρ => ev P cf ρ x) rSet) D σ H := by
  rintro D σ H ⟨B, o, ρ, r, ho, he, q⟩
  simp only [ex] at he
  obtain ⟨⟨d, fr, ρ1⟩, e1, he⟩ := bind_some he
  split at he
  · rename_i p0 d0 e0
    obtain ⟨⟨kd, fr2, ρ2⟩, e2, he⟩ := bind_some he
    obtain ⟨ρ3, e3, he⟩ := Option.map_eq_some_iff.mp he
    subst he
    refine ⟨B, o, ρ, _, ho, e1, fun v H1 o1 s1 pn1 rs => ?_⟩
    obtain ⟨h1, dv⟩ := rs.shared ho.bd
    obtain ⟨a, z1, z2, _⟩ := h1.sl i _ e0
    refine ⟨_, z2, B, o1, ρ1, _, h1, e2, fun kv H2 o2 s2 pn2 rs2 => ?_⟩
    obtain ⟨h2, dk⟩ := rs2.shared h1.bd
    obtain ⟨a', w1, w2, w3⟩ := setAt_ok (Q := fun H3 => D.nx σ H3) h2 e3 dk (dv.step s2.step)
    rw [z2] at w2
    cases w2
    exact w3 fun H' s3 pn3 h3 => q σ H' o2 ((s1.trans s2).trans s3).step ((pn1.trans pn2).trans pn3) .refl h3
  · cases he
/-! x += e (whole numbers) -/
def ipOf (op : Op) : TIp := match op with
  | .sub => ipI fun i j => i - j
  | _ => ipI fun i j => i + j
theorem augD_ok {C : Kw} {Z : Addr → Prop} {H : Hp} {op : Op} {b d r : BK.D} {v w : V} {Q : VK} (e : augD op b d = some r) (hb : Den C Z H v b) (hd : Den C Z H w d) (q : ∀ i, r = .int i → Q (.int i) H) : ipOf op v w H Q := by
  unfold augD at e
  split at e
  · rename_i i j
    cases hb
    cases hd
    split at e
    · cases e
      exact ⟨i, j, rfl, rfl, q _ rfl⟩
    · cases e
      exact ⟨i, j, rfl, rfl, q _ rfl⟩
    · cases e
  · cases e
theorem ts_aug {i : Nat} {op : Op} : ∀ D σ H, tSt (kw X cn) (fun ρ => ex P cf ρ (.aug i op x)) D σ H → tAug i (tX (kw X cn) fun ρ => ev P cf ρ x) (ipOf op) D σ H := by
  rintro D σ H ⟨B, o, ρ, r, ho, he, q⟩
  simp only [ex] at he
  obtain ⟨⟨d, fr, ρ1⟩, e1, he⟩ := bind_some he
  split at he
  · rename_i b eb
    obtain ⟨r0, e2, he⟩ := bind_some he
    obtain ⟨ρ2, e3, he⟩ := Option.map_eq_some_iff.mp he
    subst he
    obtain ⟨z1, v0, z2, z3⟩ := ho.sl i _ eb
    refine ⟨v0, z2, B, o, ρ, _, ho, e1, fun v H1 o1 s1 pn1 rs => ?_⟩
    obtain ⟨h1, dv⟩ := rs.shared ho.bd
    refine augD_ok e2 (z3.step s1.step) dv fun n hn => ?_
    subst hn
    refine tg_nm (cn := cn) (X := X) (.int n) σ H1 (fun σ' H' => D.nx σ' H') ⟨B, o1, ρ1, .int n, false, ρ2, H, o, s1, ho.bd, ⟨h1, .int n⟩, e3, fun σ' H' o' st _ pn kp _ h => q σ' H' o' st (pn1.trans pn) (kp.of pn1) h⟩
  · cases he
/-! x[i] += e (whole numbers in a list) -/
def rGetL (K : PySem.W.Frag) : V → V → Hp → VK → Prop := fun o i H Q => ∃ p xs k z, o = V.ref p ∧ i = V.int k ∧ SqL K H p xs ∧ atI xs k = some z ∧ Q z H
theorem get_list : PGet X (rGetL X.K) := by
  rintro pins s σ H ov iv v u Q I r1 r2 ⟨p, xs, k, z, rfl, rfl, hx, hz, q⟩
  cases r1
  obtain ⟨t, rfl⟩ := r2
  obtain ⟨its, rv, pl, hl⟩ := I.list hx
  obtain ⟨j, h1, h2, h3, h4, h5⟩ := atI_get hz
  obtain ⟨w, ew, rw'⟩ := Vals.get rv h2
  have hlen : xs.length = its.length := Vals.length rv
  have h63 := line63
  unfold seqIndex? at h1
  dsimp only at h1
  by_cases hk : 0 ≤ k
  · rw [show (if k < 0 then k + (xs.length : Int) else k) = k from if_neg (by omega)] at h1
    split at h1
    · cases h1
      refine wpAny_getItem_list pl.isList hk (by omega) (x := w) (by simpa using ew) ⟨z, H, I, rw', q⟩
    · cases h1
  · rw [show (if k < 0 then k + (xs.length : Int) else k) = k + (xs.length : Int) from if_pos (by omega)] at h1
    split at h1
    · cases h1
      have : its.toArray.size = xs.length := by simp [hlen]
      refine wpAny_getItem_list_neg pl.isList (by omega) (by omega) (by omega) (x := w) (by rw [this]; simpa using ew) ⟨z, H, I, rw', q⟩
    · cases h1
theorem ts_augi {i : Nat} {op : Op} : ∀ D σ H, tSt (kw X cn) (fun ρ => ex P cf ρ (.augi i x op y)) D σ H → tAugS (tVar i) (tX (kw X cn) fun ρ => ev P cf ρ x) (tX (kw X cn) fun ρ => ev P cf ρ y) (rGetL X.K) (ipOf op) rSet D σ H := by
  rintro D σ H ⟨B, o, ρ, r, ho, he, q⟩
  simp only [ex] at he
  split at he
  · rename_i p0 d0 e0
    obtain ⟨⟨kd, fr, ρ1⟩, e1, he⟩ := bind_some he
    split at he
    · rename_i p xs' n e2 ek
      have ek : kd = .int n := ek
      subst ek
      obtain ⟨b, e3, he⟩ := bind_some he
      obtain ⟨⟨d, fr2, ρ2⟩, e4, he⟩ := bind_some he
      obtain ⟨r0, e5, he⟩ := bind_some he
      split at he
      · rename_i p2 ys e6
        obtain ⟨j, e7, he⟩ := Option.map_eq_some_iff.mp he
        subst he
        obtain ⟨a, z1, z2, z3⟩ := ho.sl i _ e0
        refine ⟨_, z2, B, o, ρ, _, ho, e1, fun kv H1 o1 s1 pn1 rs => ?_⟩
        obtain ⟨h1, dk⟩ := rs.shared ho.bd
        cases dk
        obtain ⟨a', w1, w2, vs, w3, w4⟩ := h1.sl i _ e2
        rw [z2] at w2
        cases w2
        obtain ⟨v0, g1, g2⟩ := atD_ok w4 e3
        refine ⟨a, vs, n, v0, rfl, rfl, SqL.of w3, g1, ?_⟩
        refine ⟨B, o1, ρ1, _, h1, e4, fun v H2 o2 s2 pn2 rs2 => ?_⟩
        obtain ⟨h2, dv⟩ := rs2.shared h1.bd
        refine augD_ok e5 (g2.step s2.step) dv fun m hm => ?_
        subst hm
        have hset : setAt ρ2 i (.int n) (.int m) = some (ρ2.set i (.ow p2 (.lst (ys.set j (.int m))))) := by
          unfold setAt
          rw [e6]
          simp only [e7, Option.map_some]
        obtain ⟨a2, u1, u2, u3⟩ := setAt_ok (Q := fun H3 => D.nx σ H3) (kv := .int n) h2 hset (.int n) (.int m)
        rw [z2] at u2
        cases u2
        exact u3 fun H' s3 pn3 h3 => q σ H' o2 ((s1.trans s2).trans s3).step ((pn1.trans pn2).trans pn3) .refl h3
      · cases he
    · cases he
  · cases he
/-! x.f = e -/
theorem fput_ok {C : Kw} {Z : Addr → Prop} {H : Hp} {n : Str} {v : V} {d : BK.D} (hv : Den C Z H v d) : ∀ {ns : List Str} {vs : List V} {ds : List BK.D}, ns.length = vs.length → DenAll C Z H vs ds →
    ∃ ws, putF n v (ns.zip vs) = (fput ns ds n d).1.zip ws ∧ (fput ns ds n d).1.length = ws.length ∧ DenAll C Z H ws (fput ns ds n d).2
  | [], [], _, _, .nil => ⟨[v], rfl, rfl, .cons hv .nil⟩
  | [], _ :: _, _, h, _ => by simp at h
  | _ :: _, [], _, h, _ => by simp at h
  | m :: ns, v' :: vs, _, hl, .cons (d := d') (ds := ds) h t => by
    obtain ⟨ws, h1, h2, h3⟩ := fput_ok (n := n) hv (ns := ns) (by simpa using hl) t
    by_cases e : m = n
    · have e1 : fput (m :: ns) (d' :: ds) n d = (m :: ns, d :: ds) := if_pos e
      have e2 : putF n v ((m, v') :: ns.zip vs) = (m, v) :: ns.zip vs := if_pos e
      rw [e1, List.zip_cons_cons, e2]
      exact ⟨v :: vs, rfl, by simpa using hl, .cons hv t⟩
    · have e1 : fput (m :: ns) (d' :: ds) n d = (m :: (fput ns ds n d).1, d' :: (fput ns ds n d).2) := if_neg e
      have e2 : putF n v ((m, v') :: ns.zip vs) = (m, v') :: putF n v (ns.zip vs) := if_neg e
      rw [e1, List.zip_cons_cons, e2, h1]
      exact ⟨v' :: ws, rfl, by simp [h2], .cons h h3⟩
theorem any_some {α : Type} {o : Option α} {f : α → Bool} (h : o.any f = true) : ∃ a, o = some a ∧ f a = true := by
  cases o with
  | none => cases h
  | some a => exact ⟨a, rfl, h⟩
theorem ts_setf {i k : Nat} {n : Str} (hc : ∀ (c : Nat) kl, P.cls[c]? = some kl → CkOk X cn P cf k c kl) : ∀ D σ H, tSt (kw X cn) (fun ρ => ex P cf ρ (.setf i n x)) D σ H → sFld X.K (tVar i) (tX (kw X cn) fun ρ => ev P cf ρ x) n D σ H := by
  rintro D σ H ⟨B, o, ρ, r, ho, he, q⟩
  simp only [ex] at he
  obtain ⟨⟨d, fr, ρ1⟩, e1, he⟩ := bind_some he
  split at he
  · rename_i p c ns ds e2
    split at he
    · rename_i hn
      cases he
      refine ⟨B, o, ρ, _, ho, e1, fun v H1 o1 s1 pn1 rs => ?_⟩
      obtain ⟨h1, dv⟩ := rs.shared ho.bd
      obtain ⟨a, z1, z2, dx, vs, z3, z4, z5⟩ := h1.sl i _ e2
      obtain ⟨kl, k1, k2⟩ := any_some hn.2
      have F := hc c kl k1
      refine ⟨_, z2, a, cn c, dx, _, rfl, z3, F.cls, F.na n k2, ?_, ?_⟩
      · rw [List.length_zip]
        exact Nat.lt_of_le_of_lt (Nat.min_le_left _ _) (Nat.lt_trans hn.1 (by decide))
      · obtain ⟨ws, w1, w2, w3⟩ := fput_ok (n := n) dv z4 z5
        rw [w1]
        have := h1.change e2 z1 upd_off (d' := .ins c (fput ns ds n d).1 (fput ns ds n d).2) (H' := upd H1 a (.ins (cn c) dx ((fput ns ds n d).1.zip ws))) ⟨dx, _, upd_same, w2, w3.mono (kp_own z1)⟩
        exact q σ _ o1 (s1.trans this.2).step (pn1.trans (Pn.set e2 rfl)) .refl this.1
    · cases he
  · cases he
end
end BK

set_option Elab.async false
set_option linter.all false
set_option maxRecDepth 100000
set_option maxHeartbeats 2000000
/-! BK13b: several values to several names at once: what is new stays new. -/
namespace BK
open PySem PySem.Spec PyProof.Rows L2
inductive Fs (C : Kw) (Z : Addr → Prop) (H : Hp) : List (Option Addr) → List V → List (BK.D × Bool) → Prop
  | nil : Fs C Z H [] [] []
  | sh {v : V} {d : BK.D} {fs : List (Option Addr)} {vs : List V} {ds : List (BK.D × Bool)} : Den C Z H v d → Fs C Z H fs vs ds → Fs C Z H (none :: fs) (v :: vs) ((d, false) :: ds)
  | ow {a : Addr} {d : BK.D} {fs : List (Option Addr)} {vs : List V} {ds : List (BK.D × Bool)} : OwnAt C Z H a d → Fs C Z H fs vs ds → Fs C Z H (some a :: fs) (.ref a :: vs) ((d, true) :: ds)
/-- the hidden, and these -/
def Bf (B : Addr → Prop) (fs : List (Option Addr)) : Addr → Prop := fun a => B a ∨ some a ∈ fs
def tFs (C : Kw) (x : Rho → Option (List (BK.D × Bool) × Rho)) : TA := fun σ H Q => ∃ B o ρ r, Ho C B o ρ σ H ∧ x ρ = some r ∧
  ∀ vs H' o' fs, StepE H o H' o' → Pn ρ r.2 → Ho C (Bf B fs) o' r.2 σ H' → Fs C (Zo (Bf B fs) o') H' fs vs r.1 → (∀ a, some a ∈ fs → H a = none) → (fs.filterMap id).Nodup → Q vs H'
section
variable {X : Cx} {cn : Nat → Addr} {P : Pr} {cf : Call} {e : Expr} {es : List Expr} {x : E} {xs : Es}
theorem Fs.mono {C : Kw} {Z Z' : Addr → Prop} {H H' : Hp} (k : ∀ a h, ¬ Z a → H a = some h → H' a = some h ∧ ¬ Z' a) : ∀ {fs : List (Option Addr)} {vs : List V} {ds : List (BK.D × Bool)}, (∀ a, some a ∈ fs → H' a = H a) → Fs C Z H fs vs ds → Fs C Z' H' fs vs ds
  | _, _, _, _, .nil => .nil
  | _, _, _, q, .sh h t => .sh (h.mono k) (Fs.mono k (fun a m => q a (List.mem_cons_of_mem _ m)) t)
  | _, _, _, q, .ow h t => .ow (h.mono k (q _ List.mem_cons_self)) (Fs.mono k (fun a m => q a (List.mem_cons_of_mem _ m)) t)
theorem tfs_nil : PA X [] (tFs (kw X cn) fun ρ => evf P cf ρ .nil) := by
  refine pa_nil.imp fun σ H Q ⟨B, o, ρ, r, ho, he, q⟩ => ?_
  simp only [evf] at he
  cases he
  exact q [] H o [] .refl .refl (ho.show fun a z => z.elim id fun y => by cases y) .nil (fun a z => by cases z) (by simp)
theorem tfs_cons (h : PE X e (tX (kw X cn) fun ρ => ev P cf ρ x)) (ht : PA X es (tFs (kw X cn) fun ρ => evf P cf ρ xs)) (hs : starEach (e :: es) X.env = (false, eval e X.env) :: starEach es X.env) :
    PA X (e :: es) (tFs (kw X cn) fun ρ => evf P cf ρ (.cons x xs)) := by
  refine (pa_cons h ht hs).imp fun σ H Q ⟨B, o, ρ, r, ho, he, q⟩ => ?_
  simp only [evf] at he
  obtain ⟨⟨d, f, ρ1⟩, e1, he⟩ := bind_some he
  obtain ⟨⟨ds, ρ2⟩, e2, he⟩ := Option.map_eq_some_iff.mp he
  cases he
  refine ⟨B, o, ρ, _, ho, e1, fun v H1 o1 s1 pn1 rs => ?_⟩
  cases f with
  | false =>
    obtain ⟨h1, d1⟩ := rs
    refine ⟨B, o1, ρ1, _, h1, e2, fun vs H2 o2 fs s2 pn2 h2 f2 n2 nd => ?_⟩
    have sub : ∀ a, Bf B (none :: fs) a → Bf B fs a := fun a z => z.imp id fun y => by simpa using y
    have zz : ∀ a, Zo (Bf B (none :: fs)) o2 a → Zo (Bf B fs) o2 a := fun a z => z.imp (sub a) id
    refine q (v :: vs) H2 o2 (none :: fs) (s1.trans s2) (pn1.trans pn2) (h2.show sub) (.sh (d1.mono fun a u n q => ⟨s2.keep a u (fun z => n (.inr z)) q, fun z => ?_⟩) (f2.mono (fun a u n q => ⟨q, fun z => n (zz a z)⟩) fun _ _ => rfl)) (fun a z => s1.back a (n2 a (by simpa using z))) (by simpa using nd)
    rcases z with z | ⟨j, z⟩
    · rcases sub a z with z | z
      · exact n (.inl z)
      · rw [n2 a z] at q; cases q
    · exact n (.inr ⟨j, s2.own j a z⟩)
  | true =>
    obtain ⟨p, rfl, n, h1, w1⟩ := rs
    refine ⟨_, o1, ρ1, _, h1, e2, fun vs H2 o2 fs s2 pn2 h2 f2 n2 nd => ?_⟩
    have hp1 : H1 p ≠ none := w1.some
    have hpf : some p ∉ fs := fun z => hp1 (n2 p z)
    have sub : ∀ a, Bf B (some p :: fs) a → Bf (fun a => B a ∨ a = p) fs a := fun a z => by
      rcases z with z | z
      · exact .inl (.inl z)
      · rcases List.mem_cons.mp z with z | z
        · exact .inl (.inr (Option.some.inj z))
        · exact .inr z
    have zz : ∀ a, Zo (Bf B (some p :: fs)) o2 a → Zo (Bf (fun a => B a ∨ a = p) fs) o2 a := fun a z => z.imp (sub a) id
    have kp : H2 p = H1 p := by
      cases z : H1 p with
      | none => exact absurd z hp1
      | some u => exact s2.keep p u (fun ⟨j, y⟩ => h1.nb j p y (.inr rfl)) z
    refine q (.ref p :: vs) H2 o2 (some p :: fs) (s1.trans s2) (pn1.trans pn2) (h2.show sub) (.ow (w1.mono (fun a u n q => ⟨s2.keep a u (fun z => n (.inr z)) q, fun z => ?_⟩) kp) (f2.mono (fun a u n q => ⟨q, fun z => n (zz a z)⟩) fun _ _ => rfl)) (fun a z => ?_) ?_
    · rcases zz a z with (z | z) | ⟨j, z⟩
      · exact n (.inl z)
      · rw [n2 a z] at q; cases q
      · exact n (.inr ⟨j, s2.own j a z⟩)
    · rcases List.mem_cons.mp z with z | z
      · cases z; exact n
      · exact s1.back a (n2 a z)
    · simp only [List.filterMap_cons, id_eq, List.nodup_cons]
      refine ⟨fun z => hpf ?_, nd⟩
      obtain ⟨b, hb, eb⟩ := List.mem_filterMap.mp z
      have : b = some p := eb
      rw [← this]; exact hb
/-- names take the values one after another -/
theorem binds_ok {C : Kw} {B : Addr → Prop} {H0 : Hp} {o0 : Ow} : ∀ {is : List Nat} {o : Ow} {ρ ρ' : Rho} {σ : L2.St} {H : Hp} {fs : List (Option Addr)} {vs : List V} {ds : List (BK.D × Bool)}, Ho C (Bf B fs) o ρ σ H → Fs C (Zo (Bf B fs) o) H fs vs ds → (fs.filterMap id).Nodup → (∀ a, some a ∈ fs → ¬ B a) →
    (∀ i a, o i = some a → o0 i = some a ∨ H0 a = none) → (∀ a, some a ∈ fs → H0 a = none) → puts ρ (is.map Tg1.nm) ds = some ρ' →
    ∃ o', Ho C B o' ρ' ((is.zip vs).foldl (fun σ z => σ.set z.1 (some z.2)) σ) H ∧ Pn ρ ρ' ∧ Kp ρ σ ((is.zip vs).foldl (fun σ z => σ.set z.1 (some z.2)) σ) ∧ (∀ i a, o' i = some a → o0 i = some a ∨ H0 a = none)
  | [], o, ρ, ρ', σ, H, fs, vs, ds, ho, hf, nd, nb, ow, fr, hp => by
    cases hf with
    | nil =>
      simp only [List.map_nil, puts] at hp
      cases hp
      exact ⟨o, ho.show fun a z => .inl z, .refl, .refl, ow⟩
    | sh _ _ => simp [puts] at hp
    | ow _ _ => simp [puts] at hp
  | i :: is, o, ρ, ρ', σ, H, fs, vs, ds, ho, hf, nd, nb, ow, fr, hp => by
    cases hf with
    | nil => simp [puts] at hp
    | @sh v d fs vs ds hd hf =>
      simp only [List.map_cons, puts] at hp
      obtain ⟨ρ1, e1, e2⟩ := bind_some hp
      obtain ⟨t, e, hpn, rfl⟩ := put_ok (s := .sh false d) e1
      have hi := (List.getElem?_eq_some_iff.mp e).1
      have hl : i < σ.length := by rw [← ho.len]; exact hi
      have sub : ∀ a, Bf B fs a → Bf B (none :: fs) a := fun a z => z.imp id fun y => List.mem_cons_of_mem _ y
      have zz : ∀ a, Zo (Bf B fs) (Ow.off o i) a → Zo (Bf B (none :: fs)) o a := fun a z => by
        rcases z with z | ⟨j, z⟩
        · exact .inl (sub a z)
        · exact .inr ⟨j, (Ow.off_some z).1⟩
      have h1 : Ho C (Bf B fs) (Ow.off o i) (ρ.set i (.sh false d)) (σ.set i (some v)) H := by
        refine ho.chg hi (fun b u n q => ⟨q, fun z => n (zz b z)⟩) (fun _ _ _ _ => rfl) (fun j hj => Ow.off_ne hj) ?_ (fun j hj => List.getElem?_set_ne (Ne.symm hj)) List.length_set (fun j b _ z => ?_) (fun j b z w => ho.nb j b (Ow.off_some z).1 (sub b w)) fun b w => ho.bd b (sub b w)
        · rw [Ow.off_at]
          exact ⟨rfl, v, List.getElem?_set_self hl, hd.mono fun a u n q => ⟨q, fun z => n (zz a z)⟩⟩
        · rw [Ow.off_at] at z; cases z
      obtain ⟨o', g1, g2, g3, g4⟩ := binds_ok h1 (hf.mono (fun a u n q => ⟨q, fun z => n (zz a z)⟩) fun _ _ => rfl) (by simpa using nd) (fun a m => nb a (List.mem_cons_of_mem _ m)) (fun j a z => ow j a (Ow.off_some z).1) (fun a m => fr a (List.mem_cons_of_mem _ m)) e2
      have pn0 : Pn ρ (ρ.set i (.sh false d)) := Pn.set e (by rw [hpn]; rfl)
      exact ⟨o', g1, pn0.trans g2, (kp_set e hpn).trans pn0 g3, g4⟩
    | @ow r d fs vs ds hd hf =>
      simp only [List.map_cons, puts] at hp
      obtain ⟨ρ1, e1, e2⟩ := bind_some hp
      obtain ⟨t, e, hpn, rfl⟩ := put_ok (s := .ow false d) e1
      have hi := (List.getElem?_eq_some_iff.mp e).1
      have hl : i < σ.length := by rw [← ho.len]; exact hi
      have nr : some r ∉ fs := fun z => by
        simp only [List.filterMap_cons, id_eq, List.nodup_cons] at nd
        exact nd.1 (List.mem_filterMap.mpr ⟨some r, z, rfl⟩)
      have nbr : ¬ Bf B fs r := fun z => z.elim (nb r List.mem_cons_self) nr
      have sub : ∀ a, Bf B fs a → Bf B (some r :: fs) a := fun a z => z.imp id fun y => List.mem_cons_of_mem _ y
      let o1 : Ow := fun j => if j = i then some r else o j
      have oi : o1 i = some r := if_pos rfl
      have on : ∀ j, j ≠ i → o1 j = o j := fun j h => if_neg h
      have os : ∀ j a, o1 j = some a → (j = i ∧ a = r) ∨ (j ≠ i ∧ o j = some a) := fun j a z => by
        by_cases h : j = i
        · subst h
          rw [oi] at z
          exact .inl ⟨rfl, (Option.some.inj z).symm⟩
        · rw [on j h] at z
          exact .inr ⟨h, z⟩
      have zz : ∀ a, Zo (Bf B fs) o1 a → Zo (Bf B (some r :: fs)) o a := fun a z => by
        rcases z with z | ⟨j, z⟩
        · exact .inl (sub a z)
        · rcases os j a z with ⟨_, h⟩ | ⟨_, h⟩
          · exact .inl (.inr (by rw [h]; exact List.mem_cons_self))
          · exact .inr ⟨j, h⟩
      have h1 : Ho C (Bf B fs) o1 (ρ.set i (.ow false d)) (σ.set i (some (.ref r))) H := by
        refine ho.chg hi (fun b u n q => ⟨q, fun z => n (zz b z)⟩) (fun _ _ _ _ => rfl) on ⟨r, oi, List.getElem?_set_self hl, hd.mono (fun b u n q => ⟨q, fun z => n (zz b z)⟩) rfl⟩ (fun j hj => List.getElem?_set_ne (Ne.symm hj)) List.length_set (fun j b hj z w => ?_) (fun j b z w => ?_) fun b w => ho.bd b (sub b w)
        · rw [oi] at z
          cases z
          exact ho.nb j _ w (.inr List.mem_cons_self)
        · rcases os j b z with ⟨_, h⟩ | ⟨_, h⟩
          · exact nbr (by rw [← h]; exact w)
          · exact ho.nb j b h (sub b w)
      obtain ⟨o', g1, g2, g3, g4⟩ := binds_ok h1 (hf.mono (fun a u n q => ⟨q, fun z => n (zz a z)⟩) fun _ _ => rfl) (by
        simp only [List.filterMap_cons, id_eq, List.nodup_cons] at nd
        exact nd.2) (fun a m => nb a (List.mem_cons_of_mem _ m)) (fun j a z => by
        rcases os j a z with ⟨_, h⟩ | ⟨_, h⟩
        · exact .inr (by rw [h]; exact fr r List.mem_cons_self)
        · exact ow j a h) (fun a m => fr a (List.mem_cons_of_mem _ m)) e2
      have pn0 : Pn ρ (ρ.set i (.ow false d)) := Pn.set e (by rw [hpn]; rfl)
      exact ⟨o', g1, pn0.trans g2, (kp_set e hpn).trans pn0 g3, g4⟩
/-- one of a display: what is new stays new -/
theorem Fs.at {C : Kw} {Z : Addr → Prop} {H : Hp} : ∀ {fs : List (Option Addr)} {vs : List V} {ds : List (BK.D × Bool)} {j : Nat} {r : BK.D × Bool}, Fs C Z H fs vs ds → ds[j]? = some r →
    ∃ v, vs[j]? = some v ∧ (r.2 = false ∧ Den C Z H v r.1 ∨ r.2 = true ∧ ∃ a, v = .ref a ∧ some a ∈ fs ∧ OwnAt C Z H a r.1)
  | _, _, _, j, r, .nil, e => by simp at e
  | _, _, _, 0, r, .sh h t, e => by cases e; exact ⟨_, rfl, .inl ⟨rfl, h⟩⟩
  | _, _, _, 0, r, .ow h t, e => by cases e; exact ⟨_, rfl, .inr ⟨rfl, _, rfl, List.mem_cons_self, h⟩⟩
  | _, _, _, j + 1, r, .sh h t, e => by
    obtain ⟨v, h1, h2⟩ := Fs.at t (by simpa using e)
    exact ⟨v, by simpa using h1, h2.imp id fun ⟨q, a, e1, m, o⟩ => ⟨q, a, e1, List.mem_cons_of_mem _ m, o⟩⟩
  | _, _, _, j + 1, r, .ow h t, e => by
    obtain ⟨v, h1, h2⟩ := Fs.at t (by simpa using e)
    exact ⟨v, by simpa using h1, h2.imp id fun ⟨q, a, e1, m, o⟩ => ⟨q, a, e1, List.mem_cons_of_mem _ m, o⟩⟩
theorem Fs.length {C : Kw} {Z : Addr → Prop} {H : Hp} : ∀ {fs : List (Option Addr)} {vs : List V} {ds : List (BK.D × Bool)}, Fs C Z H fs vs ds → vs.length = ds.length
  | _, _, _, .nil => rfl
  | _, _, _, .sh _ t => by rw [List.length_cons, List.length_cons, Fs.length t]
  | _, _, _, .ow _ t => by rw [List.length_cons, List.length_cons, Fs.length t]
theorem px_pick {pos pos2 : Pos} {i : Expr} {y : E} (h : PA X es (tFs (kw X cn) fun ρ => evf P cf ρ xs)) (hk : PE X i (tX (kw X cn) fun ρ => ev P cf ρ y)) (hs : PlainIx i) :
    PE X (.Subscript (.List es pos) i pos2) (tX (kw X cn) fun ρ => ev P cf ρ (.pick xs y)) := by
  refine (pe_ix ix_list (pe_lst h) hk hs).imp fun σ H Q ⟨B, o, ρ, r, ho, he, q⟩ => ?_
  simp only [ev] at he
  obtain ⟨⟨ds, ρ1⟩, e1, he⟩ := bind_some he
  split at he
  · rename_i hl
    obtain ⟨⟨z, g, ρ2⟩, e2, he⟩ := bind_some he
    cases z <;> try (cases he; done)
    rename_i n
    obtain ⟨⟨d, f⟩, e3, he⟩ := Option.map_eq_some_iff.mp he
    cases he
    refine ⟨B, o, ρ, _, ho, e1, fun vs H1 o1 fs s1 pn1 h1 f1 n1 nd => ⟨most_le (by rw [f1.length]; exact hl), fun p np => ?_⟩⟩
    have h1' := h1.hide (Ext.new (q := .lst vs) np) np (by rw [upd_same]; intro z; cases z)
    refine ⟨_, o1, ρ1, _, h1', e2, fun v H2 o2 s2 pn2 rs => ?_⟩
    have e4 : v = .int n ∧ Ho (kw X cn) (fun a => Bf B fs a ∨ a = p) o2 ρ2 σ H2 := by
      cases g with
      | false => exact ⟨(show DenT _ _ _ _ _ from .inl rs.2).int, rs.1⟩
      | true => obtain ⟨_, _, _, _, w⟩ := rs; exact w.elim
    obtain ⟨rfl, h2⟩ := e4
    have hp2 : H2 p = some (.lst vs) := s2.keep p _ (fun ⟨j, z⟩ => h1'.nb j p z (.inr rfl)) upd_same
    unfold L2.atI at e3
    obtain ⟨j, e5, e6⟩ := Option.bind_eq_some_iff.mp e3
    obtain ⟨w, hw, hc⟩ := f1.at e6
    refine ⟨p, vs, n, w, rfl, rfl, .inl (.inl hp2), ?_, ?_⟩
    · unfold L2.atI
      rw [f1.length, e5]
      exact hw
    have keep : ∀ a u, ¬ In o1 a → H1 a = some u → H2 a = some u := fun a u z e => s2.keep a u z (Ext.new np a u e)
    have st : StepE H o H2 o2 := s1.trans ((Ext.new (q := .lst vs) np).stepE.trans s2)
    rcases hc with ⟨hf, hd⟩ | ⟨hf, a, rfl, ha, hd⟩
    · simp only at hf hd
      subst hf
      refine q w H2 o2 st (pn1.trans pn2) ⟨h2.show fun a z => .inl (.inl z), hd.mono fun a u nz e => ⟨keep a u (fun z => nz (.inr z)) e, fun z => ?_⟩⟩
      rcases z with z | ⟨j, z⟩
      · exact nz (.inl (.inl z))
      · exact nz (.inr ⟨j, s2.own j a z⟩)
    · simp only at hf hd
      subst hf
      have ha1 : H1 a ≠ none := hd.some
      have hap : a ≠ p := fun z => ha1 (by rw [z]; exact np)
      have hno : ¬ In o1 a := fun ⟨j, z⟩ => h1.nb j a z (.inr ha)
      have ka : H2 a = H1 a := by
        cases z : H1 a with
        | none => exact absurd z ha1
        | some u => exact keep a u hno z
      refine q _ H2 o2 st (pn1.trans pn2) ⟨a, rfl, n1 a ha, h2.show fun b z => ?_, hd.mono (fun b u nz e => ⟨keep b u (fun z => nz (.inr z)) e, fun z => ?_⟩) ka⟩
      · rcases z with z | z
        · exact .inl (.inl z)
        · exact .inl (.inr (by rw [z]; exact ha))
      · rcases z with (z | z) | ⟨j, z⟩
        · exact nz (.inl (.inl z))
        · exact nz (.inl (.inr (by rw [z]; exact ha)))
        · exact nz (.inr ⟨j, s2.own j b z⟩)
  · cases he
end
end BK

set_option Elab.async false
set_option linter.all false
set_option maxRecDepth 100000
set_option maxHeartbeats 2000000
/-! BK13c: a, b = e, f. -/
namespace BK
open PySem PySem.Spec PyProof.Rows L2
section
variable {X : Cx} {cn : Nat → Addr} {P : Pr} {cf : Call} {es : Es}
theorem par_ok {is : List Nat} {D : Ends} {σ : L2.St} {H : Hp} (w : tSt (kw X cn) (fun ρ => ex P cf ρ (.par (is.map Tg1.nm) es)) D σ H) :
    tFs (kw X cn) (fun ρ => evf P cf ρ es) σ H fun vs H1 => vs.length = is.length ∧ D.nx ((is.zip vs).foldl (fun σ z => σ.set z.1 (some z.2)) σ) H1 := by
  obtain ⟨B, o, ρ, r, ho, he, q⟩ := w
  simp only [ex] at he
  obtain ⟨⟨ds, ρ1⟩, e1, he⟩ := bind_some he
  split at he
  · obtain ⟨ρ2, e2, he⟩ := Option.map_eq_some_iff.mp he
    subst he
    refine ⟨B, o, ρ, _, ho, e1, fun vs H1 o1 fs s1 pn1 h1 f1 n1 nd => ?_⟩
    obtain ⟨o', g1, g2, g3, g4⟩ := binds_ok (H0 := H) (o0 := o) h1 f1 nd (fun a m z => ho.bd a z (n1 a m)) (fun i a z => .inl (s1.own i a z)) n1 e2
    have hl : ∀ {is : List Nat} {ρ ρ' : Rho} {ds : List (BK.D × Bool)}, puts ρ (is.map Tg1.nm) ds = some ρ' → ds.length = is.length := fun {is} => by
      induction is with
      | nil =>
        intro ρ ρ' ds h
        cases ds with
        | nil => rfl
        | cons d ds => simp [puts] at h
      | cons t ts ih =>
        intro ρ ρ' ds h
        cases ds with
        | nil => simp [puts] at h
        | cons d ds =>
          simp only [List.map_cons, puts] at h
          obtain ⟨ρ1, _, e2⟩ := bind_some h
          rw [List.length_cons, List.length_cons, ih e2]
    have fl : ∀ {fs : List (Option Addr)} {vs : List V} {ds : List (BK.D × Bool)} {Z : Addr → Prop}, Fs (kw X cn) Z H1 fs vs ds → vs.length = ds.length := fun {fs vs ds Z} h => by
      induction h with
      | nil => rfl
      | sh _ _ ih => rw [List.length_cons, List.length_cons, ih]
      | ow _ _ ih => rw [List.length_cons, List.length_cons, ih]
    exact ⟨(fl f1).trans (hl e2), q _ H1 o' ⟨s1.keep, s1.dom, g4⟩ (pn1.trans g2) (g3.of pn1) g1⟩
  · cases he
theorem ts_par2 {i j : Nat} : ∀ D σ H, tSt (kw X cn) (fun ρ => ex P cf ρ (.par [.nm i, .nm j] es)) D σ H → tPar i j (tFs (kw X cn) fun ρ => evf P cf ρ es) D σ H := by
  intro D σ H w
  obtain ⟨B, o, ρ, r, ho, he, q⟩ := par_ok (is := [i, j]) w
  refine ⟨B, o, ρ, r, ho, he, fun vs H1 o1 fs s1 pn1 h1 f1 n1 nd => ?_⟩
  obtain ⟨hl, hq⟩ := q vs H1 o1 fs s1 pn1 h1 f1 n1 nd
  match vs, hl, hq with
  | [v, w], _, hq => exact ⟨v, w, rfl, hq⟩
theorem ts_par3 {i j l : Nat} : ∀ D σ H, tSt (kw X cn) (fun ρ => ex P cf ρ (.par [.nm i, .nm j, .nm l] es)) D σ H → tPar3 i j l (tFs (kw X cn) fun ρ => evf P cf ρ es) D σ H := by
  intro D σ H w
  obtain ⟨B, o, ρ, r, ho, he, q⟩ := par_ok (is := [i, j, l]) w
  refine ⟨B, o, ρ, r, ho, he, fun vs H1 o1 fs s1 pn1 h1 f1 n1 nd => ?_⟩
  obtain ⟨hl, hq⟩ := q vs H1 o1 fs s1 pn1 h1 f1 n1 nd
  match vs, hl, hq with
  | [v, w, u], _, hq => exact ⟨v, w, u, rfl, hq⟩
/-- items are set: nothing stays new -/
theorem evf_evs : ∀ {es : Es} {ρ ρ1 : Rho} {ds : List (BK.D × Bool)}, evf P cf ρ es = some (ds, ρ1) → evs P cf ρ es = some (ds.map Prod.fst, ρ1)
  | .nil, ρ, ρ1, ds, h => by
    simp only [evf] at h
    cases h
    rfl
  | .cons e es, ρ, ρ1, ds, h => by
    simp only [evf] at h
    obtain ⟨⟨d, f, ρ2⟩, e1, h⟩ := bind_some h
    obtain ⟨⟨ds', ρ3⟩, e2, h⟩ := Option.map_eq_some_iff.mp h
    cases h
    simp only [evs, e1, Option.bind_some, evf_evs e2, Option.map_some, List.map_cons]
def isIx : Tg1 → Bool
  | .ix _ _ => true
  | .nm _ => false
theorem puts_ix : ∀ {ts : List Tg1} {ρ : Rho} {ds : List (BK.D × Bool)}, ts.all isIx = true → puts ρ ts ds = puts ρ ts ((ds.map Prod.fst).map fun x => (x, false))
  | [], ρ, [], _ => rfl
  | [], ρ, _ :: _, _ => rfl
  | _ :: _, ρ, [], _ => rfl
  | t :: ts, ρ, (d, f) :: ds, h => by
    rw [List.all_cons, Bool.and_eq_true] at h
    cases t with
    | nm i => cases h.1
    | ix i kd =>
      simp only [List.map_cons, puts, Tg1.bind]
      congr 1
      funext ρ'
      exact puts_ix h.2
theorem ts_parx {ts : List Tg1} (h : ts.all isIx = true) : ∀ D σ H, tSt (kw X cn) (fun ρ => ex P cf ρ (.par ts es)) D σ H → tSt (kw X cn) (fun ρ => ex P cf ρ (.asg (.tp ts) (.tup es))) D σ H := by
  rintro D σ H ⟨B, o, ρ, r, ho, he, q⟩
  refine ⟨B, o, ρ, r, ho, ?_, q⟩
  simp only [ex] at he
  obtain ⟨⟨ds, ρ1⟩, e1, he⟩ := bind_some he
  split at he
  · rename_i hl
    simp only [ex, ev, evf_evs e1, Option.bind_some]
    rw [List.length_map, if_pos hl]
    simp only [Option.bind_some, Tg.bind]
    rw [← puts_ix h]
    exact he
  · cases he
end
end BK

set_option Elab.async false
set_option linter.all false
set_option maxRecDepth 100000
set_option maxHeartbeats 2000000
/-! BK13d: a walk over a list that a name owns, which keeps it. -/
namespace BK
open PySem PySem.Spec PyProof.Rows L2
section
variable {C : Kw} {B : Addr → Prop} {o o' : Ow} {ρ ρ' : Rho} {σ σ' : L2.St} {H H' : Hp} {i : Nat} {p p' : Bool} {d e : D}
theorem Ho.mark (h : Ho C B o ρ σ H) (e : ρ[i]? = some (.ow p d)) : Ho C B o (ρ.set i (.ow p' d)) σ H where
  sl := fun j t e2 => by
    have li := (List.getElem?_eq_some_iff.mp e).1
    by_cases hj : i = j
    · subst hj
      rw [List.getElem?_set_self li] at e2
      cases e2
      have q := h.sl i (.ow p d) e
      exact q
    · rw [List.getElem?_set_ne hj] at e2
      exact h.sl j t e2
  out := fun j e2 => by
    have li := (List.getElem?_eq_some_iff.mp e).1
    by_cases hj : i = j
    · subst hj
      rw [List.getElem?_set_self li] at e2
      cases e2
    · rw [List.getElem?_set_ne hj] at e2
      exact h.out j e2
  inj := h.inj
  nb := h.nb
  bd := h.bd
  len := by rw [List.length_set]; exact h.len
theorem pn_mark (e0 : ρ[i]? = some (.ow p d)) (pn : Pn (ρ.set i (.ow true d)) ρ') (e1 : ρ'[i]? = some (.ow true e)) : Pn ρ (ρ'.set i (.ow p e)) := by
  have l0 := (List.getElem?_eq_some_iff.mp e0).1
  have l1 := (List.getElem?_eq_some_iff.mp e1).1
  refine ⟨by rw [List.length_set, pn.len, List.length_set], fun k => ?_⟩
  by_cases hk : i = k
  · subst hk
    rw [List.getElem?_set_self l1, e0]
    rfl
  · rw [List.getElem?_set_ne hk]
    have := pn.pin k
    rw [List.getElem?_set_ne hk] at this
    exact this
theorem kp_mark (e0 : ρ[i]? = some (.ow p d)) (kp : Kp (ρ.set i (.ow true d)) σ σ') : Kp ρ σ σ' := fun k s ek hs => by
  have l0 := (List.getElem?_eq_some_iff.mp e0).1
  by_cases hk : i = k
  · subst hk
    exact kp i (.ow true d) (List.getElem?_set_self l0) rfl
  · exact kp k s (by rw [List.getElem?_set_ne hk]; exact ek) hs
theorem resS_mark {H0 : Hp} {v : V} {r : D} {f : Bool} (e0 : ρ[i]? = some (.ow p d)) (e1 : ρ'[i]? = some (.ow true e)) (h : ResS C B o (ρ.set i (.ow true d)) o' ρ' σ H0 H v r f) : ResS C B o ρ o' (ρ'.set i (.ow p e)) σ H0 H v r f := by
  have l0 := (List.getElem?_eq_some_iff.mp e0).1
  cases f with
  | false => exact ⟨h.1.mark e1, h.2⟩
  | true =>
    obtain ⟨a, ea, n, h1, h2⟩ := h
    refine ⟨a, ea, ?_, h1.mark e1, h2⟩
    rcases n with n | ⟨j, x, n1, n2⟩
    · exact .inl n
    · refine .inr ⟨j, x, ?_, n2⟩
      by_cases hj : i = j
      · subst hj
        rw [List.getElem?_set_self l0] at n1
        cases n1
      · rw [List.getElem?_set_ne hj] at n1
        exact n1
theorem unmR_some {ρ2 : Rho} (h : unmR p i ρ' = some ρ2) : ∃ e, ρ'[i]? = some (.ow true e) ∧ ρ2 = ρ'.set i (.ow p e) := by
  unfold unmR at h
  split at h
  · rename_i d' e'
    cases h
    exact ⟨d', e', rfl⟩
  · cases h
end
section
variable {X : Cx} {cn : Nat → Addr} {P : Pr} {cf : Call} {tg : Tg} {s1 : Ss} {i : Nat}
/-- a walk over members that stand -/
theorem for_run {tb : TS} (ht : tg.okd = true) (hb : ∀ D σ H, tSt (kw X cn) (fun ρ => exs P cf ρ s1) D σ H → tb D σ H) {B : Addr → Prop} {D : Ends} {o1 : Ow} {ρ1 : Rho} {σ : L2.St} {H1 : Hp} {r : Out} {vs : List V} {xs : List BK.D} {J : It} {G : Hp → Prop}
    (he : forLoop (fun ρ' x => (tg.bind ρ' x false).bind fun ρ2 => exs P cf ρ2 s1) ρ1 xs = some r) (h1 : Ho (kw X cn) B o1 ρ1 σ H1) (dv : DenAll (kw X cn) (Zo B o1) H1 vs xs) (wk : Wk J G vs)
    (kG : ∀ H2, (∀ a h, ¬ Zo B o1 a → H1 a = some h → H2 a = some h) → G H2) (q1 : EndOk (kw X cn) B H1 o1 ρ1 σ D r) :
    ∃ W : Nat → Nat → L2.St → Hp → Prop, (∃ m, W 0 m σ H1) ∧ ∀ i m σ H, W i m σ H →
      (J.stop i H ∧ D.nx σ H) ∨ (J.go i H ∧ ∃ N : L2.St → Hp → Prop, (∀ σ' H', N σ' H' → ∃ m', m' < m ∧ W (i + 1) m' σ' H') ∧ ∀ x H', J.yld i H x H' → gTg X.K tg x σ H' fun σ2 H2 => tb { D with nx := N, ct := N, bk := D.nx } σ2 H2) := by
  have lenv : vs.length = xs.length := dv.length
  let f : Rho → BK.D → Option Out := fun ρ' x => (tg.bind ρ' x false).bind fun ρ2 => exs P cf ρ2 s1
  have he : forLoop f ρ1 xs = some r := he
  let W : Nat → Nat → L2.St → Hp → Prop := fun i m σi H => m = vs.length - i ∧ i ≤ vs.length ∧ ∃ o' ρ', Step H1 o1 H o' ∧ Pn ρ1 ρ' ∧ Kp ρ1 σ σi ∧ Ho (kw X cn) B o' ρ' σi H ∧ forLoop f ρ' (xs.drop i) = some r
  refine ⟨W, ⟨vs.length, by simp, Nat.zero_le _, o1, ρ1, .refl, .refl, .refl, h1, by simpa using he⟩, ?_⟩
  rintro i m σi H2 ⟨rfl, hi, o', ρ', s2', pn2, kp2, h2, hloop⟩
  have kz := s2'.kz (B' := B)
  have gG : G H2 := kG H2 fun a h n e => s2'.keep a h (fun z => n (.inr z)) e
  have q2 : EndOk (kw X cn) B H2 o' ρ' σi D r := q1.of h1 s2' pn2 kp2
  by_cases hi2 : i < vs.length
  · refine .inr ⟨wk.go i H2 gG hi2, fun σ' H' => W (i + 1) (vs.length - (i + 1)) σ' H', fun σ' H' w => ⟨_, by omega, w⟩, fun w H' hy => ?_⟩
    obtain ⟨rfl, ew⟩ := wk.yld i H2 w H' gG hi2 hy
    obtain ⟨d, ed⟩ : ∃ d, xs[i]? = some d := ⟨_, List.getElem?_eq_getElem (by rw [← lenv]; exact hi2)⟩
    obtain ⟨w', ew', dw⟩ := dv.get ed
    rw [ew] at ew'
    cases ew'
    have dw2 := dw.step s2'
    have hdrop : xs.drop i = d :: xs.drop (i + 1) := by
      rw [List.drop_eq_getElem_cons (by rw [← lenv]; exact hi2)]
      congr 1
      rw [List.getElem?_eq_getElem (by rw [← lenv]; exact hi2)] at ed
      exact Option.some.inj ed
    rw [hdrop] at hloop
    simp only [forLoop] at hloop
    obtain ⟨u, f1, hloop⟩ := bind_some hloop
    obtain ⟨ρ3, f2, f3⟩ := bind_some (m := tg.bind ρ' d false) f1
    refine tg_any ht w σi H' _ ⟨B, o', ρ', d, false, ρ3, H', o', .refl, h2.bd, ⟨h2, dw2⟩, f2, fun σ2 H3 o3 st3 se pn3 kp3 sm h3 => ?_⟩
    refine hb _ σ2 H3 ⟨B, o3, ρ3, u, h3, f3, ?_⟩
    have q3 := q2.of h2 st3 pn3 kp3
    have next : ∀ ρ4, forLoop f ρ4 (xs.drop (i + 1)) = some r → ∀ σ' H' o'', Step H3 o3 H' o'' → Pn ρ3 ρ4 → Kp ρ3 σ2 σ' → Ho (kw X cn) B o'' ρ4 σ' H' → W (i + 1) (vs.length - (i + 1)) σ' H' := fun ρ4 hl σ' H' o'' st4 pn4 kp4 h4 =>
      ⟨rfl, by omega, o'', ρ4, (s2'.trans st3).trans st4, (pn2.trans pn3).trans pn4, kp2.trans pn2 (kp3.trans pn3 kp4), h4, hl⟩
    cases u with
    | nx ρ4 => exact next ρ4 hloop
    | ct ρ4 => exact next ρ4 hloop
    | bk ρ4 => cases hloop; exact q3
    | rt d' f' ρ4 => cases hloop; exact q3
  · have hi3 : i = vs.length := by omega
    subst hi3
    rw [List.drop_eq_nil_of_le (by omega)] at hloop
    simp only [forLoop] at hloop
    cases hloop
    exact .inl ⟨wk.stop _ H2 gG (Nat.le_refl _), q2 σi H2 o' .refl .refl .refl h2⟩
theorem ts_forw {tb : TS} (ht : tg.okd = true) (hb : ∀ D σ H, tSt (kw X cn) (fun ρ => exs P cf ρ s1) D σ H → tb D σ H) :
    ∀ D σ H, tSt (kw X cn) (fun ρ => ex P cf ρ (.forw tg i s1)) D σ H → tFor (iAny X (tVar i)) (gTg X.K tg) tb D σ H := by
  rintro D σ H ⟨B, o, ρ, r, ho, he, q⟩
  simp only [ex] at he
  split at he
  · rename_i p xs e1
    obtain ⟨r1, he1, he2⟩ := bind_some he
    let f : Rho → BK.D → Option Out := fun ρ' x => (tg.bind ρ' x false).bind fun ρ2 => exs P cf ρ2 s1
    have he1 : fwLoop f i most 0 (ρ.set i (.ow true (.lst xs))) = some r1 := he1
    have li := (List.getElem?_eq_some_iff.mp e1).1
    obtain ⟨a, oi, hσ, vs, ha, dv⟩ := ho.sl i _ e1
    have ho0 : Ho (kw X cn) B o (ρ.set i (.ow true (.lst xs))) σ H := ho.mark e1
    have e10 : (ρ.set i (.ow true (.lst xs)))[i]? = some (.ow true (.lst xs)) := List.getElem?_set_self li
    refine ⟨.ref a, hσ, a, rfl, .inl ⟨vs, SqL.of ha, ?_⟩⟩
    let W : Nat → Nat → L2.St → Hp → Prop := fun k m σi Hi => ∃ o' ρ', Step H o Hi o' ∧ Pn (ρ.set i (.ow true (.lst xs))) ρ' ∧ Kp (ρ.set i (.ow true (.lst xs))) σ σi ∧ Ho (kw X cn) B o' ρ' σi Hi ∧ fwLoop f i m k ρ' = some r1
    refine ⟨W, ⟨most, o, _, .refl, .refl, .refl, ho0, he1⟩, ?_⟩
    rintro k m σi Hi ⟨o', ρ', s2, pn2, kp2, h2, hl⟩
    have nxt : ∀ (ρ4 : Rho) (e : r1 = .nx ρ4) σ' H' o'', Step H o H' o'' → Pn (ρ.set i (.ow true (.lst xs))) ρ4 → Kp (ρ.set i (.ow true (.lst xs))) σ σ' → Ho (kw X cn) B o'' ρ4 σ' H' → D.nx σ' H' := by
      intro ρ4 e σ' H' o'' st pn kp h4
      subst e
      obtain ⟨ρ5, u1, u2⟩ := Option.map_eq_some_iff.mp he2
      subst u2
      obtain ⟨e5, u3, rfl⟩ := unmR_some u1
      exact q σ' H' o'' st (pn_mark e1 pn u3) (kp_mark e1 kp) (h4.mark u3)
    cases m with
    | zero => simp [fwLoop] at hl
    | succ m =>
      simp only [fwLoop] at hl
      split at hl
      · rename_i ys e2
        obtain ⟨a', oi', hσ', vs', ha', dv'⟩ := h2.sl i _ e2
        have sa := kp2 i _ e10 rfl
        rw [hσ, hσ'] at sa
        cases sa
        have lenv : vs'.length = ys.length := dv'.length
        have wk := wk_list (K := X.K) (a := a) (vs := vs')
        have gG : SqL X.K Hi a vs' := SqL.of ha'
        split at hl
        · rename_i ek
          cases hl
          have lk : vs'.length ≤ k := by rw [lenv]; exact List.getElem?_eq_none_iff.mp ek
          exact .inl ⟨wk.stop k Hi gG lk, nxt ρ' rfl σi Hi o' s2 pn2 kp2 h2⟩
        · rename_i x ek
          obtain ⟨w', ew', dw⟩ := dv'.get ek
          have lk : k < vs'.length := (List.getElem?_eq_some_iff.mp ew').1
          refine .inr ⟨wk.go k Hi gG lk, fun σ' H' => W (k + 1) m σ' H', fun σ' H' w => ⟨m, Nat.lt_succ_self _, w⟩, fun z H' hy => ?_⟩
          obtain ⟨rfl, ew⟩ := wk.yld k Hi z H' gG lk hy
          rw [ew] at ew'
          cases ew'
          obtain ⟨u, f1, hl⟩ := bind_some hl
          obtain ⟨ρ3, f2, f3⟩ := bind_some (m := tg.bind ρ' x false) f1
          refine tg_any ht w' σi H' _ ⟨B, o', ρ', x, false, ρ3, H', o', .refl, h2.bd, ⟨h2, dw⟩, f2, fun σ2 H3 o3 st3 se pn3 kp3 sm h3 => ?_⟩
          refine hb _ σ2 H3 ⟨B, o3, ρ3, u, h3, f3, ?_⟩
          have pn30 := pn2.trans pn3
          have st30 := s2.trans st3
          have kp30 := kp2.trans pn2 kp3
          cases u with
          | nx ρ4 => exact fun σ' H'' o'' st4 pn4 kp4 h4 => ⟨o'', ρ4, st30.trans st4, pn30.trans pn4, kp30.trans pn30 kp4, h4, hl⟩
          | ct ρ4 => exact fun σ' H'' o'' st4 pn4 kp4 h4 => ⟨o'', ρ4, st30.trans st4, pn30.trans pn4, kp30.trans pn30 kp4, h4, hl⟩
          | bk ρ4 =>
            simp only [Option.some.injEq] at hl
            exact fun σ' H'' o'' st4 pn4 kp4 h4 => nxt ρ4 hl.symm σ' H'' o'' (st30.trans st4) (pn30.trans pn4) (kp30.trans pn30 kp4) h4
          | rt d' f' ρ4 =>
            simp only [Option.some.injEq] at hl
            subst hl
            intro v σ' H'' o'' st4 pn4 kp4 rs
            obtain ⟨ρ5, u1, u2⟩ := Option.map_eq_some_iff.mp he2
            subst u2
            obtain ⟨e5, u3, rfl⟩ := unmR_some u1
            exact q v σ' H'' o'' (st30.trans st4) (pn_mark e1 (pn30.trans pn4) u3) (kp_mark e1 (kp30.trans pn30 kp4)) (resS_mark e1 u3 (rs.back ho0 st30 pn30))
      · cases hl
  · rename_i p xs e1
    obtain ⟨_, v, hσ, dv⟩ := ho.sl i _ e1
    obtain ⟨a, vs, rfl, ha, hv⟩ := (show DenT (kw X cn) (Zo B o) H v (.lst xs) from .inl dv).lst
    refine ⟨.ref a, hσ, a, rfl, .inl ⟨vs, SqL.of ha, ?_⟩⟩
    exact for_run ht hb he ho hv wk_list (fun H2 w => by
        cases dv with
        | lst nz r _ => exact SqL.of ((w a _ nz r).trans (by rw [← r, ha]))) q
  · rename_i p xs e1
    obtain ⟨_, v, hσ, dv⟩ := ho.sl i _ e1
    refine ⟨v, hσ, ?_⟩
    cases dv with
    | @tup a vs _ nz r hv => exact ⟨a, rfl, .inr (.inl ⟨vs, SqT.of r, for_run ht hb he ho hv wk_tup (fun H2 w => SqT.of (w a _ nz r)) q⟩)⟩
    | @tupK a vs _ r hv => exact ⟨a, rfl, .inr (.inl ⟨vs, r.sqt, for_run ht hb he ho hv wk_tup (fun H2 w => r.sqt) q⟩)⟩
  · cases he
end
end BK

set_option Elab.async false
set_option linter.all false
set_option maxRecDepth 100000
namespace BK
open PySem PySem.Spec PyProof.Rows L2
/-- a text's signs, numbered -/
def Ites (x : Str) : It := ⟨fun i _ => i < x.cps.size, fun i H v H' => ∃ T c, v = .ref T ∧ H T = none ∧ H' = upd H T (.tup [.int (i : Nat), .str ⟨#[c]⟩]) ∧ x.cps[i]? = some c, fun i _ => i = x.cps.size⟩
theorem draws_str {prog : Program} {w : World} {A : Around} (hh : A.handled = none) (it : Addr) (x : Str) (t : Tok) : Draws prog w A it [it] x.cps.size (SignAt x) (fun i h => h.IsStrIter it (strIterType x) x t i) := by
  unfold strIterType
  split
  · exact Draws.strAscii hh it x t
  · exact Draws.strWide hh it x t
theorem turn_enumS {P : Program} {w : World} {K : PySem.W.Frag} {elts : List Expr} {kk : Nat} {tpos : Pos} (x : Str) (t : Tok) (e it : Addr) :
    Turn P w K (.Tuple elts kk tpos) (Ites x) [e, it] e (fun i h => (∃ old, IsEnum h e it ((i : Nat) : Int) old) ∧ h.IsStrIter it (strIterType x) x t i ∧ e ≠ it) where
  mem := by simp
  obj := fun i h st b hb => by
    obtain ⟨⟨old, he⟩, ⟨o, ho, hc, hd⟩, _⟩ := st
    have e' : b = e ∨ b = it := by simpa using hb
    rcases e' with z | z
    · rw [z]; exact ⟨_, he, fun v q => nomatch q⟩
    · rw [z]; exact ⟨o, ho, fun v q => by rw [hd] at q; cases q⟩
  keep := fun i h h' st k => let ⟨⟨old, he⟩, ⟨o, ho, r⟩, hne⟩ := st; ⟨⟨old, k e (by simp) _ he⟩, ⟨o, k it (by simp) o ho, r⟩, hne⟩
  item := by
    intro X hP hw hK hc i pins s σ H E I hf st hg
    subst hP hw hK
    obtain ⟨⟨old, he⟩, hit, hne⟩ := st
    have hel : e < s.heap.objs.size := Heap.lt_size he
    have hil : it < s.heap.objs.size := by obtain ⟨_, q, _⟩ := hit; exact Heap.lt_size q
    refine wpAny_pyNext_enum_itemD (draws_str (A := X.A.in1) (I.ok.hd hc) it x t) he hit hg hne (by simpa using hne) fun u h' tk hu ho hit' hT hsz hk => ?_
    obtain ⟨c, tc, hcx, rfl⟩ := hu
    refine ⟨_, rfl, wpAny_letOwnedTupleGo_enum (s := { s with heap := h', toks := tk + 1 }) ho fun h'' he' sb => ?_⟩
    have hT2 : h''.get? s.heap.objs.size = some { cls := .type "tuple", data := .seq #[.int i tk, .str ⟨#[c]⟩ tc] } := (sb.2 _ (Nat.ne_of_gt hel)).trans hT
    have new : ObjOk X.prog X.w (upd H s.heap.objs.size (.tup [.int (i : Nat), .str ⟨#[c]⟩])) h'' s.heap.objs.size (.tup [.int (i : Nat), .str ⟨#[c]⟩]) :=
      ⟨by show 2 ≤ sizeLine; decide, [.int i tk, .str ⟨#[c]⟩ tc], .cons ⟨_, rfl⟩ (.cons ⟨_, rfl⟩ .nil), ⟨_, hT2, rfl, _, rfl⟩⟩
    have I1 : Inv X pins σ (upd H s.heap.objs.size (.tup [.int (i : Nat), .str ⟨#[c]⟩])) { s with heap := h'', toks := tk + 1 } :=
      I.turnedNew (ch := [e, it]) (fun b ob hb q => (sb.2 b (fun z => hb (by simp [z]))).trans (hk b ob (fun z => hb (by simp [z])) (fun z => hb (by simp [z])) q)) hf (Nat.le_refl _) new
    refine ⟨.ref s.heap.objs.size, _, I1, rfl, ⟨_, c, rfl, I.hok.fresh (Nat.le_refl _), rfl, hcx⟩, ⟨⟨.str ⟨#[c]⟩ tc, ?_⟩, ?_, hne⟩, fun b hb => ?_⟩
    · have e1 : ((i + 1 : Nat) : Int) = (i : Int) + 1 := by omega
      rw [e1]; exact he'
    · obtain ⟨o, ho, r⟩ := hit'
      exact ⟨o, (sb.2 it (Ne.symm hne)).trans ho, r⟩
    · have hb' : b < s.heap.objs.size := by
        have e' : b = e ∨ b = it := by simpa using hb
        rcases e' with z | z
        · rw [z]; exact hel
        · rw [z]; exact hil
      rw [upd_ne (Nat.ne_of_lt hb')]
      exact (hf b hb).1
  done := by
    intro X hP hw hK hc i pins s σ H E I hf st hg
    subst hP hw hK
    obtain ⟨⟨old, he⟩, hit, hne⟩ := st
    obtain ⟨f0, f1, f2, f3, f4, f5⟩ := hf it (by simp)
    have hg : i = x.cps.size := hg
    subst hg
    exact wpAny_pyNext_enum_endD (draws_str (A := X.A.in1) (I.ok.hd hc) it x t) he hit fun h' eb => ⟨rfl, I.turned (t' := s.toks) (fun b o hb q => eb b o hb q) f0 f1 f3 f4 f5⟩
  self := fun A i s Q E st h => let ⟨⟨_, he⟩, _⟩ := st; wpAny_pyIter_enum he h
/-- enumerate: of a list, of a text -/
def iEnS (X : Cx) (ta : TA) : TI := fun σ H R => ta σ H fun vs H1 => (∃ a xs, vs = [.ref a] ∧ SqL X.K H1 a xs ∧ R (Ite X.K a) H1) ∨ ∃ z, vs = [.str z] ∧ R (Ites z) H1
theorem pi_enS {X : Cx} {e : Expr} {ta : TA} {p pos tpos : Pos} {elts : List Expr} {kk : Nat} (hg : Gl X "enumerate") (hm : X.mg "enumerate" = none) (ha : PA X [e] ta) (hs : starEach [e] X.env = [(false, eval e X.env)] := by rfl) :
    PI X (.Tuple elts kk tpos) (.Call (.Name "enumerate" p) [e] [] pos) (iEnS X ta) := by
  refine ⟨fun pins s σ H R I h => ?_⟩
  refine Call_ (ld_blt I hg hm boot_enumerate (PyProof.Rows.callWith_type1 (thn (ha.run pos pins s σ H _ I h) fun us s1 ⟨vs, H1, I1, r1, q1⟩ => ?_) hs rfl))
  have lo : ∀ b, b = s1.heap.objs.size + 1 ∨ b = s1.heap.objs.size → s1.heap.objs.size ≤ b := fun b z => by
    rcases z with z | z
    · rw [z]; exact Nat.le_add_right _ _
    · rw [z]; exact Nat.le_refl _
  rcases q1 with ⟨a, xs, ex, hq, q⟩ | ⟨z, ex, q⟩
  · subst ex
    cases r1 with
    | cons r rr =>
      cases rr
      cases r
      obtain ⟨its, rv, p', hz⟩ := I1.list hq
      refine call_enumerate_list p'.isList fun h' he hit hsz hk => wpAny_pyIter_enum he ?_
      have I2 : Inv X pins σ H1 { s1 with heap := h' } := I1.kept (t' := s1.toks) hk
      refine ⟨s1.heap.objs.size + 1, [s1.heap.objs.size + 1, s1.heap.objs.size], _, _, H1, rfl, I2, turn_enum a (s1.heap.objs.size + 1) s1.heap.objs.size, ⟨⟨.none, he⟩, hit, Nat.succ_ne_self _⟩, fun b hb => ?_, q⟩
      have hle := lo b (by simpa using hb)
      exact I1.fpOk hle (I1.hok.fresh hle)
  · subst ex
    cases r1 with
    | cons r rr =>
      cases rr
      obtain ⟨t, rfl⟩ := r
      refine call_enumerate_str fun h' he hit hsz hk => wpAny_pyIter_enum he ?_
      have I2 : Inv X pins σ H1 { s1 with heap := h' } := I1.kept (t' := s1.toks) hk
      refine ⟨s1.heap.objs.size + 1, [s1.heap.objs.size + 1, s1.heap.objs.size], _, _, H1, rfl, I2, turn_enumS z t (s1.heap.objs.size + 1) s1.heap.objs.size, ⟨⟨.none, he⟩, hit, Nat.succ_ne_self _⟩, fun b hb => ?_, q⟩
      have hle := lo b (by simpa using hb)
      exact I1.fpOk hle (I1.hok.fresh hle)
/-- numbered -/
structure WkE (J : It) (G : Hp → Prop) (vs : List V) : Prop where
  go : ∀ i H, G H → i < vs.length → J.go i H
  yld : ∀ i H x H', G H → i < vs.length → J.yld i H x H' → ∃ T v, vs[i]? = some v ∧ x = .ref T ∧ H T = none ∧ H' = upd H T (.tup [.int (i : Nat), v])
  stop : ∀ H, G H → J.stop vs.length H
theorem wke_list {K : PySem.W.Frag} {a : Addr} {vs : List V} : WkE (Ite K a) (fun H => SqL K H a vs) vs :=
  ⟨fun i H g h => ⟨vs, _, g, List.getElem?_eq_getElem h⟩, fun i H x H' g h y => by
    obtain ⟨T, v, e1, e2, e3, e4⟩ := y
    exact ⟨T, v, e4 vs g, e1, e2, e3⟩, fun H g => ⟨vs, g, Nat.le_refl _⟩⟩
theorem wke_str {z : Str} : WkE (Ites z) (fun _ => True) (z.cps.toList.map fun c => V.str ⟨#[c]⟩) := by
  refine ⟨fun i H g h => ?_, fun i H x H' g h y => ?_, fun H g => ?_⟩
  · show i < z.cps.size
    simpa using h
  · obtain ⟨T, c, e1, e2, e3, e4⟩ := y
    refine ⟨T, _, ?_, e1, e2, e3⟩
    rw [List.getElem?_map, Array.getElem?_toList, e4]
    rfl
  · show _ = z.cps.size
    simp
section
variable {X : Cx} {cn : Nat → Addr} {P : Pr} {cf : Call} {tg : Tg} {s1 : Ss} {x : E}
theorem for_runE {tb : TS} (ht : tg.okd = true) (hb : ∀ D σ H, tSt (kw X cn) (fun ρ => exs P cf ρ s1) D σ H → tb D σ H) {B : Addr → Prop} {D : Ends} {o1 : Ow} {ρ1 : Rho} {σ : L2.St} {H1 : Hp} {r : Out} {vs : List V} {xs : List BK.D} {J : It} {G : Hp → Prop}
    (he : forLoop (fun ρ' x => (tg.bind ρ' x false).bind fun ρ2 => exs P cf ρ2 s1) ρ1 (enumD xs) = some r) (h1 : Ho (kw X cn) B o1 ρ1 σ H1) (dv : DenAll (kw X cn) (Zo B o1) H1 vs xs) (wk : WkE J G vs)
    (kG : ∀ H2, (∀ a h, ¬ Zo B o1 a → H1 a = some h → H2 a = some h) → G H2) (q1 : EndOk (kw X cn) B H1 o1 ρ1 σ D r) :
    ∃ W : Nat → Nat → L2.St → Hp → Prop, (∃ m, W 0 m σ H1) ∧ ∀ i m σ H, W i m σ H →
      (J.stop i H ∧ D.nx σ H) ∨ (J.go i H ∧ ∃ N : L2.St → Hp → Prop, (∀ σ' H', N σ' H' → ∃ m', m' < m ∧ W (i + 1) m' σ' H') ∧ ∀ x H', J.yld i H x H' → gTg X.K tg x σ H' fun σ2 H2 => tb { D with nx := N, ct := N, bk := D.nx } σ2 H2) := by
  have lenv : vs.length = (enumD xs).length := by rw [enumD_len]; exact dv.length
  let f : Rho → BK.D → Option Out := fun ρ' x => (tg.bind ρ' x false).bind fun ρ2 => exs P cf ρ2 s1
  have he : forLoop f ρ1 (enumD xs) = some r := he
  let W : Nat → Nat → L2.St → Hp → Prop := fun i m σi H => m = vs.length - i ∧ i ≤ vs.length ∧ ∃ o' ρ', Step H1 o1 H o' ∧ Pn ρ1 ρ' ∧ Kp ρ1 σ σi ∧ Ho (kw X cn) B o' ρ' σi H ∧ forLoop f ρ' ((enumD xs).drop i) = some r
  refine ⟨W, ⟨vs.length, by simp, Nat.zero_le _, o1, ρ1, .refl, .refl, .refl, h1, by simpa using he⟩, ?_⟩
  rintro i m σi H2 ⟨rfl, hi, o', ρ', s2', pn2, kp2, h2, hloop⟩
  have gG : G H2 := kG H2 fun a h n e => s2'.keep a h (fun z => n (.inr z)) e
  have q2 : EndOk (kw X cn) B H2 o' ρ' σi D r := q1.of h1 s2' pn2 kp2
  by_cases hi2 : i < vs.length
  · refine .inr ⟨wk.go i H2 gG hi2, fun σ' H' => W (i + 1) (vs.length - (i + 1)) σ' H', fun σ' H' w => ⟨_, by omega, w⟩, fun w H' hy => ?_⟩
    obtain ⟨T, v, ev, rfl, hT, rfl⟩ := wk.yld i H2 w H' gG hi2 hy
    have lx : i < xs.length := by rw [lenv, enumD_len] at hi2; exact hi2
    have ed : xs[i]? = some xs[i] := List.getElem?_eq_getElem lx
    obtain ⟨w', ew', dw⟩ := dv.get ed
    rw [ev] at ew'
    cases ew'
    have ex : Ext H2 (upd H2 T (.tup [.int (i : Nat), v])) := Ext.new hT
    have s3' : Step H1 o1 (upd H2 T (.tup [.int (i : Nat), v])) o' := s2'.trans ex.stepE.step
    have h2' := h2.ext ex
    have dw2 : Den (kw X cn) (Zo B o') (upd H2 T (.tup [.int (i : Nat), v])) (.ref T) (.tup [.int (i : Nat), xs[i]]) := .tup (h2.free hT) upd_same (.cons (.int _) (.cons (dw.step s3') .nil))
    have hdrop : (enumD xs).drop i = .tup [.int (i : Nat), xs[i]] :: (enumD xs).drop (i + 1) := by
      rw [List.drop_eq_getElem_cons (by rw [enumD_len]; exact lx)]
      congr 1
      have := enumD_get (xs := xs) (i := i)
      rw [ed, List.getElem?_eq_getElem (by rw [enumD_len]; exact lx)] at this
      exact Option.some.inj this
    rw [hdrop] at hloop
    simp only [forLoop] at hloop
    obtain ⟨u, f1, hloop⟩ := bind_some hloop
    obtain ⟨ρ3, f2, f3⟩ := bind_some (m := tg.bind ρ' (.tup [.int (i : Nat), xs[i]]) false) f1
    have q2' : EndOk (kw X cn) B (upd H2 T (.tup [.int (i : Nat), v])) o' ρ' σi D r := q1.of h1 s3' pn2 kp2
    refine tg_any ht (.ref T) σi _ _ ⟨B, o', ρ', .tup [.int (i : Nat), xs[i]], false, ρ3, _, o', .refl, h2'.bd, ⟨h2', dw2⟩, f2, fun σ2 H3 o3 st3 se pn3 kp3 sm h3 => ?_⟩
    refine hb _ σ2 H3 ⟨B, o3, ρ3, u, h3, f3, ?_⟩
    have q3 := q2'.of h2' st3 pn3 kp3
    have next : ∀ ρ4, forLoop f ρ4 ((enumD xs).drop (i + 1)) = some r → ∀ σ' H' o'', Step H3 o3 H' o'' → Pn ρ3 ρ4 → Kp ρ3 σ2 σ' → Ho (kw X cn) B o'' ρ4 σ' H' → W (i + 1) (vs.length - (i + 1)) σ' H' := fun ρ4 hl σ' H' o'' st4 pn4 kp4 h4 =>
      ⟨rfl, by omega, o'', ρ4, (s3'.trans st3).trans st4, (pn2.trans pn3).trans pn4, kp2.trans pn2 (kp3.trans pn3 kp4), h4, hl⟩
    cases u with
    | nx ρ4 => exact next ρ4 hloop
    | ct ρ4 => exact next ρ4 hloop
    | bk ρ4 => cases hloop; exact q3
    | rt d' f' ρ4 => cases hloop; exact q3
  · have hi3 : i = vs.length := by omega
    subst hi3
    rw [List.drop_eq_nil_of_le (by omega)] at hloop
    simp only [forLoop] at hloop
    cases hloop
    exact .inl ⟨wk.stop H2 gG, q2 σi H2 o' .refl .refl .refl h2⟩
theorem ts_fore {tb : TS} (ht : tg.okd = true) (hb : ∀ D σ H, tSt (kw X cn) (fun ρ => exs P cf ρ s1) D σ H → tb D σ H) :
    ∀ D σ H, tSt (kw X cn) (fun ρ => ex P cf ρ (.fore tg x s1)) D σ H → tFor (iEnS X (tEs (kw X cn) fun ρ => evs P cf ρ (.cons x .nil))) (gTg X.K tg) tb D σ H := by
  rintro D σ H ⟨B, o, ρ, r, ho, he, q⟩
  simp only [ex] at he
  obtain ⟨⟨d, fr, ρ1⟩, e1, he⟩ := bind_some he
  refine ⟨B, o, ρ, ([d], ρ1), ho, by simp [evs, e1], fun vs H1 o1 s1' pn1 h1 dv => ?_⟩
  have q1 := q.of ho s1'.step pn1 .refl
  cases dv with
  | cons w t =>
    cases t
    cases d <;> simp only at he <;> try (cases he; done)
    · cases w
      exact .inr ⟨_, rfl, for_runE ht hb he h1 den_signs wke_str (fun _ _ => True.intro) q1⟩
    · rename_i xs
      obtain ⟨a, ws, rfl, ha, hv⟩ := (show DenT (kw X cn) (Zo B o1) H1 _ (.lst xs) from .inl w).lst
      refine .inl ⟨a, ws, rfl, SqL.of ha, for_runE ht hb he h1 hv wke_list (fun H2 k => ?_) q1⟩
      cases w with
      | lst nz r _ => exact SqL.of ((k a _ nz r).trans (by rw [← r, ha]))
end
end BK

set_option Elab.async false
set_option linter.all false
set_option maxRecDepth 100000
set_option maxHeartbeats 2000000
/-! BK14: a def keeps the promise of its reckoning, if its body does. -/
namespace BK
open PySem PySem.Spec PyProof.Rows L2

section
variable {C : Kw} {B : Addr → Prop} {o : Ow} {ρ : Rho} {σ : L2.St} {H : Hp} {n : Nat}
def upto (o : Ow) (n : Nat) : Ow := fun k => if k < n then o k else none
theorem upto_some {k : Nat} {a : Addr} (h : upto o n k = some a) : o k = some a ∧ k < n := by
  unfold upto at h
  split at h
  · rename_i hk; exact ⟨h, hk⟩
  · cases h
theorem Zo.upto : ∀ a, Zo B (upto o n) a → Zo B o a := fun a z => z.imp id fun ⟨k, e⟩ => ⟨k, (upto_some e).1⟩
theorem Ho.take (h : Ho C B o ρ σ H) : Ho C B (upto o n) (ρ.take n) (σ.take n) H := by
  refine ⟨fun i s e => ?_, fun i e => ?_, fun i j a e1 e2 => h.inj i j a (upto_some e1).1 (upto_some e2).1, fun i a e => h.nb i a (upto_some e).1, h.bd, by rw [List.length_take, List.length_take, h.len]⟩
  · have hi : i < n := by
      have := (List.getElem?_eq_some_iff.mp e).1
      rw [List.length_take] at this
      omega
    rw [List.getElem?_take_of_lt hi] at e
    rw [List.getElem?_take_of_lt hi, show upto o n i = o i from if_pos hi]
    exact (h.sl i s e).mono (fun a u n q => ⟨q, fun z => n (Zo.upto a z)⟩) fun _ _ => rfl
  · by_cases hi : i < n
    · rw [List.getElem?_take_of_lt hi] at e
      rw [show upto o n i = o i from if_pos hi]
      exact h.out i e
    · exact if_neg hi
theorem Ho.start {N : List Str} {sl : List Sl} {vs : List V} {m : Nat} (h : Ho C B o sl (vs.map some) H) (hm : m = N.length - vs.length) : Ho C B o (sl ++ List.replicate m .un) (L2.start N vs) H := by
  subst hm
  have hl : sl.length = vs.length := by simpa using h.len
  refine ⟨fun i s e => ?_, fun i e => ?_, h.inj, h.nb, h.bd, by simp [L2.start, hl]⟩
  · unfold L2.start
    by_cases hi : i < sl.length
    · rw [List.getElem?_append_left hi] at e
      rw [List.getElem?_append_left (by simpa [hl] using hi)]
      exact h.sl i s e
    · rw [List.getElem?_append_right (by omega), List.getElem?_replicate] at e
      split at e
      · cases e
        exact h.out i (List.getElem?_eq_none (by omega))
      · cases e
  · rw [List.getElem?_eq_none_iff, List.length_append] at e
    exact h.out i (List.getElem?_eq_none (by omega))
end

theorem callAt_succ {P : Pr} {n f : Nat} {sl : List Sl} {d : Def} {r : D × Bool × List Sl} (hd : P.defs[f]? = some d) (h : callAt P (n + 1) f sl = some r) :
    sl.length = d.np ∧ d.np ≤ d.nn ∧ sl.all Sl.fit = true ∧ ((∃ v fr ρ, exs P (callAt P n) (sl ++ List.replicate (d.nn - d.np) .un) d.body = some (.rt v fr ρ) ∧ r = (v, fr, ρ.take d.np)) ∨
      ∃ ρ, exs P (callAt P n) (sl ++ List.replicate (d.nn - d.np) .un) d.body = some (.nx ρ) ∧ r = (.non, false, ρ.take d.np)) := by
  simp only [callAt, hd, Option.bind_some] at h
  split at h
  · rename_i hc
    refine ⟨hc.1, hc.2.1, hc.2.2, ?_⟩
    split at h
    · rename_i v fr ρ e
      cases h
      exact .inl ⟨v, fr, ρ, e, rfl⟩
    · rename_i ρ e
      cases h
      exact .inr ⟨ρ, e, rfl⟩
    · cases h
  · cases h

/-- a def of the text, one level up -/
theorem fng_def {P : Program} {w : World} {K : PySem.W.Frag} {mg : Str → Option Value} {base : Heap} {k : Nat} {x qual : Str} {st : Stmt} {fa : Addr} {fd : FuncData} {N ps : List Str} {cn : Nat → Addr} {Q : Pr} {n f : Nat} {d : Def}
    (F : Fun K x qual st fa fd) (S : FnScope N ps (defScope st)) (hd : Q.defs[f]? = some d) (hp : d.np = ps.length) (hn : d.nn = N.length)
    (hbody : ∀ (cdv : Value) (A : Around) (outer : List Env) (s : Shared) (H : Hp), Room k (A.deeper (envOfC qual (defScope st) s.heap.objs.size fa cdv)) → (A.deeper (envOfC qual (defScope st) s.heap.objs.size fa cdv)).guards = some [] →
      PSs (cxOf CX0 P w K mg base N qual (defScope st) fa cdv A outer s H E0) (defBody st) (tSt ⟨K, w, cn⟩ fun ρ => exs Q (callAt Q n) ρ d.body)) :
    FnG P w K mg base (k + 1) fa fd ps (spOf ⟨K, w, cn⟩ (callAt Q (n + 1)) f) := by
  refine fng_of F S (fun vs H Qv ⟨B, o, sl, r, ho, he, _⟩ => ?_) fun cdv A outer s H vs Qv hr hg ⟨B, o, sl, r, ho, he, q⟩ => ?_
  · have := (callAt_succ hd he).1
    rw [← hp, ← this]
    simpa using ho.len.symm
  · obtain ⟨c1, c2, c3, c4⟩ := callAt_succ hd he
    have hl : sl.length = vs.length := by simpa using ho.len
    refine ⟨_, hbody cdv A outer s H hr hg, ?_⟩
    have hs : Ho ⟨K, w, cn⟩ B o (sl ++ List.replicate (d.nn - d.np) .un) (L2.start N vs) H := ho.start (by rw [hn, ← c1, hl])
    have pins : ∀ {ρ σ'}, Pn (sl ++ List.replicate (d.nn - d.np) .un) ρ → Kp (sl ++ List.replicate (d.nn - d.np) .un) (L2.start N vs) σ' → ∀ (k : Nat) s', (ρ.take d.np)[k]? = some s' → s'.pin = true → (σ'.take d.np)[k]? = (vs.map some)[k]? := fun {ρ σ'} pn kp k s' e p => by
      have hk : k < d.np := by
        have := (List.getElem?_eq_some_iff.mp e).1
        rw [List.length_take] at this
        omega
      rw [List.getElem?_take_of_lt hk] at e ⊢
      have e1 := pn.pin k
      rw [e] at e1
      obtain ⟨s0, e2, e3⟩ := Option.map_eq_some_iff.mp e1.symm
      rw [kp k s0 e2 (e3.trans p)]
      unfold L2.start
      rw [List.getElem?_append_left (by simp; omega)]
    have stp : ∀ {H' o'}, Step H o H' o' → Step H o H' (upto o' d.np) := fun {H' o'} s => ⟨s.keep, s.dom, fun i a e => s.own i a (upto_some e).1⟩
    rcases c4 with ⟨v, fr, ρ, e1, rfl⟩ | ⟨ρ, e1, rfl⟩
    · refine ⟨B, o, _, _, hs, e1, fun u σ' H' o' st pn kp rs => ?_⟩
      refine q u H' (upto o' d.np) (σ'.take d.np) (stp st) (pins pn kp) ?_
      cases fr with
      | false => exact ⟨rs.1.take, rs.2.mono fun a u n q => ⟨q, fun z => n (Zo.upto a z)⟩⟩
      | true =>
        obtain ⟨r, er, nw, h1, h2⟩ := rs
        refine ⟨r, er, ?_, h1.take, h2.mono (fun a u n q => ⟨q, fun z => n (Zo.upto a z)⟩) rfl⟩
        rcases nw with nw | ⟨i, e, e2, e3⟩
        · exact nw
        · exfalso
          by_cases hi : i < sl.length
          · rw [List.getElem?_append_left hi] at e2
            have := List.all_eq_true.mp c3 _ (List.mem_of_getElem? e2)
            simp [Sl.fit] at this
          · rw [List.getElem?_append_right (by omega), List.getElem?_replicate] at e2
            split at e2 <;> cases e2
    · refine ⟨B, o, _, _, hs, e1, fun σ' H' o' st pn kp h' => ?_⟩
      exact q .non H' (upto o' d.np) (σ'.take d.np) (stp st) (pins pn kp) ⟨h'.take, .non⟩
end BK

set_option Elab.async false
set_option linter.all false
set_option maxRecDepth 100000
set_option maxHeartbeats 4000000
/-! BK15: the text beside its program: what a piece of text must look like. -/
namespace BK
open PySem PySem.Spec PyProof.Rows L2

/-! ### plain heads -/
def nStar : Expr → Bool
  | .Starred _ _ => false
  | _ => true
def nSet : Expr → Bool
  | .Set _ _ _ => false
  | _ => true
def nSlice : Expr → Bool
  | .Slice _ _ _ _ => false
  | .Tuple _ _ _ => false
  | _ => true
def nTruth : Expr → Bool
  | .UnaryOp _ _ _ => false
  | .BoolOp _ _ _ => false
  | .IfExp _ _ _ _ => false
  | .Compare _ _ _ _ => false
  | .NamedExpr _ _ _ => false
  | _ => true
def nCall0 : Expr → Bool
  | .Call (.Name id _) [] [] _ => id != "super"
  | _ => true
def nComp : Expr → Bool
  | .ListComp _ _ _ _ => false
  | .SetComp _ _ _ _ => false
  | .DictComp _ _ _ _ _ => false
  | _ => true
def nTup : Expr → Bool
  | .Tuple _ _ _ => false
  | .List _ _ => false
  | _ => true
theorem star_ok {e : Expr} {es : List Expr} {env : Env} (h : nStar e = true) : starEach (e :: es) env = (false, eval e env) :: starEach es env := by
  cases e <;> first | rfl | (simp [nStar] at h)
theorem star_any {pos : Pos} {env : Env} : ∀ {es : List Expr}, es.all nStar = true → (backTo pos (starEach es env)).any (·.1) = false
  | [], _ => rfl
  | e :: es, h => by
    rw [List.all_cons, Bool.and_eq_true] at h
    rw [star_ok h.1]
    exact star_any h.2
theorem ab_ok {o : Expr} {m : Str} {env : Env} {whole : Sem Value} (h : nCall0 o = true) : attributeBase o m env whole = whole := by
  unfold nCall0 at h
  split at h
  · exact L2.abase_call h
  · rename_i hn
    unfold attributeBase
    split
    · exact absurd rfl (hn _ _ _)
    · rfl
theorem fs_ok {e : Expr} {env : Env} {x : Value} (h : nSet e = true) : foldedSetIterable e env x = pure x := by
  unfold foldedSetIterable
  split
  · simp [nSet] at h
  · rfl
theorem bm_ok {op : CmpOp} {b : Expr} (h : nSet b = true) : behindInMarks op b = false := by
  unfold behindInMarks
  split
  · simp [nSet] at h
  · rfl
theorem ix_ok {b : Expr} (h : nSlice b = true) : PlainIx b := by
  intro o i
  cases b <;> first | rfl | (simp [nSlice] at h)
theorem tr_ok {e : Expr} {env : Env} (h : nTruth e = true) : ∀ whole, PySem.isTrue e env whole = (do let v ← whole; standAt e.pos; holding [v] (truthy v)) := by
  intro whole
  cases e <;> first | rfl | (simp [nTruth] at h)
theorem sw_ok {e : Expr} {t : Option Expr} {l : Nat} {env : Env} (h : nComp e = true) : swapsWith e t l env = pure false := by
  cases e <;> first | rfl | (simp [nComp] at h)
theorem st_ok {t e : Expr} {env : Env} (h : (nTup t || nTup e) = true) : swappedStores [t] e env = pure none := by
  cases t <;> first | rfl | (cases e <;> first | rfl | (simp [nTup] at h))
theorem as_ok {t : Expr} {env : Env} (h : nStar t = true) : List.map (fun x => x.2) (assignEach [t] env) = [assign t env] := by
  cases t <;> first | rfl | (simp [nStar] at h)
theorem au_ok {i : Expr} (h : nSlice i = true) : ∀ ov iv new : Value, augStore i ov iv new = (do
      holding [new, ov, iv] (setItem ov iv new)
      release [new, ov, iv] []
      pure Flow.next) := by
  intro ov iv new
  cases i <;> first | rfl | (simp [nSlice] at h)
end BK

set_option Elab.async false
set_option linter.all false
set_option maxRecDepth 100000
set_option maxHeartbeats 4000000
/-! BK15b: the stores of a, b = e, f. -/
namespace BK
open PySem PySem.Spec PyProof.Rows L2
theorem nst {a : Expr} (ha : nStar a = true) {f : Expr → Bool} (hf : ∀ e, f e = true → nStar e = false) : f a = false := by
  cases h : f a with
  | false => rfl
  | true => rw [hf a h] at ha; cases ha
theorem sw2 {x y : Str} {px py pt pt2 : Pos} {kt k2 : Nat} {a b : Expr} {env : Env} (hk : env.scope.kind = .function) (hx : env.scope.names.lookup x = some .local) (hy : env.scope.names.lookup y = some .local) (hxy : x ≠ y) (hl : (py.line == px.line) = true) (ha : nStar a = true) (hb : nStar b = true)
    (hf : [a, b].all (foldedForSure 8) = false) (hc : [a, b].all (constantsAlone 8) = false) :
    swappedStores [.Tuple [.Name x px, .Name y py] kt pt] (.Tuple [a, b] k2 pt2) env = pure (some [x, y]) := by
  have hbk : env.blockKind = ScopeKind.function := by
    unfold Env.blockKind
    rw [hk]
    split <;> rfl
  have kx : env.kindOf x = some .local := hx
  have ky : env.kindOf y = some .local := hy
  unfold swappedStores
  dsimp only
  refine (if_neg ?_).trans ?_
  · rw [hbk]
    simp
  refine (if_neg ?_).trans ?_
  · intro h
    simp only [List.any_cons, List.any_nil, Bool.or_false, Bool.or_eq_true] at h
    rcases h with h | h
    · cases a <;> first | (cases h; done) | (simp [nStar] at ha)
    · cases b <;> first | (cases h; done) | (simp [nStar] at hb)
  have e1 : (env.kindOf x == some NameKind.local && px.line == px.line) = true := by rw [kx]; simp
  have e2 : (env.kindOf y == some NameKind.local && py.line == px.line) = true := by rw [ky, hl]; rfl
  simp only [List.head?_cons, Option.map_some, Option.getD_some, List.filterMap_cons, List.filterMap_nil]
  have p1 : (Expr.Name x px).pos = px := rfl
  simp only [p1, e1, e2, if_true]
  have d1 : ([x, y].eraseDups).length = 2 := by
    have : (y == x) = false := beq_eq_false_iff_ne.mpr (Ne.symm hxy)
    simp [List.eraseDups_cons, this]
  rw [d1, hf, hc]
  simp
theorem sw3 {x y z : Str} {px py pz pt pt2 : Pos} {kt k2 : Nat} {a b c : Expr} {env : Env} (hk : env.scope.kind = .function) (hx : env.scope.names.lookup x = some .local) (hy : env.scope.names.lookup y = some .local) (hz : env.scope.names.lookup z = some .local) (hxy : x ≠ y) (hxz : x ≠ z) (hyz : y ≠ z) (hl : (py.line == px.line) = true) (hl2 : (pz.line == px.line) = true) (ha : nStar a = true) (hb : nStar b = true) (hcc : nStar c = true)
    (hf : [a, b, c].all (foldedForSure 8) = false) (hc : [a, b, c].all (constantsAlone 8) = false) :
    swappedStores [.Tuple [.Name x px, .Name y py, .Name z pz] kt pt] (.Tuple [a, b, c] k2 pt2) env = pure (some [x, y, z]) := by
  have hbk : env.blockKind = ScopeKind.function := by
    unfold Env.blockKind
    rw [hk]
    split <;> rfl
  have kx : env.kindOf x = some .local := hx
  have ky : env.kindOf y = some .local := hy
  have kz : env.kindOf z = some .local := hz
  unfold swappedStores
  dsimp only
  refine (if_neg ?_).trans ?_
  · rw [hbk]
    simp
  refine (if_neg ?_).trans ?_
  · intro h
    simp only [List.any_cons, List.any_nil, Bool.or_false, Bool.or_eq_true] at h
    rcases h with h | h | h
    · cases a <;> first | (cases h; done) | (simp [nStar] at ha)
    · cases b <;> first | (cases h; done) | (simp [nStar] at hb)
    · cases c <;> first | (cases h; done) | (simp [nStar] at hcc)
  have e1 : (env.kindOf x == some NameKind.local && px.line == px.line) = true := by rw [kx]; simp
  have e2 : (env.kindOf y == some NameKind.local && py.line == px.line) = true := by rw [ky, hl]; rfl
  have e3 : (env.kindOf z == some NameKind.local && pz.line == px.line) = true := by rw [kz, hl2]; rfl
  simp only [List.head?_cons, Option.map_some, Option.getD_some, List.filterMap_cons, List.filterMap_nil]
  have p1 : (Expr.Name x px).pos = px := rfl
  simp only [p1, e1, e2, e3, if_true]
  have d1 : ([x, y, z].eraseDups).length = 3 := by
    have n1 : (y == x) = false := beq_eq_false_iff_ne.mpr (Ne.symm hxy)
    have n2 : (z == x) = false := beq_eq_false_iff_ne.mpr (Ne.symm hxz)
    have n3 : (z == y) = false := beq_eq_false_iff_ne.mpr (Ne.symm hyz)
    simp [List.eraseDups_cons, n1, n2, n3]
  rw [d1, hf, hc]
  simp
def isSubE : Expr → Bool
  | .Subscript _ _ _ => true
  | _ => false
theorem sws {ts vs : List Expr} {pt pt2 : Pos} {kt k2 : Nat} {env : Env} (h : ts.all isSubE = true) (h0 : ts ≠ []) : swappedStores [.Tuple ts kt pt] (.Tuple vs k2 pt2) env = pure none := by
  unfold swappedStores
  dsimp only
  split
  · rfl
  split
  · rfl
  refine if_pos ?_
  rw [List.filterMap_eq_nil_iff.mpr]
  · cases ts with
    | nil => exact absurd rfl h0
    | cons t ts => rfl
  · intro t ht
    have := List.all_eq_true.mp h t ht
    cases t <;> first | rfl | cases this
end BK

set_option Elab.async false
set_option linter.all false
set_option maxRecDepth 100000
set_option maxHeartbeats 4000000
/-! BK15c: sorted(xs), x is None, x is True. -/
namespace BK
open PySem PySem.Spec PyProof.Rows L2
section
variable {X : Cx} {cn : Nat → Addr} {k : Nat}
abbrev VD := V × BK.D
def encD (d : BK.D) : PyData := d.py.getD .none
theorem pys_map : ∀ {ds : List BK.D} {ps : List PyData}, D.pys ds = some ps → ds.map encD = ps ∧ ∀ d ∈ ds, d.py = some (encD d)
  | [], ps, h => by
    rw [D.pys] at h
    cases h
    exact ⟨rfl, fun _ m => absurd m List.not_mem_nil⟩
  | d :: ds, ps, h => by
    rw [D.pys] at h
    obtain ⟨p, e1, h⟩ := Option.bind_eq_some_iff.mp h
    obtain ⟨qs, e2, h⟩ := Option.map_eq_some_iff.mp h
    cases h
    obtain ⟨h1, h2⟩ := pys_map e2
    have e3 : encD d = p := by unfold encD; rw [e1]; rfl
    refine ⟨by rw [List.map_cons, h1, e3], fun x m => ?_⟩
    rcases List.mem_cons.mp m with rfl | m
    · rw [e3]; exact e1
    · exact h2 x m
theorem each_vd {C : Kw} {Z : Addr → Prop} {H : Hp} : ∀ {vs : List V} {us : List Value} {ds : List BK.D}, Vals vs us → DenAll C Z H vs ds → PySem.W.EachIs (fun u (b : VD) => L2.RelV b.1 u ∧ Den C Z H b.1 b.2 ∧ b.2 ∈ ds) us (vs.zip ds)
  | _, _, _, .nil, .nil => .nil
  | _, _, _, .cons r t, .cons w u => by
    rw [List.zip_cons_cons]
    exact .cons ⟨r, w, List.mem_cons_self ..⟩ ((each_vd t u).mono fun _ _ h => ⟨h.1, h.2.1, List.mem_cons_of_mem _ h.2.2⟩)
theorem vd_back {C : Kw} {Z : Addr → Prop} {H : Hp} {ds : List BK.D} : ∀ {us : List Value} {bs : List VD}, PySem.W.EachIs (fun u (b : VD) => L2.RelV b.1 u ∧ Den C Z H b.1 b.2 ∧ b.2 ∈ ds) us bs → Vals (bs.map Prod.fst) us ∧ DenAll C Z H (bs.map Prod.fst) (bs.map Prod.snd)
  | _, _, .nil => ⟨.nil, .nil⟩
  | _, _, .cons h t => ⟨.cons h.1 (vd_back t).1, .cons h.2.1 (vd_back t).2⟩
theorem snd_zip : ∀ {vs : List V} {ds : List BK.D}, vs.length = ds.length → (vs.zip ds).map Prod.snd = ds
  | [], [], _ => rfl
  | [], _ :: _, h => by simp at h
  | _ :: _, [], h => by simp at h
  | v :: vs, d :: ds, h => by rw [List.zip_cons_cons, List.map_cons, snd_zip (by simpa using h)]
theorem cr_sort' (hr : Room k X.A) : CallR X (.builtin "sorted") (o1 (kw X cn) .sort) := by
  intro pins s σ H xs us Q I r h
  obtain ⟨x, rfl, Z, d, r', f, hz, hd, he, q⟩ := h
  cases d <;> simp only [op1] at he <;> try (cases he; done)
  rename_i ds
  split at he
  · rename_i hl
    obtain ⟨ys, e1, e2⟩ := Option.map_eq_some_iff.mp he
    cases e2
    unfold sortD at e1
    split at e1
    · rename_i ps ep
      split at e1
      · rename_i hc
        cases e1
        simp only [Bool.and_eq_true, List.all_eq_true, decide_eq_true_eq] at hc
        obtain ⟨⟨c1, c2⟩, c3⟩ := hc
        obtain ⟨m1, m2⟩ := pys_map ep
        obtain ⟨a, vs, rfl, ha, hv⟩ := hd.lst
        obtain ⟨its, rv, hL, _⟩ := I.list (SqL.of ha)
        rw [Vals.ref1 r]
        have hlen : vs.length = ds.length := hv.length
        have ez : ((vs.zip ds).map fun b : VD => encD b.2) = ps := by
          rw [← m1, ← snd_zip hlen, List.map_map, snd_zip hlen]
          rfl
        refine PySem.W.sorted_data (enc := fun b : VD => encD b.2) hL.isList (each_vd rv hv) ((each_vd rv hv).mono fun u b h => Dp.reads I _ _ _ (h.2.1.dp (m2 _ h.2.2)) h.1) ?_ ?_ ?_ ?_ fun out ho eo => ?_
        · rw [ez]
          exact fun p hp p' hp' => c1 p hp p' hp'
        · rw [ez]
          unfold sortD.sortableB at c2
          rw [Bool.or_eq_true, List.all_eq_true, List.all_eq_true] at c2
          rcases c2 with c2 | c2
          · refine .inl fun p hp => ?_
            have := c2 p hp
            split at this
            · exact ⟨_, _, rfl⟩
            · cases this
          · refine .inr fun p hp => ?_
            have := c2 p hp
            split at this
            · cases this
            · cases this
            · rename_i n1 n2
              exact ⟨fun z => n2 z, fun xs z => n1 xs z⟩
        · rw [List.length_zip]
          exact Nat.le_trans (Nat.min_le_right _ _) (most_le hl)
        · intro b hb
          have hb2 : encD b.2 ∈ ps := by rw [← ez]; exact List.mem_map.mpr ⟨b, hb, rfl⟩
          have := c3 _ hb2
          have := hr.un
          omega
        · obtain ⟨n, he'⟩ := PyProof.Rows.sortedAll_at s.heap its out.toArray
          obtain ⟨w1, w2⟩ := vd_back eo
          have e3 : (((vs.zip ds).mergeSort (PySem.W.dataLe false fun b : VD => encD b.2)).map Prod.snd) = ds.mergeSort fun a b => sortD.leD a b := 
            (List.map_mergeSort (r := PySem.W.dataLe false fun b : VD => encD b.2) (s := fun a b => sortD.leD a b) (f := Prod.snd) fun a _ b _ => rfl).trans (by rw [snd_zip hlen])
          rw [e3] at w2
          have hlen2 : (((vs.zip ds).mergeSort (PySem.W.dataLe false fun b : VD => encD b.2)).map Prod.fst).length ≤ sizeLine := by
            rw [List.length_map, List.length_mergeSort, List.length_zip]
            exact Nat.le_trans (Nat.min_le_right _ _) (most_le hl)
          have fr := I.hok.fresh (a := s.heap.objs.size + 1) (Nat.le_succ _)
          refine ⟨.ref _, upd H (s.heap.objs.size + 1) (.lst _), I.laid (t' := s.toks) (fun _ _ => PyProof.Rows.sortedAll_old) (Nat.le_succ _) ⟨hlen2, out, n, w1, he'⟩, rfl, q _ _ (Ext.new fr) (newl fr w2)⟩
      · cases e1
    · cases e1
  · cases he
theorem den_nn {C : Kw} {Z : Addr → Prop} {H : Hp} {v : V} {d : BK.D} (h : DenT C Z H v d) : op1 .isN d = some (.bl (decide (v = .non)), false) ∧ op1 .notN d = some (.bl (!decide (v = .non)), false) := by
  rcases h with h | ⟨a, rfl, h⟩
  · cases h <;> exact ⟨rfl, rfl⟩
  · cases d <;> first
      | exact h.elim
      | exact ⟨rfl, rfl⟩
theorem op_isN' : OpR X (compareOp .Is) (fun x y H Q => y = .non ∧ w1 (kw X cn) .isN x H Q) := by
  rintro pins s σ H x y v u Q I rx ry ⟨rfl, Z, d, r, f, hz, hd, he, q⟩
  rw [(den_nn hd).1] at he
  cases he
  exact op_isN pins s σ H x .non v u Q I rx ry ⟨rfl, fin0 q (.bl _)⟩
theorem op_notN' : OpR X (compareOp .IsNot) (fun x y H Q => y = .non ∧ w1 (kw X cn) .notN x H Q) := by
  rintro pins s σ H x y v u Q I rx ry ⟨rfl, Z, d, r, f, hz, hd, he, q⟩
  rw [(den_nn hd).2] at he
  cases he
  exact op_notN pins s σ H x .non v u Q I rx ry ⟨rfl, fin0 q (.bl _)⟩
theorem op_isB' {b : Bool} : OpR X (compareOp .Is) (fun x y H Q => y = .bl b ∧ w1 (kw X cn) (.isB b) x H Q) := by
  rintro pins s σ H x y v u Q I rx ry ⟨rfl, Z, d, r, f, hz, hd, he, q⟩
  cases d <;> simp only [op1] at he <;> try (cases he; done)
  cases he
  have := hd.bl
  subst this
  exact op_is_bl pins s σ H _ (.bl b) v u Q I rx ry ⟨_, _, rfl, rfl, fin0 q (by rename_i c; cases c <;> cases b <;> exact .bl _)⟩
theorem op_notB' {b : Bool} : OpR X (compareOp .IsNot) (fun x y H Q => y = .bl b ∧ w1 (kw X cn) (.notB b) x H Q) := by
  rintro pins s σ H x y v u Q I rx ry ⟨rfl, Z, d, r, f, hz, hd, he, q⟩
  cases d <;> simp only [op1] at he <;> try (cases he; done)
  cases he
  have := hd.bl
  subst this
  exact op_isnot_bl pins s σ H _ (.bl b) v u Q I rx ry ⟨_, _, rfl, rfl, fin0 q (by rename_i c; cases c <;> cases b <;> exact .bl _)⟩
end
end BK

set_option Elab.async false
set_option linter.all false
set_option maxRecDepth 100000
set_option maxHeartbeats 4000000
/-! BK16: the check of a text against its program. -/
namespace BK
open PySem PySem.Spec PyProof.Rows L2

/-- the program; the defs that stand at the top; builtins that no module's name hides -/
structure Gd where
  P : Pr
  tops : List Nat
  off : List Str
/-- the names of a def, the block's scope, which names may be stored though they are cells -/
structure Ga where
  N : List Str
  sc : Scope
  fn : Str → Bool
def envS (sc : Scope) : Env := { scope := sc, locals := 0, globals := 0, cells := [] }
theorem relabel_eq {scope : Scope} {env : Env} : relabel scope env = relabel scope (envS env.scope) := rfl
def Ga.look (Γ : Ga) (x : Str) : Option NameKind := Γ.sc.names.lookup x
def Ga.vis (Γ : Ga) (x : Str) : Bool := Γ.look x == some .local || Γ.look x == some .cell || Γ.look x == some .free
def Ga.loc (Γ : Ga) (x : Str) : Bool := Γ.look x == some .local || (Γ.look x == some .cell && Γ.fn x)
def Ga.gl (Γ : Ga) (x : Str) : Bool := Γ.look x == some .globalImplicit && x != "__debug__" && x != "__name__"
def Ga.blk (Γ : Ga) (scope : Scope) : Ga := ⟨Γ.N, relabel scope (envS Γ.sc), fun x => scope.names.lookup x == some .cell⟩
def chkV (Γ : Ga) (e : Expr) (i : Nat) : Bool := match e with
  | .Name x _ => Γ.N[i]? == some x && Γ.vis x && x != "__debug__" && x != "__classdict__"
  | _ => false
def chkC (e : Expr) (d : D) : Bool := match e, d with
  | .Constant (.int i) _ _, .int j => i == j
  | .Constant (.str x) _ _, .str y => x == y
  | .Constant (.bool b) _ _, .bl c => b == c
  | .Constant .none _ _, .non => true
  | _, _ => false
def binOf : Op → Option Operator
  | .add => some .Add
  | .sub => some .Sub
  | .mul => some .Mult
  | .fdiv => some .FloorDiv
  | .mod => some .Mod
  | .pow => some .Pow
  | .bor => some .BitOr
  | .band => some .BitAnd
  | _ => none
def cmpOf : Op → Option CmpOp
  | .eq => some .Eq
  | .ne => some .NotEq
  | .lt => some .Lt
  | .le => some .LtE
  | .gt => some .Gt
  | .ge => some .GtE
  | .isin => some .In
  | .notin => some .NotIn
  | _ => none
def b1Of : Op → Option Str
  | .len => some "len"
  | .abs => some "abs"
  | .int => some "int"
  | .list => some "list"
  | .tup => some "tuple"
  | .repr => some "repr"
  | .all => some "all"
  | .any => some "any"
  | .sort => some "sorted"
  | .sum => some "sum"
  | .max => some "max"
  | .min => some "min"
  | _ => none
def chkIs (op : Op) (o : CmpOp) (r : Expr) : Bool := match op, o, r with
  | .isN, .Is, .Constant .none _ _ => true
  | .notN, .IsNot, .Constant .none _ _ => true
  | .isB b, .Is, .Constant (.bool c) _ _ => b == c
  | .notB b, .IsNot, .Constant (.bool c) _ _ => b == c
  | _, _, _ => false
def chkT1 (Γ : Ga) (e : Expr) : Tg1 → Bool
  | .nm i => match e with
    | .Name x _ => Γ.N[i]? == some x && Γ.loc x
    | _ => false
  | .ix i kd => match e with
    | .Subscript o k _ => chkV Γ o i && chkC k kd
    | _ => false
def chkT1s (Γ : Ga) : List Expr → List Tg1 → Bool
  | [], [] => true
  | e :: es, t :: ts => chkT1 Γ e t && chkT1s Γ es ts
  | _, _ => false
def chkTg (Γ : Ga) (e : Expr) : Tg → Bool
  | .one t => chkT1 Γ e t
  | .tp ts => match e with
    | .Tuple es _ _ => chkT1s Γ es ts && !es.isEmpty
    | _ => false
def ownOf (Γ : Ga) (tg : Tg) : List (Str × Nat) := tg.own.map fun i => (Γ.N.getD i "", i)
def keyE : Option Expr → Option Str
  | some (.Constant (.str x) _ _) => some x
  | _ => none
def tyName : Ty → Str
  | .int => "int"
  | .bool => "bool"
  | .str => "str"
  | .list => "list"
  | .tuple => "tuple"
  | .dict => "dict"
  | .own _ => ""
def chkTy (G : Gd) (Γ : Ga) (e : Expr) (t : Ty) : Bool := match e with
  | .Name x _ => Γ.gl x && (match t with
    | .own c => (G.P.cls[c]?).any fun k => k.name == x
    | t => tyName t == x && G.off.contains x)
  | _ => false
def chkTys (G : Gd) (Γ : Ga) : List Expr → List Ty → Bool
  | [], [] => true
  | e :: es, t :: ts => chkTy G Γ e t && chkTys G Γ es ts
  | _, _ => false
def chkIsi (G : Gd) (Γ : Ga) (e : Expr) : List Ty → Bool
  | [t] => chkTy G Γ e t
  | ts => match e with
    | .Tuple es _ _ => chkTys G Γ es ts && decide (ts.length ≤ 30)
    | _ => false
mutual
def chkE (G : Gd) (Γ : Ga) (e : Expr) : E → Bool
  | .var i => chkV Γ e i
  | .cst d => chkC e d
  | .glb g => match e with
    | .Name x _ => Γ.gl x && (G.P.gls[g]?).any fun z => z.1 == x
    | _ => false
  | .ap1 op a => match e with
    | .UnaryOp .USub b _ => op == .neg && chkE G Γ b a
    | .UnaryOp .Invert b _ => op == .inv && chkE G Γ b a
    | .Compare l [o] [r] _ => chkIs op o r && chkE G Γ l a
    | .Subscript b (.Slice none none none _) _ => op == .sl false false && chkE G Γ b a
    | .Subscript b (.Slice none none (some (.UnaryOp .USub (.Constant (.int 1) _ _) _)) _) _ => op == .rev && chkE G Γ b a
    | .Call (.Name x _) [b] [] _ => b1Of op == some x && Γ.gl x && G.off.contains x && nStar b && chkE G Γ b a
    | _ => false
  | .ap2 op a b => match e with
    | .BinOp l o r _ => binOf op == some o && chkE G Γ l a && chkE G Γ r b
    | .Compare l [o] [r] _ => cmpOf op == some o && nSet r && chkE G Γ l a && chkE G Γ r b
    | .Subscript l (.Slice none (some r) none _) _ => op == .sl false true && chkE G Γ l a && chkE G Γ r b
    | .Subscript l (.Slice (some r) none none _) _ => op == .sl true false && chkE G Γ l a && chkE G Γ r b
    | .Subscript l r _ => op == .idx && nSlice r && chkE G Γ l a && chkE G Γ r b
    | _ => false
  | .ap3 _ _ _ _ => false
  | .chn o1 o2 a b c => match e with
    | .Compare l [p1, p2] [r, s] _ => cmpOf o1 == some p1 && cmpOf o2 == some p2 && !lastMarks [p1, p2] [r, s] && chkE G Γ l a && chkE G Γ r b && chkE G Γ s c
    | _ => false
  | .tup xs => match e with
    | .Tuple es _ _ => chkEs G Γ es xs
    | _ => false
  | .lst xs => match e with
    | .List es _ => chkEs G Γ es xs
    | _ => false
  | .dsp ks xs => match e with
    | .Dict keys vals _ => (keys.length == vals.length && keys.map keyE == ks.map some) && chkEs G Γ vals xs
    | _ => false
  | .ite c a b => match e with
    | .IfExp c' a' b' _ => chkT G Γ c' c && chkE G Γ a' a && chkE G Γ b' b
    | _ => false
  | .and xs => match e with
    | .BoolOp .And es _ => !es.isEmpty && chkEs G Γ es xs
    | _ => false
  | .or xs => match e with
    | .BoolOp .Or es _ => !es.isEmpty && chkEs G Γ es xs
    | _ => false
  | .not a => match e with
    | .UnaryOp .Not b _ => chkE G Γ b a
    | _ => false
  | .call f xs => match e with
    | .Call (.Name x _) es [] _ => Γ.gl x && (G.P.defs[f]?).any (fun d => d.name == x) && G.tops.contains f && chkEs G Γ es xs
    | _ => false
  | .new c xs => match e with
    | .Call (.Name x _) es [] _ => Γ.gl x && (G.P.cls[c]?).any (fun k => k.name == x) && chkEs G Γ es xs
    | _ => false
  | .meth m o xs => match e with
    | .Call (.Attribute o' n apos) es [] pos => n == m && nCall0 o' && (apos.endLine == pos.line) && decide (es.length < 29) && chkE G Γ o' o && chkEs G Γ es xs
    | _ => false
  | .mut m i xs => match e with
    | .Call (.Attribute (.Name x p) n apos) es [] pos => chkV Γ (.Name x p) i && (apos.endLine == pos.line) && chkEs G Γ es xs && (match m with
      | .app => n == "append" && es.length == 1
      | .ins => n == "insert" && es.length == 2
      | .ext => n == "extend" && es.length == 1
      | .pop => n == "pop" && es.isEmpty)
    | _ => false
  | .bm m x xs => match e with
    | .Call (.Attribute o n apos) es [] pos => nCall0 o && (apos.endLine == pos.line) && chkE G Γ o x && chkEs G Γ es xs && (match m with
      | .index => n == "index" && es.length == 1
      | .count => n == "count" && es.length == 1
      | .scn => n == "count" && es.length == 1
      | .get => n == "get" && (es.length == 1 || es.length == 2))
    | _ => false
  | .att n x => match e with
    | .Attribute o n' _ => n' == n && nCall0 o && chkE G Γ o x
    | _ => false
  | .nev => true
  | .tmp x => nComp e && chkE G Γ e x
  | .pick xs x => match e with
    | .Subscript (.List es _) r _ => nSlice r && chkEs G Γ es xs && chkE G Γ r x
    | _ => false
  | .isi ts x => match e with
    | .Call (.Name y _) [b, c] [] _ => y == "isinstance" && Γ.gl y && G.off.contains y && nStar b && nStar c && chkE G Γ b x && chkIsi G Γ c ts
    | _ => false
  | .lrg it => match e with
    | .Call (.Name x _) [b] [] _ => x == "list" && Γ.gl x && G.off.contains x && nStar b && (match it with
      | .rng1 a => (match b with
        | .Call (.Name y _) [c] [] _ => y == "range" && Γ.gl y && G.off.contains y && nStar c && chkE G Γ c a
        | _ => false)
      | .rng2 a a' => (match b with
        | .Call (.Name y _) [c, c'] [] _ => y == "range" && Γ.gl y && G.off.contains y && nStar c && nStar c' && chkE G Γ c a && chkE G Γ c' a'
        | _ => false)
      | _ => false)
    | _ => false
  | .lc elt tg it cd => match e with
    | .ListComp elt' [⟨tg', it', ifs', 0⟩] scope _ => nSet it' && tg.okd && chkI G Γ it' it && blkC Γ.N Γ.sc scope (ownOf Γ tg) && chkTg (Γ.blk scope) tg' tg && decide (ifs'.length ≤ 1) && chkTs G (Γ.blk scope) ifs' cd && chkE G (Γ.blk scope) elt' elt
    | _ => false
  | .lc2 elt tg it cd tg1 it1 cd1 => match e with
    | .ListComp elt' [⟨tg', it', ifs', 0⟩, ⟨tg1', it1', ifs1', 0⟩] scope _ => (nSet it' && tg.okd && chkI G Γ it' it && blkC Γ.N Γ.sc scope (ownOf Γ tg ++ ownOf Γ tg1) && chkTg (Γ.blk scope) tg' tg && decide (ifs'.length ≤ 1) && chkTs G (Γ.blk scope) ifs' cd) && (nSet it1' && tg1.okd && chkI G (Γ.blk scope) it1' it1 && chkTg (Γ.blk scope) tg1' tg1 && decide (ifs1'.length ≤ 1) && chkTs G (Γ.blk scope) ifs1' cd1) && chkE G (Γ.blk scope) elt' elt
    | _ => false
  | .lcw elt tg i cd => match e with
    | .ListComp elt' [⟨tg', it', ifs', 0⟩] scope _ => nSet it' && tg.okd && chkV Γ it' i && blkC Γ.N Γ.sc scope (ownOf Γ tg) && chkTg (Γ.blk scope) tg' tg && decide (ifs'.length ≤ 1) && chkTs G (Γ.blk scope) ifs' cd && chkE G (Γ.blk scope) elt' elt
    | _ => false
def chkEs (G : Gd) (Γ : Ga) (es : List Expr) : Es → Bool
  | .nil => es.isEmpty
  | .cons x xs => match es with
    | e :: es => nStar e && chkE G Γ e x && chkEs G Γ es xs
    | [] => false
def chkT (G : Gd) (Γ : Ga) (e : Expr) : T → Bool
  | .val x => (nTruth e && chkE G Γ e x) || (match x with
    | .ap1 op a => (match e with
      | .Compare l [o] [r] _ => chkIs op o r && chkE G Γ l a
      | _ => false)
    | _ => false)
  | .cmp op a b => match e with
    | .Compare l [o] [r] _ => cmpOf op == some o && nSet r && chkE G Γ l a && chkE G Γ r b
    | _ => false
  | .chn o1 o2 a b c => match e with
    | .Compare l [p1, p2] [r, s] _ => cmpOf o1 == some p1 && cmpOf o2 == some p2 && !lastMarks [p1, p2] [r, s] && chkE G Γ l a && chkE G Γ r b && chkE G Γ s c
    | _ => false
  | .all ws => match e with
    | .BoolOp .And es _ => !es.isEmpty && chkTs G Γ es ws
    | _ => false
  | .any ws => match e with
    | .BoolOp .Or es _ => !es.isEmpty && chkTs G Γ es ws
    | _ => false
  | .not w => match e with
    | .UnaryOp .Not a _ => chkT G Γ a w
    | _ => false
def chkTs (G : Gd) (Γ : Ga) (es : List Expr) : Ts → Bool
  | .nil => es.isEmpty
  | .cons w ws => match es with
    | e :: es => chkT G Γ e w && chkTs G Γ es ws
    | [] => false
def chkI (G : Gd) (Γ : Ga) (e : Expr) : I → Bool
  | .seq x => chkE G Γ e x
  | .rng1 a => match e with
    | .Call (.Name x _) [b] [] _ => x == "range" && Γ.gl x && G.off.contains x && nStar b && chkE G Γ b a
    | _ => false
  | .rng2 a b => match e with
    | .Call (.Name x _) [c, d] [] _ => x == "range" && Γ.gl x && G.off.contains x && nStar c && nStar d && chkE G Γ c a && chkE G Γ d b
    | _ => false
  | .vals x => match e with
    | .Call (.Attribute o n apos) [] [] pos => n == "values" && nCall0 o && (apos.endLine == pos.line) && chkE G Γ o x
    | _ => false
  | .items _ => false
end
def argOf : Op → Option (Operator)
  | .add => some .Add
  | .sub => some .Sub
  | _ => none
/-- a target of several names, not all of them plain locals -/
def capT (Γ : Ga) : Expr → Bool
  | .Tuple ts _ _ => ts.any fun t => match t with
    | .Name x _ => Γ.look x != some .local
    | _ => true
  | _ => false
def isW : E → Bool
  | .lcw _ _ _ _ => true
  | _ => false
mutual
def chkS (G : Gd) (Γ : Ga) (s : Stmt) : S → Bool
  | .asg tg x => match s with
    | .Assign [t] e p => tg.okd && chkTg Γ t tg && chkE G Γ e x && (nTup t || nTup e || capT Γ t) && (match t, e with
      | .Name y py, .ListComp _ _ scope pos => (Γ.look y == some .local && Γ.sc.kind == .function && (py.line == pos.line) && !(scope.names.any fun z => z.1 == y && (z.2 == .local || z.2 == .cell)) && !isW x) || Γ.look y != some .local
      | _, _ => nComp e)
    | _ => false
  | .par ts xs => match s with
    | .Assign [.Tuple tes _ _] (.Tuple ves _ _) _ => chkEs G Γ ves xs && (if ts.all isIx then chkT1s Γ tes ts && tes.all isSubE && !tes.isEmpty && ts.all Tg1.okd else Γ.sc.kind == .function && !(ves.all (foldedForSure 8)) && !(ves.all (constantsAlone 8)) && (match ts, tes, ves with
      | [.nm i, .nm j], [.Name x px, .Name y py], [_, _] => Γ.N[i]? == some x && Γ.N[j]? == some y && i != j && x != y && Γ.look x == some .local && Γ.look y == some .local && (py.line == px.line)
      | [.nm i, .nm j, .nm l], [.Name x px, .Name y py, .Name z pz], [_, _, _] => (Γ.N[i]? == some x && Γ.N[j]? == some y && Γ.N[l]? == some z) && (i != j && i != l && j != l) && (x != y && x != z && y != z) && (Γ.look x == some .local && Γ.look y == some .local && Γ.look z == some .local) && (py.line == px.line) && (pz.line == px.line)
      | _, _, _ => false))
    | _ => false
  | .set i k x => match s with
    | .Assign [.Subscript o k' _] e _ => chkV Γ o i && nSlice k' && chkE G Γ k' k && chkE G Γ e x && nComp e
    | _ => false
  | .aug i op x => match s with
    | .AugAssign (.Name y _) o e _ => Γ.N[i]? == some y && Γ.loc y && argOf op == some o && chkE G Γ e x
    | _ => false
  | .augi i k op x => match s with
    | .AugAssign (.Subscript o k' _) o' e _ => chkV Γ o i && nSlice k' && chkE G Γ k' k && argOf op == some o' && chkE G Γ e x
    | _ => false
  | .setf i n x => match s with
    | .Assign [.Attribute o n' _] e _ => n' == n && chkV Γ o i && nComp e && chkE G Γ e x
    | _ => false
  | .exp x => match s with
    | .Expr e _ => chkE G Γ e x && nComp e
    | _ => false
  | .ret x => match s with
    | .Return (some e) _ => chkE G Γ e x
    | _ => false
  | .reti w x y => match s with
    | .Return (some (.IfExp c a b _)) _ => chkT G Γ c w && chkE G Γ a x && chkE G Γ b y
    | _ => false
  | .iff w a b => match s with
    | .If c a' b' _ => chkT G Γ c w && chkSs G Γ a' a && chkSs G Γ b' b
    | _ => false
  | .for_ tg it b => match s with
    | .For t e b' [] _ => tg.okd && nSet e && chkTg Γ t tg && chkI G Γ e it && chkSs G Γ b' b
    | _ => false
  | .fore tg x b => match s with
    | .For (.Tuple es kk tp) (.Call (.Name y p) [e] [] pos) b' [] _ => tg.okd && nSet (.Call (.Name y p) [e] [] pos) && chkTg Γ (.Tuple es kk tp) tg && y == "enumerate" && Γ.gl y && G.off.contains y && nStar e && chkE G Γ e x && chkSs G Γ b' b
    | _ => false
  | .forw tg i b => match s with
    | .For t e b' [] _ => tg.okd && nSet e && chkTg Γ t tg && chkV Γ e i && chkSs G Γ b' b
    | _ => false
  | .whl w b => match s with
    | .While c b' [] _ => chkT G Γ c w && chkSs G Γ b' b
    | _ => false
  | .brk => match s with
    | .Break _ => true
    | _ => false
  | .cnt => match s with
    | .Continue _ => true
    | _ => false
  | .pss => match s with
    | .Pass _ => true
    | _ => false
  | .never => true
def chkSs (G : Gd) (Γ : Ga) (ss : List Stmt) : Ss → Bool
  | .nil => ss.isEmpty
  | .cons s0 r => match ss with
    | s :: ss => chkS G Γ s s0 && chkSs G Γ ss r
    | [] => false
end
/-- what holds wherever the text is run -/
structure XOk (G : Gd) (cn : Nat → Addr) (cf : Call) (k : Nat) (Γ : Ga) (X : Cx) : Prop where
  calm : X.calm = true
  N : X.N = Γ.N
  nd : Γ.N.Nodup
  sc : X.env.scope = Γ.sc
  fn : ∀ x, Γ.fn x = true → X.fn x = true
  xe : X.xe = fun _ _ => False
  room : Room (k + 1) X.A
  gu : X.A.guards = some []
  off : ∀ x, x ∈ G.off → X.mg x = none
  defs : ∀ (f : Nat) d, G.P.defs[f]? = some d → f ∈ G.tops → ∃ fa fd ps, X.mg d.name = some (.ref fa) ∧ PySem.W.keepIn X.K (.ref fa) = true ∧ FnG X.prog X.w X.K X.mg X.base k fa fd ps (spOf (kw X cn) cf f) ∧ Binds X.K fd ps []
  cls : ∀ (c : Nat) kl, G.P.cls[c]? = some kl → CkOk X cn G.P cf k c kl
  gls : ∀ (g : Nat) nm d, G.P.gls[g]? = some (nm, d) → ∃ v u, X.mg nm = some u ∧ L2.RelV v u ∧ ∀ Z H, Den (kw X cn) Z H v d
theorem XOk.blk {G : Gd} {cn : Nat → Addr} {cf : Call} {k : Nat} {Γ : Ga} {X : Cx} (h : XOk G cn cf k Γ X) {s : Shared} {H : Hp} {scope : Scope} {C : Addr} {cl : List (Str × Addr)} {fp : List Addr} : XOk G cn cf k (Γ.blk scope) (X.blk s H scope (compEnvC scope cl C X.env) fp) :=
  ⟨h.calm, h.N, h.nd, by show relabel scope X.env = _; rw [relabel_eq, h.sc]; rfl, fun x e => e, rfl, h.room, h.gu, h.off, h.defs, fun c kl e => let q := h.cls c kl e; ⟨q.mgC, q.cls, q.made, q.ms, q.na, q.sf, q.nq, q.ne, q.ob, q.is, q.it⟩, h.gls⟩
theorem XOk.room0 {G : Gd} {cn : Nat → Addr} {cf : Call} {k : Nat} {Γ : Ga} {X : Cx} (h : XOk G cn cf k Γ X) : Room k X.A := h.room.mono (Nat.le_succ k)
end BK

set_option Elab.async false
set_option linter.all false
set_option maxRecDepth 100000
set_option maxHeartbeats 4000000
/-! BK17: a text that passes the check runs as its program says: expressions. -/
namespace BK
open PySem PySem.Spec PyProof.Rows L2
section
variable {G : Gd} {cn : Nat → Addr} {cf : Call} {k : Nat} {Γ : Ga} {X : Cx}
theorem XOk.gl (h : XOk G cn cf k Γ X) {x : Str} (e : Γ.gl x = true) : Gl X x ∧ (x == ("__debug__" : Str)) = false ∧ x ≠ Str.ofString "__name__" := by
  unfold Ga.gl Ga.look at e
  simp only [Bool.and_eq_true, beq_iff_eq, bne_iff_ne] at e
  refine ⟨?_, ?_, e.2⟩
  · show X.env.scope.names.lookup x = _
    rw [h.sc]; exact e.1.1
  · exact beq_eq_false_iff_ne.mpr e.1.2
theorem v_ok (h : XOk G cn cf k Γ X) {e : Expr} {i : Nat} (c : chkV Γ e i = true) : PE X e (tVar i) := by
  unfold chkV at c
  split at c
  · rename_i x p
    simp only [Bool.and_eq_true, beq_iff_eq, bne_iff_ne] at c
    obtain ⟨⟨⟨c1, c2⟩, c3⟩, c4⟩ := c
    refine pe_var (by rw [h.N]; exact c1) ?_ (beq_eq_false_iff_ne.mpr c3) (beq_eq_false_iff_ne.mpr c4)
    unfold Ga.vis Ga.look at c2
    simp only [Bool.or_eq_true, beq_iff_eq] at c2
    unfold L2.Vis
    rw [h.sc]
    rcases c2 with (c2 | c2) | c2
    · exact .inl c2
    · exact .inr (.inl c2)
    · exact .inr (.inr c2)
  · cases c
theorem c_ok {e : Expr} {d : D} (c : chkC e d = true) : PE X e (tC (vOf d)) ∧ d.flat = true := by
  unfold chkC at c
  split at c
  · have := beq_iff_eq.mp c
    subst this
    exact ⟨pe_int, rfl⟩
  · have := beq_iff_eq.mp c
    subst this
    exact ⟨pe_str, rfl⟩
  · have := beq_iff_eq.mp c
    subst this
    exact ⟨pe_bl, rfl⟩
  · exact ⟨pe_non, rfl⟩
  · cases c
theorem none2 {op : Op} {f : Value → Value → Sem Value} {P : Pr} (h : ∀ d e, spc2 op d e = none) : OpR X f (wOw2 (kw X cn) P cf op) := by
  rintro pins s σ H x y v u Q I rx ry ⟨Z, d, e, c, m, sw, xa, ya, hd, he, hs, w⟩
  rw [h] at hs
  cases hs
theorem none2w {op : Op} {f : Value → Value → Sem Value} (h : ∀ d e, op2 op d e = none) : OpR X f (w2 (kw X cn) op) := by
  rintro pins s σ H x y v u Q I rx ry ⟨Z, d, e, r, f, hz, hd, he, hs, w⟩
  rw [h] at hs
  cases hs
theorem none1 {op : Op} {f : Value} {P : Pr} (h : ∀ d, spc1 op d = none) : CallR X f (fun xs H Q => ∃ x, xs = [x] ∧ wOw1 (kw X cn) P cf op x H Q) := by
  rintro pins s σ H x v Q I rx ⟨y, rfl, Z, d, c, m, xa, hd, hs, w⟩
  rw [h] at hs
  cases hs
theorem bin_ok (h : XOk G cn cf k Γ X) {op : Op} {o : Operator} (c : binOf op = some o) : OpR X (binaryOp o) (fun x y H Q => w2 (kw X cn) op x y H Q ∨ wOw2 (kw X cn) G.P cf op x y H Q) := by
  cases op <;> simp [binOf] at c <;> subst c
  · exact op_add'.or2 (none2 fun _ _ => rfl)
  · exact op_sub'.or2 (op_bin_own h.cls h.room0 h.gu rfl)
  · exact op_mul'.or2 (none2 fun _ _ => rfl)
  · exact op_fdiv'.or2 (none2 fun _ _ => rfl)
  · exact op_mod'.or2 (none2 fun _ _ => rfl)
  · exact op_pow'.or2 (none2 fun _ _ => rfl)
  · exact (none2w fun _ _ => rfl).or2 (op_bin_own h.cls h.room0 h.gu rfl)
  · exact (none2w fun _ _ => rfl).or2 (op_bin_own h.cls h.room0 h.gu rfl)
theorem cmp_ok {op : Op} {o : CmpOp} (hr : Room k X.A) (h : cmpOf op = some o) : OpR X (compareOp o) (w2 (kw X cn) op) := by
  cases op <;> simp [cmpOf] at h <;> subst h
  · exact op_eq' hr
  · exact op_ne' hr
  · exact op_lt'
  · exact op_le'
  · exact op_gt'
  · exact op_ge'
  · exact op_in' hr
  · exact op_notin' hr
theorem cmp_oko (h : XOk G cn cf k Γ X) {op : Op} {o : CmpOp} (c : cmpOf op = some o) : OpR X (compareOp o) (fun x y H Q => w2 (kw X cn) op x y H Q ∨ wOw2 (kw X cn) G.P cf op x y H Q) := by
  have hr := h.room0
  cases op <;> simp [cmpOf] at c <;> subst c
  · exact (op_eq' hr).or2 (op_eq_own h.cls hr h.gu)
  · exact (op_ne' hr).or2 (op_ne_own h.cls h.room h.gu)
  · exact op_lt'.or2 (none2 fun _ _ => rfl)
  · exact op_le'.or2 (none2 fun _ _ => rfl)
  · exact op_gt'.or2 (none2 fun _ _ => rfl)
  · exact op_ge'.or2 (none2 fun _ _ => rfl)
  · exact (op_in' hr).or2 (op_in_own h.cls hr h.gu)
  · exact (op_notin' hr).or2 (op_notin_own h.cls hr h.gu)
theorem un_neg_ok {P : Pr} : UnR X (unaryOp .USub) (fun x H Q => w1 (kw X cn) .neg x H Q ∨ wOw1 (kw X cn) P cf .neg x H Q) := by
  rintro pins s σ H x v Q I rx (h | ⟨Z, d, c, m, xa, hd, hs, w⟩)
  · exact un_neg' pins s σ H x v Q I rx h
  · cases hs
theorem un_inv_ok (h : XOk G cn cf k Γ X) : UnR X (unaryOp .Invert) (fun x H Q => w1 (kw X cn) .inv x H Q ∨ wOw1 (kw X cn) G.P cf .inv x H Q) := by
  rintro pins s σ H x v Q I rx (w | w)
  · obtain ⟨Z, d, r, f, hz, hd, hs, w⟩ := w
    cases d <;> cases hs
  · exact un_inv_own h.cls h.room0 h.gu pins s σ H x v Q I rx w
theorem bools_ok {C : Kw} {Z : Addr → Prop} {H : Hp} : ∀ {vs : List V} {ds : List BK.D} {bs : List Bool}, DenAll C Z H vs ds → boolsD ds = some bs → vs = bs.map V.bl
  | _, _, bs, .nil, e => by
    simp only [boolsD] at e
    cases e; rfl
  | _, _, bs, .cons (d := d) w t, e => by
    cases d <;> simp only [boolsD] at e <;> try (cases e; done)
    obtain ⟨cs, e1, e2⟩ := Option.map_eq_some_iff.mp e
    cases e2
    cases w
    rw [bools_ok t e1]
    rfl
theorem cr_all' (hc : X.calm = true) : CallR X (.builtin "all") (o1 (kw X cn) .all) := by
  intro pins s σ H xs us Q I r h
  obtain ⟨x, rfl, Z, d, r', f, hz, hd, he, q⟩ := h
  cases d <;> simp only [op1] at he <;> try (cases he; done)
  obtain ⟨bs, e1, e2⟩ := Option.map_eq_some_iff.mp he
  cases e2
  obtain ⟨a, vs, rfl, ha, hv⟩ := hd.lst
  have := bools_ok hv e1
  subst this
  exact cr_all hc pins s σ H _ us Q I r ⟨a, bs, rfl, SqL.of ha, fin0 q (.bl _)⟩
theorem cr_any' (hc : X.calm = true) : CallR X (.builtin "any") (o1 (kw X cn) .any) := by
  intro pins s σ H xs us Q I r h
  obtain ⟨x, rfl, Z, d, r', f, hz, hd, he, q⟩ := h
  cases d <;> simp only [op1] at he <;> try (cases he; done)
  obtain ⟨bs, e1, e2⟩ := Option.map_eq_some_iff.mp he
  cases e2
  obtain ⟨a, vs, rfl, ha, hv⟩ := hd.lst
  have := bools_ok hv e1
  subst this
  exact cr_any hc pins s σ H _ us Q I r ⟨a, bs, rfl, SqL.of ha, fin0 q (.bl _)⟩
theorem ints_ok {C : Kw} {Z : Addr → Prop} {H : Hp} : ∀ {vs : List V} {ds : List BK.D} {is : List Int}, DenAll C Z H vs ds → intsD ds = some is → vs = is.map V.int
  | _, _, is, .nil, e => by
    simp only [intsD] at e
    cases e; rfl
  | _, _, is, .cons (d := d) w t, e => by
    cases d <;> simp only [intsD] at e <;> try (cases e; done)
    obtain ⟨cs, e1, e2⟩ := Option.map_eq_some_iff.mp e
    cases e2
    cases w
    rw [ints_ok t e1]
    rfl
theorem max_is : ∀ (is : List Int) (i m : Int), m ∈ i :: is → (∀ y, y ∈ i :: is → y ≤ m) → m = maxL i is
  | [], i, m, h1, h2 => by simpa [maxL] using h1
  | j :: is, i, m, h1, h2 => by
    show m = maxL (if i < j then j else i) is
    refine max_is is _ m ?_ fun y hy => ?_
    · rcases List.mem_cons.mp h1 with rfl | h1
      · have := h2 j (List.mem_cons_of_mem _ (List.mem_cons_self ..))
        rw [if_neg (by omega)]
        exact List.mem_cons_self ..
      · rcases List.mem_cons.mp h1 with rfl | h1
        · have := h2 i (List.mem_cons_self ..)
          by_cases h : i < m
          · rw [if_pos h]; exact List.mem_cons_self ..
          · rw [if_neg h, show i = m by omega]; exact List.mem_cons_self ..
        · exact List.mem_cons_of_mem _ h1
    · rcases List.mem_cons.mp hy with rfl | hy
      · split
        · exact h2 j (List.mem_cons_of_mem _ (List.mem_cons_self ..))
        · exact h2 i (List.mem_cons_self ..)
      · exact h2 y (List.mem_cons_of_mem _ (List.mem_cons_of_mem _ hy))
theorem min_is : ∀ (is : List Int) (i m : Int), m ∈ i :: is → (∀ y, y ∈ i :: is → m ≤ y) → m = minL i is
  | [], i, m, h1, h2 => by simpa [minL] using h1
  | j :: is, i, m, h1, h2 => by
    show m = minL (if j < i then j else i) is
    refine min_is is _ m ?_ fun y hy => ?_
    · rcases List.mem_cons.mp h1 with rfl | h1
      · have := h2 j (List.mem_cons_of_mem _ (List.mem_cons_self ..))
        rw [if_neg (by omega)]
        exact List.mem_cons_self ..
      · rcases List.mem_cons.mp h1 with rfl | h1
        · have := h2 i (List.mem_cons_self ..)
          by_cases h : m < i
          · rw [if_pos h]; exact List.mem_cons_self ..
          · rw [if_neg h, show i = m by omega]; exact List.mem_cons_self ..
        · exact List.mem_cons_of_mem _ h1
    · rcases List.mem_cons.mp hy with rfl | hy
      · split
        · exact h2 j (List.mem_cons_of_mem _ (List.mem_cons_self ..))
        · exact h2 i (List.mem_cons_self ..)
      · exact h2 y (List.mem_cons_of_mem _ (List.mem_cons_of_mem _ hy))
theorem cr_sum' (hc : X.calm = true) : CallR X (.builtin "sum") (o1 (kw X cn) .sum) := by
  intro pins s σ H xs us Q I r h
  obtain ⟨x, rfl, Z, d, r', f, hz, hd, he, q⟩ := h
  cases d <;> simp only [op1] at he <;> try (cases he; done)
  obtain ⟨is, e1, e2⟩ := Option.map_eq_some_iff.mp he
  cases e2
  obtain ⟨a, vs, rfl, ha, hv⟩ := hd.lst
  have := ints_ok hv e1
  subst this
  exact cr_sum hc pins s σ H _ us Q I r ⟨a, is, rfl, SqL.of ha, fin0 q (.int _)⟩
theorem cr_max' (hc : X.calm = true) : CallR X (.builtin "max") (o1 (kw X cn) .max) := by
  intro pins s σ H xs us Q I r h
  obtain ⟨x, rfl, Z, d, r', f, hz, hd, he, q⟩ := h
  cases d <;> simp only [op1] at he <;> try (cases he; done)
  obtain ⟨is, e1, e2⟩ := bind_some he
  split at e2
  · rename_i i is'
    cases e2
    obtain ⟨a, vs, rfl, ha, hv⟩ := hd.lst
    have := ints_ok hv e1
    subst this
    exact cr_max hc pins s σ H _ us Q I r ⟨a, i :: is', rfl, SqL.of ha, Nat.succ_pos _, fun m h1 h2 => by
      rw [max_is is' i m h1 h2]
      exact fin0 q (.int _)⟩
  · cases e2
theorem cr_min' (hc : X.calm = true) : CallR X (.builtin "min") (o1 (kw X cn) .min) := by
  intro pins s σ H xs us Q I r h
  obtain ⟨x, rfl, Z, d, r', f, hz, hd, he, q⟩ := h
  cases d <;> simp only [op1] at he <;> try (cases he; done)
  obtain ⟨is, e1, e2⟩ := bind_some he
  split at e2
  · rename_i i is'
    cases e2
    obtain ⟨a, vs, rfl, ha, hv⟩ := hd.lst
    have := ints_ok hv e1
    subst this
    exact cr_min hc pins s σ H _ us Q I r ⟨a, i :: is', rfl, SqL.of ha, Nat.succ_pos _, fun m h1 h2 => by
      rw [min_is is' i m h1 h2]
      exact fin0 q (.int _)⟩
  · cases e2
theorem _root_.L2.CallR.or2 {X : Cx} {f : Value} {r r' : List V → Hp → VK → Prop} (h : CallR X f r) (h' : CallR X f r') : CallR X f (fun xs H Q => r xs H Q ∨ r' xs H Q) :=
  fun pins s σ H xs us Q I r q => q.elim (h pins s σ H xs us Q I r) (h' pins s σ H xs us Q I r)
theorem cb1 {x : E} {r : V → Hp → VK → Prop} {e : Expr} {op : Op} (h : PE X e (tP (kw X cn) fun ρ => opn ρ x (ev G.P cf ρ x))) (hs : starEach [e] X.env = (false, eval e X.env) :: starEach [] X.env) :
    PA X [e] (fun σ H Q => tP (kw X cn) (fun ρ => opn ρ x (ev G.P cf ρ x)) σ H fun v H1 => Q [v] H1) := by
  refine (pa_cons h pa_nil hs).imp fun σ H Q w => ?_
  exact w
theorem b1_ok (h : XOk G cn cf k Γ X) {op : Op} {x : Str} {p pos : Pos} {b : Expr} {a : E} (c1 : b1Of op = some x) (c2 : Γ.gl x = true) (c3 : G.off.contains x = true) (c4 : nStar b = true)
    (hb : PE X b (tP (kw X cn) fun ρ => opn ρ a (ev G.P cf ρ a))) : PE X (.Call (.Name x p) [b] [] pos) (tX (kw X cn) fun ρ => ev G.P cf ρ (.ap1 op a)) := by
  obtain ⟨g1, g2, g3⟩ := h.gl c2
  have m := h.off x (by simpa using c3)
  have hs : starEach [b] X.env = (false, eval b X.env) :: starEach [] X.env := star_ok c4
  have hp : (backTo pos (starEach [] X.env)).any (·.1) = false := rfl
  have pa := cb1 (op := op) (r := fun _ _ _ => True) hb hs
  have fin : ∀ σ H Q, tX (kw X cn) (fun ρ => ev G.P cf ρ (.ap1 op a)) σ H Q → tCB (fun xs H Q => o1 (kw X cn) op xs H Q ∨ ∃ x, xs = [x] ∧ wOw1 (kw X cn) G.P cf op x H Q) (fun σ H Q => tP (kw X cn) (fun ρ => opn ρ a (ev G.P cf ρ a)) σ H fun v H1 => Q [v] H1) σ H Q :=
    tx1 fun σ H Q ⟨B, o, ρ, r, ho, he, q⟩ => ⟨B, o, ρ, r, ho, he, fun v H' o' s pn h' ad => (q v H' o' s pn h' ad).imp (fun w => ⟨v, rfl, w⟩) fun w => ⟨v, rfl, w⟩⟩
  cases op <;> simp [b1Of] at c1 <;> subst c1
  · exact (pe_callB ((cr_len (cn := cn)).or2 (cr_len_own h.cls h.room h.gu)) g1 m (by rfl) pa g3 g2 hs hp).imp fin
  · exact (pe_callB ((cr_abs (cn := cn)).or2 (none1 fun _ => rfl)) g1 m (by rfl) pa g3 g2 hs hp).imp fin
  · exact (pe_callTy ((cr_int (cn := cn)).or2 (none1 fun _ => rfl)) g1 m (by rfl) pa g3 g2 hs hp).imp fin
  · exact (pe_callB ((cr_repr (cn := cn) h.room0 h.gu).or2 (none1 fun _ => rfl)) g1 m (by rfl) pa g3 g2 hs hp).imp fin
  · exact (pe_callTy ((cr_list (cn := cn) h.calm).or2 (none1 fun _ => rfl)) g1 m (by rfl) pa g3 g2 hs hp).imp fin
  · exact (pe_callTy ((cr_tuple (cn := cn)).or2 (none1 fun _ => rfl)) g1 m (by rfl) pa g3 g2 hs hp).imp fin
  · exact (pe_callB ((cr_sort' (cn := cn) h.room0).or2 (none1 fun _ => rfl)) g1 m (by rfl) pa g3 g2 hs hp).imp fin
  · exact (pe_callB ((cr_all' (cn := cn) h.calm).or2 (none1 fun _ => rfl)) g1 m (by rfl) pa g3 g2 hs hp).imp fin
  · exact (pe_callB ((cr_any' (cn := cn) h.calm).or2 (none1 fun _ => rfl)) g1 m (by rfl) pa g3 g2 hs hp).imp fin
  · exact (pe_callB ((cr_sum' (cn := cn) h.calm).or2 (none1 fun _ => rfl)) g1 m (by rfl) pa g3 g2 hs hp).imp fin
  · exact (pe_callB ((cr_max' (cn := cn) h.calm).or2 (none1 fun _ => rfl)) g1 m (by rfl) pa g3 g2 hs hp).imp fin
  · exact (pe_callB ((cr_min' (cn := cn) h.calm).or2 (none1 fun _ => rfl)) g1 m (by rfl) pa g3 g2 hs hp).imp fin
theorem is_ok (h : XOk G cn cf k Γ X) {op : Op} {o : CmpOp} {l r : Expr} {pos : Pos} {a : E} (c : chkIs op o r = true) (hl : PE X l (tP (kw X cn) fun ρ => opn ρ a (ev G.P cf ρ a))) : PE X (.Compare l [o] [r] pos) (tX (kw X cn) fun ρ => ev G.P cf ρ (.ap1 op a)) := by
  have gen : ∀ {v : V}, OpR X (compareOp o) (fun x y H Q => y = v ∧ w1 (kw X cn) op x H Q) → PE X r (tC v) → (∀ d, spc1 op d = none) → behindInMarks o r = false → PE X (.Compare l [o] [r] pos) (tX (kw X cn) fun ρ => ev G.P cf ρ (.ap1 op a)) := by
    intro v ho hr hn hm
    refine (pe_cmpR ho hl hr hm).imp (tx1 ?_)
    rintro σ H Q ⟨B, o1, ρ, r1, h1, he, q⟩
    refine ⟨B, o1, ρ, r1, h1, he, fun v' H' o' s pn h' ad => ?_⟩
    rcases q v' H' o' s pn h' ad with w | ⟨_, d, c, m, _, _, hs, _⟩
    · exact ⟨rfl, w⟩
    · rw [hn] at hs; cases hs
  unfold chkIs at c
  split at c
  · exact gen op_isN' pe_non (fun _ => rfl) rfl
  · exact gen op_notN' pe_non (fun _ => rfl) rfl
  · have := beq_iff_eq.mp c
    subst this
    exact gen op_isB' pe_bl (fun _ => rfl) rfl
  · have := beq_iff_eq.mp c
    subst this
    exact gen op_notB' pe_bl (fun _ => rfl) rfl
  · cases c
theorem isT_ok (h : XOk G cn cf k Γ X) {op : Op} {o : CmpOp} {l r : Expr} {pos : Pos} {a : E} (c : chkIs op o r = true) (hl : PE X l (tP (kw X cn) fun ρ => opn ρ a (ev G.P cf ρ a))) : PT X (.Compare l [o] [r] pos) (tB (kw X cn) fun ρ => evT G.P cf ρ (.val (.ap1 op a))) := by
  have gen : ∀ {v : V}, OpR X (compareOp o) (fun x y H Q => y = v ∧ w1 (kw X cn) op x H Q) → PE X r (tC v) → (∀ d, spc1 op d = none) → behindInMarks o r = false → (∀ d e f, op1 op d = some (e, f) → ∃ t, e = .bl t) → PT X (.Compare l [o] [r] pos) (tB (kw X cn) fun ρ => evT G.P cf ρ (.val (.ap1 op a))) := by
    intro v ho hr hn hm hb
    refine (pt_cmpR ho hl hr hm).imp ?_
    rintro σ H Q ⟨B, o1, ρ, r1, h1, he, q⟩
    simp only [evT, ev] at he
    obtain ⟨⟨ad0, ρ0⟩, e0, he⟩ := bind_some he
    obtain ⟨⟨d1, f1, ρ1⟩, e1, e0'⟩ := Option.map_eq_some_iff.mp e0
    cases e0'
    obtain ⟨⟨ad, ρ2⟩, e2, e1⟩ := bind_some e1
    obtain ⟨d, e3, e1⟩ := bind_some e1
    simp only [hn] at e1
    obtain ⟨⟨d2, f2⟩, e4, e1⟩ := Option.map_eq_some_iff.mp e1
    cases e1
    obtain ⟨t, rfl⟩ := hb _ _ _ e4
    obtain ⟨d', e5, he⟩ := bind_some he
    cases e5
    obtain ⟨t', e6, he⟩ := Option.map_eq_some_iff.mp he
    cases he
    cases e6
    refine ⟨B, o1, ρ, _, h1, e2, fun v' H1 o' s1 pn1 h' a1 => ?_⟩
    refine ⟨rfl, Zo B o', d, _, f2, h'.zd, a1.den h' e3, e4, fun w H' x' rz => ?_⟩
    have ew : w = .bl t := by
      cases f2 with
      | false => exact (show DenT _ _ _ _ _ from .inl rz).bl
      | true =>
        obtain ⟨_, _, _, z⟩ := rz
        exact z.elim
    exact ⟨t, ew, q H' o' (s1.trans x'.stepE) pn1 (h'.ext x')⟩
  unfold chkIs at c
  split at c
  · exact gen op_isN' pe_non (fun _ => rfl) rfl (fun d e f z => by cases d <;> cases z <;> exact ⟨_, rfl⟩)
  · exact gen op_notN' pe_non (fun _ => rfl) rfl (fun d e f z => by cases d <;> cases z <;> exact ⟨_, rfl⟩)
  · have := beq_iff_eq.mp c
    subst this
    exact gen op_isB' pe_bl (fun _ => rfl) rfl (fun d e f z => by cases d <;> cases z <;> exact ⟨_, rfl⟩)
  · have := beq_iff_eq.mp c
    subst this
    exact gen op_notB' pe_bl (fun _ => rfl) rfl (fun d e f z => by cases d <;> cases z <;> exact ⟨_, rfl⟩)
  · cases c
/-! targets -/
theorem loc_ok (h : XOk G cn cf k Γ X) {x : Str} (c : Γ.loc x = true) : L2.Loc X.env.scope x ∧ (X.fn x = true ∨ X.env.scope.names.lookup x = some .local) := by
  unfold Ga.loc Ga.look at c
  simp only [Bool.or_eq_true, Bool.and_eq_true, beq_iff_eq] at c
  rcases c with c | c
  · exact ⟨.inl (by rw [h.sc]; exact c), .inr (by rw [h.sc]; exact c)⟩
  · exact ⟨.inr (by rw [h.sc]; exact c.1), .inl (h.fn x c.2)⟩
theorem sub_assign {o i : Expr} {pos : Pos} {env : Env} (hi : nSlice i = true) : ∀ v : Value, assign (.Subscript o i pos) env v = (do
      let ov ← holding [v] (eval o env)
      let iv ← holding [v, ov] (eval i env)
      standAt pos
      holding [v, ov, iv] (setItem ov iv v)
      release [v, ov, iv] []) := fun v => by
  cases i <;> first | rfl | (simp [nSlice] at hi)
theorem t1_ok (h : XOk G cn cf k Γ X) {e : Expr} {t : Tg1} (c : chkT1 Γ e t = true) : PG X e (gOf t) := by
  cases t with
  | nm i =>
    simp only [chkT1] at c
    split at c
    · rename_i x p
      simp only [Bool.and_eq_true, beq_iff_eq] at c
      obtain ⟨l1, l2⟩ := loc_ok h c.2
      exact pg_name (by rw [h.N]; exact h.nd) (by rw [h.N]; exact c.1) l1 l2
    · cases c
  | ix i kd =>
    simp only [chkT1] at c
    split at c
    · rename_i o k p
      simp only [Bool.and_eq_true] at c
      exact pg_sub (v_ok h c.1) (c_ok c.2).1 (set_any (by have := h.room0.un; omega)) (sub_assign (by
        have := c.2
        unfold chkC at this
        split at this <;> first | rfl | cases this))
    · cases c
theorem assign_ok {e : Expr} {es : List Expr} {env : Env} (h : nStar e = true) : assignEach (e :: es) env = (false, assign e env) :: assignEach es env := by
  cases e <;> first | rfl | (simp [nStar] at h)
theorem t1_star {e : Expr} {t : Tg1} (c : chkT1 Γ e t = true) : nStar e = true := by
  cases t <;> simp only [chkT1] at c <;> split at c <;> first | rfl | cases c
theorem t1s_ok (h : XOk G cn cf k Γ X) : ∀ {es : List Expr} {ts : List Tg1}, chkT1s Γ es ts = true → PGs X es (gsOf ts) ∧ es.length = ts.length ∧ (assignEach es X.env).length = ts.length ∧ (assignEach es X.env).findIdx? (·.1) = none
  | [], [], _ => ⟨pgs_nil, rfl, rfl, rfl⟩
  | e :: es, t :: ts, c => by
    simp only [chkT1s, Bool.and_eq_true] at c
    obtain ⟨h1, h2, h3, h4⟩ := t1s_ok h c.2
    have hs := assign_ok (es := es) (env := X.env) (t1_star c.1)
    refine ⟨pgs_cons (t1_ok h c.1) h1 (by rw [hs]; rfl), by rw [List.length_cons, List.length_cons, h2], by rw [hs, List.length_cons, List.length_cons, h3], ?_⟩
    rw [hs, List.findIdx?_cons, h4]
    rfl
theorem tg_ok (h : XOk G cn cf k Γ X) {e : Expr} {tg : Tg} (c : chkTg Γ e tg = true) : PG X e (gTg X.K tg) := by
  cases tg with
  | one t => exact t1_ok h c
  | tp ts =>
    simp only [chkTg] at c
    split at c
    · rename_i es kk p
      simp only [Bool.and_eq_true] at c
      obtain ⟨h1, h2, h3, h4⟩ := t1s_ok h c.1
      have p1 := pg_tup (k := kk) (pos := p) h.calm h1 h3 h4
      have p2 := pg_unl (k := kk) (pos := p) h.calm h1 h3 h4
      exact ⟨fun pins s σ H v u Q I r w => w.elim (fun w => p1.run pins s σ H v u Q I r w) fun w => p2.run pins s σ H v u Q I r w⟩
    · cases c
end
end BK

set_option Elab.async false
set_option linter.all false
set_option maxRecDepth 100000
set_option maxHeartbeats 4000000
/-! BK17b: slices, places in lists. -/
namespace BK
open PySem PySem.Spec PyProof.Rows L2
section
variable {X : Cx} {cn : Nat → Addr} {P : Pr} {cf : Call} {e a b c : Expr} {x y z : E} {pos p2 : Pos}
theorem den_cut {C : Kw} {Z : Addr → Prop} {H : Hp} {vs : List V} {ds : List BK.D} {lo hi : Option Int} (h : DenAll C Z H vs ds) : DenAll C Z H (cutV vs lo hi) (cutD ds lo hi) := by
  unfold cutV cutD
  rw [h.length]
  exact (h.drop _).take _
def rCut (C : Kw) : V → Option Int → Option Int → Hp → VK → Prop := fun x lo hi H Q => (∃ Z xs, Zd Z H ∧ (DenT C Z H x (.lst xs) ∨ DenT C Z H x (.rl xs)) ∧ ∀ v H', Ext H H' → ResZ C Z H H' v (.lst (cutD xs lo hi)) true → Q v H') ∨ ∃ z : Str, x = .str z ∧ z.length ≤ most ∧ Q (.str (cutS z lo hi)) H
theorem sl_cut : SlR X (rCut (kw X cn)) := by
  rintro pins s σ H x v vl vu lo hi sl Q I r hs h1 h2 (⟨Z, xs, hz, hd, q⟩ | ⟨z, rfl, hz, q⟩)
  rotate_left
  · exact sl_str pins s σ H _ v vl vu lo hi sl Q I r hs h1 h2 ⟨z, rfl, most_le hz, q⟩
  obtain ⟨a, vs, rfl, ha, hv⟩ : ∃ a vs, x = .ref a ∧ SqL X.K H a vs ∧ DenAll (kw X cn) Z H vs xs := by
    rcases hd with hd | hd
    · obtain ⟨a, vs, e, ha, hv⟩ := hd.lst
      exact ⟨a, vs, e, SqL.of ha, hv⟩
    · exact hd.rl
  exact sl_list pins s σ H _ v vl vu lo hi sl Q I r hs h1 h2 ⟨a, vs, rfl, ha, fun p n => q _ _ (Ext.new n) (newl n (den_cut hv))⟩
theorem px_sl01 (ha : PE X a (tP (kw X cn) fun ρ => opn ρ x (ev P cf ρ x))) (hb : PE X b (tP (kw X cn) fun ρ => opn ρ y (ev P cf ρ y))) :
    PE X (.Subscript a (.Slice none (some b) none p2) pos) (tX (kw X cn) fun ρ => ev P cf ρ (.ap2 (.sl false true) x y)) := by
  refine (pe_slice (sl_cut (cn := cn)) ha po_none (po_some hb)).imp (tx2 fun σ H Q w => ?_)
  obtain ⟨B, o, ρ, r, ho, he, q⟩ := w
  refine ⟨B, o, ρ, r, ho, he, fun v H1 o1 s pn h1 a1 => ?_⟩
  obtain ⟨B2, o2, ρ2, r2, ho2, he2, q2⟩ := q v H1 o1 s pn h1 a1
  refine ⟨B2, o2, ρ2, r2, ho2, he2, fun u H2 o3 s2 pn2 h2 a2 => ?_⟩
  obtain ⟨Z, d, e, r3, f, hz, hd, hu, hop, q3⟩ | ⟨_, _, _, _, _, _, _, _, _, _, hs, _⟩ := q2 u H2 o3 s2 pn2 h2 a2
  rotate_left
  · cases hs
  cases d <;> simp only [op2] at hop <;> try (cases hop; done)
  · cases e <;> simp only [op2] at hop <;> try (cases hop; done)
    split at hop
    · rename_i hl
      cases hop
      exact ⟨_, hu.int, .inr ⟨_, den_str hd, hl, q3 _ _ .refl (.str _)⟩⟩
    · cases hop
  all_goals
    cases e <;> simp only [op2] at hop <;> try (cases hop; done)
    cases hop
    refine ⟨_, hu.int, .inl ⟨Z, _, hz, ?_, q3⟩⟩
  · exact .inl hd
  · exact .inr hd
theorem px_sl10 (ha : PE X a (tP (kw X cn) fun ρ => opn ρ x (ev P cf ρ x))) (hb : PE X b (tP (kw X cn) fun ρ => opn ρ y (ev P cf ρ y))) :
    PE X (.Subscript a (.Slice (some b) none none p2) pos) (tX (kw X cn) fun ρ => ev P cf ρ (.ap2 (.sl true false) x y)) := by
  refine (pe_slice (sl_cut (cn := cn)) ha (po_some hb) po_none).imp (tx2 fun σ H Q w => ?_)
  obtain ⟨B, o, ρ, r, ho, he, q⟩ := w
  refine ⟨B, o, ρ, r, ho, he, fun v H1 o1 s pn h1 a1 => ?_⟩
  obtain ⟨B2, o2, ρ2, r2, ho2, he2, q2⟩ := q v H1 o1 s pn h1 a1
  refine ⟨B2, o2, ρ2, r2, ho2, he2, fun u H2 o3 s2 pn2 h2 a2 => ?_⟩
  obtain ⟨Z, d, e, r3, f, hz, hd, hu, hop, q3⟩ | ⟨_, _, _, _, _, _, _, _, _, _, hs, _⟩ := q2 u H2 o3 s2 pn2 h2 a2
  rotate_left
  · cases hs
  cases d <;> simp only [op2] at hop <;> try (cases hop; done)
  · cases e <;> simp only [op2] at hop <;> try (cases hop; done)
    split at hop
    · rename_i hl
      cases hop
      exact ⟨_, hu.int, .inr ⟨_, den_str hd, hl, q3 _ _ .refl (.str _)⟩⟩
    · cases hop
  cases e <;> simp only [op2] at hop <;> try (cases hop; done)
  cases hop
  exact ⟨_, hu.int, .inl ⟨Z, _, hz, .inl hd, q3⟩⟩
theorem px_sl00 (ha : PE X a (tP (kw X cn) fun ρ => opn ρ x (ev P cf ρ x))) :
    PE X (.Subscript a (.Slice none none none p2) pos) (tX (kw X cn) fun ρ => ev P cf ρ (.ap1 (.sl false false) x)) := by
  refine (pe_slice (sl_cut (cn := cn)) ha po_none po_none).imp (tx1 fun σ H Q w => ?_)
  obtain ⟨B, o, ρ, r, ho, he, q⟩ := w
  refine ⟨B, o, ρ, r, ho, he, fun v H1 o1 s pn h1 a1 => ?_⟩
  obtain ⟨Z, d, r3, f, hz, hd, hop, q3⟩ | ⟨_, _, _, _, _, _, hs, _⟩ := q v H1 o1 s pn h1 a1
  rotate_left
  · cases hs
  cases d <;> simp only [op1] at hop <;> try (cases hop; done)
  cases hop
  exact .inl ⟨Z, _, hz, .inl hd, q3⟩
theorem den_rev {C : Kw} {Z : Addr → Prop} {H : Hp} : ∀ {vs : List V} {ds : List D}, DenAll C Z H vs ds → DenAll C Z H vs.reverse ds.reverse
  | _, _, .nil => .nil
  | _, _, .cons w t => by
    rw [List.reverse_cons, List.reverse_cons]
    exact (den_rev t).append (.cons w .nil)
theorem rev_signs (z : Str) : (Builtin.Str.strSliceIndices none none (-1) z.length).filterMap (z.cps[·]?) = z.cps.toList.reverse := by
  rw [picked_rev, filterMap_get, List.map_map]
  · apply List.ext_getElem
    · simp [Str.length]
    · intro i h1 h2
      have h3 : i < z.cps.size := by simpa [Str.length] using h1
      rw [List.getElem_reverse, List.getElem_map, List.getElem_range]
      have h4 : z.cps.size - 1 - i < z.cps.size := by omega
      show z.cps.getD (z.cps.size - 1 - i) 0 = _
      simp [Array.getD, h4]
  · intro i hi
    obtain ⟨k, hk, rfl⟩ := List.mem_map.mp hi
    have hk' : k < z.length := List.mem_range.mp hk
    show z.length - 1 - k < z.length
    omega
/-- xs[::-1], of a list, of a text -/
def tRevA (K : PySem.W.Frag) (te : TE) : TE := fun σ H Q => te σ H fun x H1 => (∃ a xs, x = .ref a ∧ SqL K H1 a xs ∧ ∀ p, H1 p = none → Q (.ref p) (upd H1 p (.lst xs.reverse))) ∨ ∃ z : Str, x = .str z ∧ z.length ≤ most ∧ Q (.str (revT z)) H1
theorem pe_revA {X : Cx} {e : Expr} {te : TE} {k : Nat} {p1 p2 p3 pos : Pos} (he : PE X e te) : PE X (.Subscript e (.Slice none none (some (.UnaryOp .USub (.Constant (.int 1) k p1) p2)) p3) pos) (tRevA X.K te) := by
  refine ⟨fun pins s σ H Q I h => ?_⟩
  refine Subscript_ (thn (he.run pins s σ H _ I h) fun v s1 ⟨x, H1, I1, r1, q1⟩ => ?_)
  have hst : PO X (some (.UnaryOp .USub (.Constant (.int 1) k p1) p2)) (tPart (tUn (rU fun i => .int (-i)) (tC (.int 1)))) := po_some (pe_un un_neg pe_int)
  refine wpAny_Slice (thn (po_none.run pins s1 σ H1 (fun o H2 => o = none ∧ H2 = H1) I1 ⟨rfl, rfl⟩) fun vl s2 ⟨l, H2, I2, pl, el, e2⟩ => ?_)
  subst el e2
  refine thn (po_none.run pins s2 σ H2 (fun o H3 => o = none ∧ H3 = H2) I2 ⟨rfl, rfl⟩) fun vu s3 ⟨u, H3, I3, pu, eu, e3⟩ => ?_
  subst eu e3
  refine thn (hst.run pins s3 σ H3 (fun o H4 => o = some (-1) ∧ H4 = H3) I3 ⟨1, rfl, -1, rfl, rfl, rfl⟩) fun vs s4 ⟨o, H4, I4, ps, eo, e4⟩ => ?_
  subst eo e4
  have I5 : Inv X pins σ H4 { s4 with heap := s4.heap.push { cls := .type "slice", data := .fields #[vl, vu, vs] } } := I4.kept (t' := s4.toks) fun b ob q => Heap.get?_push_of_some _ q
  rcases q1 with ⟨a, xs, ex, hx, q⟩ | ⟨z, ex, hl, q⟩
  · subst ex
    cases r1
    obtain ⟨its, r, ht, hz⟩ := I5.list hx
    have hlen := r.length
    show wpAny (model X.prog X.w) X.A (subscriptTail e (.Slice none none (some (.UnaryOp .USub (.Constant (.int 1) k p1) p2)) p3) (.ref a) (.ref s4.heap.objs.size)) (EP X pins σ Q) X.xe { s4 with heap := s4.heap.push { cls := .type "slice", data := .fields #[vl, vu, vs] } }
    refine tail_any (ops := [.ref a, .ref s4.heap.objs.size]) ht.isList.typeIs (PySem.slot_list_getitem.lookup) ?_ (by with_unfolding_all rfl)
    refine wpAny_getItem_list_slice ht.isList (Heap.IsSliceOf.new _ vl vu vs) pl pu ps (by decide) ?_ (by rw [List.size_toArray]; omega)
    rw [PySem.W.krv_pick]
    refine ⟨.ref _, _, I5.laid (t' := s4.toks) (o := .lst xs.reverse) (fun b ob q => Heap.get?_push_of_some _ q) (Nat.le_refl _) ?_, rfl, q _ (I5.hok.fresh (Nat.le_refl _))⟩
    exact ⟨by rw [List.length_reverse]; exact hz, _, 0, r.reverse, Heap.get?_push_size _ rfl⟩
  · subst ex
    obtain ⟨t, rfl⟩ := r1
    obtain ⟨os, hos, hcs, hds⟩ := Heap.IsSliceOf.new s4.heap vl vu vs
    obtain ⟨l, e1, n1⟩ := IsPart.raw pl
    obtain ⟨u, e2, n2⟩ := IsPart.raw pu
    obtain ⟨w, e3, n3⟩ := IsPart.raw ps
    subst e1 e2 e3
    cases l with
    | some l => cases n1
    | none =>
    cases u with
    | some u => cases n2
    | none =>
    cases w with
    | none => cases n3
    | some w =>
    obtain ⟨m, tk⟩ := w
    have n3 : m = -1 := Option.some.inj n3
    subst n3
    refine tail_any (ops := [.str z t, .ref s4.heap.objs.size]) (typeIs_str _ _ _) F.slot_str_getitem.lookup ?_ (by with_unfolding_all rfl)
    refine wpAny_getItem_str_slice (l := none) (u := none) (st := some (-1, tk)) ⟨os, hos, hcs, hds⟩ rfl ?_
    have es : sliceMade z t none none (some (-1, tk)) = .str (revT z) := by
      unfold sliceMade
      have hf : ((((some ((-1 : Int), tk)).map (·.1)).getD 1 == 1)) = false := rfl
      rw [hf]
      rw [if_neg (by simp)]
      show Made.str ⟨((Builtin.Str.strSliceIndices none none (-1) z.length).filterMap (z.cps[·]?)).toArray⟩ = _
      rw [rev_signs]
      rfl
    rw [es]
    refine ⟨?_, ⟨.str _, H4, I5.tok _, ⟨_, rfl⟩, q⟩⟩
    show (z.cps.toList.reverse.toArray).size ≤ sizeLine
    rw [List.size_toArray, List.length_reverse, Array.length_toList]
    exact most_le hl
theorem px_rev {k : Nat} {p1 p2 p3 pos : Pos} (ha : PE X a (tP (kw X cn) fun ρ => opn ρ x (ev P cf ρ x))) :
    PE X (.Subscript a (.Slice none none (some (.UnaryOp .USub (.Constant (.int 1) k p1) p2)) p3) pos) (tX (kw X cn) fun ρ => ev P cf ρ (.ap1 .rev x)) := by
  refine (pe_revA ha).imp (tx1 fun σ H Q w => ?_)
  obtain ⟨B, o, ρ, r, ho, he, q⟩ := w
  refine ⟨B, o, ρ, r, ho, he, fun v H1 o1 s pn h1 a1 => ?_⟩
  obtain ⟨Z, d, r3, f, hz, hd, hop, q3⟩ | ⟨_, _, _, _, _, _, hs, _⟩ := q v H1 o1 s pn h1 a1
  rotate_left
  · cases hs
  cases d <;> simp only [op1] at hop <;> try (cases hop; done)
  · split at hop
    · rename_i hl
      cases hop
      exact .inr ⟨_, den_str hd, hl, q3 _ _ .refl (.str _)⟩
    · cases hop
  cases hop
  obtain ⟨b, vs, rfl, hb, hv⟩ := hd.lst
  exact .inl ⟨b, vs, rfl, SqL.of hb, fun p n => q3 _ _ (Ext.new n) (newl n (den_rev hv))⟩
end
end BK

set_option Elab.async false
set_option linter.all false
set_option maxRecDepth 100000
set_option maxHeartbeats 2000000
/-! BK17c: an __iter__ of the text that returns iter(self.F). -/
namespace BK
open PySem PySem.Spec PyProof.Rows L2
/-- the body is: return iter(self.F) -/
def chkIt (G : Gd) (Γ : Ga) (n : Str) : List Stmt → Bool
  | [.Return (some (.Call (.Name x _) [.Attribute e m _] [] _)) _] => x == "iter" && Γ.gl x && G.off.contains x && m == n && nCall0 e && chkV Γ e 0
  | _ => false
section
variable {G : Gd} {Γ : Ga} {X : Cx} {n : Str}
theorem it_ok {body : List Stmt} (hN : X.N = Γ.N) (hsc : X.env.scope = Γ.sc) (hoff : ∀ x, x ∈ G.off → X.mg x = none) (c : chkIt G Γ n body = true) :
    PSs X body (fun D σ H => ∃ a C dx fs t xs, σ[0]? = some (some (.ref a)) ∧ H a = some (.ins C dx fs) ∧ L2.Cls X.K C ∧ NoAttr X.K C n ∧ fs.lookup n = some (.ref t) ∧ SqT X.K H t xs ∧
      ∀ it, H it = none → X.s_0.heap.objs.size ≤ it → D.rt (.ref it) (upd H it (ItOT t it))) := by
  unfold chkIt at c
  split at c
  · rename_i x p e m ap pos rp
    simp only [Bool.and_eq_true, beq_iff_eq] at c
    obtain ⟨⟨⟨⟨⟨rfl, c2⟩, c3⟩, rfl⟩, c5⟩, c6⟩ := c
    have hv : PE X e (tVar 0) := by
      unfold chkV at c6
      split at c6
      · rename_i y q
        simp only [Bool.and_eq_true, beq_iff_eq, bne_iff_ne] at c6
        obtain ⟨⟨⟨d1, d2⟩, d3⟩, d4⟩ := c6
        refine pe_var (by rw [hN]; exact d1) ?_ (beq_eq_false_iff_ne.mpr d3) (beq_eq_false_iff_ne.mpr d4)
        unfold Ga.vis Ga.look at d2
        unfold Vis
        rw [hsc]
        simpa [or_assoc] using d2
      · cases c6
    unfold Ga.gl Ga.look at c2
    simp only [Bool.and_eq_true, beq_iff_eq, bne_iff_ne] at c2
    have gl : Gl X (Str.ofString "iter") := by
      show X.env.scope.names.lookup _ = _
      rw [hsc]; exact c2.1.1
    refine pss_one ((ps_ret (pe_callB call_iterT gl (hoff _ (by simpa using c3)) (by rfl) (pa_cons (pe_fld hv (ab_ok c5)) pa_nil (star_ok rfl)) c2.2 (beq_eq_false_iff_ne.mpr c2.1.2) (star_ok rfl) rfl)).imp ?_)
    rintro D σ H ⟨a, C, dx, fs, t, xs, e1, e2, e3, e4, e5, e6, q⟩
    exact ⟨.ref a, e1, a, C, dx, fs, .ref t, rfl, e2, e3, e4, e5, t, xs, rfl, e6, q⟩
  · cases c
end
theorem itr_of {P : Program} {w : World} {K : PySem.W.Frag} {mg : Str → Option Value} {base : Heap} {qual x : Str} {st : Stmt} {f : Addr} {fd : FuncData} {N ps : List Str} {n : Str} {G : Gd} (F : Fun K x qual st f fd) (S : FnScope N ps (defScope st)) (hp : ps.length = 1)
    (hoff : ∀ x, x ∈ G.off → mg x = none) (c : chkIt G ⟨N, defScope st, fun _ => true⟩ n (defBody st) = true) : ItRun P w K mg base f fd ps n := by
  obtain ⟨oc, od, kV, doc, pm, an, cdv, ct, osl, rfl, lk, hcd⟩ := F.ex
  refine ⟨hp, fun A outer s H args a C dx t fs xs hr hgu e0 hb ha hc hn hl ht => ?_⟩
  have hk : ∀ b o, base.get? b = some o → s.heap.get? b = some o := fun b o e => (e0.bs b o e).1
  have names : ∀ y ∈ ps.zip [Value.ref a], (defScope st).names.lookup y.1 = some .local ∨ ((defScope st).names.lookup y.1 = some .cell ∧ ((cellsFrom (s.heap.objs.size + 1) (defScope st).names []).lookup y.1).isSome = true) := fun y hy =>
    (S.par y.1 (List.of_mem_zip hy).1).imp id fun q => ⟨q, PySem.W.cellsFrom_some _ _ _ (.inl q)⟩
  refine codeAny_call_function hr.depth (e0.mod.kin.keeps hk _ _ lk) rfl S.co S.gen rfl (PySem.W.codeRec_of (e0.mod.kin.keeps hk) hcd) (hb _ _ _ _ ?_)
  refine wpAny_newFunctionEnv_cells S.kind names fun env he s1 x => ?_
  cases he
  refine ⟨(e0.mod.nolimit.keeps hk).keeps x.toInCall.keep, codeAny_func ?_⟩
  have I : Inv (cxOf CX0 P w K mg base N qual (defScope st) f cdv A outer s H E0) [] (start N [V.ref a]) H s1 := inv_start S hr.hd e0 (by simp [hp]) (.cons rfl .nil) x
  have ht' := it_ok (X := cxOf CX0 P w K mg base N qual (defScope st) f cdv A outer s H E0) (Γ := ⟨N, defScope st, fun _ => true⟩) rfl rfl hoff c
  refine wpAny_mono (ht'.run [] s1 (start N [V.ref a]) H { nx := fun _ _ => False, rt := fun v H' => ∃ it, v = .ref it ∧ s.heap.objs.size ≤ it ∧ H' = upd H it (ItOT t it) } I ?_) (fun fl s' hs => ?_) fun e s' hs => hs
  · refine ⟨a, C, dx, fs, t, xs, ?_, ha, hc, hn, hl, ht, fun it e1 e2 => ⟨it, rfl, e2, rfl⟩⟩
    rfl
  · cases fl with
    | ret u =>
      obtain ⟨v, σ', H', J, rv, q⟩ := hs
      exact ⟨v, H', J.os, J.bare, J.base, J.hok, rv, q⟩
    | next =>
      obtain ⟨σ', H', J, q⟩ := hs
      exact False.elim q
    | brk =>
      obtain ⟨_, _, _, q⟩ := hs
      exact False.elim q
    | cont =>
      obtain ⟨_, _, _, q⟩ := hs
      exact False.elim q
end BK

set_option Elab.async false
set_option linter.all false
set_option maxRecDepth 100000
set_option maxHeartbeats 4000000
/-! BK18: a text that passes the check runs as its program says: expressions, tests, walks. -/
namespace BK
open PySem PySem.Spec PyProof.Rows L2
section
variable {G : Gd} {cn : Nat → Addr} {cf : Call} {k : Nat} {Γ : Ga} {X : Cx}
theorem ixp_ok {b : Expr} (h : nSlice b = true) : ∀ o i, subscripted b true o i = runValue (.builtin "lifetime.subscript" ⟨[o, i], []⟩) := by
  intro o i
  cases b <;> first | rfl | (simp [nSlice] at h)
theorem p_ok (h : XOk G cn cf k Γ X) {e : Expr} {x : E} (c : chkE G Γ e x = true) (hx : PE X e (tX (kw X cn) fun ρ => ev G.P cf ρ x)) : PE X e (tP (kw X cn) fun ρ => opn ρ x (ev G.P cf ρ x)) :=
  pe_opn hx fun i e' => by
    subst e'
    unfold chkE at c
    exact v_ok h c
theorem call_ok (h : XOk G cn cf k Γ X) {f : Nat} {x : Str} {p pos : Pos} {es : List Expr} {xs : Es} (c1 : Γ.gl x = true) (c2 : ((G.P.defs[f]?).any fun d => d.name == x) = true) (c3 : G.tops.contains f = true) (hs : es.all nStar = true) (ha : PA X es (tPs (kw X cn) fun ρ => evos G.P cf ρ xs)) (hn : es = [] → xs = .nil) :
    PE X (.Call (.Name x p) es [] pos) (tX (kw X cn) fun ρ => ev G.P cf ρ (.call f xs)) := by
  obtain ⟨g1, g2, g3⟩ := h.gl c1
  cases hd : G.P.defs[f]? with
  | none => rw [hd] at c2; cases c2
  | some d =>
    rw [hd] at c2
    have en : d.name = x := by simpa using c2
    obtain ⟨fa, fd, ps, m, kp, F, b⟩ := h.defs f d hd (by simpa using c3)
    rw [en] at m
    cases es with
    | nil =>
      refine (pe_clg0 F h.room0 h.gu g1 m kp b g2).imp fun σ H Q w => ?_
      obtain ⟨B, o, ρ, r, ho, he, q⟩ := tx_call σ H Q w
      have := hn rfl
      subst this
      simp only [evos] at he
      cases he
      exact q [] H o .refl .refl ho True.intro
    | cons e es =>
      rw [List.all_cons, Bool.and_eq_true] at hs
      exact (pe_clg F h.room0 h.gu g1 m kp b ha g2 (star_ok hs.1) (star_any hs.2)).imp tx_call
theorem new_ok (h : XOk G cn cf k Γ X) {i : Nat} {x : Str} {p pos : Pos} {es : List Expr} {xs : Es} (c1 : Γ.gl x = true) (c2 : ((G.P.cls[i]?).any fun k => k.name == x) = true) (hs : es.all nStar = true) (ha : PA X es (tPs (kw X cn) fun ρ => evos G.P cf ρ xs)) (hn : es = [] → xs = .nil) :
    PE X (.Call (.Name x p) es [] pos) (tX (kw X cn) fun ρ => ev G.P cf ρ (.new i xs)) := by
  obtain ⟨g1, g2, g3⟩ := h.gl c1
  obtain ⟨kl, hk, en⟩ := any_some c2
  have en := beq_iff_eq.mp en
  have K := h.cls i kl hk
  obtain ⟨f, fd, ps, M, F, b⟩ := K.made
  have m := K.mgC
  rw [en] at m
  cases es with
  | nil =>
    refine (pe_nw0 M F h.room h.gu g1 m b g2).imp fun σ H Q w => ?_
    obtain ⟨B, o, ρ, r, ho, he, q⟩ := tx_new hk σ H Q w
    have := hn rfl
    subst this
    simp only [evos] at he
    cases he
    exact q [] H o .refl .refl ho True.intro
  | cons e es =>
    rw [List.all_cons, Bool.and_eq_true] at hs
    exact (pe_nw M F h.room h.gu g1 m b ha g2 (star_ok hs.1) (star_any hs.2)).imp (tx_new hk)
theorem mcall_eq {o : Expr} {n : Str} {apos pos : Pos} {es : List Expr} {env : Env} (h1 : nCall0 o = true) (h2 : (apos.endLine == pos.line) = true) (h3 : es.length < 29) (hs : es.all nStar = true) :
    eval (.Call (.Attribute o n apos) es [] pos) env = (do
      let ov ← eval o env
      standAt apos.atName
      let (g, first) ← holding [ov] (getMethod ov n (do return (← importBound o env).getD true))
      callWith pos g first (backTo pos (starEach es env)) (backToKw pos (keywordEach [] env))) := by
  have hf : methodCallForm (es.length + ([] : List Keyword).length) (backTo pos (starEach es env)) (backToKw pos (keywordEach [] env)) = true := by
    have e1 : ((backTo pos (starEach es env)).all fun x => !x.1) = true := by
      clear h3
      induction es with
      | nil => rfl
      | cons e es ih =>
        rw [List.all_cons, Bool.and_eq_true] at hs
        rw [star_ok hs.1]
        exact ih hs.2
    unfold methodCallForm
    rw [e1]
    simp [backToKw, keywordEach]
    omega
  rw [eval]
  rw [ab_ok h1]
  unfold methodCall
  rw [hf]
  simp only [calleeOf, methodCallPos, h2, if_true, Bool.not_true, Bool.false_or]
  congr
theorem meth_ok (h : XOk G cn cf k Γ X) {o : Expr} {n : Str} {apos pos : Pos} {es : List Expr} {x : E} {xs : Es} (c1 : nCall0 o = true) (c2 : (apos.endLine == pos.line) = true) (c3 : es.length < 29) (hp : PE X o (tP (kw X cn) fun ρ => opn ρ x (ev G.P cf ρ x))) (hs : es.all nStar = true) (ha : PA X es (tPs (kw X cn) fun ρ => evos G.P cf ρ xs)) (hn : es = [] → xs = .nil) :
    PE X (.Call (.Attribute o n apos) es [] pos) (tX (kw X cn) fun ρ => ev G.P cf ρ (.meth n x xs)) := by
  have e := mcall_eq (n := n) (env := X.env) c1 c2 c3 hs
  cases es with
  | nil =>
    refine (pe_md0 hp h.room0 h.gu e).imp fun σ H Q w => ?_
    obtain ⟨B, o1, ρ, r, ho, he, q⟩ := tx_meth h.cls σ H Q w
    have := hn rfl
    subst this
    refine ⟨B, o1, ρ, r, ho, he, fun v H1 o2 s1 pn h1 a1 => ?_⟩
    obtain ⟨C, f, fd, ps, sp, a, dx, fs, e1, e2, e3, e4, e5, e6, e7, B2, o3, ρ2, r2, ho2, he2, q2⟩ := q v H1 o2 s1 pn h1 a1
    simp only [evos] at he2
    cases he2
    exact ⟨C, f, fd, ps, sp, a, dx, fs, e1, e2, e3, e4, e5, e6, e7, q2 [] H1 o3 .refl .refl ho2 True.intro⟩
  | cons e0 es =>
    rw [List.all_cons, Bool.and_eq_true] at hs
    exact (pe_md hp h.room0 h.gu ha (star_ok hs.1) (star_any hs.2) e).imp (tx_meth h.cls)
theorem lrg1_ok (h : XOk G cn cf k Γ X) {p p2 pos pos2 : Pos} {b : Expr} {a : E} (c2 : Γ.gl "list" = true) (c3 : G.off.contains "list" = true) (d2 : Γ.gl "range" = true) (d3 : G.off.contains "range" = true) (d4 : nStar b = true) (hb : PE X b (tX (kw X cn) fun ρ => ev G.P cf ρ a)) :
    PE X (.Call (.Name "list" p) [.Call (.Name "range" p2) [b] [] pos2] [] pos) (tX (kw X cn) fun ρ => ev G.P cf ρ (.lrg (.rng1 a))) := by
  refine (pe_listRg h.calm (h.gl c2).1 (h.off _ (by simpa using c3)) (prg_1 (h.gl d2).1 (h.off _ (by simpa using d3)) hb (star_ok d4)) rfl).imp fun σ H Q ⟨B, o, ρ, r, ho, he, q⟩ => ?_
  simp only [ev, evI] at he
  obtain ⟨⟨xs, ρ0⟩, e0, he⟩ := Option.map_eq_some_iff.mp he
  cases he
  obtain ⟨⟨d, f, ρ1⟩, e1, e0⟩ := bind_some e0
  split at e0
  · rename_i n hn
    have hn : d = .int n := hn
    subst hn
    split at e0
    · rename_i hl
      rw [Bool.and_eq_true, decide_eq_true_eq, decide_eq_true_eq] at hl
      cases e0
      have l1 := hl.1
      have l2 := hl.2
      simp only [most] at l1 l2
      refine ⟨B, o, ρ, _, ho, e1, fun v H1 o1 s1 pn1 rs => ?_⟩
      obtain ⟨h1, dv⟩ := rs.shared ho.bd
      cases dv
      refine ⟨n, rfl, ⟨by omega, by omega, by omega, by omega, by omega⟩, fun p n1 => ?_⟩
      exact q _ _ o1 (s1.trans (Ext.new n1).stepE) pn1 (res_of h1 (Ext.new n1) (newl n1 den_int) s1.back)
    · cases e0
  · cases e0
theorem lrg2_ok (h : XOk G cn cf k Γ X) {p p2 pos pos2 : Pos} {b b' : Expr} {a a' : E} (c2 : Γ.gl "list" = true) (c3 : G.off.contains "list" = true) (d2 : Γ.gl "range" = true) (d3 : G.off.contains "range" = true) (d4 : nStar b = true) (d5 : nStar b' = true) (hb : PE X b (tX (kw X cn) fun ρ => ev G.P cf ρ a)) (hb' : PE X b' (tX (kw X cn) fun ρ => ev G.P cf ρ a')) :
    PE X (.Call (.Name "list" p) [.Call (.Name "range" p2) [b, b'] [] pos2] [] pos) (tX (kw X cn) fun ρ => ev G.P cf ρ (.lrg (.rng2 a a'))) := by
  refine (pe_listRg h.calm (h.gl c2).1 (h.off _ (by simpa using c3)) (prg_2 (h.gl d2).1 (h.off _ (by simpa using d3)) hb hb' (star_ok d4) (star_ok d5) (by rw [star_ok d5]; rfl)) rfl).imp fun σ H Q ⟨B, o, ρ, r, ho, he, q⟩ => ?_
  simp only [ev, evI] at he
  obtain ⟨⟨xs, ρ0⟩, e0, he⟩ := Option.map_eq_some_iff.mp he
  cases he
  obtain ⟨⟨d, f, ρ1⟩, e1, e0⟩ := bind_some e0
  obtain ⟨⟨d', f', ρ2⟩, e2, e0⟩ := bind_some e0
  split at e0
  · rename_i n1 n2 hn hm
    have hn : d = .int n1 := hn
    have hm : d' = .int n2 := hm
    subst hn hm
    split at e0
    · rename_i hl
      simp only [Bool.and_eq_true, decide_eq_true_eq] at hl
      cases e0
      obtain ⟨⟨⟨l1, l2⟩, l3⟩, l4⟩ := hl
      simp only [most] at l1 l2 l3 l4
      refine ⟨B, o, ρ, _, ho, e1, fun v H1 o1 s1 pn1 rs => ?_⟩
      obtain ⟨h1, dv⟩ := rs.shared ho.bd
      cases dv
      refine ⟨B, o1, ρ1, _, h1, e2, fun v H2 o2 s2 pn2 rs => ?_⟩
      obtain ⟨h2, dv⟩ := rs.shared h1.bd
      cases dv
      refine ⟨n1, n2, rfl, rfl, ⟨by omega, by omega, by omega, by omega, by omega⟩, fun p nn => ?_⟩
      exact q _ _ o2 ((s1.trans s2).trans (Ext.new nn).stepE) (pn1.trans pn2) (res_of h2 (Ext.new nn) (newl nn den_int) (s1.trans s2).back)
    · cases e0
  · cases e0
theorem att_ok (h : XOk G cn cf k Γ X) {o : Expr} {n : Str} {pos : Pos} {x : E} (c1 : nCall0 o = true) (hp : PE X o (tP (kw X cn) fun ρ => opn ρ x (ev G.P cf ρ x))) : PE X (.Attribute o n pos) (tX (kw X cn) fun ρ => ev G.P cf ρ (.att n x)) := by
  refine (pe_fld hp (ab_ok c1)).imp fun σ H Q ⟨B, o, ρ, r, ho, he, q⟩ => ?_
  simp only [ev] at he
  obtain ⟨⟨ad, ρ1⟩, e1, he⟩ := bind_some he
  obtain ⟨d, e2, he⟩ := bind_some he
  split at he
  · rename_i c ns ds
    split at he
    · rename_i hc
      obtain ⟨r1, e3, he⟩ := Option.map_eq_some_iff.mp he
      cases he
      obtain ⟨kl, hk, hn⟩ := any_some hc
      have K := h.cls c kl hk
      refine ⟨B, o, ρ, _, ho, e1, fun v H1 o1 s1 pn1 h1 a1 => ?_⟩
      obtain ⟨a, dx, vs, rfl, ha, hl, hv⟩ := (a1.den h1 e2).ins
      obtain ⟨w, w1, w2⟩ := fget_ok hl hv e3
      exact ⟨a, cn c, dx, _, w, rfl, ha, K.cls, K.na n hn, w1, q w H1 o1 s1 pn1 ⟨h1, w2⟩⟩
    · cases he
  · cases he
theorem ty_pe (h : XOk G cn cf k Γ X) {e : Expr} {t : Ty} (c : chkTy G Γ e t = true) : PE X e (tC (tyW cn t)) ∧ tyOk G.P t = true ∧ nStar e = true := by
  unfold chkTy at c
  split at c
  · rename_i x p
    rw [Bool.and_eq_true] at c
    obtain ⟨g1, g2, g3⟩ := h.gl c.1
    have c2 := c.2
    cases t with
    | own i =>
      obtain ⟨kl, hk, en⟩ := any_some c2
      have m := (h.cls i kl hk).mgC
      rw [beq_iff_eq.mp en] at m
      exact ⟨pe_glob g1 m rfl g2, by show (G.P.cls[i]?).isSome = true; rw [hk]; rfl, rfl⟩
    | int =>
      simp only [Bool.and_eq_true, beq_iff_eq] at c2
      obtain ⟨rfl, c3⟩ := c2
      exact ⟨pe_bltn g1 (h.off _ (by simpa using c3)) (by rfl) rfl g3 g2, rfl, rfl⟩
    | bool =>
      simp only [Bool.and_eq_true, beq_iff_eq] at c2
      obtain ⟨rfl, c3⟩ := c2
      exact ⟨pe_bltn g1 (h.off _ (by simpa using c3)) (by rfl) rfl g3 g2, rfl, rfl⟩
    | str =>
      simp only [Bool.and_eq_true, beq_iff_eq] at c2
      obtain ⟨rfl, c3⟩ := c2
      exact ⟨pe_bltn g1 (h.off _ (by simpa using c3)) (by rfl) rfl g3 g2, rfl, rfl⟩
    | list =>
      simp only [Bool.and_eq_true, beq_iff_eq] at c2
      obtain ⟨rfl, c3⟩ := c2
      exact ⟨pe_bltn g1 (h.off _ (by simpa using c3)) (by rfl) rfl g3 g2, rfl, rfl⟩
    | tuple =>
      simp only [Bool.and_eq_true, beq_iff_eq] at c2
      obtain ⟨rfl, c3⟩ := c2
      exact ⟨pe_bltn g1 (h.off _ (by simpa using c3)) (by rfl) rfl g3 g2, rfl, rfl⟩
    | dict =>
      simp only [Bool.and_eq_true, beq_iff_eq] at c2
      obtain ⟨rfl, c3⟩ := c2
      exact ⟨pe_bltn g1 (h.off _ (by simpa using c3)) (by rfl) rfl g3 g2, rfl, rfl⟩
  · cases c
theorem tys_pa (h : XOk G cn cf k Γ X) : ∀ {es : List Expr} {ts : List Ty}, chkTys G Γ es ts = true → PA X es (fun σ H Q => Q (ts.map (tyW cn)) H) ∧ ∀ t ∈ ts, tyOk G.P t = true
  | [], [], _ => ⟨pa_nil.imp fun σ H Q w => w, fun t m => absurd m List.not_mem_nil⟩
  | e :: es, t :: ts, c => by
    simp only [chkTys, Bool.and_eq_true] at c
    obtain ⟨p1, p2, p3⟩ := ty_pe h c.1
    obtain ⟨q1, q2⟩ := tys_pa h c.2
    refine ⟨(pa_cons p1 q1 (star_ok p3)).imp fun σ H Q w => w, fun t' m => ?_⟩
    rcases List.mem_cons.mp m with rfl | m
    · exact p2
    · exact q2 t' m
  | [], _ :: _, c => by simp [chkTys] at c
  | _ :: _, [], c => by simp [chkTys] at c
theorem isi_ok (h : XOk G cn cf k Γ X) {ts : List Ty} {p pos : Pos} {b c : Expr} {x : E} (c2 : Γ.gl "isinstance" = true) (c3 : G.off.contains "isinstance" = true) (c4 : nStar b = true) (c5 : nStar c = true) (c7 : chkIsi G Γ c ts = true) (hb : PE X b (tP (kw X cn) fun ρ => opn ρ x (ev G.P cf ρ x))) :
    PE X (.Call (.Name "isinstance" p) [b, c] [] pos) (tX (kw X cn) fun ρ => ev G.P cf ρ (.isi ts x)) := by
  obtain ⟨g1, g2, g3⟩ := h.gl c2
  have m := h.off "isinstance" (by simpa using c3)
  have one : ∀ t, chkTy G Γ c t = true → PE X (.Call (.Name "isinstance" p) [b, c] [] pos) (tX (kw X cn) fun ρ => ev G.P cf ρ (.isi [t] x)) := by
    intro t ct
    obtain ⟨p1, p2, p3⟩ := ty_pe h ct
    refine (pe_callB call_isi g1 m (by rfl) (pa_cons hb (pa_cons p1 pa_nil (star_ok c5)) (star_ok c4)) g3 g2 (star_ok c4) (by rw [star_ok c5]; rfl)).imp fun σ H Q ⟨B, o, ρ, r, ho, he, q⟩ => ?_
    simp only [ev] at he
    obtain ⟨⟨ad, ρ1⟩, e1, he⟩ := bind_some he
    obtain ⟨d, e2, he⟩ := bind_some he
    split at he
    · rename_i hok
      cases he
      refine ⟨B, o, ρ, _, ho, e1, fun v H1 o1 s1 pn1 h1 a1 => ?_⟩
      obtain ⟨t', ty, kk⟩ := tyx_of h.cls (a1.den h1 e2) hok
      refine ⟨v, _, t', _, d.isi t, rfl, tyW_cls cn t, ty, kk t p2, ?_⟩
      refine q _ H1 o1 s1 pn1 ⟨h1, ?_⟩
      rw [List.any_cons, List.any_nil, Bool.or_false]
      exact .bl _
    · cases he
  have many : ∀ {es kt pt}, c = .Tuple es kt pt → chkTys G Γ es ts = true → ts.length ≤ 30 → PE X (.Call (.Name "isinstance" p) [b, c] [] pos) (tX (kw X cn) fun ρ => ev G.P cf ρ (.isi ts x)) := by
    intro es kt pt hc ct hl
    subst hc
    obtain ⟨p1, p2⟩ := tys_pa h ct
    refine (pe_callB call_isiT g1 m (by rfl) (pa_cons hb (pa_cons (pe_tup p1) pa_nil (star_ok c5)) (star_ok c4)) g3 g2 (star_ok c4) (by rw [star_ok c5]; rfl)).imp fun σ H Q ⟨B, o, ρ, r, ho, he, q⟩ => ?_
    simp only [ev] at he
    obtain ⟨⟨ad, ρ1⟩, e1, he⟩ := bind_some he
    obtain ⟨d, e2, he⟩ := bind_some he
    split at he
    · rename_i hok
      cases he
      refine ⟨B, o, ρ, _, ho, e1, fun v H1 o1 s1 pn1 h1 a1 => ?_⟩
      refine ⟨?_, fun p n => ?_⟩
      · rw [List.length_map]; exact most_le (Nat.le_trans hl (by decide))
      · have x := Ext.new (q := HO.tup (ts.map (tyW cn))) n
        have h1' := h1.ext x
        have a1' := a1.step x.stepE
        obtain ⟨t', ty, kk⟩ := tyx_of h.cls (a1'.den h1' e2) hok
        refine ⟨v, p, _, t', _, _, rfl, upd_same, paired_ty ts, ty, kitAny_of fun ty m => kk ty (p2 ty m), ?_⟩
        exact q _ _ o1 (s1.trans x.stepE) pn1 ⟨h1', .bl _⟩
    · cases he
  unfold chkIsi at c7
  split at c7
  · exact one _ c7
  · split at c7
    · rw [Bool.and_eq_true, decide_eq_true_eq] at c7
      exact many rfl c7.1 c7.2
    · cases c7
theorem lm_ok {a b : CmpOp} {x y : Expr} (h : (!lastMarks [a, b] [x, y]) = true) : lastMarks [a, b] [x, y] = false := by simpa using h
theorem own_ok {Γ : Ga} {tg : Tg} : (ownOf Γ tg).map (fun x => x.2) = tg.own := by
  unfold ownOf
  rw [List.map_map]
  exact List.map_id' _
theorem px_lc (h : XOk G cn cf k Γ X) {elt tg' it' : Expr} {ifs' : List Expr} {scope : Scope} {pos : Pos} {ex : E} {tg : Tg} {it : I} {cd : Ts} (c1 : nSet it' = true) (c2 : tg.okd = true) (hi : PI X tg' it' (tI (kw X cn) fun ρ => evI G.P cf ρ it)) (c3 : blkC Γ.N Γ.sc scope (ownOf Γ tg) = true) (c4 : chkTg (Γ.blk scope) tg' tg = true)
    (hc : ∀ Y : Cx, XOk G cn cf k (Γ.blk scope) Y → kw Y cn = kw X cn → PTs Y ifs' (tB (kw X cn) fun ρ => evAll G.P cf ρ cd)) (he : ∀ Y : Cx, XOk G cn cf k (Γ.blk scope) Y → kw Y cn = kw X cn → PE Y elt (tX (kw X cn) fun ρ => ev G.P cf ρ ex)) :
    PE X (.ListComp elt [⟨tg', it', ifs', 0⟩] scope pos) (tX (kw X cn) fun ρ => ev G.P cf ρ (.lc ex tg it cd)) := by
  have nd : X.N.Nodup := by rw [h.N]; exact h.nd
  have := pe_lc (pos := pos) (g := gTg X.K tg) h.calm nd hi (blkOk_by (by rw [h.N, h.sc]; exact c3)) (fun s H C cl fp => tg_ok (h.blk (s := s) (H := H) (scope := scope) (C := C) (cl := cl) (fp := fp)) c4) (fun s H C cl fp => hc _ (h.blk (s := s) (H := H) (scope := scope) (C := C) (cl := cl) (fp := fp)) rfl) (fun s H C cl fp => he _ (h.blk (s := s) (H := H) (scope := scope) (C := C) (cl := cl) (fp := fp)) rfl) fun x => fs_ok c1
  rw [own_ok] at this
  exact this.imp (tlc_of c2)
theorem px_lc2 (h : XOk G cn cf k Γ X) {elt tg' it' tg1' it1' : Expr} {ifs' ifs1' : List Expr} {scope : Scope} {pos : Pos} {ex : E} {tg tg1 : Tg} {it it1 : I} {cd cd1 : Ts} (c1 : nSet it' = true) (c2 : tg.okd = true) (hi : PI X tg' it' (tI (kw X cn) fun ρ => evI G.P cf ρ it)) (c3 : blkC Γ.N Γ.sc scope (ownOf Γ tg ++ ownOf Γ tg1) = true) (c4 : chkTg (Γ.blk scope) tg' tg = true)
    (d1 : nSet it1' = true) (d2 : tg1.okd = true) (d4 : chkTg (Γ.blk scope) tg1' tg1 = true)
    (hc : ∀ Y : Cx, XOk G cn cf k (Γ.blk scope) Y → kw Y cn = kw X cn → PTs Y ifs' (tB (kw X cn) fun ρ => evAll G.P cf ρ cd)) (hi1 : ∀ Y : Cx, XOk G cn cf k (Γ.blk scope) Y → kw Y cn = kw X cn → PI Y tg1' it1' (tI (kw X cn) fun ρ => evI G.P cf ρ it1))
    (hc1 : ∀ Y : Cx, XOk G cn cf k (Γ.blk scope) Y → kw Y cn = kw X cn → PTs Y ifs1' (tB (kw X cn) fun ρ => evAll G.P cf ρ cd1)) (he : ∀ Y : Cx, XOk G cn cf k (Γ.blk scope) Y → kw Y cn = kw X cn → PE Y elt (tX (kw X cn) fun ρ => ev G.P cf ρ ex)) :
    PE X (.ListComp elt [⟨tg', it', ifs', 0⟩, ⟨tg1', it1', ifs1', 0⟩] scope pos) (tX (kw X cn) fun ρ => ev G.P cf ρ (.lc2 ex tg it cd tg1 it1 cd1)) := by
  have nd : X.N.Nodup := by rw [h.N]; exact h.nd
  have ow : (ownOf Γ tg ++ ownOf Γ tg1).map (fun x => x.2) = tg.own ++ tg1.own := by rw [List.map_append, own_ok, own_ok]
  have := pe_lc2 (pos := pos) (vs1 := tg1.own) (g := gTg X.K tg) (g1 := gTg X.K tg1) h.calm nd hi (blkOk_by (by rw [h.N, h.sc]; exact c3)) (fun i hi => by rw [ow]; exact List.mem_append_right _ hi) (fun s H C cl fp => tg_ok (h.blk (s := s) (H := H) (scope := scope) (C := C) (cl := cl) (fp := fp)) c4) (fun s H C cl fp => hc _ (h.blk (s := s) (H := H) (scope := scope) (C := C) (cl := cl) (fp := fp)) rfl)
    (fun s H C cl fp => hi1 _ (h.blk (s := s) (H := H) (scope := scope) (C := C) (cl := cl) (fp := fp)) rfl) (fun s H C cl fp => tg_ok (h.blk (s := s) (H := H) (scope := scope) (C := C) (cl := cl) (fp := fp)) d4) (fun s H C cl fp => hc1 _ (h.blk (s := s) (H := H) (scope := scope) (C := C) (cl := cl) (fp := fp)) rfl)
    (fun s H C cl fp => he _ (h.blk (s := s) (H := H) (scope := scope) (C := C) (cl := cl) (fp := fp)) rfl) (fun x => fs_ok c1) fun env x => fs_ok d1
  rw [ow] at this
  exact this.imp (tlc2_of c2 d2)
theorem px_lcw (h : XOk G cn cf k Γ X) {elt tg' it' : Expr} {ifs' : List Expr} {scope : Scope} {pos : Pos} {ex : E} {tg : Tg} {i : Nat} {cd : Ts} (c1 : nSet it' = true) (c2 : tg.okd = true) (hi : PE X it' (tVar i)) (c3 : blkC Γ.N Γ.sc scope (ownOf Γ tg) = true) (c4 : chkTg (Γ.blk scope) tg' tg = true)
    (hc : ∀ Y : Cx, XOk G cn cf k (Γ.blk scope) Y → kw Y cn = kw X cn → PTs Y ifs' (tB (kw X cn) fun ρ => evAll G.P cf ρ cd)) (he : ∀ Y : Cx, XOk G cn cf k (Γ.blk scope) Y → kw Y cn = kw X cn → PE Y elt (tX (kw X cn) fun ρ => ev G.P cf ρ ex)) :
    PE X (.ListComp elt [⟨tg', it', ifs', 0⟩] scope pos) (tX (kw X cn) fun ρ => ev G.P cf ρ (.lcw ex tg i cd)) := by
  have nd : X.N.Nodup := by rw [h.N]; exact h.nd
  have := pe_lc (pos := pos) (g := gTg X.K tg) h.calm nd (pi_any (h.room.mono (Nat.succ_le_succ (Nat.zero_le k))) h.gu hi) (blkOk_by (by rw [h.N, h.sc]; exact c3)) (fun s H C cl fp => tg_ok (h.blk (s := s) (H := H) (scope := scope) (C := C) (cl := cl) (fp := fp)) c4) (fun s H C cl fp => hc _ (h.blk (s := s) (H := H) (scope := scope) (C := C) (cl := cl) (fp := fp)) rfl) (fun s H C cl fp => he _ (h.blk (s := s) (H := H) (scope := scope) (C := C) (cl := cl) (fp := fp)) rfl) fun x => fs_ok c1
  rw [own_ok] at this
  exact this.imp (tlcw_of c2)
theorem big_ok {es : List Expr} {env : Env} {pos : Pos} (hs : es.all nStar = true) (hl : es.length ≤ 2) : (((backTo pos (starEach es env)).all fun x => !x.1) && ((backToKw pos (keywordEach [] env)).all fun x => x.1.isSome) && decide (es.length + ([] : List Keyword).length + (if ([] : List Keyword).isEmpty = true then 0 else 1) < 30)) = true := by
  have h1 : ((backTo pos (starEach es env)).all fun x => !x.1) = true := by
    clear hl
    induction es with
    | nil => rfl
    | cons e es ih =>
      rw [List.all_cons, Bool.and_eq_true] at hs
      rw [star_ok hs.1]
      exact ih hs.2
  rw [h1]
  have h2 : decide (es.length + ([] : List Keyword).length + (if ([] : List Keyword).isEmpty = true then 0 else 1) < 30) = true := by
    refine decide_eq_true ?_
    simp
    omega
  rw [h2]
  rfl
theorem mut_ok (h : XOk G cn cf k Γ X) {m : Mu} {i : Nat} {x n : Str} {p apos pos : Pos} {es : List Expr} {xs : Es} (c1 : chkV Γ (.Name x p) i = true) (c2 : (apos.endLine == pos.line) = true)
    (c3 : (match m with
      | .app => n == "append" && es.length == 1
      | .ins => n == "insert" && es.length == 2
      | .ext => n == "extend" && es.length == 1
      | .pop => n == "pop" && es.isEmpty) = true) (hs : es.all nStar = true) (ha : PA X es (tEs (kw X cn) fun ρ => evs G.P cf ρ xs)) (hn : es = [] → xs = .nil) :
    PE X (.Call (.Attribute (.Name x p) n apos) es [] pos) (tX (kw X cn) fun ρ => ev G.P cf ρ (.mut m i xs)) := by
  have hv := v_ok h c1
  have ab : ∀ n, attributeBase (.Name x p) n X.env (eval (.Name x p) X.env) = eval (.Name x p) X.env := fun n => ab_ok rfl
  cases m with
  | app =>
    simp only [Bool.and_eq_true, beq_iff_eq] at c3
    obtain ⟨rfl, hl⟩ := c3
    cases es with
    | nil => cases hl
    | cons e es =>
      have hs' := hs
      rw [List.all_cons, Bool.and_eq_true] at hs'
      exact (pe_bm PySem.F.plainAttrs_list PySem.F.slot_list_append PySem.F.type_list_append mt_append hv ha (ab _) (big_ok hs (by omega)) c2 (star_ok hs'.1) (star_any hs'.2)).imp tm_app
  | ins =>
    simp only [Bool.and_eq_true, beq_iff_eq] at c3
    obtain ⟨rfl, hl⟩ := c3
    cases es with
    | nil => cases hl
    | cons e es =>
      have hs' := hs
      rw [List.all_cons, Bool.and_eq_true] at hs'
      exact (pe_bm PySem.F.plainAttrs_list PySem.F.slot_list_insert (by rfl) mt_ins hv ha (ab _) (big_ok hs (by omega)) c2 (star_ok hs'.1) (star_any hs'.2)).imp tm_ins
  | ext =>
    simp only [Bool.and_eq_true, beq_iff_eq] at c3
    obtain ⟨rfl, hl⟩ := c3
    cases es with
    | nil => cases hl
    | cons e es =>
      have hs' := hs
      rw [List.all_cons, Bool.and_eq_true] at hs'
      exact (pe_bm PySem.F.plainAttrs_list PySem.F.slot_list_extend (by rfl) mt_extend hv ha (ab _) (big_ok hs (by omega)) c2 (star_ok hs'.1) (star_any hs'.2)).imp tm_ext
  | pop =>
    simp only [Bool.and_eq_true, beq_iff_eq, List.isEmpty_iff] at c3
    obtain ⟨rfl, rfl⟩ := c3
    have := hn rfl
    subst this
    exact (pe_bm0 PySem.F.plainAttrs_list PySem.F.slot_list_pop (by rfl) mt_pop hv (ab _) c2).imp tm_pop
end
theorem bm_of (h : XOk G cn cf k Γ X) {m : Bm} {o : Expr} {n : Str} {apos pos : Pos} {es : List Expr} {x : E} {xs : Es} (c1 : nCall0 o = true) (c2 : (apos.endLine == pos.line) = true) (hp : PE X o (tP (kw X cn) fun ρ => opn ρ x (ev G.P cf ρ x)))
    (c3 : (match m with
      | .index => n == "index" && es.length == 1
      | .count => n == "count" && es.length == 1
      | .scn => n == "count" && es.length == 1
      | .get => n == "get" && (es.length == 1 || es.length == 2)) = true) (hs : es.all nStar = true) (ha : PA X es (tEs (kw X cn) fun ρ => evs G.P cf ρ xs)) :
    PE X (.Call (.Attribute o n apos) es [] pos) (tX (kw X cn) fun ρ => ev G.P cf ρ (.bm m x xs)) := by
  cases m with
  | index =>
    simp only [Bool.and_eq_true, beq_iff_eq] at c3
    obtain ⟨rfl, hl⟩ := c3
    cases es with
    | nil => cases hl
    | cons e es =>
      have hs' := hs
      rw [List.all_cons, Bool.and_eq_true] at hs'
      exact (pe_bw PySem.F.plainAttrs_list PySem.F.slot_list_index (by rfl) (mt_idx h.room0) hp ha (ab_ok c1) (big_ok hs (by omega)) c2 (star_ok hs'.1) (star_any hs'.2)).imp tx_bm
  | count =>
    simp only [Bool.and_eq_true, beq_iff_eq] at c3
    obtain ⟨rfl, hl⟩ := c3
    cases es with
    | nil => cases hl
    | cons e es =>
      have hs' := hs
      rw [List.all_cons, Bool.and_eq_true] at hs'
      exact (pe_bw PySem.F.plainAttrs_list PySem.F.slot_list_count (by rfl) (mt_cnt h.room0) hp ha (ab_ok c1) (big_ok hs (by omega)) c2 (star_ok hs'.1) (star_any hs'.2)).imp tx_bm
  | scn =>
    simp only [Bool.and_eq_true, beq_iff_eq] at c3
    obtain ⟨rfl, hl⟩ := c3
    cases es with
    | nil => cases hl
    | cons e es =>
      have hs' := hs
      rw [List.all_cons, Bool.and_eq_true] at hs'
      exact (pe_bw PySem.F.plainAttrs_str PySem.F.slot_str_count PySem.F.type_str_count mt_scn hp ha (ab_ok c1) (big_ok hs (by omega)) c2 (star_ok hs'.1) (star_any hs'.2)).imp tx_bm
  | get =>
    simp only [Bool.and_eq_true, Bool.or_eq_true, beq_iff_eq] at c3
    obtain ⟨rfl, hl⟩ := c3
    cases es with
    | nil => simp at hl
    | cons e es =>
      have hs' := hs
      rw [List.all_cons, Bool.and_eq_true] at hs'
      exact (pe_bw PySem.F.plainAttrs_dict PySem.F.slot_dict_get PySem.F.type_dict_get (mt_get h.room0) hp ha (ab_ok c1) (big_ok hs (by omega)) c2 (star_ok hs'.1) (star_any hs'.2)).imp tx_bm
theorem keys_ok {X : Cx} {cn : Nat → Addr} {P : Pr} {cf : Call} : ∀ {keys : List (Option Expr)} {ks : List Str}, keys.map keyE = ks.map some → (keys.all fun x => x.isSome) = true ∧ keys.length = ks.length
  | [], [], _ => ⟨rfl, rfl⟩
  | [], _ :: _, h => by simp at h
  | _ :: _, [], h => by simp at h
  | key :: keys, k :: ks, h => by
    simp only [List.map_cons, List.cons.injEq] at h
    obtain ⟨h1, h2⟩ := keys_ok (X := X) (cn := cn) (P := P) (cf := cf) h.2
    cases key with
    | none => simp [keyE] at h
    | some e => exact ⟨by rw [List.all_cons, h1]; rfl, by rw [List.length_cons, List.length_cons, h2]⟩
theorem key_at {X : Cx} {key : Option Expr} {k : Str} (h : keyE key = some k) : ∃ e, key = some e ∧ PE X e (tC (.str k)) := by
  unfold keyE at h
  split at h
  · cases h
    exact ⟨_, rfl, pe_str⟩
  · cases h
theorem es_star {G : Gd} {Γ : Ga} : ∀ {xs : Es} {es : List Expr}, chkEs G Γ es xs = true → es.all nStar = true ∧ (es = [] → xs = .nil)
  | .nil, es, c => by
    unfold chkEs at c
    have := List.isEmpty_iff.mp c
    subst this
    exact ⟨rfl, fun _ => rfl⟩
  | .cons x xs, [], c => by simp [chkEs] at c
  | .cons x xs, e :: es, c => by
    simp only [chkEs, Bool.and_eq_true] at c
    exact ⟨by rw [List.all_cons, c.1.1, (es_star c.2).1]; rfl, fun z => by cases z⟩
mutual
theorem e_ok {G : Gd} {cn : Nat → Addr} {cf : Call} {k : Nat} : ∀ (x : E) (Γ : Ga) (X : Cx) (e : Expr), XOk G cn cf k Γ X → chkE G Γ e x = true → PE X e (tX (kw X cn) fun ρ => ev G.P cf ρ x)
  | .var i, Γ, X, e, h, c => by
    unfold chkE at c
    exact px_var (v_ok h c)
  | .cst d, Γ, X, e, h, c => by
    unfold chkE at c
    exact px_cst (c_ok c).1
  | .glb g, Γ, X, e, h, c => by
    unfold chkE at c
    split at c
    · rename_i x p
      rw [Bool.and_eq_true] at c
      obtain ⟨g1, g2, g3⟩ := h.gl c.1
      cases hg : G.P.gls[g]? with
      | none => rw [hg] at c; cases c.2
      | some z =>
        rw [hg] at c
        have en : z.1 = x := by simpa using c.2
        obtain ⟨nm, d⟩ := z
        obtain ⟨v, u, m, r, dn⟩ := h.gls g nm d hg
        subst en
        exact px_glb hg (pe_glob g1 m r g2) dn
    · cases c
  | .ap1 op a, Γ, X, e, h, c => by
    unfold chkE at c
    split at c
    · rename_i b p
      simp only [Bool.and_eq_true, beq_iff_eq] at c
      obtain ⟨rfl, c⟩ := c
      have hb := p_ok h c (e_ok a Γ X b h c)
      exact (pe_un (un_neg_ok (cn := cn) (cf := cf)) hb).imp (tx1 fun σ H Q w => w)
    · rename_i b p
      simp only [Bool.and_eq_true, beq_iff_eq] at c
      obtain ⟨rfl, c⟩ := c
      exact (pe_un (un_inv_ok h) (p_ok h c (e_ok a Γ X b h c))).imp (tx1 fun σ H Q w => w)
    · rename_i l o r p
      rw [Bool.and_eq_true] at c
      exact is_ok h c.1 (p_ok h c.2 (e_ok a Γ X l h c.2))
    · rename_i b p2 p
      simp only [Bool.and_eq_true, beq_iff_eq] at c
      obtain ⟨rfl, c⟩ := c
      exact px_sl00 (p_ok h c (e_ok a Γ X b h c))
    · rename_i b k p1 p2 p3 p
      simp only [Bool.and_eq_true, beq_iff_eq] at c
      obtain ⟨rfl, c⟩ := c
      exact px_rev (p_ok h c (e_ok a Γ X b h c))
    · rename_i x p b p2
      simp only [Bool.and_eq_true, beq_iff_eq] at c
      obtain ⟨⟨⟨⟨c1, c2⟩, c3⟩, c4⟩, c5⟩ := c
      exact b1_ok h c1 c2 c3 c4 (p_ok h c5 (e_ok a Γ X b h c5))
    · cases c
  | .ap2 op a b, Γ, X, e, h, c => by
    unfold chkE at c
    split at c
    · rename_i l o r p
      simp only [Bool.and_eq_true, beq_iff_eq] at c
      obtain ⟨⟨c1, c2⟩, c3⟩ := c
      exact (pe_op (bin_ok h c1) (p_ok h c2 (e_ok a Γ X l h c2)) (p_ok h c3 (e_ok b Γ X r h c3))).imp (tx2 fun σ H Q w => w)
    · rename_i l o r p
      simp only [Bool.and_eq_true, beq_iff_eq] at c
      obtain ⟨⟨⟨c1, c2⟩, c3⟩, c4⟩ := c
      exact (pe_cmpR (cmp_oko h c1) (p_ok h c3 (e_ok a Γ X l h c3)) (p_ok h c4 (e_ok b Γ X r h c4)) (bm_ok c2)).imp (tx2 fun σ H Q w => w)
    · rename_i l r p2 p
      simp only [Bool.and_eq_true, beq_iff_eq] at c
      obtain ⟨⟨rfl, c3⟩, c4⟩ := c
      exact px_sl01 (p_ok h c3 (e_ok a Γ X l h c3)) (p_ok h c4 (e_ok b Γ X r h c4))
    · rename_i l r p2 p
      simp only [Bool.and_eq_true, beq_iff_eq] at c
      obtain ⟨⟨rfl, c3⟩, c4⟩ := c
      exact px_sl10 (p_ok h c3 (e_ok a Γ X l h c3)) (p_ok h c4 (e_ok b Γ X r h c4))
    · rename_i l r p hn1 hn2
      simp only [Bool.and_eq_true, beq_iff_eq] at c
      obtain ⟨⟨⟨rfl, c2⟩, c3⟩, c4⟩ := c
      exact (pe_ixo h.cls h.room h.gu (ix' (cn := cn) h.room0) (p_ok h c3 (e_ok a Γ X l h c3)) (p_ok h c4 (e_ok b Γ X r h c4)) (ix_ok c2) (ixp_ok c2)).imp (tx2 fun σ H Q w => w)
    · cases c
  | .ap3 _ _ _ _, Γ, X, e, h, c => by simp [chkE] at c
  | .chn o1 o2 a b c0, Γ, X, e, h, c => by
    unfold chkE at c
    split at c
    · rename_i l p1 p2 r s p
      simp only [Bool.and_eq_true, beq_iff_eq] at c
      obtain ⟨⟨⟨⟨⟨c1, c2⟩, c3⟩, c4⟩, c5⟩, c6⟩ := c
      exact px_chn (cmp_ok h.room0 c1) (cmp_ok h.room0 c2) (e_ok a Γ X l h c4) (e_ok b Γ X r h c5) (e_ok c0 Γ X s h c6) (lm_ok c3)
    · cases c
  | .tup xs, Γ, X, e, h, c => by
    unfold chkE at c
    split at c
    · exact px_tup (es_ok xs Γ X _ h c)
    · cases c
  | .lst xs, Γ, X, e, h, c => by
    unfold chkE at c
    split at c
    · exact px_lst (es_ok xs Γ X _ h c)
    · cases c
  | .dsp ks xs, Γ, X, e, h, c => by
    unfold chkE at c
    split at c
    · rename_i keys vals p
      simp only [Bool.and_eq_true, Bool.not_eq_true', beq_iff_eq] at c
      obtain ⟨⟨c0, c2⟩, c3⟩ := c
      obtain ⟨trs, h1, h2⟩ := dsp_ok xs Γ X p keys vals ks h c0 c2 c3
      obtain ⟨h4, h5⟩ := keys_ok (X := X) (cn := cn) (P := G.P) (cf := cf) c2
      by_cases hk : ks.length ≤ 15
      · by_cases z : keys = []
        · subst z
          have : ks = [] := List.eq_nil_of_length_eq_zero h5.symm
          subst this
          have : vals = [] := List.eq_nil_of_length_eq_zero c0.symm
          subst this
          have : xs = .nil := by
            cases xs with
            | nil => rfl
            | cons x xs => simp [chkEs] at c3
          subst this
          exact pe_dnewK.imp td_dsp0
        · exact (pe_disp h1 h4 c0 z (by omega)).imp (td_dsp h2)
      · refine ⟨fun pins s σ H Q I w => ?_⟩
        obtain ⟨B, o, ρ, r, ho, he, q⟩ := w
        simp only [ev] at he
        obtain ⟨⟨ds, ρ1⟩, e1, he⟩ := bind_some he
        rw [if_neg (fun z => hk z.2.1)] at he
        cases he
    · cases c
  | .ite c0 a b, Γ, X, e, h, c => by
    unfold chkE at c
    split at c
    · simp only [Bool.and_eq_true] at c
      exact px_ite (t_ok c0 Γ X _ h c.1.1) (e_ok a Γ X _ h c.1.2) (e_ok b Γ X _ h c.2)
    · cases c
  | .and xs, Γ, X, e, h, c => by
    unfold chkE at c
    split at c
    · rename_i es p
      simp only [Bool.and_eq_true, Bool.not_eq_true'] at c
      exact and_ok xs Γ X es p h c.2 (fun z => by subst z; cases c.1)
    · cases c
  | .or xs, Γ, X, e, h, c => by
    unfold chkE at c
    split at c
    · rename_i es p
      simp only [Bool.and_eq_true, Bool.not_eq_true'] at c
      exact or_ok xs Γ X es p h c.2 (fun z => by subst z; cases c.1)
    · cases c
  | .not a, Γ, X, e, h, c => by
    unfold chkE at c
    split at c
    · exact px_not (e_ok a Γ X _ h c)
    · cases c
  | .call f xs, Γ, X, e, h, c => by
    unfold chkE at c
    split at c
    · simp only [Bool.and_eq_true] at c
      obtain ⟨⟨⟨c1, c2⟩, c3⟩, c4⟩ := c
      exact call_ok h c1 c2 c3 (es_star c4).1 (ps_ok xs Γ X _ h c4) (es_star c4).2
    · cases c
  | .new i xs, Γ, X, e, h, c => by
    unfold chkE at c
    split at c
    · simp only [Bool.and_eq_true] at c
      obtain ⟨⟨c1, c2⟩, c3⟩ := c
      exact new_ok h c1 c2 (es_star c3).1 (ps_ok xs Γ X _ h c3) (es_star c3).2
    · cases c
  | .meth m o xs, Γ, X, e, h, c => by
    unfold chkE at c
    split at c
    · simp only [Bool.and_eq_true, beq_iff_eq, decide_eq_true_eq] at c
      obtain ⟨⟨⟨⟨⟨rfl, c2⟩, c3⟩, c4⟩, c5⟩, c6⟩ := c
      exact meth_ok h c2 (beq_iff_eq.mpr c3) c4 (p_ok h c5 (e_ok o Γ X _ h c5)) (es_star c6).1 (ps_ok xs Γ X _ h c6) (es_star c6).2
    · cases c
  | .att n x, Γ, X, e, h, c => by
    unfold chkE at c
    split at c
    · simp only [Bool.and_eq_true, beq_iff_eq] at c
      obtain ⟨⟨rfl, c2⟩, c3⟩ := c
      exact att_ok h c2 (p_ok h c3 (e_ok x Γ X _ h c3))
    · cases c
  | .nev, Γ, X, e, h, c => ⟨fun pins s σ H Q I ⟨B, o, ρ, r, ho, he, q⟩ => by cases he⟩
  | .isi ts x, Γ, X, e, h, c => by
    unfold chkE at c
    split at c
    · simp only [Bool.and_eq_true, beq_iff_eq] at c
      obtain ⟨⟨⟨⟨⟨⟨rfl, c2⟩, c3⟩, c4⟩, c5⟩, c6⟩, c7⟩ := c
      exact isi_ok h c2 c3 c4 c5 c7 (p_ok h c6 (e_ok x Γ X _ h c6))
    · cases c
  | .lrg it, Γ, X, e, h, c => by
    unfold chkE at c
    split at c
    · rename_i x p b p2
      simp only [Bool.and_eq_true, beq_iff_eq] at c
      obtain ⟨⟨⟨⟨rfl, c2⟩, c3⟩, c4⟩, c5⟩ := c
      cases it with
      | rng1 a =>
        simp only at c5
        split at c5
        · simp only [Bool.and_eq_true, beq_iff_eq] at c5
          obtain ⟨⟨⟨⟨rfl, d2⟩, d3⟩, d4⟩, d5⟩ := c5
          exact lrg1_ok h c2 c3 d2 d3 d4 (e_ok a Γ X _ h d5)
        · cases c5
      | rng2 a a' =>
        simp only at c5
        split at c5
        · simp only [Bool.and_eq_true, beq_iff_eq] at c5
          obtain ⟨⟨⟨⟨⟨⟨rfl, d2⟩, d3⟩, d4⟩, d5⟩, d6⟩, d7⟩ := c5
          exact lrg2_ok h c2 c3 d2 d3 d4 d5 (e_ok a Γ X _ h d6) (e_ok a' Γ X _ h d7)
        · cases c5
      | seq _ => cases c5
      | vals _ => cases c5
      | items _ => cases c5
    · cases c
  | .mut m i xs, Γ, X, e, h, c => by
    unfold chkE at c
    split at c
    · simp only [Bool.and_eq_true] at c
      obtain ⟨⟨⟨c1, c2⟩, c3⟩, c4⟩ := c
      exact mut_ok h c1 c2 c4 (es_star c3).1 (es_ok xs Γ X _ h c3) (es_star c3).2
    · cases c
  | .bm m x xs, Γ, X, e, h, c => by
    unfold chkE at c
    split at c
    · simp only [Bool.and_eq_true] at c
      obtain ⟨⟨⟨⟨c1, c2⟩, c3⟩, c4⟩, c5⟩ := c
      exact bm_of h c1 c2 (p_ok h c3 (e_ok x Γ X _ h c3)) c5 (es_star c4).1 (es_ok xs Γ X _ h c4)
    · cases c
  | .lc elt tg it cd, Γ, X, e, h, c => by
    unfold chkE at c
    split at c
    · rename_i elt' tg' it' ifs' scope p
      simp only [Bool.and_eq_true, decide_eq_true_eq] at c
      obtain ⟨⟨⟨⟨⟨⟨⟨c1, c2⟩, c3⟩, c4⟩, c5⟩, c6⟩, c7⟩, c8⟩ := c
      refine px_lc h c1 c2 (i_ok it Γ X tg' it' h c3) c4 c5 (fun Y hY eY => ?_) fun Y hY eY => ?_
      · rw [← eY]
        exact cd_ok cd (Γ.blk scope) Y ifs' hY c7 c6
      · rw [← eY]
        exact e_ok elt (Γ.blk scope) Y elt' hY c8
    · cases c
  | .lc2 elt tg it cd tg1 it1 cd1, Γ, X, e, h, c => by
    unfold chkE at c
    split at c
    · rename_i elt' tg' it' ifs' tg1' it1' ifs1' scope p
      simp only [Bool.and_eq_true, decide_eq_true_eq] at c
      obtain ⟨⟨⟨⟨⟨⟨⟨⟨c1, c2⟩, c3⟩, c4⟩, c5⟩, c6⟩, c7⟩, ⟨⟨⟨⟨⟨d1, d2⟩, d3⟩, d4⟩, d5⟩, d6⟩⟩, c8⟩ := c
      refine px_lc2 h c1 c2 (i_ok it Γ X tg' it' h c3) c4 c5 d1 d2 d4 (fun Y hY eY => ?_) (fun Y hY eY => ?_) (fun Y hY eY => ?_) fun Y hY eY => ?_
      · rw [← eY]
        exact cd_ok cd (Γ.blk scope) Y ifs' hY c7 c6
      · rw [← eY]
        exact i_ok it1 (Γ.blk scope) Y tg1' it1' hY d3
      · rw [← eY]
        exact cd_ok cd1 (Γ.blk scope) Y ifs1' hY d6 d5
      · rw [← eY]
        exact e_ok elt (Γ.blk scope) Y elt' hY c8
    · cases c
  | .tmp x, Γ, X, e, h, c => by
    unfold chkE at c
    rw [Bool.and_eq_true] at c
    exact (e_ok x Γ X e h c.2).imp tx_tmp
  | .pick xs x, Γ, X, e, h, c => by
    unfold chkE at c
    split at c
    · simp only [Bool.and_eq_true] at c
      obtain ⟨⟨c1, c2⟩, c3⟩ := c
      exact px_pick (fs'_ok xs Γ X _ h c2) (e_ok x Γ X _ h c3) (ix_ok c1)
    · cases c
  | .lcw elt tg i cd, Γ, X, e, h, c => by
    unfold chkE at c
    split at c
    · rename_i elt' tg' it' ifs' scope p
      simp only [Bool.and_eq_true, decide_eq_true_eq] at c
      obtain ⟨⟨⟨⟨⟨⟨⟨c1, c2⟩, c3⟩, c4⟩, c5⟩, c6⟩, c7⟩, c8⟩ := c
      refine px_lcw h c1 c2 (v_ok h c3) c4 c5 (fun Y hY eY => ?_) fun Y hY eY => ?_
      · rw [← eY]
        exact cd_ok cd (Γ.blk scope) Y ifs' hY c7 c6
      · rw [← eY]
        exact e_ok elt (Γ.blk scope) Y elt' hY c8
    · cases c
theorem es_ok {G : Gd} {cn : Nat → Addr} {cf : Call} {k : Nat} : ∀ (xs : Es) (Γ : Ga) (X : Cx) (es : List Expr), XOk G cn cf k Γ X → chkEs G Γ es xs = true → PA X es (tEs (kw X cn) fun ρ => evs G.P cf ρ xs)
  | .nil, Γ, X, es, h, c => by
    unfold chkEs at c
    have := List.isEmpty_iff.mp c
    subst this
    exact tes_nil
  | .cons x xs, Γ, X, [], h, c => by simp [chkEs] at c
  | .cons x xs, Γ, X, e :: es, h, c => by
    simp only [chkEs, Bool.and_eq_true] at c
    exact tes_cons (e_ok x Γ X e h c.1.2) (es_ok xs Γ X es h c.2) (star_ok c.1.1)
theorem ps_ok {G : Gd} {cn : Nat → Addr} {cf : Call} {k : Nat} : ∀ (xs : Es) (Γ : Ga) (X : Cx) (es : List Expr), XOk G cn cf k Γ X → chkEs G Γ es xs = true → PA X es (tPs (kw X cn) fun ρ => evos G.P cf ρ xs)
  | .nil, Γ, X, es, h, c => by
    unfold chkEs at c
    have := List.isEmpty_iff.mp c
    subst this
    exact tps_nil
  | .cons x xs, Γ, X, [], h, c => by simp [chkEs] at c
  | .cons x xs, Γ, X, e :: es, h, c => by
    simp only [chkEs, Bool.and_eq_true] at c
    exact tps_cons (p_ok h c.1.2 (e_ok x Γ X e h c.1.2)) (ps_ok xs Γ X es h c.2) (star_ok c.1.1)
theorem fs'_ok {G : Gd} {cn : Nat → Addr} {cf : Call} {k : Nat} : ∀ (xs : Es) (Γ : Ga) (X : Cx) (es : List Expr), XOk G cn cf k Γ X → chkEs G Γ es xs = true → PA X es (tFs (kw X cn) fun ρ => evf G.P cf ρ xs)
  | .nil, Γ, X, es, h, c => by
    unfold chkEs at c
    have := List.isEmpty_iff.mp c
    subst this
    exact tfs_nil
  | .cons x xs, Γ, X, [], h, c => by simp [chkEs] at c
  | .cons x xs, Γ, X, e :: es, h, c => by
    simp only [chkEs, Bool.and_eq_true] at c
    exact tfs_cons (e_ok x Γ X e h c.1.2) (fs'_ok xs Γ X es h c.2) (star_ok c.1.1)
theorem dsp_ok {G : Gd} {cn : Nat → Addr} {cf : Call} {k : Nat} : ∀ (xs : Es) (Γ : Ga) (X : Cx) (pos : Pos) (keys : List (Option Expr)) (es : List Expr) (ks : List Str), XOk G cn cf k Γ X → keys.length = es.length → keys.map keyE = ks.map some → chkEs G Γ es xs = true →
    ∃ trs, PPs X pos keys es trs ∧ TrOk X cn G.P cf ks xs trs
  | .nil, Γ, X, pos, keys, es, ks, h, hl, hk, c => by
    unfold chkEs at c
    have := List.isEmpty_iff.mp c
    subst this
    have := List.eq_nil_of_length_eq_zero hl
    subst this
    have : ks = [] := List.map_eq_nil_iff.mp hk.symm
    subst this
    exact ⟨[], pps_nil, .nil⟩
  | .cons x xs, Γ, X, pos, keys, [], ks, h, hl, hk, c => by simp [chkEs] at c
  | .cons x xs, Γ, X, pos, [], e :: es, ks, h, hl, hk, c => by simp at hl
  | .cons x xs, Γ, X, pos, key :: keys, e :: es, [], h, hl, hk, c => by simp at hk
  | .cons x xs, Γ, X, pos, key :: keys, e :: es, k0 :: ks, h, hl, hk, c => by
    simp only [chkEs, Bool.and_eq_true] at c
    simp only [List.map_cons, List.cons.injEq] at hk
    obtain ⟨ke, rfl, pk⟩ := key_at (X := X) hk.1
    obtain ⟨trs, h1, h2⟩ := dsp_ok xs Γ X pos keys es ks h (by simpa using hl) hk.2 c.2
    exact ⟨_, pps_cons pk (e_ok x Γ X e h c.1.2) h1, .cons h2⟩
theorem and_ok {G : Gd} {cn : Nat → Addr} {cf : Call} {k : Nat} : ∀ (xs : Es) (Γ : Ga) (X : Cx) (es : List Expr) (pos : Pos), XOk G cn cf k Γ X → chkEs G Γ es xs = true → es ≠ [] → PE X (.BoolOp .And es pos) (tX (kw X cn) fun ρ => ev G.P cf ρ (.and xs))
  | .nil, Γ, X, es, pos, h, c, n => by
    unfold chkEs at c
    exact absurd (List.isEmpty_iff.mp c) n
  | .cons x xs, Γ, X, [], pos, h, c, n => absurd rfl n
  | .cons x xs, Γ, X, [e], pos, h, c, n => by
    simp only [chkEs, Bool.and_eq_true] at c
    have := (es_star c.2).2 rfl
    subst this
    exact px_and1 (e_ok x Γ X e h c.1.2)
  | .cons x xs, Γ, X, e :: e2 :: es, pos, h, c, n => by
    unfold chkEs at c
    simp only [Bool.and_eq_true] at c
    exact px_and (e_ok x Γ X e h c.1.2) (and_ok xs Γ X (e2 :: es) pos h c.2 (by intro z; cases z))
theorem or_ok {G : Gd} {cn : Nat → Addr} {cf : Call} {k : Nat} : ∀ (xs : Es) (Γ : Ga) (X : Cx) (es : List Expr) (pos : Pos), XOk G cn cf k Γ X → chkEs G Γ es xs = true → es ≠ [] → PE X (.BoolOp .Or es pos) (tX (kw X cn) fun ρ => ev G.P cf ρ (.or xs))
  | .nil, Γ, X, es, pos, h, c, n => by
    unfold chkEs at c
    exact absurd (List.isEmpty_iff.mp c) n
  | .cons x xs, Γ, X, [], pos, h, c, n => absurd rfl n
  | .cons x xs, Γ, X, [e], pos, h, c, n => by
    simp only [chkEs, Bool.and_eq_true] at c
    have := (es_star c.2).2 rfl
    subst this
    exact px_or1 (e_ok x Γ X e h c.1.2)
  | .cons x xs, Γ, X, e :: e2 :: es, pos, h, c, n => by
    unfold chkEs at c
    simp only [Bool.and_eq_true] at c
    exact px_or (e_ok x Γ X e h c.1.2) (or_ok xs Γ X (e2 :: es) pos h c.2 (by intro z; cases z))
theorem t_ok {G : Gd} {cn : Nat → Addr} {cf : Call} {k : Nat} : ∀ (w : T) (Γ : Ga) (X : Cx) (e : Expr), XOk G cn cf k Γ X → chkT G Γ e w = true → PT X e (tB (kw X cn) fun ρ => evT G.P cf ρ w)
  | .val x, Γ, X, e, h, c => by
    unfold chkT at c
    rw [Bool.or_eq_true] at c
    rcases c with c | c
    · rw [Bool.and_eq_true] at c
      exact pt_val' (t := fun _ _ _ => True) (fun ta hta => pt_truth hta (tr_ok c.1)) (p_ok h c.2 (e_ok x Γ X e h c.2))
    · cases x with
      | ap1 op a =>
        simp only at c
        split at c
        · rw [Bool.and_eq_true] at c
          exact isT_ok h c.1 (p_ok h c.2 (e_ok a Γ X _ h c.2))
        · cases c
      | _ => cases c
  | .cmp op a b, Γ, X, e, h, c => by
    unfold chkT at c
    split at c
    · simp only [Bool.and_eq_true, beq_iff_eq] at c
      obtain ⟨⟨⟨c1, c2⟩, c3⟩, c4⟩ := c
      exact pt_opn (cmp_oko h c1) (p_ok h c3 (e_ok a Γ X _ h c3)) (p_ok h c4 (e_ok b Γ X _ h c4)) (bm_ok c2)
    · cases c
  | .chn o1 o2 a b c0, Γ, X, e, h, c => by
    unfold chkT at c
    split at c
    · simp only [Bool.and_eq_true, beq_iff_eq] at c
      obtain ⟨⟨⟨⟨⟨c1, c2⟩, c3⟩, c4⟩, c5⟩, c6⟩ := c
      exact pb_chn (cmp_ok h.room0 c1) (cmp_ok h.room0 c2) (e_ok a Γ X _ h c4) (e_ok b Γ X _ h c5) (e_ok c0 Γ X _ h c6) (lm_ok c3)
    · cases c
  | .all ws, Γ, X, e, h, c => by
    unfold chkT at c
    split at c
    · rename_i es p
      simp only [Bool.and_eq_true, Bool.not_eq_true'] at c
      exact (all_ok ws Γ X es p h c.2 (fun z => by subst z; cases c.1)).pt
    · cases c
  | .any ws, Γ, X, e, h, c => by
    unfold chkT at c
    split at c
    · rename_i es p
      simp only [Bool.and_eq_true, Bool.not_eq_true'] at c
      exact (any_ok ws Γ X es p h c.2 (fun z => by subst z; cases c.1)).pt
    · cases c
  | .not w, Γ, X, e, h, c => by
    unfold chkT at c
    split at c
    · exact pb_not (t_ok w Γ X _ h c)
    · cases c
theorem all_ok {G : Gd} {cn : Nat → Addr} {cf : Call} {k : Nat} : ∀ (ws : Ts) (Γ : Ga) (X : Cx) (es : List Expr) (pos : Pos), XOk G cn cf k Γ X → chkTs G Γ es ws = true → es ≠ [] → PW X (.BoolOp .And es pos) (tB (kw X cn) fun ρ => evT G.P cf ρ (.all ws))
  | .nil, Γ, X, es, pos, h, c, n => by
    unfold chkTs at c
    exact absurd (List.isEmpty_iff.mp c) n
  | .cons x xs, Γ, X, [], pos, h, c, n => absurd rfl n
  | .cons x xs, Γ, X, [e], pos, h, c, n => by
    unfold chkTs at c
    simp only [Bool.and_eq_true] at c
    cases xs with
    | nil => exact pb_all1w (t_ok x Γ X e h c.1)
    | cons _ _ => simp [chkTs] at c
  | .cons x xs, Γ, X, e :: e2 :: es, pos, h, c, n => by
    unfold chkTs at c
    simp only [Bool.and_eq_true] at c
    exact pb_all (t_ok x Γ X e h c.1) (all_ok xs Γ X (e2 :: es) pos h c.2 (by intro z; cases z))
theorem any_ok {G : Gd} {cn : Nat → Addr} {cf : Call} {k : Nat} : ∀ (ws : Ts) (Γ : Ga) (X : Cx) (es : List Expr) (pos : Pos), XOk G cn cf k Γ X → chkTs G Γ es ws = true → es ≠ [] → PW X (.BoolOp .Or es pos) (tB (kw X cn) fun ρ => evT G.P cf ρ (.any ws))
  | .nil, Γ, X, es, pos, h, c, n => by
    unfold chkTs at c
    exact absurd (List.isEmpty_iff.mp c) n
  | .cons x xs, Γ, X, [], pos, h, c, n => absurd rfl n
  | .cons x xs, Γ, X, [e], pos, h, c, n => by
    unfold chkTs at c
    simp only [Bool.and_eq_true] at c
    cases xs with
    | nil => exact pb_any1w (t_ok x Γ X e h c.1)
    | cons _ _ => simp [chkTs] at c
  | .cons x xs, Γ, X, e :: e2 :: es, pos, h, c, n => by
    unfold chkTs at c
    simp only [Bool.and_eq_true] at c
    exact pb_any (t_ok x Γ X e h c.1) (any_ok xs Γ X (e2 :: es) pos h c.2 (by intro z; cases z))
theorem cd_ok {G : Gd} {cn : Nat → Addr} {cf : Call} {k : Nat} : ∀ (ws : Ts) (Γ : Ga) (X : Cx) (es : List Expr), XOk G cn cf k Γ X → chkTs G Γ es ws = true → es.length ≤ 1 → PTs X es (tB (kw X cn) fun ρ => evAll G.P cf ρ ws)
  | .nil, Γ, X, es, h, c, n => by
    unfold chkTs at c
    have := List.isEmpty_iff.mp c
    subst this
    refine ⟨fun pins s σ H Q I w => pts_nil.run pins s σ H Q I ?_⟩
    obtain ⟨B, o, ρ, r, ho, he, q⟩ := w
    simp only [evAll] at he
    cases he
    exact q H o .refl .refl ho
  | .cons x xs, Γ, X, [], h, c, n => by simp [chkTs] at c
  | .cons x xs, Γ, X, [e], h, c, n => by
    unfold chkTs at c
    simp only [Bool.and_eq_true] at c
    cases xs with
    | nil =>
      refine ⟨fun pins s σ H Q I w => (pts_one (t_ok x Γ X e h c.1)).run pins s σ H Q I ?_⟩
      obtain ⟨B, o, ρ, r, ho, he, q⟩ := w
      refine ⟨B, o, ρ, r, ho, ?_, q⟩
      simp only [evAll] at he
      obtain ⟨⟨t, ρ1⟩, e1, he⟩ := bind_some he
      show evT G.P cf ρ x = some r
      rw [e1]
      cases t <;> simpa using he
    | cons _ _ => simp [chkTs] at c
  | .cons x xs, Γ, X, e :: e2 :: es, h, c, n => by simp at n
theorem i_ok {G : Gd} {cn : Nat → Addr} {cf : Call} {k : Nat} : ∀ (it : I) (Γ : Ga) (X : Cx) (tg e : Expr), XOk G cn cf k Γ X → chkI G Γ e it = true → PI X tg e (tI (kw X cn) fun ρ => evI G.P cf ρ it)
  | .seq x, Γ, X, tg, e, h, c => by
    unfold chkI at c
    refine px_seq h.cls h.room h.gu (e_ok x Γ X e h c) fun i e' => ?_
    subst e'
    unfold chkE at c
    exact v_ok h c
  | .rng1 a, Γ, X, tg, e, h, c => by
    unfold chkI at c
    split at c
    · simp only [Bool.and_eq_true, beq_iff_eq] at c
      obtain ⟨⟨⟨⟨rfl, c2⟩, c3⟩, c4⟩, c5⟩ := c
      exact px_rng1 (h.gl c2).1 (h.off _ (by simpa using c3)) (e_ok a Γ X _ h c5) (star_ok c4) (star_ok c4)
    · cases c
  | .rng2 a b, Γ, X, tg, e, h, c => by
    unfold chkI at c
    split at c
    · simp only [Bool.and_eq_true, beq_iff_eq] at c
      obtain ⟨⟨⟨⟨⟨⟨rfl, c2⟩, c3⟩, c4⟩, c5⟩, c6⟩, c7⟩ := c
      refine px_rng2 (h.gl c2).1 (h.off _ (by simpa using c3)) (e_ok a Γ X _ h c6) (e_ok b Γ X _ h c7) ?_ (star_ok c5) (star_ok c4) (star_ok c5)
      rw [star_ok c4, star_ok c5]
      rfl
    · cases c
  | .vals x, Γ, X, tg, e, h, c => by
    unfold chkI at c
    split at c
    · simp only [Bool.and_eq_true, beq_iff_eq] at c
      obtain ⟨⟨⟨rfl, c2⟩, c3⟩, c4⟩ := c
      refine px_vals (e_ok x Γ X _ h c4) (fun i e' => ?_) (ab_ok c2) (by simpa using c3)
      subst e'
      have := c4
      unfold chkE at this
      exact v_ok h this
    · cases c
  | .items _, Γ, X, tg, e, h, c => by simp [chkI] at c
end
end BK

set_option Elab.async false
set_option linter.all false
set_option maxRecDepth 100000
set_option maxHeartbeats 4000000
/-! BK19: statements that pass the check. -/
namespace BK
open PySem PySem.Spec PyProof.Rows L2
section
variable {G : Gd} {cn : Nat → Addr} {cf : Call} {k : Nat} {Γ : Ga} {X : Cx}
theorem XOk.pas (h : XOk G cn cf k Γ X) : PassesOwn (model X.prog X.w) X.A X.env X.xe := by
  rw [h.xe]; exact PassesOwn.never
theorem tg_star {e : Expr} {tg : Tg} (c : chkTg Γ e tg = true) : nStar e = true := by
  cases tg with
  | one t => exact t1_star c
  | tp ts =>
    simp only [chkTg] at c
    split at c
    · rfl
    · cases c
theorem fm_ne {α β : Type} {f : α → Option β} : ∀ {ts : List α} {t : α}, t ∈ ts → f t = none → (ts.filterMap f).length < ts.length
  | u :: ts, t, h, e => by
    rcases List.mem_cons.mp h with rfl | h
    · rw [List.filterMap_cons, e]
      have := List.length_filterMap_le f ts
      simp only [List.length_cons]
      omega
    · have := fm_ne h e
      rw [List.filterMap_cons]
      split <;> simp only [List.length_cons] <;> omega
theorem st_ok2 {Γ : Ga} {t e : Expr} {env : Env} (hs : env.scope = Γ.sc) (h : (nTup t || nTup e || capT Γ t) = true) : swappedStores [t] e env = pure none := by
  rcases (Bool.or_eq_true _ _).mp h with h | h
  · exact st_ok h
  · cases t <;> simp only [capT] at h <;> try (cases h; done)
    rename_i ts kt pt
    obtain ⟨t, ht, hn⟩ := List.any_eq_true.mp h
    cases e <;> try rfl
    rename_i vs k2 pt2
    unfold swappedStores
    dsimp only
    split
    · rfl
    split
    · rfl
    refine if_pos ?_
    rw [Bool.or_eq_true]
    left
    refine bne_iff_ne.mpr (Nat.ne_of_lt (fm_ne ht ?_))
    cases t <;> try rfl
    rename_i x p
    have hn' : Γ.look x ≠ some .local := by simpa using hn
    have : (env.kindOf x == some NameKind.local) = false := by
      refine beq_eq_false_iff_ne.mpr fun z => hn' ?_
      unfold Ga.look
      rw [← hs]
      exact z
    show (if (env.kindOf x == some NameKind.local && _) = true then _ else _) = _
    rw [this]
    rfl
theorem sole_ok {t e : Expr} {l : Nat} {env : Env} (h : nComp e = true) : swapsWithSole [t] e l env = pure false := sw_ok h
theorem sole_ok2 {Γ : Ga} {y : Str} {py : Pos} {e : Expr} {l : Nat} {env : Env} (hs : env.scope = Γ.sc) (h : Γ.look y ≠ some .local) : swapsWithSole [.Name y py] e l env = pure false := by
  have k : (env.kindOf y == some NameKind.local) = false := by
    refine beq_eq_false_iff_ne.mpr fun z => h ?_
    unfold Ga.look
    rw [← hs]
    exact z
  cases e <;> first
    | rfl
    | (unfold swapsWithSole
       unfold swapsWith
       simp only [k, Bool.and_false, Bool.false_and] <;> rfl)
theorem arg_ok {op : Op} {o : Operator} (c : argOf op = some o) : PIp X o (ipOf op) := by
  cases op <;> simp [argOf] at c <;> subst c
  · exact ip_add
  · exact ip_sub
/-- a comprehension to a name of its own line -/
theorem setlc_ok (h : XOk G cn cf k Γ X) {elt tg' it' : Expr} {ifs' : List Expr} {scope : Scope} {pos spos py : Pos} {y : Str} {ex : E} {tg : Tg} {it : I} {cd : Ts} {i : Nat} (c0 : chkE G Γ (.ListComp elt [⟨tg', it', ifs', 0⟩] scope pos) (.lc ex tg it cd) = true)
    (n1 : Γ.N[i]? = some y) (n2 : Γ.look y = some .local) (n3 : Γ.sc.kind = .function) (n4 : (py.line == pos.line) = true) (n5 : (scope.names.any fun z => z.1 == y && (z.2 == .local || z.2 == .cell)) = false) :
    PS X (.Assign [.Name y py] (.ListComp elt [⟨tg', it', ifs', 0⟩] scope pos) spos) (tAsg (tX (kw X cn) fun ρ => ev G.P cf ρ (.lc ex tg it cd)) (gName i)) := by
  unfold chkE at c0
  simp only [Bool.and_eq_true, decide_eq_true_eq] at c0
  obtain ⟨⟨⟨⟨⟨⟨⟨c1, c2⟩, c3⟩, c4⟩, c5⟩, c6⟩, c7⟩, c8⟩ := c0
  have nd : X.N.Nodup := by rw [h.N]; exact h.nd
  have lk : List.lookup y X.env.scope.names = some NameKind.local := by rw [h.sc]; exact n2
  have := ps_setLc (pos := pos) (spos := spos) (py := py) (g := gTg X.K tg) (tt := tB (kw X cn) fun ρ => evAll G.P cf ρ cd) (te := tX (kw X cn) fun ρ => ev G.P cf ρ ex) h.calm nd (by rw [h.N]; exact n1) lk (sw_true (by rw [h.sc]; exact n3) lk n4 n5)
    (i_ok it Γ X tg' it' h c3) (blkOk_by (by rw [h.N, h.sc]; exact c4)) (fun s H C cl fp => tg_ok (h.blk (s := s) (H := H) (scope := scope) (C := C) (cl := cl) (fp := fp)) c5)
    (fun s H C cl fp => cd_ok cd _ _ ifs' (h.blk (s := s) (H := H) (scope := scope) (C := C) (cl := cl) (fp := fp)) c7 c6) (fun s H C cl fp => e_ok ex _ _ elt (h.blk (s := s) (H := H) (scope := scope) (C := C) (cl := cl) (fp := fp)) c8) fun x => fs_ok c1
  rw [own_ok] at this
  exact this.imp fun D σ H w => tlc_of c2 σ H _ w
end
theorem setlc2_ok (h : XOk G cn cf k Γ X) {elt tg' it' tg1' it1' : Expr} {ifs' ifs1' : List Expr} {scope : Scope} {pos spos py : Pos} {y : Str} {ex : E} {tg tg1 : Tg} {it it1 : I} {cd cd1 : Ts} {i : Nat} (c0 : chkE G Γ (.ListComp elt [⟨tg', it', ifs', 0⟩, ⟨tg1', it1', ifs1', 0⟩] scope pos) (.lc2 ex tg it cd tg1 it1 cd1) = true)
    (n1 : Γ.N[i]? = some y) (n2 : Γ.look y = some .local) (n3 : Γ.sc.kind = .function) (n4 : (py.line == pos.line) = true) (n5 : (scope.names.any fun z => z.1 == y && (z.2 == .local || z.2 == .cell)) = false) :
    PS X (.Assign [.Name y py] (.ListComp elt [⟨tg', it', ifs', 0⟩, ⟨tg1', it1', ifs1', 0⟩] scope pos) spos) (tAsg (tX (kw X cn) fun ρ => ev G.P cf ρ (.lc2 ex tg it cd tg1 it1 cd1)) (gName i)) := by
  unfold chkE at c0
  simp only [Bool.and_eq_true, decide_eq_true_eq] at c0
  obtain ⟨⟨⟨⟨⟨⟨⟨⟨c1, c2⟩, c3⟩, c4⟩, c5⟩, c6⟩, c7⟩, ⟨⟨⟨⟨⟨d1, d2⟩, d3⟩, d4⟩, d5⟩, d6⟩⟩, c8⟩ := c0
  have nd : X.N.Nodup := by rw [h.N]; exact h.nd
  have lk : List.lookup y X.env.scope.names = some NameKind.local := by rw [h.sc]; exact n2
  have ow : (ownOf Γ tg ++ ownOf Γ tg1).map (fun x => x.2) = tg.own ++ tg1.own := by rw [List.map_append, own_ok, own_ok]
  have := ps_setLc2 (pos := pos) (spos := spos) (py := py) (vs1 := tg1.own) (wi1 := tI (kw X cn) fun ρ => evI G.P cf ρ it1) (g := gTg X.K tg) (g1 := gTg X.K tg1) (tt := tB (kw X cn) fun ρ => evAll G.P cf ρ cd) (tt1 := tB (kw X cn) fun ρ => evAll G.P cf ρ cd1) (te := tX (kw X cn) fun ρ => ev G.P cf ρ ex) h.calm nd (by rw [h.N]; exact n1) lk (sw_true (by rw [h.sc]; exact n3) lk n4 n5)
    (i_ok it Γ X tg' it' h c3) (blkOk_by (by rw [h.N, h.sc]; exact c4)) (fun i hi => by rw [ow]; exact List.mem_append_right _ hi) (fun s H C cl fp => tg_ok (h.blk (s := s) (H := H) (scope := scope) (C := C) (cl := cl) (fp := fp)) c5)
    (fun s H C cl fp => cd_ok cd _ _ ifs' (h.blk (s := s) (H := H) (scope := scope) (C := C) (cl := cl) (fp := fp)) c7 c6) (fun s H C cl fp => i_ok it1 _ _ tg1' it1' (h.blk (s := s) (H := H) (scope := scope) (C := C) (cl := cl) (fp := fp)) d3)
    (fun s H C cl fp => tg_ok (h.blk (s := s) (H := H) (scope := scope) (C := C) (cl := cl) (fp := fp)) d4) (fun s H C cl fp => cd_ok cd1 _ _ ifs1' (h.blk (s := s) (H := H) (scope := scope) (C := C) (cl := cl) (fp := fp)) d6 d5)
    (fun s H C cl fp => e_ok ex _ _ elt (h.blk (s := s) (H := H) (scope := scope) (C := C) (cl := cl) (fp := fp)) c8) (fun x => fs_ok c1) fun env x => fs_ok d1
  rw [ow] at this
  exact this.imp fun D σ H w => tlc2_of c2 d2 σ H _ w
mutual
theorem s_ok {G : Gd} {cn : Nat → Addr} {cf : Call} {k : Nat} : ∀ (s0 : S) (Γ : Ga) (X : Cx) (st : Stmt), XOk G cn cf k Γ X → chkS G Γ st s0 = true → PS X st (tSt (kw X cn) fun ρ => ex G.P cf ρ s0)
  | .asg tg x, Γ, X, st, h, c => by
    unfold chkS at c
    split at c
    · rename_i t e p
      simp only [Bool.and_eq_true] at c
      obtain ⟨⟨⟨⟨c1, c2⟩, c3⟩, c4⟩, c5⟩ := c
      by_cases hc : nComp e = true
      · exact (ps_asg (e_ok x Γ X e h c3) (tg_ok h c2) (sole_ok hc) (st_ok2 h.sc c4) (as_ok (tg_star c2))).imp (ts_asg c1)
      · by_cases hx : x = .nev
        · subst hx
          exact ⟨fun pins s σ H D I ⟨B, o, ρ, r, ho, he, q⟩ => by simp only [ex, ev] at he; cases he⟩
        split at c5
        · rename_i y py elt gs scope pos
          by_cases hl : Γ.look y = some .local
          case neg =>
            exact (ps_asg (e_ok x Γ X _ h c3) (tg_ok h c2) (sole_ok2 h.sc hl) (st_ok2 h.sc c4) (as_ok (tg_star c2))).imp (ts_asg c1)
          replace c5 := ((Bool.or_eq_true _ _).mp c5).resolve_right (by rw [hl]; simp)
          simp only [Bool.and_eq_true, beq_iff_eq, Bool.not_eq_true'] at c5
          obtain ⟨⟨⟨⟨n2, n3⟩, n4⟩, n5⟩, n6⟩ := c5
          have lcx : (∃ ex tg0 it cd tg' it' ifs', x = .lc ex tg0 it cd ∧ gs = [⟨tg', it', ifs', 0⟩]) ∨ ∃ ex tg0 it cd tg1 it1 cd1 tg' it' ifs' tg1' it1' ifs1', x = .lc2 ex tg0 it cd tg1 it1 cd1 ∧ gs = [⟨tg', it', ifs', 0⟩, ⟨tg1', it1', ifs1', 0⟩] := by
            cases x <;> (unfold chkE at c3) <;> try (first | (simp [chkV, chkC, nComp] at c3; done) | exact absurd rfl hx | (simp [isW] at n6; done))
            · rename_i ex tg0 it cd
              split at c3
              · rename_i e1
                cases e1
                exact .inl ⟨ex, tg0, it, cd, _, _, _, rfl, rfl⟩
              · cases c3
            · rename_i ex tg0 it cd tg1 it1 cd1
              split at c3
              · rename_i e1
                cases e1
                exact .inr ⟨ex, tg0, it, cd, tg1, it1, cd1, _, _, _, _, _, _, rfl, rfl⟩
              · cases c3
          cases tg with
          | one t1 =>
            cases t1 with
            | nm i =>
              simp only [chkTg, chkT1, Bool.and_eq_true, beq_iff_eq] at c2
              rcases lcx with ⟨ex, tg0, it, cd, tg', it', ifs', rfl, rfl⟩ | ⟨ex, tg0, it, cd, tg1, it1, cd1, tg', it', ifs', tg1', it1', ifs1', rfl, rfl⟩
              · exact (setlc_ok h c3 c2.1 n2 n3 (beq_iff_eq.mpr n4) n5).imp (ts_asg c1)
              · exact (setlc2_ok h c3 c2.1 n2 n3 (beq_iff_eq.mpr n4) n5).imp (ts_asg c1)
            | ix i kd => simp [chkTg, chkT1] at c2
          | tp ts => simp [chkTg] at c2
        · exact absurd c5 hc
    · cases c
  | .par ts xs, Γ, X, st, h, c => by
    unfold chkS at c
    split at c
    · rename_i tes kt pt ves k2 pt2 p
      rw [Bool.and_eq_true] at c
      obtain ⟨c1, c2⟩ := c
      have nd : X.N.Nodup := by rw [h.N]; exact h.nd
      split at c2
      · rename_i hix
        simp only [Bool.and_eq_true, Bool.not_eq_true'] at c2
        obtain ⟨⟨⟨c3, c4⟩, c5⟩, c6⟩ := c2
        have hne : tes ≠ [] := fun z => by subst z; cases c5
        have htg : chkTg Γ (.Tuple tes kt pt) (.tp ts) = true := by simp only [chkTg, Bool.and_eq_true, Bool.not_eq_true']; exact ⟨c3, c5⟩
        exact (ps_asg (px_tup (pos := pt2) (j := k2) (es_ok xs Γ X _ h c1)) (tg_ok h htg) (sole_ok rfl) (sws c4 hne) (as_ok rfl)).imp fun D σ H w => ts_asg (tg := .tp ts) c6 D σ H (ts_parx hix D σ H w)
      · simp only [Bool.and_eq_true, Bool.not_eq_true', beq_iff_eq] at c2
        obtain ⟨⟨⟨c3, c4⟩, c5⟩, c6⟩ := c2
        have hst := (es_star c1).1
        have hk : X.env.scope.kind = .function := by rw [h.sc]; exact c3
        have lk : ∀ {x}, Γ.look x = some .local → List.lookup x X.env.scope.names = some .local := fun {x} e => by rw [h.sc]; exact e
        split at c6
        · rename_i i j x px y py a b
          simp only [Bool.and_eq_true, beq_iff_eq, bne_iff_ne] at c6
          obtain ⟨⟨⟨⟨⟨⟨n1, n2⟩, n3⟩, n4⟩, n5⟩, n6⟩, n7⟩ := c6
          simp only [List.all_cons, List.all_nil, Bool.and_true, Bool.and_eq_true] at hst
          exact (ps_par h.calm nd (by rw [h.N]; exact n1) (by rw [h.N]; exact n2) n3 (lk n5) (lk n6) (fs'_ok xs Γ X _ h c1) (sw2 hk (lk n5) (lk n6) n4 (beq_iff_eq.mpr n7) hst.1 hst.2 c4 c5) (sole_ok rfl)).imp ts_par2
        · rename_i i j l x px y py z pz a b c0
          simp only [Bool.and_eq_true, beq_iff_eq, bne_iff_ne] at c6
          obtain ⟨⟨⟨⟨⟨⟨⟨n1, n2⟩, n3⟩, ⟨m1, m2⟩, m3⟩, ⟨q1, q2⟩, q3⟩, ⟨l1, l2⟩, l3⟩, n7⟩, n8⟩ := c6
          simp only [List.all_cons, List.all_nil, Bool.and_true, Bool.and_eq_true] at hst
          exact (ps_par3 h.calm nd (by rw [h.N]; exact n1) (by rw [h.N]; exact n2) (by rw [h.N]; exact n3) m1 m2 m3 (lk l1) (lk l2) (lk l3) (fs'_ok xs Γ X _ h c1) (sw3 hk (lk l1) (lk l2) (lk l3) q1 q2 q3 (beq_iff_eq.mpr n7) (beq_iff_eq.mpr n8) hst.1 hst.2.1 hst.2.2 c4 c5) (sole_ok rfl)).imp ts_par3
        · cases c6
    · cases c
  | .set i k' x, Γ, X, st, h, c => by
    unfold chkS at c
    split at c
    · rename_i o ki p1 e p
      simp only [Bool.and_eq_true] at c
      obtain ⟨⟨⟨⟨c1, c2⟩, c3⟩, c4⟩, c5⟩ := c
      exact (ps_asg (e_ok x Γ X e h c4) (pg_sub (v_ok h c1) (e_ok k' Γ X ki h c3) (set_any (by have := h.room0.un; omega)) (sub_assign c2)) (sole_ok c5) (st_ok rfl) (as_ok rfl)).imp ts_set
    · cases c
  | .aug i op x, Γ, X, st, h, c => by
    unfold chkS at c
    split at c
    · rename_i y py o e p
      simp only [Bool.and_eq_true, beq_iff_eq] at c
      obtain ⟨⟨⟨c1, c2⟩, c3⟩, c4⟩ := c
      obtain ⟨l1, l2⟩ := loc_ok h c2
      exact (ps_aug (by rw [h.N]; exact h.nd) (by rw [h.N]; exact c1) l1 (e_ok x Γ X e h c4) (arg_ok c3) l2).imp ts_aug
    · cases c
  | .augi i k' op x, Γ, X, st, h, c => by
    unfold chkS at c
    split at c
    · rename_i o ki p1 o' e p
      simp only [Bool.and_eq_true, beq_iff_eq] at c
      obtain ⟨⟨⟨⟨c1, c2⟩, c3⟩, c4⟩, c5⟩ := c
      exact (ps_augS (v_ok h c1) (e_ok k' Γ X ki h c3) get_list (e_ok x Γ X e h c5) (arg_ok c4) (set_any (by have := h.room0.un; omega)) (au_ok c2)).imp ts_augi
    · cases c
  | .setf i n x, Γ, X, st, h, c => by
    unfold chkS at c
    split at c
    · rename_i o n' p e p2
      simp only [Bool.and_eq_true, beq_iff_eq] at c
      obtain ⟨⟨⟨rfl, c2⟩, c3⟩, c4⟩ := c
      exact (ps_fld (v_ok h c2) (e_ok x Γ X e h c4) (sw_ok c3)).imp (ts_setf h.cls)
    · cases c
  | .exp x, Γ, X, st, h, c => by
    unfold chkS at c
    split at c
    · simp only [Bool.and_eq_true] at c
      exact (ps_expr (e_ok x Γ X _ h c.1) (sw_ok c.2)).imp ts_exp
    · cases c
  | .ret x, Γ, X, st, h, c => by
    unfold chkS at c
    split at c
    · by_cases hx : ∃ i, x = .var i
      · obtain ⟨i, rfl⟩ := hx
        unfold chkE at c
        exact (ps_ret (v_ok h c)).imp ts_retv
      · exact (ps_ret (e_ok x Γ X _ h c)).imp (ts_ret fun i z => hx ⟨i, z⟩)
    · cases c
  | .reti w x y, Γ, X, st, h, c => by
    unfold chkS at c
    split at c
    · simp only [Bool.and_eq_true] at c
      obtain ⟨⟨c1, c2⟩, c3⟩ := c
      have one : ∀ (x : E) (e : Expr), chkE G Γ e x = true → ∃ t, PE X e t ∧ ∀ D σ H, tSt (kw X cn) (fun ρ => ex G.P cf ρ (.ret x)) D σ H → tRet t D σ H := fun x e c => by
        by_cases hx : ∃ i, x = .var i
        · obtain ⟨i, rfl⟩ := hx
          unfold chkE at c
          exact ⟨_, v_ok h c, ts_retv⟩
        · exact ⟨_, e_ok x Γ X _ h c, ts_ret fun i z => hx ⟨i, z⟩⟩
      obtain ⟨ta, pa, ia⟩ := one x _ c2
      obtain ⟨tb, pb, ib⟩ := one y _ c3
      exact (ps_ret (pe_ifExp (t_ok w Γ X _ h c1) pa pb)).imp (ts_reti ia ib)
    · cases c
  | .iff w a b, Γ, X, st, h, c => by
    unfold chkS at c
    split at c
    · simp only [Bool.and_eq_true] at c
      exact (ps_if (t_ok w Γ X _ h c.1.1) (ss_ok a Γ X _ h c.1.2) (ss_ok b Γ X _ h c.2)).imp (ts_iff (fun _ _ _ w => w) fun _ _ _ w => w)
    · cases c
  | .for_ tg it b, Γ, X, st, h, c => by
    unfold chkS at c
    split at c
    · simp only [Bool.and_eq_true] at c
      obtain ⟨⟨⟨⟨c1, c2⟩, c3⟩, c4⟩, c5⟩ := c
      exact (ps_for h.pas h.calm (i_ok it Γ X _ _ h c4) (tg_ok h c3) (ss_ok b Γ X _ h c5) fun x => fs_ok c2).imp (ts_for c1 fun _ _ _ w => w)
    · cases c
  | .fore tg x b, Γ, X, st, h, c => by
    unfold chkS at c
    split at c
    · simp only [Bool.and_eq_true, beq_iff_eq] at c
      obtain ⟨⟨⟨⟨⟨⟨⟨⟨c1, c2⟩, c3⟩, rfl⟩, c5⟩, c6⟩, c7⟩, c8⟩, c9⟩ := c
      exact (ps_for h.pas h.calm (pi_enS (h.gl c5).1 (h.off _ (by simpa using c6)) (tes_cons (e_ok x Γ X _ h c8) tes_nil (star_ok c7)) (star_ok c7)) (tg_ok h c3) (ss_ok b Γ X _ h c9) fun x => fs_ok c2).imp (ts_fore c1 fun _ _ _ w => w)
    · cases c
  | .forw tg i b, Γ, X, st, h, c => by
    unfold chkS at c
    split at c
    · simp only [Bool.and_eq_true] at c
      obtain ⟨⟨⟨⟨c1, c2⟩, c3⟩, c4⟩, c5⟩ := c
      exact (ps_for h.pas h.calm (pi_any (h.room.mono (Nat.succ_le_succ (Nat.zero_le k))) h.gu (v_ok h c4)) (tg_ok h c3) (ss_ok b Γ X _ h c5) fun x => fs_ok c2).imp (ts_forw c1 fun _ _ _ w => w)
    · cases c
  | .whl w b, Γ, X, st, h, c => by
    unfold chkS at c
    split at c
    · simp only [Bool.and_eq_true] at c
      exact (ps_while h.pas (t_ok w Γ X _ h c.1) (ss_ok b Γ X _ h c.2)).imp (ts_whl fun _ _ _ w => w)
    · cases c
  | .brk, Γ, X, st, h, c => by
    unfold chkS at c
    split at c
    · exact ps_break.imp ts_brk
    · cases c
  | .cnt, Γ, X, st, h, c => by
    unfold chkS at c
    split at c
    · exact ps_continue.imp ts_cnt
    · cases c
  | .pss, Γ, X, st, h, c => by
    unfold chkS at c
    split at c
    · exact ps_pass.imp ts_pss
    · cases c
  | .never, Γ, X, st, h, c => ⟨fun pins s σ H D I ⟨B, o, ρ, r, ho, he, q⟩ => by simp only [ex] at he; cases he⟩
theorem ss_ok {G : Gd} {cn : Nat → Addr} {cf : Call} {k : Nat} : ∀ (r : Ss) (Γ : Ga) (X : Cx) (ss : List Stmt), XOk G cn cf k Γ X → chkSs G Γ ss r = true → PSs X ss (tSt (kw X cn) fun ρ => exs G.P cf ρ r)
  | .nil, Γ, X, ss, h, c => by
    unfold chkSs at c
    have := List.isEmpty_iff.mp c
    subst this
    exact pss_nil.imp tss_nil
  | .cons s0 r, Γ, X, [], h, c => by simp [chkSs] at c
  | .cons s0 r, Γ, X, s :: ss, h, c => by
    simp only [chkSs, Bool.and_eq_true] at c
    exact (pss_cons (s_ok s0 Γ X s h c.1) (ss_ok r Γ X ss h c.2)).imp (tss_cons (fun _ _ _ w => w) fun _ _ _ w => w)
end
end BK

set_option Elab.async false
set_option linter.all false
set_option maxRecDepth 100000
set_option maxHeartbeats 4000000
/-! BK20: all defs of a program, level by level; the law's own call. -/
namespace BK
open PySem PySem.Spec PyProof.Rows L2

/-- what is known of a def where the program stands -/
structure DF (G : Gd) (K : PySem.W.Frag) (mg : Str → Option Value) (f : Nat) (d : Def) : Prop where
  ex : ∃ (qual : Str) (st : Stmt) (fa : Addr) (fd : FuncData) (N ps : List Str), Fun K d.name qual st fa fd ∧ FnScope N ps (defScope st) ∧ Binds K fd ps [] ∧ PySem.W.keepIn K (.ref fa) = true ∧ (f ∈ G.tops → mg d.name = some (.ref fa)) ∧
    d.np = ps.length ∧ d.nn = N.length ∧ N.Nodup ∧ chkSs G ⟨N, defScope st, fun _ => true⟩ (defBody st) d.body = true
/-- what is known of a class where the program stands -/
structure CF (G : Gd) (K : PySem.W.Frag) (mg : Str → Option Value) (cn : Nat → Addr) (c : Nat) (kl : Cls) : Prop where
  mgC : mg kl.name = some (.ref (cn c))
  cls : L2.Cls K (cn c)
  made : ∃ d qual st fa fd N ps, G.P.defs[kl.init]? = some d ∧ Mk K (cn c) fa ∧ Fun K d.name qual st fa fd ∧ FnScope N ps (defScope st) ∧ Binds K fd ps [] ∧ d.np = ps.length ∧ d.nn = N.length ∧ N.Nodup ∧ chkSs G ⟨N, defScope st, fun _ => true⟩ (defBody st) d.body = true
  ms : ∀ m g, kl.ms.lookup m = some g → ∃ d qual st fa fd N ps, G.P.defs[g]? = some d ∧ (Meth K (cn c) m fa ∧ PySem.W.fnIn K fa = true) ∧ Fun K d.name qual st fa fd ∧ FnScope N ps (defScope st) ∧ Binds K fd ps [] ∧ d.np = ps.length ∧ d.nn = N.length ∧ N.Nodup ∧ chkSs G ⟨N, defScope st, fun _ => true⟩ (defBody st) d.body = true
  na : ∀ n, kl.fs.contains n = true → NoAttr K (cn c) n
  sf : PySem.W.selfFirst K (cn c) = true
  nq : PySem.W.noSeq K (cn c) = true
  ne : PySem.W.findIn K (.ref (cn c)) "__ne__" = some (some (.builtin "object.__ne__"))
  ob : PySem.W.mroIn K (cn c) (.type "object") = some true
  is : IsC K cn G.P c
  it : ∀ n, kl.itf = some n → ∃ (x qual : Str) (st : Stmt) (f : Addr) (fd : FuncData) (N ps : List Str), PySem.W.findIn K (.ref (cn c)) "__iter__" = some (some (.ref f)) ∧ PySem.W.isFn K (.ref f) = true ∧ Fun K x qual st f fd ∧ FnScope N ps (defScope st) ∧ Binds K fd ps [] ∧ ps.length = 1 ∧
    chkIt G ⟨N, defScope st, fun _ => true⟩ n (defBody st) = true ∧ kl.fs.contains n = true
/-- .. with the def's own place -/
theorem all_ok' {G : Gd} {P : Program} {w : World} {K : PySem.W.Frag} {mg : Str → Option Value} {base : Heap} {cn : Nat → Addr} (hD : ∀ (f : Nat) d, G.P.defs[f]? = some d → f ∈ G.tops → DF G K mg f d) (hC : ∀ (c : Nat) kl, G.P.cls[c]? = some kl → CF G K mg cn c kl) (hoff : ∀ x, x ∈ G.off → mg x = none)
    (hgls : ∀ (g : Nat) nm d, G.P.gls[g]? = some (nm, d) → ∃ v u, mg nm = some u ∧ L2.RelV v u ∧ ∀ Z H, Den ⟨K, w, cn⟩ Z H v d) :
    ∀ (n f : Nat) d, G.P.defs[f]? = some d → ∀ (qual : Str) (st : Stmt) (fa : Addr) (fd : FuncData) (N ps : List Str), Fun K d.name qual st fa fd → FnScope N ps (defScope st) → d.np = ps.length → d.nn = N.length → N.Nodup →
      chkSs G ⟨N, defScope st, fun _ => true⟩ (defBody st) d.body = true → FnG P w K mg base (2 * n) fa fd ps (spOf ⟨K, w, cn⟩ (callAt G.P n) f)
  | 0, f, d, hd, qual, st, fa, fd, N, ps, F, S, h1, h2, h3, h4 => ⟨fun vs H Q ⟨_, _, _, _, _, he, _⟩ => by simp [callAt] at he, fun A outer s H args us vs Q _ _ _ _ _ ⟨_, _, _, _, _, he, _⟩ => by simp [callAt] at he⟩
  | n + 1, f, d, hd, qual, st, fa, fd, N, ps, F, S, h1, h2, h3, h4 => by
    refine fng_def (k := 2 * n + 1) (d := d) F S hd h1 h2 fun cdv A outer s H hr hg => PSs.nox ?_
    have hX : XOk G cn (callAt G.P n) (2 * n) ⟨N, defScope st, fun _ => true⟩ (cxOf CX0 P w K mg base N qual (defScope st) fa cdv A outer s H E0).nox := by
      refine ⟨rfl, rfl, h3, rfl, fun _ _ => rfl, rfl, hr, hg, hoff, fun f' d' hd' ht => ?_, fun c kl hk => ?_, hgls⟩
      · obtain ⟨qual', st', fa', fd', N', ps', F', S', b', k', m', e1, e2, e3, e4⟩ := (hD f' d' hd' ht).ex
        exact ⟨fa', fd', ps', m' ht, k', all_ok' hD hC hoff hgls n f' d' hd' qual' st' fa' fd' N' ps' F' S' e1 e2 e3 e4, b'⟩
      · have C := hC c kl hk
        refine ⟨C.mgC, C.cls, ?_, fun m g hm => ?_, C.na, C.sf, C.nq, C.ne, C.ob, C.is, fun n hn => ?_⟩
        · obtain ⟨d', qual', st', fa', fd', N', ps', hd', M, F', S', b', e1, e2, e3, e4⟩ := C.made
          exact ⟨fa', fd', ps', M, all_ok' hD hC hoff hgls n _ d' hd' qual' st' fa' fd' N' ps' F' S' e1 e2 e3 e4, b'⟩
        · obtain ⟨d', qual', st', fa', fd', N', ps', hd', M, F', S', b', e1, e2, e3, e4⟩ := C.ms m g hm
          exact ⟨fa', fd', ps', M, all_ok' hD hC hoff hgls n _ d' hd' qual' st' fa' fd' N' ps' F' S' e1 e2 e3 e4, b'⟩
        · obtain ⟨x', qual', st', fa', fd', N', ps', i1, i2, F', S', b', e1, e2, e3⟩ := C.it n hn
          exact ⟨⟨fa', fd', ps', i1, i2, itr_of F' S' e1 hoff e2, b'⟩, e3⟩
    exact ss_ok d.body _ _ _ hX h4
/-! ### the law's call -/
theorem law_callG {P : Program} {w : World} {K : PySem.W.Frag} {mg mb : Str → Option Value} {k : Nat} {fa a : Addr} {fd : FuncData} {x : Str} {sp : SpG} {s1 : Shared} {vs : List Value} {ns : List Int}
    (KX : K.In s1.heap) (hns : s1.heap.Ns mainGlobals mg) (hb : s1.heap.Ns builtinsNs mb) (hbb : ∀ x : Str, x ≠ Str.ofString "__name__" → mb x = bootBuiltins x) (hlim : s1.heap.NoLimit) (hg : s1.gens = #[])
    (ha : s1.heap.get? a = some { cls := Value.type "list", data := Data.seq vs.toArray }) (hi : IntsAre vs ns) (hl : ns.length ≤ sizeLine) (hr : Room k callerA)
    (F : ∀ base : Heap, K.In base → base.Ns mainGlobals mg → FnG P w K mg base k fa fd [x] sp) (hbind : ∀ (s : Shared) (u : Value), BindsTo s fd { pos := [u] } [(x, u)])
    (hsp : ∀ H : Hp, Only H → SqL K H a (ns.map V.int) → sp [V.ref a] H fun v _ => v = V.bl true) :
    codeAny (model P w) callerA (Code.call (Value.ref fa) { pos := [Value.ref a] }) (fun r s' => r = Except.ok (Flow.ret (Value.bool true)) ∧ OldK s1.heap s'.heap ∧ s'.os = s1.os ∧ AllBare s'.gens) s1 := by
  have rv := vals_ints hi
  have lenV := IntsAre.length hi
  have core : ∀ H : Hp, Only H → SqL K H a (ns.map V.int) → HOk P w H s1.heap → (∀ b, H b ≠ none → b = a) → (H a ≠ none → K.lookup a = none) →
      codeAny (model P w) callerA (Code.call (Value.ref fa) { pos := [Value.ref a] }) (fun r s' => r = Except.ok (Flow.ret (Value.bool true)) ∧ OldK s1.heap s'.heap ∧ s'.os = s1.os ∧ AllBare s'.gens) s1 := by
    intro H hO hS hok hA hK
    have noA : ∀ {b : Addr} {o : Obj} {es : Array DictEntry} {ep : Nat}, s1.heap.get? b = some o → o.data = .dict es ep → H b = none := by
      intro b o es ep e d
      cases q : H b with
      | none => rfl
      | some u =>
        have := hA b (by rw [q]; intro z; cases z)
        subst this
        rw [ha] at e
        cases e
        cases d
    have nsK : ∀ {b : Addr} {m : Str → Option Value}, s1.heap.Ns b m → (hidT s1.heap H).Ns b m := fun ⟨o, es, ep, e, d, r⟩ => ⟨o, es, ep, hidT_get e (noA e d), d, r⟩
    have hKb : K.In (hidT s1.heap H) := fun b o e => hidT_get (KX b o e) (by
      cases q : H b with
      | none => rfl
      | some u =>
        have := hA b (by rw [q]; intro z; cases z)
        subst this
        rw [hK (by rw [q]; intro z; cases z)] at e
        cases e)
    have hM : L2.Mod K mg (hidT s1.heap H) := { kin := hKb, glob := nsK hns, blt := ⟨mb, nsK hb, hbb⟩, nolimit := by obtain ⟨mc, h1, h2⟩ := hlim; exact ⟨mc, nsK h1, h2⟩ }
    have e0 : Env0 P w K mg (hidT s1.heap H) callerA [] s1 H := { frames := rfl, mod := hM, bs := fun b o e => of_hidT e, bsz := Nat.le_of_eq (hidT_size s1.heap H), funs := trivial, frf := fun b hb => (by cases hb), hok := hok, bare := AllBare.of_eq hg }
    refine codeAny_mono ((F _ hKb (nsK hns)).run callerA [] s1 H { pos := [Value.ref a] } [Value.ref a] [V.ref a] (fun v _ => v = V.bl true) hr rfl e0 (hbind s1 (Value.ref a)) (.cons rfl .nil) (hsp H hO hS)) fun r s' h => ?_
    cases r with
    | error e => exact False.elim h
    | ok fl =>
      cases fl with
      | ret u =>
        obtain ⟨v, H', os, bare, un, hok', r', q⟩ := h
        have q : v = V.bl true := q
        subst q
        have r' : u = Value.bool true := r'
        subst r'
        refine ⟨rfl, OldK.of_keep fun b o e => ?_, os, bare⟩
        cases q : H b with
        | none => exact un.keep b o e q (by intro z; cases z) (by intro z; cases z)
        | some u =>
          rcases hO b with z | ⟨ob, xs, z⟩
          · rw [q] at z; cases z
          · have f1 := un.frzs b ob _ z
            have g1 := hok b _ z
            have g2 := hok' b _ f1
            rw [g1.1] at e
            cases e
            exact g2.1
      | _ => exact False.elim h
  cases hk : K.lookup a with
  | none =>
    refine core (fun b => if b = a then some (.frz { cls := Value.type "list", data := Data.seq vs.toArray } (.lst (ns.map V.int))) else none) (fun b => ?_) (.inl (.inr ⟨_, if_pos rfl⟩)) (fun b u z => ?_) (fun b z => ?_) fun _ => hk
    · by_cases hb : b = a
      · exact .inr ⟨_, _, if_pos hb⟩
      · exact .inl (if_neg hb)
    · by_cases hb : b = a
      · subst hb
        have z : (if b = b then some (HO.frz { cls := Value.type "list", data := Data.seq vs.toArray } (.lst (ns.map V.int))) else none) = some u := z
        rw [if_pos rfl] at z
        cases z
        exact ⟨ha, by rw [List.length_map]; exact hl, vs, 0, rv, ha⟩
      · have z : (if b = a then some (HO.frz { cls := Value.type "list", data := Data.seq vs.toArray } (.lst (ns.map V.int))) else none) = some u := z
        rw [if_neg hb] at z
        cases z
    · by_cases hb : b = a
      · exact hb
      · exact absurd (if_neg hb) z
  | some o =>
    have e := KX a o hk
    rw [ha] at e
    cases e
    exact core (fun _ => none) (fun _ => .inl rfl) (.inr ⟨_, vs.toArray, 0, hk, rfl, rfl, rfl, by rw [List.size_toArray, lenV]; exact hl, rv⟩) (fun b u z => by cases z) (fun b z => absurd rfl z) fun z => absurd rfl z
theorem walk_ofG {l : PySem.W.OpenLaw} {n k : Nat} {q : Program} {loose : List Str} {XP : (Str → Option Value) → Heap → Prop} {YP : World → Heap → Prop} {d : DefRec} {K : Params → PySem.W.Frag} {sp : World → SpG} {x : Str}
    (hn : l.most = some n) (hn2 : n ≤ sizeLine) (hdf : d.params.defaults = []) (hr : Room k callerA) (hY : ∀ (w : World) (h : Heap), YP w h → (K w.params).In h)
    (F : ∀ (w : World) (mg : Str → Option Value) (fa : Addr) (h : Heap), (K w.params).In h → h.Ns mainGlobals mg → mg d.name = some (Value.ref fa) →
      ∃ fd : FuncData, (∀ (s : Shared) (u : Value), BindsTo s fd { pos := [u] } [(x, u)]) ∧ ∀ base : Heap, (K w.params).In base → base.Ns mainGlobals mg → FnG l.prog w (K w.params) mg base k fa fd [x] (sp w))
    (hsp : ∀ (w : World) (H : Hp) (a : Addr) (ns : List Int), ns.length ≤ n → Only H → SqL (K w.params) H a (ns.map V.int) → sp w [V.ref a] H fun v _ => v = V.bl true) :
    PySem.W.WalkO q loose XP YP l.row.toRowW d [] (fun f vs => PySem.call f vs) :=
  Att.attach_call hn hdf fun w s0 s1 mg mb fa o pm cd doc a vs ns G Y ho hd hcd hmg hobj hints hlen hg => by
    have KX := hY w s1.heap Y
    obtain ⟨fd, hb, hF⟩ := F w mg fa s1.heap KX G.T.g hmg
    exact law_callG KX G.T.g G.T.b G.T.builtins G.T.nolimit hg hobj hints (Nat.le_trans hlen hn2) hr hF hb fun H hO hS => hsp w H a ns hlen hO hS
/-- the law's promise, by its reckoning -/
theorem law_sp {C : Kw} {P : Pr} {n f : Nat} {H : Hp} {a : Addr} {ns : List Int} {fr : Bool} {os : List Sl} (hO : Only H) (hS : SqL C.K H a (ns.map V.int)) (he : callAt P n f [.sh false (.rl (ns.map D.int))] = some (.bl true, fr, os)) :
    spOf C (callAt P n) f [V.ref a] H fun v _ => v = V.bl true := by
  have dns : ∀ {Z : Addr → Prop} (l : List Int), DenAll C Z H (l.map V.int) (l.map D.int) := fun {Z} l => by
    induction l with
    | nil => exact .nil
    | cons i l ih => exact .cons (.int i) ih
  have den : Den C (Zo (fun _ => False) fun _ => none) H (.ref a) (.rl (ns.map D.int)) := by
    rcases hS with (h | ⟨o, h⟩) | h
    · rcases hO a with z | ⟨o, xs, z⟩
      · rw [h] at z; cases z
      · rw [h] at z; cases z
    · exact .rl (fun z => z.elim id fun ⟨_, y⟩ => by cases y) h (dns ns)
    · exact .rlK h (dns ns)
  refine ⟨fun _ => False, fun _ => none, _, _, ⟨fun i s e => ?_, fun _ _ => rfl, (fun i j b z _ => by cases z), (fun i b z => by cases z), (fun b z => z.elim), rfl⟩, he, fun v H' o' σ' st pins rs => (rs.bl rfl).1⟩
  cases i with
  | zero =>
    simp at e
    subst e
    exact ⟨rfl, _, rfl, den⟩
  | succ i => simp at e
end BK

set_option Elab.async false
set_option linter.all false
set_option maxRecDepth 100000
set_option maxHeartbeats 4000000
/-! BK21: what the top has written; the law's end. -/
namespace BK
open PySem PySem.Spec PyProof.Rows L2

/-! ### written data -/
mutual
def chkGl (K : PySem.W.Frag) : Nat → Value → D → Bool
  | _, .none, .non => true
  | _, .bool a, .bl b => a == b
  | _, .int i _, .int j => i == j
  | _, .str x _, .str y => x == y
  | n + 1, .ref a, .tup ds => match K.lookup a with
    | some ⟨.type "tuple", none, .seq its _, _⟩ => decide (its.size ≤ 1000) && chkGls K n its.toList ds
    | _ => false
  | n + 1, .ref a, .rl ds => match K.lookup a with
    | some ⟨.type "list", none, .seq its _, _⟩ => decide (its.size ≤ 1000) && chkGls K n its.toList ds
    | _ => false
  | _, _, _ => false
def chkGls (K : PySem.W.Frag) : Nat → List Value → List D → Bool
  | _, [], [] => true
  | n, u :: us, d :: ds => chkGl K n u d && chkGls K n us ds
  | _, _, _ => false
end
def GlOk (C : Kw) (u : Value) (d : D) : Prop := ∃ v, L2.RelV v u ∧ ∀ Z H, Den C Z H v d
def GlsOk (C : Kw) (us : List Value) (ds : List D) : Prop := ∃ vs, Vals vs us ∧ ∀ Z H, DenAll C Z H vs ds
theorem gl_all {C : Kw} : ∀ n : Nat, (∀ u d, chkGl C.K n u d = true → GlOk C u d) ∧ ∀ us ds, chkGls C.K n us ds = true → GlsOk C us ds := by
  intro n
  induction n with
  | zero =>
    have h1 : ∀ u d, chkGl C.K 0 u d = true → GlOk C u d := by
      intro u d h
      unfold chkGl at h
      split at h
      · exact ⟨.non, rfl, fun _ _ => .non⟩
      · exact ⟨.bl _, by rw [beq_iff_eq.mp h]; rfl, fun _ _ => .bl _⟩
      · exact ⟨.int _, ⟨_, by rw [beq_iff_eq.mp h]⟩, fun _ _ => .int _⟩
      · exact ⟨.str _, ⟨_, by rw [beq_iff_eq.mp h]⟩, fun _ _ => .str _⟩
      all_goals first
        | (rename_i e; cases e)
        | cases h
    refine ⟨h1, fun us => ?_⟩
    induction us with
    | nil =>
      intro ds h
      cases ds with
      | nil => exact ⟨[], .nil, fun _ _ => .nil⟩
      | cons d ds => simp [chkGls] at h
    | cons u us ih =>
      intro ds h
      cases ds with
      | nil => simp [chkGls] at h
      | cons d ds =>
        rw [chkGls, Bool.and_eq_true] at h
        obtain ⟨v, r, k⟩ := h1 u d h.1
        obtain ⟨vs, rs, ks⟩ := ih ds h.2
        exact ⟨v :: vs, .cons r rs, fun Z H => .cons (k Z H) (ks Z H)⟩
  | succ n ih =>
    have h1 : ∀ u d, chkGl C.K (n + 1) u d = true → GlOk C u d := by
      intro u d h
      unfold chkGl at h
      split at h
      · exact ⟨.non, rfl, fun _ _ => .non⟩
      · exact ⟨.bl _, by rw [beq_iff_eq.mp h]; rfl, fun _ _ => .bl _⟩
      · exact ⟨.int _, ⟨_, by rw [beq_iff_eq.mp h]⟩, fun _ _ => .int _⟩
      · exact ⟨.str _, ⟨_, by rw [beq_iff_eq.mp h]⟩, fun _ _ => .str _⟩
      · rename_i m a ds e
        cases e
        split at h
        · rename_i its nn sl e
          rw [Bool.and_eq_true, decide_eq_true_eq] at h
          obtain ⟨vs, rs, ks⟩ := ih.2 _ _ h.2
          have hz : its.size ≤ sizeLine := Nat.le_trans h.1 (by decide)
          exact ⟨.ref a, rfl, fun Z H => .tupK ⟨_, its, nn, e, rfl, rfl, rfl, hz, rs⟩ (ks Z H)⟩
        · cases h
      · rename_i m a ds e
        cases e
        split at h
        · rename_i its nn sl e
          rw [Bool.and_eq_true, decide_eq_true_eq] at h
          obtain ⟨vs, rs, ks⟩ := ih.2 _ _ h.2
          have hz : its.size ≤ sizeLine := Nat.le_trans h.1 (by decide)
          exact ⟨.ref a, rfl, fun Z H => .rlK ⟨_, its, nn, e, rfl, rfl, rfl, hz, rs⟩ (ks Z H)⟩
        · cases h
      · cases h
    refine ⟨h1, fun us => ?_⟩
    induction us with
    | nil =>
      intro ds h
      cases ds with
      | nil => exact ⟨[], .nil, fun _ _ => .nil⟩
      | cons d ds => simp [chkGls] at h
    | cons u us ih =>
      intro ds h
      cases ds with
      | nil => simp [chkGls] at h
      | cons d ds =>
        rw [chkGls, Bool.and_eq_true] at h
        obtain ⟨v, r, k⟩ := h1 u d h.1
        obtain ⟨vs, rs, ks⟩ := ih ds h.2
        exact ⟨v :: vs, .cons r rs, fun Z H => .cons (k Z H) (ks Z H)⟩
/-- a constant of a module stands for d -/
def Gl (C : Kw) (mg : Str → Option Value) (z : Str × D) : Prop := ∃ v u, mg z.1 = some u ∧ L2.RelV v u ∧ ∀ Z H, Den C Z H v z.2
theorem gl_val {K : PySem.W.Frag} {w : World} {cn : Nat → Addr} {mg : Str → Option Value} {h : Heap} {nm : Str} {u : Value} {d : D} (X : K.In h) (Gn : h.Ns mainGlobals mg) (a : PySem.W.nsIn K mainGlobals nm = some (some u)) (c : chkGl K 8 u d = true) : Gl ⟨K, w, cn⟩ mg (nm, d) := by
  obtain ⟨v, r, k⟩ := (gl_all (C := ⟨K, w, cn⟩) 8).1 u d c
  exact ⟨v, u, PySem.W.mg_of X Gn a, r, k⟩
/-- a written dict's keys -/
def keysAre : List DictEntry → List Str → Bool
  | [], [] => true
  | e :: es, k :: ks => e.key.isStr k && keysAre es ks
  | _, _ => false
theorem keys_get : ∀ {es : List DictEntry} {ks : List Str}, keysAre es ks = true → ks.length = es.length ∧ ∀ (i : Nat) e k, es[i]? = some e → ks[i]? = some k → e.key.isStr k = true
  | [], [], _ => ⟨rfl, fun i e k h _ => by simp at h⟩
  | [], _ :: _, h => by simp [keysAre] at h
  | _ :: _, [], h => by simp [keysAre] at h
  | e :: es, k :: ks, h => by
    rw [keysAre, Bool.and_eq_true] at h
    obtain ⟨l, g⟩ := keys_get h.2
    refine ⟨by rw [List.length_cons, List.length_cons, l], fun i e' k' h1 h2 => ?_⟩
    cases i with
    | zero =>
      simp at h1 h2
      subst h1 h2
      exact h.1
    | succ i => exact g i e' k' (by simpa using h1) (by simpa using h2)
theorem vals_map_get : ∀ {vs : List V} {es : List DictEntry}, Vals vs (es.map DictEntry.val) → vs.length = es.length ∧ ∀ (i : Nat) e v, es[i]? = some e → vs[i]? = some v → L2.RelV v e.val
  | [], [], _ => ⟨rfl, fun i e k h _ => by simp at h⟩
  | _ :: _, [], h => by cases h
  | [], _ :: _, h => by cases h
  | v :: vs, e :: es, h => by
    cases h with
    | cons r t =>
      obtain ⟨l, g⟩ := vals_map_get t
      refine ⟨by rw [List.length_cons, List.length_cons, l], fun i e' k' h1 h2 => ?_⟩
      cases i with
      | zero =>
        simp at h1 h2
        subst h1 h2
        exact r
      | succ i => exact g i e' k' (by simpa using h1) (by simpa using h2)
theorem gl_kd {K : PySem.W.Frag} {w : World} {cn : Nat → Addr} {mg : Str → Option Value} {h : Heap} {nm : Str} {a : Addr} {es : Array DictEntry} {n : Nat} {ks : List Str} {ds : List D} (X : K.In h) (Gn : h.Ns mainGlobals mg) (hat : PySem.W.nsIn K mainGlobals nm = some (some (.ref a)))
    (hl : K.lookup a = some ⟨.type "dict", none, .dict es n, #[]⟩) (lit : PySem.W.KeysLit w.params es.toList) (low : (a == sysModules) = false) (c1 : keysAre es.toList ks = true) (c2 : chkGls K 8 (es.toList.map DictEntry.val) ds = true) : Gl ⟨K, w, cn⟩ mg (nm, .kd ks ds) := by
  obtain ⟨vs, rs, kk⟩ := (gl_all (C := ⟨K, w, cn⟩) 8).2 _ _ c2
  obtain ⟨l1, g1⟩ := keys_get c1
  obtain ⟨l2, g2⟩ := vals_map_get rs
  exact ⟨.ref a, .ref a, PySem.W.mg_of X Gn hat, rfl, fun Z H => .kd ⟨⟨es, n, ⟨hl, lit, low⟩, l1, l2, fun i e k v e1 e2 e3 => ⟨g1 i e k e1 e2, g2 i e v e1 e3⟩⟩⟩ (kk Z H)⟩

/-! ### lists of facts -/
def AllI {α : Type} (p : Nat → α → Prop) : Nat → List α → Prop
  | _, [] => True
  | k, x :: xs => p k x ∧ AllI p (k + 1) xs
theorem AllI.get {α : Type} {p : Nat → α → Prop} : ∀ {l : List α} {k : Nat}, AllI p k l → ∀ (i : Nat) x, l[i]? = some x → p (k + i) x
  | [], k, _, i, x, e => by simp at e
  | y :: ys, k, h, 0, x, e => by
    simp at e
    subst e
    exact h.1
  | y :: ys, k, h, i + 1, x, e => by
    have := AllI.get h.2 i x (by simpa using e)
    rw [show k + (i + 1) = k + 1 + i by omega]
    exact this
/-- the law's own def -/
structure LawF (G : Gd) (K : PySem.W.Frag) (mg : Str → Option Value) (f : Nat) (x : Str) : Prop where
  ex : ∃ (qual : Str) (st : Stmt) (fa : Addr) (fd : FuncData) (N : List Str) (d : Def), G.P.defs[f]? = some d ∧ mg "law" = some (.ref fa) ∧ Fun K d.name qual st fa fd ∧ FnScope N [x] (defScope st) ∧ d.np = 1 ∧ d.nn = N.length ∧ N.Nodup ∧
    chkSs G ⟨N, defScope st, fun _ => true⟩ (defBody st) d.body = true ∧ ∀ (s : Shared) (u : Value), BindsTo s fd { pos := [u] } [(x, u)]
theorem law_end {P : Program} {w : World} {K : PySem.W.Frag} {mg : Str → Option Value} {h : Heap} {fa : Addr} {G : Gd} {cn : Nat → Addr} {n f : Nat} {x : Str} (KX : K.In h) (Gn : h.Ns mainGlobals mg) (hmg : mg "law" = some (.ref fa))
    (hD : AllI (fun f d => f ∈ G.tops → DF G K mg f d) 0 G.P.defs) (hC : AllI (CF G K mg cn) 0 G.P.cls) (hO : AllI (fun _ x => mg x = none) 0 G.off) (hg : AllI (fun _ z => Gl ⟨K, w, cn⟩ mg z) 0 G.P.gls) (L : LawF G K mg f x) :
    ∃ fd : FuncData, (∀ (s : Shared) (u : Value), BindsTo s fd { pos := [u] } [(x, u)]) ∧ ∀ base : Heap, K.In base → base.Ns mainGlobals mg → FnG P w K mg base (2 * n) fa fd [x] (spOf ⟨K, w, cn⟩ (callAt G.P n) f) := by
  obtain ⟨qual, st, fa', fd, N, d, h1, h2, h3, h4, h5, h6, h7, h8, h9⟩ := L.ex
  have e := hmg.symm.trans h2
  cases e
  refine ⟨fd, h9, fun base _ _ => ?_⟩
  refine all_ok' (fun f d e => by have := hD.get f d e; rw [Nat.zero_add] at this; exact this) (fun c kl e => by have := hC.get c kl e; rw [Nat.zero_add] at this; exact this) (fun x hx => ?_) (fun g nm d e => ?_) n f d h1 qual st fa fd N [x] h3 h4 h5 h6 h7 h8
  · obtain ⟨i, hi, e⟩ := List.getElem_of_mem hx
    exact hO.get i x (by rw [List.getElem?_eq_getElem hi, e])
  · exact hg.get g (nm, d) e
/-! ### classes -/
theorem mem_lk {β : Type} {m : Str} {b : β} : ∀ {l : List (Str × β)}, l.lookup m = some b → (m, b) ∈ l
  | [], h => by simp at h
  | (k, v) :: l, h => by
    rw [List.lookup_cons] at h
    split at h
    · rename_i e
      cases h
      rw [beq_iff_eq.mp e]
      exact List.mem_cons_self ..
    · exact List.mem_cons_of_mem _ (mem_lk h)
theorem kitTR {K : PySem.W.Frag} {n : String} {C : Addr} {z : ClassData} (cs : PySem.W.clsIn K C = some z) (ty : PySem.W.typeIn K (.ref C) = some (.type "type")) (e : PySem.W.subIn K (.type n) (.ref C) = some false) : PySem.W.kitOne K (.type n) (.ref C) = some false := by
  have h : (Value.type n == Value.ref C) = false := rfl
  unfold PySem.W.kitOne
  rw [h]
  show PySem.W.kitCls K (.type n) (.ref C) = some false
  exact (if_pos (by rw [cs, ty]; show (true && some (Value.type "type") == some (Value.type "type")) = true; decide)).trans e
theorem kitRT {K : PySem.W.Frag} {n : String} {C : Addr} (m : PySem.W.kitMeta n = true) (e : PySem.W.subIn K (.ref C) (.type n) = some false) : PySem.W.kitOne K (.ref C) (.type n) = some false := by
  have h : (Value.ref C == Value.type n) = false := rfl
  unfold PySem.W.kitOne
  rw [h]
  show PySem.W.kitCls K (.ref C) (.type n) = some false
  exact (if_pos m).trans e
theorem kitSelf {K : PySem.W.Frag} {C : Addr} : PySem.W.kitOne K (.ref C) (.ref C) = some true := by
  unfold PySem.W.kitOne
  rw [if_pos (by simp)]
theorem kitRR {K : PySem.W.Frag} {C E : Addr} {z : ClassData} (ne : (C == E) = false) (cs : PySem.W.clsIn K E = some z) (ty : PySem.W.typeIn K (.ref E) = some (.type "type")) (e : PySem.W.subIn K (.ref C) (.ref E) = some false) : PySem.W.kitOne K (.ref C) (.ref E) = some false := by
  have h : (Value.ref C == Value.ref E) = false := by
    rw [beq_eq_false_iff_ne] at ne ⊢
    exact fun z => ne (Value.ref.inj z)
  unfold PySem.W.kitOne
  rw [h]
  show PySem.W.kitCls K (.ref C) (.ref E) = some false
  exact (if_pos (by rw [cs, ty]; show (true && some (Value.type "type") == some (Value.type "type")) = true; decide)).trans e
/-- a law's promise, wherever the classes lie -/
def spAny (K : PySem.W.Frag) (w : World) (P : Pr) (n f : Nat) : SpG := fun vs H Q => ∀ cn, spOf ⟨K, w, cn⟩ (callAt P n) f vs H Q
theorem FnG.any {P0 : Program} {w : World} {K : PySem.W.Frag} {mg : Str → Option Value} {base : Heap} {k : Nat} {fa : Addr} {fd : FuncData} {ps : List Str} {cn : Nat → Addr} {P : Pr} {n f : Nat} (F : FnG P0 w K mg base k fa fd ps (spOf ⟨K, w, cn⟩ (callAt P n) f)) : FnG P0 w K mg base k fa fd ps (spAny K w P n f) :=
  ⟨fun vs H Q h => F.len vs H Q (h cn), fun A outer s H args us vs Q h1 h2 h3 h4 h5 h6 => F.run A outer s H args us vs Q h1 h2 h3 h4 h5 (h6 cn)⟩
end BK

set_option Elab.async false
set_option linter.all false
set_option maxRecDepth 100000
/-! BKm: reckoning by simp: what unfolds, and how far. What comes behind an answer is a named function, so that nothing unfolds ahead of it. -/
namespace BK
open PySem
abbrev R3 := Option (D × Bool × Rho)
section
variable {P : Pr} {cf : Call} {ρ : Rho}
/-! operands -/
def vOpn (ρ : Rho) (i : Nat) : Option Sl → Option (Ad × Rho)
  | some (.sh _ d) => some (.vl d, ρ)
  | some (.ow _ _) => some (.pk i, ρ)
  | _ => none
@[simp] theorem vOpn_sh {i : Nat} {p : Bool} {d : D} : vOpn ρ i (some (.sh p d)) = some (.vl d, ρ) := rfl
@[simp] theorem vOpn_ow {i : Nat} {p : Bool} {d : D} : vOpn ρ i (some (.ow p d)) = some (.pk i, ρ) := rfl
@[simp] theorem opn_var {i : Nat} {r} : opn ρ (.var i) r = vOpn ρ i ρ[i]? := by
  show (match ρ[i]? with
    | some (.sh _ d) => some (Ad.vl d, ρ)
    | some (.ow _ _) => some (Ad.pk i, ρ)
    | _ => none) = _
  rcases ρ[i]? with _ | s <;> first | rfl | (cases s <;> rfl)
def oMap (r : R3) : Option (Ad × Rho) := r.map fun x => (.vl x.1, x.2.2)
@[simp] theorem oMap_some {d : D} {f : Bool} : oMap (some (d, f, ρ)) = some (.vl d, ρ) := rfl
@[simp] theorem oMap_none : oMap none = none := rfl
@[simp] theorem opn_cst {d : D} {r} : opn ρ (.cst d) r = oMap r := rfl
@[simp] theorem opn_glb {g : Nat} {r} : opn ρ (.glb g) r = oMap r := rfl
@[simp] theorem opn_ap1 {o a r} : opn ρ (.ap1 o a) r = oMap r := rfl
@[simp] theorem opn_ap2 {o a b r} : opn ρ (.ap2 o a b) r = oMap r := rfl
@[simp] theorem opn_ap3 {o a b c r} : opn ρ (.ap3 o a b c) r = oMap r := rfl
@[simp] theorem opn_chn {o o' a b c r} : opn ρ (.chn o o' a b c) r = oMap r := rfl
@[simp] theorem opn_tup {es r} : opn ρ (.tup es) r = oMap r := rfl
@[simp] theorem opn_lst {es r} : opn ρ (.lst es) r = oMap r := rfl
@[simp] theorem opn_dsp {ks es r} : opn ρ (.dsp ks es) r = oMap r := rfl
@[simp] theorem opn_ite {c a b r} : opn ρ (.ite c a b) r = oMap r := rfl
@[simp] theorem opn_and {es r} : opn ρ (.and es) r = oMap r := rfl
@[simp] theorem opn_or {es r} : opn ρ (.or es) r = oMap r := rfl
@[simp] theorem opn_not {a r} : opn ρ (.not a) r = oMap r := rfl
@[simp] theorem opn_call {f es r} : opn ρ (.call f es) r = oMap r := rfl
@[simp] theorem opn_new {f es r} : opn ρ (.new f es) r = oMap r := rfl
@[simp] theorem opn_meth {m o es r} : opn ρ (.meth m o es) r = oMap r := rfl
@[simp] theorem opn_mut {m o es r} : opn ρ (.mut m o es) r = oMap r := rfl
@[simp] theorem opn_bm {m o es r} : opn ρ (.bm m o es) r = oMap r := rfl
@[simp] theorem opn_lc {e t i c r} : opn ρ (.lc e t i c) r = oMap r := rfl
@[simp] theorem opn_lc2 {e t i c e1 t1 i1 r} : opn ρ (.lc2 e t i c e1 t1 i1) r = oMap r := rfl
@[simp] theorem opn_lcw {e t i c r} : opn ρ (.lcw e t i c) r = oMap r := rfl
@[simp] theorem opn_att {n e r} : opn ρ (.att n e) r = oMap r := rfl
@[simp] theorem opn_lrg {i r} : opn ρ (.lrg i) r = oMap r := rfl
@[simp] theorem opn_isi {ts e r} : opn ρ (.isi ts e) r = oMap r := rfl
@[simp] theorem opn_tmp {a r} : opn ρ (.tmp a) r = oMap r := rfl
@[simp] theorem opn_pick {es k r} : opn ρ (.pick es k) r = oMap r := rfl
@[simp] theorem opn_nev {r} : opn ρ .nev r = oMap r := rfl
@[simp] theorem rs_vl {d : D} : rs ρ (.vl d) = some d := rfl
def vPk : Option Sl → Option D
  | some (.ow _ d) => some d
  | _ => none
@[simp] theorem vPk_ow {p : Bool} {d : D} : vPk (some (.ow p d)) = some d := rfl
@[simp] theorem rs_pk {i : Nat} : rs ρ (.pk i) = vPk ρ[i]? := by
  show (match ρ[i]? with
    | some (.ow _ d) => some d
    | _ => none) = _
  rcases ρ[i]? with _ | s <;> first | rfl | (cases s <;> rfl)
/-! expressions -/
def vEv (ρ : Rho) (i : Nat) : Option Sl → R3
  | some (.sh _ d) => some (d, false, ρ)
  | some (.ow p d) => some (d, false, ρ.set i (.sh p d))
  | _ => none
@[simp] theorem vEv_sh {i : Nat} {p : Bool} {d : D} : vEv ρ i (some (.sh p d)) = some (d, false, ρ) := rfl
@[simp] theorem vEv_ow {i : Nat} {p : Bool} {d : D} : vEv ρ i (some (.ow p d)) = some (d, false, ρ.set i (.sh p d)) := rfl
@[simp] theorem ev_var {i : Nat} : ev P cf ρ (.var i) = vEv ρ i ρ[i]? := by
  simp only [ev]
  rcases ρ[i]? with _ | s <;> first | rfl | (cases s <;> rfl)
@[simp] theorem ev_int {i : Int} : ev P cf ρ (.cst (.int i)) = some (.int i, false, ρ) := by simp [ev, D.flat]
@[simp] theorem ev_str {x : Str} : ev P cf ρ (.cst (.str x)) = some (.str x, false, ρ) := by simp [ev, D.flat]
@[simp] theorem ev_bl {b : Bool} : ev P cf ρ (.cst (.bl b)) = some (.bl b, false, ρ) := by simp [ev, D.flat]
@[simp] theorem ev_non : ev P cf ρ (.cst .non) = some (.non, false, ρ) := by simp [ev, D.flat]
def kGl (ρ : Rho) : Option (Str × D) → R3
  | some x => some (x.2, false, ρ)
  | none => none
@[simp] theorem kGl_some {x : Str} {d : D} : kGl ρ (some (x, d)) = some (d, false, ρ) := rfl
@[simp] theorem ev_glb {g : Nat} : ev P cf ρ (.glb g) = kGl ρ P.gls[g]? := by
  simp only [ev]
  cases P.gls[g]? <;> rfl
def kR (ρ : Rho) : Option (D × Bool) → R3
  | some r => some (r.1, r.2, ρ)
  | none => none
@[simp] theorem kR_some {d : D} {f : Bool} : kR ρ (some (d, f)) = some (d, f, ρ) := rfl
/-! operators that an own class says -/
def kPo (fr : Bool) (ρ : Rho) : Option D → R3
  | some d => some (d, fr, ρ)
  | none => none
@[simp] theorem kPo_some {fr : Bool} {d : D} : kPo fr ρ (some d) = some (d, fr, ρ) := rfl
def kEnd (o : Op) : R3 → R3
  | some (d, fr, ρ) => kPo fr ρ (post o d)
  | none => none
@[simp] theorem kEnd_some {o : Op} {d : D} {fr : Bool} : kEnd o (some (d, fr, ρ)) = kPo fr ρ (post o d) := rfl
@[simp] theorem ownEnd_eq {o : Op} {r : R3} : ownEnd o r = kEnd o r := by
  rcases r with _ | ⟨d, fr, ρ1⟩
  · rfl
  · show (post o d).map _ = kPo fr ρ1 (post o d)
    rcases post o d with _ | q <;> rfl
def kBack (d : D) (fr : Bool) : Option Rho → R3
  | some ρ => some (d, fr, ρ)
  | none => none
@[simp] theorem kBack_some {d : D} {fr : Bool} : kBack d fr (some ρ) = some (d, fr, ρ) := rfl
def kRet (ρ : Rho) (as : List Ad) : Option (D × Bool × List Sl) → R3
  | some (d, fr, os) => kBack d fr (back ρ as os)
  | none => none
@[simp] theorem kRet_some {as : List Ad} {d : D} {fr : Bool} {os : List Sl} : kRet ρ as (some (d, fr, os)) = kBack d fr (back ρ as os) := rfl
def kGo (cf : Call) (f : Nat) (ρ : Rho) (as : List Ad) : Option (List Sl) → R3
  | some sl => if distinct (lent as) then kRet ρ as (cf f sl) else none
  | none => none
@[simp] theorem kGo_some {f : Nat} {as : List Ad} {sl : List Sl} : kGo cf f ρ as (some sl) = if distinct (lent as) then kRet ρ as (cf f sl) else none := rfl
theorem go_eq {f : Nat} {as : List Ad} : ((argsOf ρ as).bind fun sl => if distinct (lent as) = true then (cf f sl).bind fun x => (back ρ as x.2.2).map fun ρ2 => (x.1, x.2.1, ρ2) else none) = kGo cf f ρ as (argsOf ρ as) := by
  rcases argsOf ρ as with _ | sl
  · rfl
  · show (if _ then _ else _) = if _ then _ else _
    split
    · rcases cf f sl with _ | ⟨d, fr, os⟩
      · rfl
      · show (back ρ as os).map _ = kBack d fr (back ρ as os)
        rcases back ρ as os with _ | r <;> rfl
    · rfl
def kMth (cf : Call) (ρ : Rho) (as : List Ad) : Option Nat → R3
  | some f => kGo cf f ρ as (argsOf ρ as)
  | none => none
@[simp] theorem kMth_some {as : List Ad} {f : Nat} : kMth cf ρ as (some f) = kGo cf f ρ as (argsOf ρ as) := rfl
@[simp] theorem ownGo_eq {c : Nat} {m : Str} {as : List Ad} : ownGo P cf c m ρ as = kMth cf ρ as (mth P c m) := by
  unfold ownGo
  rcases mth P c m with _ | f
  · rfl
  · exact go_eq
@[simp] theorem isIns_non : isIns .non = none := rfl
@[simp] theorem isIns_bl {b : Bool} : isIns (.bl b) = none := rfl
@[simp] theorem isIns_int {i : Int} : isIns (.int i) = none := rfl
@[simp] theorem isIns_str {x : Str} : isIns (.str x) = none := rfl
@[simp] theorem isIns_lst {xs : List D} : isIns (.lst xs) = none := rfl
@[simp] theorem isIns_rl {xs : List D} : isIns (.rl xs) = none := rfl
@[simp] theorem isIns_tup {xs : List D} : isIns (.tup xs) = none := rfl
@[simp] theorem isIns_dk {ks : List L2.Key} {vs : List D} : isIns (.dk ks vs) = none := rfl
@[simp] theorem isIns_kd {ks : List Str} {vs : List D} : isIns (.kd ks vs) = none := rfl
@[simp] theorem isIns_ins {c : Nat} {ns : List Str} {vs : List D} : isIns (.ins c ns vs) = some c := rfl
def sp1 (m : Str) : Option Nat → Option (Nat × Str)
  | some c => some (c, m)
  | none => none
@[simp] theorem sp1_some {m : Str} {c : Nat} : sp1 m (some c) = some (c, m) := rfl
@[simp] theorem sp1_none {m : Str} : sp1 m none = none := rfl
def sp2 (m : Str) (sw : Bool) : Option Nat → Option (Nat × Str × Bool)
  | some c => some (c, m, sw)
  | none => none
@[simp] theorem sp2_some {m : Str} {sw : Bool} {c : Nat} : sp2 m sw (some c) = some (c, m, sw) := rfl
@[simp] theorem sp2_none {m : Str} {sw : Bool} : sp2 m sw none = none := rfl
def spB (m : Str) : Option Nat → Option Nat → Option (Nat × Str × Bool)
  | some c, some c' => if c = c' then some (c, m, false) else none
  | _, _ => none
@[simp] theorem spB_some {m : Str} {c c' : Nat} : spB m (some c) (some c') = if c = c' then some (c, m, false) else none := rfl
@[simp] theorem spB_n1 {m : Str} {x : Option Nat} : spB m none x = none := rfl
@[simp] theorem spB_n2 {m : Str} {x : Option Nat} : spB m x none = none := by cases x <;> rfl
theorem both_eq {d e : D} {m : Str} : both d e m = spB m (isIns d) (isIns e) := by
  unfold both
  rcases isIns d with _ | c
  · rfl
  · rcases isIns e with _ | c' <;> rfl
@[simp] theorem spc1_inv {d : D} : spc1 .inv d = sp1 "__invert__" (isIns d) := by show (isIns d).map _ = _; rcases isIns d with _ | c <;> rfl
@[simp] theorem spc1_len {d : D} : spc1 .len d = sp1 "__len__" (isIns d) := by show (isIns d).map _ = _; rcases isIns d with _ | c <;> rfl
@[simp] theorem spc1_neg {d : D} : spc1 .neg d = none := rfl
@[simp] theorem spc1_abs {d : D} : spc1 .abs d = none := rfl
@[simp] theorem spc1_int {d : D} : spc1 .int d = none := rfl
@[simp] theorem spc1_repr {d : D} : spc1 .repr d = none := rfl
@[simp] theorem spc1_list {d : D} : spc1 .list d = none := rfl
@[simp] theorem spc1_tup {d : D} : spc1 .tup d = none := rfl
@[simp] theorem spc1_sort {d : D} : spc1 .sort d = none := rfl
@[simp] theorem spc1_fld {d : D} {n : Str} : spc1 (.fld n) d = none := rfl
@[simp] theorem spc1_isi {d : D} {ts : List Ty} : spc1 (.isi ts) d = none := rfl
@[simp] theorem spc1_isB {d : D} {b : Bool} : spc1 (.isB b) d = none := rfl
@[simp] theorem spc1_notB {d : D} {b : Bool} : spc1 (.notB b) d = none := rfl
@[simp] theorem spc1_isN {d : D} : spc1 .isN d = none := rfl
@[simp] theorem spc1_notN {d : D} : spc1 .notN d = none := rfl
@[simp] theorem spc1_all {d : D} : spc1 .all d = none := rfl
@[simp] theorem spc1_any {d : D} : spc1 .any d = none := rfl
@[simp] theorem spc1_sum {d : D} : spc1 .sum d = none := rfl
@[simp] theorem spc1_max {d : D} : spc1 .max d = none := rfl
@[simp] theorem spc1_min {d : D} : spc1 .min d = none := rfl
@[simp] theorem spc1_rev {d : D} : spc1 .rev d = none := rfl
@[simp] theorem spc1_sl {d : D} {a b : Bool} : spc1 (.sl a b) d = none := rfl
@[simp] theorem spc2_bor {d e : D} : spc2 .bor d e = spB "__or__" (isIns d) (isIns e) := both_eq
@[simp] theorem spc2_band {d e : D} : spc2 .band d e = spB "__and__" (isIns d) (isIns e) := both_eq
@[simp] theorem spc2_sub {d e : D} : spc2 .sub d e = spB "__sub__" (isIns d) (isIns e) := both_eq
@[simp] theorem spc2_eq {d e : D} : spc2 .eq d e = spB "__eq__" (isIns d) (isIns e) := both_eq
@[simp] theorem spc2_ne {d e : D} : spc2 .ne d e = spB "__eq__" (isIns d) (isIns e) := both_eq
@[simp] theorem spc2_isin {d e : D} : spc2 .isin d e = sp2 "__contains__" true (isIns e) := by show (isIns e).map _ = _; rcases isIns e with _ | c <;> rfl
@[simp] theorem spc2_notin {d e : D} : spc2 .notin d e = sp2 "__contains__" true (isIns e) := by show (isIns e).map _ = _; rcases isIns e with _ | c <;> rfl
@[simp] theorem spc2_idx {d e : D} : spc2 .idx d e = sp2 "__getitem__" false (isIns d) := by show (isIns d).map _ = _; rcases isIns d with _ | c <;> rfl
@[simp] theorem spc2_add {d e : D} : spc2 .add d e = none := rfl
@[simp] theorem spc2_mul {d e : D} : spc2 .mul d e = none := rfl
@[simp] theorem spc2_fdiv {d e : D} : spc2 .fdiv d e = none := rfl
@[simp] theorem spc2_mod {d e : D} : spc2 .mod d e = none := rfl
@[simp] theorem spc2_pow {d e : D} : spc2 .pow d e = none := rfl
@[simp] theorem spc2_lt {d e : D} : spc2 .lt d e = none := rfl
@[simp] theorem spc2_le {d e : D} : spc2 .le d e = none := rfl
@[simp] theorem spc2_gt {d e : D} : spc2 .gt d e = none := rfl
@[simp] theorem spc2_ge {d e : D} : spc2 .ge d e = none := rfl
@[simp] theorem spc2_sl {d e : D} {a b : Bool} : spc2 (.sl a b) d e = none := rfl
def kS1 (P : Pr) (cf : Call) (o : Op) (a : Ad) (ρ : Rho) (d : D) : Option (Nat × Str) → R3
  | some x => kEnd o (kMth cf ρ [a] (mth P x.1 x.2))
  | none => kR ρ (op1 o d)
@[simp] theorem kS1_some {o : Op} {a : Ad} {d : D} {c : Nat} {m : Str} : kS1 P cf o a ρ d (some (c, m)) = kEnd o (kMth cf ρ [a] (mth P c m)) := rfl
@[simp] theorem kS1_none {o : Op} {a : Ad} {d : D} : kS1 P cf o a ρ d none = kR ρ (op1 o d) := rfl
def k1b (P : Pr) (cf : Call) (o : Op) (a : Ad) (ρ : Rho) : Option D → R3
  | some d => kS1 P cf o a ρ d (spc1 o d)
  | none => none
@[simp] theorem k1b_some {o : Op} {a : Ad} {d : D} : k1b P cf o a ρ (some d) = kS1 P cf o a ρ d (spc1 o d) := rfl
def k1 (P : Pr) (cf : Call) (o : Op) : Option (Ad × Rho) → R3
  | some x => k1b P cf o x.1 x.2 (rs x.2 x.1)
  | none => none
@[simp] theorem k1_some {o : Op} {a : Ad} : k1 P cf o (some (a, ρ)) = k1b P cf o a ρ (rs ρ a) := rfl
@[simp] theorem ev_ap1 {o : Op} {a : E} : ev P cf ρ (.ap1 o a) = k1 P cf o (opn ρ a (ev P cf ρ a)) := by
  simp only [ev]
  rcases opn ρ a (ev P cf ρ a) with _ | ⟨x, ρ1⟩
  · rfl
  · rw [Option.bind_some]
    show _ = k1b P cf o x ρ1 (rs ρ1 x)
    rcases rs ρ1 x with _ | d
    · rfl
    · rw [Option.bind_some, k1b_some]
      rcases spc1 o d with _ | ⟨c, m⟩
      · show (op1 o d).map _ = kR ρ1 (op1 o d)
        rcases op1 o d with _ | ⟨r, f⟩ <;> rfl
      · show ownEnd o (ownGo P cf c m ρ1 [x]) = _
        rw [ownEnd_eq, ownGo_eq]
        rfl
def kS2 (P : Pr) (cf : Call) (o : Op) (a b : Ad) (ρ : Rho) (d e : D) : Option (Nat × Str × Bool) → R3
  | some x => kEnd o (kMth cf ρ (swp x.2.2 a b) (mth P x.1 x.2.1))
  | none => kR ρ (op2 o d e)
@[simp] theorem kS2_some {o : Op} {a b : Ad} {d e : D} {c : Nat} {m : Str} {sw : Bool} : kS2 P cf o a b ρ d e (some (c, m, sw)) = kEnd o (kMth cf ρ (swp sw a b) (mth P c m)) := rfl
@[simp] theorem kS2_none {o : Op} {a b : Ad} {d e : D} : kS2 P cf o a b ρ d e none = kR ρ (op2 o d e) := rfl
@[simp] theorem swp_t {a b : Ad} : swp true a b = [b, a] := rfl
@[simp] theorem swp_f {a b : Ad} : swp false a b = [a, b] := rfl
def k2d (P : Pr) (cf : Call) (o : Op) (a b : Ad) (ρ : Rho) : Option D → Option D → R3
  | some d, some e => kS2 P cf o a b ρ d e (spc2 o d e)
  | _, _ => none
@[simp] theorem k2d_some {o : Op} {a b : Ad} {d e : D} : k2d P cf o a b ρ (some d) (some e) = kS2 P cf o a b ρ d e (spc2 o d e) := rfl
def k2b (P : Pr) (cf : Call) (o : Op) (a : Ad) : Option (Ad × Rho) → R3
  | some y => k2d P cf o a y.1 y.2 (rs y.2 a) (rs y.2 y.1)
  | none => none
@[simp] theorem k2b_some {o : Op} {a b : Ad} : k2b P cf o a (some (b, ρ)) = k2d P cf o a b ρ (rs ρ a) (rs ρ b) := rfl
def k2 (P : Pr) (cf : Call) (o : Op) (b : E) : Option (Ad × Rho) → R3
  | some x => k2b P cf o x.1 (opn x.2 b (ev P cf x.2 b))
  | none => none
@[simp] theorem k2_some {o : Op} {b : E} {a : Ad} : k2 P cf o b (some (a, ρ)) = k2b P cf o a (opn ρ b (ev P cf ρ b)) := rfl
@[simp] theorem ev_ap2 {o : Op} {a b : E} : ev P cf ρ (.ap2 o a b) = k2 P cf o b (opn ρ a (ev P cf ρ a)) := by
  simp only [ev]
  rcases opn ρ a (ev P cf ρ a) with _ | ⟨x, ρ1⟩
  · rfl
  · rw [Option.bind_some]
    show _ = k2b P cf o x (opn ρ1 b (ev P cf ρ1 b))
    rcases opn ρ1 b (ev P cf ρ1 b) with _ | ⟨y, ρ2⟩
    · rfl
    · rw [Option.bind_some]
      show _ = k2d P cf o x y ρ2 (rs ρ2 x) (rs ρ2 y)
      show (rs ρ2 x).bind _ = _
      rcases rs ρ2 x with _ | d
      · rfl
      · rw [Option.bind_some]
        show (rs ρ2 y).bind _ = _
        rcases rs ρ2 y with _ | e
        · rfl
        · rw [Option.bind_some, k2d_some]
          show (match spc2 o d e with
            | some (c, m, sw) => ownEnd o (ownGo P cf c m ρ2 (swp sw x y))
            | none => (op2 o d e).map fun (r, f) => (r, f, ρ2)) = _
          rcases spc2 o d e with _ | ⟨c, m, sw⟩
          · show (op2 o d e).map _ = kR ρ2 (op2 o d e)
            rcases op2 o d e with _ | ⟨r, f⟩ <;> rfl
          · show ownEnd o (ownGo P cf c m ρ2 (swp sw x y)) = _
            rw [ownEnd_eq, ownGo_eq]
            rfl
def kIsD (P : Pr) (ts : List Ty) (ρ : Rho) : Option D → R3
  | some d => if okI P d then some (.bl (ts.any fun t => d.isi t), false, ρ) else none
  | none => none
@[simp] theorem kIsD_some {ts : List Ty} {d : D} : kIsD P ts ρ (some d) = if okI P d then some (.bl (ts.any fun t => d.isi t), false, ρ) else none := rfl
def kIs (P : Pr) (ts : List Ty) : Option (Ad × Rho) → R3
  | some (a, ρ) => kIsD P ts ρ (rs ρ a)
  | none => none
@[simp] theorem kIs_some {ts : List Ty} {a : Ad} : kIs P ts (some (a, ρ)) = kIsD P ts ρ (rs ρ a) := rfl
@[simp] theorem ev_isi {ts : List Ty} {e : E} : ev P cf ρ (.isi ts e) = kIs P ts (opn ρ e (ev P cf ρ e)) := by
  simp only [ev]
  rcases opn ρ e (ev P cf ρ e) with _ | ⟨a, ρ1⟩
  · rfl
  · rw [Option.bind_some]
    show (rs ρ1 a).bind _ = kIsD P ts ρ1 (rs ρ1 a)
    rcases rs ρ1 a with _ | d <;> rfl
def kAtR (ρ : Rho) : Option D → R3
  | some d => some (d, false, ρ)
  | none => none
@[simp] theorem kAtR_some {d : D} : kAtR ρ (some d) = some (d, false, ρ) := rfl
def kAtD (P : Pr) (n : Str) (ρ : Rho) : Option D → R3
  | some (.ins c ns vs) => if (P.cls[c]?).any fun k => k.fs.contains n then kAtR ρ (fget ns vs n) else none
  | _ => none
@[simp] theorem kAtD_some {n : Str} {c : Nat} {ns : List Str} {vs : List D} : kAtD P n ρ (some (.ins c ns vs)) = if (P.cls[c]?).any fun k => k.fs.contains n then kAtR ρ (fget ns vs n) else none := rfl
def kAtt (P : Pr) (n : Str) : Option (Ad × Rho) → R3
  | some (a, ρ) => kAtD P n ρ (rs ρ a)
  | none => none
@[simp] theorem kAtt_some {n : Str} {a : Ad} : kAtt P n (some (a, ρ)) = kAtD P n ρ (rs ρ a) := rfl
@[simp] theorem ev_att {n : Str} {e : E} : ev P cf ρ (.att n e) = kAtt P n (opn ρ e (ev P cf ρ e)) := by
  simp only [ev]
  rcases opn ρ e (ev P cf ρ e) with _ | ⟨a, ρ1⟩
  · rfl
  · rw [Option.bind_some]
    show (rs ρ1 a).bind _ = kAtD P n ρ1 (rs ρ1 a)
    rcases rs ρ1 a with _ | d
    · rfl
    · cases d <;> try rfl
      rename_i c ns vs
      show (if _ then _ else _) = if _ then _ else _
      split
      · rcases fget ns vs n with _ | r <;> rfl
      · rfl
def kTmp (ρ : Rho) : R3 → R3
  | some (d, _, _) => if d.flat then some (d, false, ρ) else none
  | none => none
@[simp] theorem kTmp_some {d : D} {f : Bool} {ρ1 : Rho} : kTmp ρ (some (d, f, ρ1)) = if d.flat then some (d, false, ρ) else none := rfl
@[simp] theorem ev_tmp {a : E} : ev P cf ρ (.tmp a) = kTmp ρ (ev P cf (shR ρ) a) := by
  simp only [ev]
  rcases ev P cf (shR ρ) a with _ | ⟨d, f, ρ1⟩ <;> rfl
@[simp] theorem shR_nil : shR [] = [] := rfl
@[simp] theorem shR_un {ρ : Rho} : shR (.un :: ρ) = .un :: shR ρ := rfl
@[simp] theorem shR_sh {ρ : Rho} {p : Bool} {d : D} : shR (.sh p d :: ρ) = .sh p d :: shR ρ := rfl
@[simp] theorem shR_ow {ρ : Rho} {p : Bool} {d : D} : shR (.ow p d :: ρ) = .sh p d :: shR ρ := rfl
@[simp] theorem ev_nev : ev P cf ρ .nev = none := by simp only [ev]
def kPx (ρ : Rho) : Option (D × Bool) → R3
  | some r => some (r.1, r.2, ρ)
  | none => none
@[simp] theorem kPx_some {d : D} {f : Bool} : kPx ρ (some (d, f)) = some (d, f, ρ) := rfl
def kPk2 (ds : List (D × Bool)) : R3 → R3
  | some (.int n, _, ρ) => kPx ρ (L2.atI ds n)
  | _ => none
@[simp] theorem kPk2_some {ds : List (D × Bool)} {n : Int} {f : Bool} : kPk2 ds (some (.int n, f, ρ)) = kPx ρ (L2.atI ds n) := rfl
def kPk1 (P : Pr) (cf : Call) (k : E) : Option (List (D × Bool) × Rho) → R3
  | some (ds, ρ) => if ds.length ≤ most then kPk2 ds (ev P cf ρ k) else none
  | none => none
@[simp] theorem kPk1_some {k : E} {ds : List (D × Bool)} : kPk1 P cf k (some (ds, ρ)) = if ds.length ≤ most then kPk2 ds (ev P cf ρ k) else none := rfl
@[simp] theorem ev_pick {es : Es} {k : E} : ev P cf ρ (.pick es k) = kPk1 P cf k (evf P cf ρ es) := by
  simp only [ev]
  rcases evf P cf ρ es with _ | ⟨ds, ρ1⟩
  · rfl
  · show (if _ then _ else _) = if _ then _ else _
    split
    · rcases ev P cf ρ1 k with _ | ⟨i, f, ρ2⟩
      · rfl
      · cases i <;> try rfl
        rename_i n
        show (L2.atI ds n).map _ = kPx ρ2 (L2.atI ds n)
        rcases L2.atI ds n with _ | r <;> rfl
    · rfl
def kTup (f : List D → D × Bool) : Option (List D × Rho) → R3
  | some x => if x.1.length ≤ most then some ((f x.1).1, (f x.1).2, x.2) else none
  | none => none
def mkT (xs : List D) : D × Bool := (.tup xs, false)
def mkL (xs : List D) : D × Bool := (.lst xs, true)
@[simp] theorem kTup_t {xs : List D} : kTup mkT (some (xs, ρ)) = if xs.length ≤ most then some (.tup xs, false, ρ) else none := rfl
@[simp] theorem kTup_l {xs : List D} : kTup mkL (some (xs, ρ)) = if xs.length ≤ most then some (.lst xs, true, ρ) else none := rfl
@[simp] theorem ev_tup {es : Es} : ev P cf ρ (.tup es) = kTup mkT (evs P cf ρ es) := by
  simp only [ev]
  rcases evs P cf ρ es with _ | ⟨x, ρ1⟩ <;> rfl
@[simp] theorem ev_lst {es : Es} : ev P cf ρ (.lst es) = kTup mkL (evs P cf ρ es) := by
  simp only [ev]
  rcases evs P cf ρ es with _ | ⟨x, ρ1⟩ <;> rfl
def kDsp (ks : List Str) : Option (List D × Rho) → R3
  | some x => if ks.length = x.1.length ∧ ks.length ≤ 15 ∧ ks.Nodup then some (.dk (ks.map Sum.inr) x.1, true, x.2) else none
  | none => none
@[simp] theorem kDsp_some {ks : List Str} {xs : List D} : kDsp ks (some (xs, ρ)) = if ks.length = xs.length ∧ ks.length ≤ 15 ∧ ks.Nodup then some (.dk (ks.map Sum.inr) xs, true, ρ) else none := rfl
@[simp] theorem ev_dsp {ks : List Str} {es : Es} : ev P cf ρ (.dsp ks es) = kDsp ks (evs P cf ρ es) := by
  simp only [ev]
  rcases evs P cf ρ es with _ | ⟨x, ρ1⟩ <;> rfl
def kIte (P : Pr) (cf : Call) (a b : E) : Option (Bool × Rho) → R3
  | some (true, ρ) => ev P cf ρ a
  | some (false, ρ) => ev P cf ρ b
  | none => none
@[simp] theorem kIte_t {a b : E} : kIte P cf a b (some (true, ρ)) = ev P cf ρ a := rfl
@[simp] theorem kIte_f {a b : E} : kIte P cf a b (some (false, ρ)) = ev P cf ρ b := rfl
@[simp] theorem ev_ite {c : T} {a b : E} : ev P cf ρ (.ite c a b) = kIte P cf a b (evT P cf ρ c) := by
  simp only [ev]
  rcases evT P cf ρ c with _ | ⟨x, ρ1⟩ <;> first | rfl | (cases x <;> rfl)
def kBl : Option (Bool × Rho) → R3
  | some (t, ρ) => some (.bl t, false, ρ)
  | none => none
@[simp] theorem kBl_some {t : Bool} : kBl (some (t, ρ)) = some (.bl t, false, ρ) := rfl
@[simp] theorem ev_and {es : Es} : ev P cf ρ (.and es) = kBl (evAnd P cf ρ es) := by
  simp only [ev]
  rcases evAnd P cf ρ es with _ | ⟨x, ρ1⟩ <;> rfl
@[simp] theorem ev_or {es : Es} : ev P cf ρ (.or es) = kBl (evOr P cf ρ es) := by
  simp only [ev]
  rcases evOr P cf ρ es with _ | ⟨x, ρ1⟩ <;> rfl
def kNot : R3 → R3
  | some (.bl t, _, ρ) => some (.bl (!t), false, ρ)
  | _ => none
@[simp] theorem kNot_some {t f : Bool} : kNot (some (.bl t, f, ρ)) = some (.bl (!t), false, ρ) := rfl
@[simp] theorem ev_not {a : E} : ev P cf ρ (.not a) = kNot (ev P cf ρ a) := by
  simp only [ev]
  rcases ev P cf ρ a with _ | ⟨x, f, ρ1⟩ <;> first | rfl | (cases x <;> rfl)
def kCall (cf : Call) (f : Nat) : Option (List Ad × Rho) → R3
  | some (as, ρ) => kGo cf f ρ as (argsOf ρ as)
  | none => none
@[simp] theorem kCall_some {f : Nat} {as : List Ad} : kCall cf f (some (as, ρ)) = kGo cf f ρ as (argsOf ρ as) := rfl
@[simp] theorem ev_call {f : Nat} {es : Es} : ev P cf ρ (.call f es) = kCall cf f (evos P cf ρ es) := by
  simp only [ev]
  rcases evos P cf ρ es with _ | ⟨as, ρ1⟩
  · rfl
  · show (argsOf ρ1 as).bind _ = kGo cf f ρ1 as (argsOf ρ1 as)
    rcases argsOf ρ1 as with _ | sl
    · rfl
    · show (if _ then _ else _) = if _ then _ else _
      split
      · show (cf f sl).bind _ = kRet ρ1 as (cf f sl)
        rcases cf f sl with _ | ⟨d, fr, os⟩
        · rfl
        · show (back ρ1 as os).map _ = kBack d fr (back ρ1 as os)
          rcases back ρ1 as os with _ | r <;> rfl
      · rfl
def kBmR (ρ : Rho) : Option D → R3
  | some r => some (r, false, ρ)
  | none => none
@[simp] theorem kBmR_some {d : D} : kBmR ρ (some d) = some (d, false, ρ) := rfl
def kBmD (m : Bm) (ρ : Rho) (ds : List D) : Option D → R3
  | some d => kBmR ρ (bmOp m d ds)
  | none => none
@[simp] theorem kBmD_some {m : Bm} {ds : List D} {d : D} : kBmD m ρ ds (some d) = kBmR ρ (bmOp m d ds) := rfl
def kBmA (m : Bm) (a : Ad) : Option (List D × Rho) → R3
  | some (ds, ρ) => kBmD m ρ ds (rs ρ a)
  | none => none
@[simp] theorem kBmA_some {m : Bm} {a : Ad} {ds : List D} : kBmA m a (some (ds, ρ)) = kBmD m ρ ds (rs ρ a) := rfl
def kBmT (P : Pr) (cf : Call) (m : Bm) (es : Es) (a : Ad) (ρ : Rho) : Option D → R3
  | some d => if bmTy m d then kBmA m a (evs P cf ρ es) else none
  | none => none
@[simp] theorem kBmT_some {m : Bm} {es : Es} {a : Ad} {d : D} : kBmT P cf m es a ρ (some d) = if bmTy m d then kBmA m a (evs P cf ρ es) else none := rfl
def kBm (P : Pr) (cf : Call) (m : Bm) (es : Es) : Option (Ad × Rho) → R3
  | some (a, ρ) => kBmT P cf m es a ρ (rs ρ a)
  | none => none
@[simp] theorem kBm_some {m : Bm} {es : Es} {a : Ad} : kBm P cf m es (some (a, ρ)) = kBmT P cf m es a ρ (rs ρ a) := rfl
@[simp] theorem ev_bm {m : Bm} {o : E} {es : Es} : ev P cf ρ (.bm m o es) = kBm P cf m es (opn ρ o (ev P cf ρ o)) := by
  simp only [ev]
  rcases opn ρ o (ev P cf ρ o) with _ | ⟨x, ρ1⟩
  · rfl
  · show (rs ρ1 x).bind _ = kBmT P cf m es x ρ1 (rs ρ1 x)
    rcases rs ρ1 x with _ | d0
    · rfl
    · show (if _ then _ else _) = if _ then _ else _
      split
      · show (evs P cf ρ1 es).bind _ = kBmA m x (evs P cf ρ1 es)
        rcases evs P cf ρ1 es with _ | ⟨ds, ρ2⟩
        · rfl
        · show (rs ρ2 x).bind _ = kBmD m ρ2 ds (rs ρ2 x)
          rcases rs ρ2 x with _ | d
          · rfl
          · show (bmOp m d ds).map _ = kBmR ρ2 (bmOp m d ds)
            rcases bmOp m d ds with _ | r <;> rfl
      · rfl
def kAnd (P : Pr) (cf : Call) (es : Es) : R3 → Option (Bool × Rho)
  | some (.bl true, _, ρ) => evAnd P cf ρ es
  | some (.bl false, _, ρ) => some (false, ρ)
  | _ => none
@[simp] theorem kAnd_t {es : Es} {f : Bool} : kAnd P cf es (some (.bl true, f, ρ)) = evAnd P cf ρ es := rfl
@[simp] theorem kAnd_f {es : Es} {f : Bool} : kAnd P cf es (some (.bl false, f, ρ)) = some (false, ρ) := rfl
@[simp] theorem evAnd_nil : evAnd P cf ρ .nil = some (true, ρ) := by simp only [evAnd]
@[simp] theorem evAnd_cons {e : E} {es : Es} : evAnd P cf ρ (.cons e es) = kAnd P cf es (ev P cf ρ e) := by
  simp only [evAnd]
  rcases ev P cf ρ e with _ | ⟨x, f, ρ1⟩
  · rfl
  · cases x <;> first | rfl | (rename_i b; cases b <;> rfl)
def kOr (P : Pr) (cf : Call) (es : Es) : R3 → Option (Bool × Rho)
  | some (.bl true, _, ρ) => some (true, ρ)
  | some (.bl false, _, ρ) => evOr P cf ρ es
  | _ => none
@[simp] theorem kOr_t {es : Es} {f : Bool} : kOr P cf es (some (.bl true, f, ρ)) = some (true, ρ) := rfl
@[simp] theorem kOr_f {es : Es} {f : Bool} : kOr P cf es (some (.bl false, f, ρ)) = evOr P cf ρ es := rfl
@[simp] theorem evOr_nil : evOr P cf ρ .nil = some (false, ρ) := by simp only [evOr]
@[simp] theorem evOr_cons {e : E} {es : Es} : evOr P cf ρ (.cons e es) = kOr P cf es (ev P cf ρ e) := by
  simp only [evOr]
  rcases ev P cf ρ e with _ | ⟨x, f, ρ1⟩
  · rfl
  · cases x <;> first | rfl | (rename_i b; cases b <;> rfl)
def kC2 {α : Type} (d : α) : Option (List α × Rho) → Option (List α × Rho)
  | some (ds, ρ) => some (d :: ds, ρ)
  | none => none
@[simp] theorem kC2_some {α : Type} {d : α} {ds : List α} : kC2 d (some (ds, ρ)) = some (d :: ds, ρ) := rfl
def kEs (P : Pr) (cf : Call) (es : Es) : R3 → Option (List D × Rho)
  | some (d, _, ρ) => kC2 d (evs P cf ρ es)
  | none => none
@[simp] theorem kEs_some {es : Es} {d : D} {f : Bool} : kEs P cf es (some (d, f, ρ)) = kC2 d (evs P cf ρ es) := rfl
@[simp] theorem evs_nil : evs P cf ρ .nil = some ([], ρ) := by simp only [evs]
@[simp] theorem evs_cons {e : E} {es : Es} : evs P cf ρ (.cons e es) = kEs P cf es (ev P cf ρ e) := by
  simp only [evs]
  rcases ev P cf ρ e with _ | ⟨x, f, ρ1⟩
  · rfl
  · show (evs P cf ρ1 es).map _ = kC2 x (evs P cf ρ1 es)
    rcases evs P cf ρ1 es with _ | ⟨ds, ρ2⟩ <;> rfl
def kFs (P : Pr) (cf : Call) (es : Es) : R3 → Option (List (D × Bool) × Rho)
  | some (d, f, ρ) => kC2 (d, f) (evf P cf ρ es)
  | none => none
@[simp] theorem kFs_some {es : Es} {d : D} {f : Bool} : kFs P cf es (some (d, f, ρ)) = kC2 (d, f) (evf P cf ρ es) := rfl
@[simp] theorem evf_nil : evf P cf ρ .nil = some ([], ρ) := by simp only [evf]
@[simp] theorem evf_cons {e : E} {es : Es} : evf P cf ρ (.cons e es) = kFs P cf es (ev P cf ρ e) := by
  simp only [evf]
  rcases ev P cf ρ e with _ | ⟨x, f, ρ1⟩
  · rfl
  · show (evf P cf ρ1 es).map _ = kC2 (x, f) (evf P cf ρ1 es)
    rcases evf P cf ρ1 es with _ | ⟨ds, ρ2⟩ <;> rfl
def kOs (P : Pr) (cf : Call) (es : Es) : Option (Ad × Rho) → Option (List Ad × Rho)
  | some (a, ρ) => kC2 a (evos P cf ρ es)
  | none => none
@[simp] theorem kOs_some {es : Es} {a : Ad} : kOs P cf es (some (a, ρ)) = kC2 a (evos P cf ρ es) := rfl
@[simp] theorem evos_nil : evos P cf ρ .nil = some ([], ρ) := by simp only [evos]
@[simp] theorem evos_cons {e : E} {es : Es} : evos P cf ρ (.cons e es) = kOs P cf es (opn ρ e (ev P cf ρ e)) := by
  simp only [evos]
  rcases opn ρ e (ev P cf ρ e) with _ | ⟨x, ρ1⟩
  · rfl
  · show (evos P cf ρ1 es).map _ = kC2 x (evos P cf ρ1 es)
    rcases evos P cf ρ1 es with _ | ⟨ds, ρ2⟩ <;> rfl
def kSl (s : Sl) : Option (List Sl) → Option (List Sl)
  | some xs => some (s :: xs)
  | none => none
@[simp] theorem kSl_some {s : Sl} {xs : List Sl} : kSl s (some xs) = some (s :: xs) := rfl
def kPk (r : Option (List Sl)) : Option Sl → Option (List Sl)
  | some (.ow _ d) => kSl (.ow true d) r
  | _ => none
@[simp] theorem kPk_ow {r : Option (List Sl)} {p : Bool} {d : D} : kPk r (some (.ow p d)) = kSl (.ow true d) r := rfl
@[simp] theorem argsOf_nil : argsOf ρ [] = some [] := rfl
@[simp] theorem argsOf_vl {d : D} {as : List Ad} : argsOf ρ (.vl d :: as) = kSl (.sh false d) (argsOf ρ as) := by
  show (some (Sl.sh false d)).bind _ = _
  show (argsOf ρ as).map _ = _
  rcases argsOf ρ as with _ | xs <;> rfl
@[simp] theorem argsOf_pk {i : Nat} {as : List Ad} : argsOf ρ (.pk i :: as) = kPk (argsOf ρ as) ρ[i]? := by
  show (match ρ[i]? with
    | some (.ow _ d) => some (Sl.ow true d)
    | _ => none).bind (fun x => (argsOf ρ as).map fun xs => x :: xs) = _
  rcases ρ[i]? with _ | s
  · rfl
  · cases s <;> first
      | rfl
      | (rename_i p d
         show (argsOf ρ as).map _ = kSl _ _
         rcases argsOf ρ as with _ | xs <;> rfl)
@[simp] theorem lent_nil : lent [] = [] := rfl
@[simp] theorem lent_vl {d : D} {as : List Ad} : lent (.vl d :: as) = lent as := rfl
@[simp] theorem lent_pk {i : Nat} {as : List Ad} : lent (.pk i :: as) = i :: lent as := rfl
@[simp] theorem distinct_nil : distinct [] = true := rfl
@[simp] theorem distinct_cons {i : Nat} {is : List Nat} : distinct (i :: is) = (!is.contains i && distinct is) := rfl
def kBk (ρ : Rho) (i : Nat) (as : List Ad) (os : List Sl) : Option Sl → Sl → Option Rho
  | some (.ow p _), .ow true d => back (ρ.set i (.ow p d)) as os
  | some (.ow p _), .sh true d => back (ρ.set i (.sh p d)) as os
  | _, _ => none
@[simp] theorem kBk_ow {i : Nat} {as : List Ad} {os : List Sl} {p : Bool} {d d' : D} : kBk ρ i as os (some (.ow p d)) (.ow true d') = back (ρ.set i (.ow p d')) as os := rfl
@[simp] theorem kBk_sh {i : Nat} {as : List Ad} {os : List Sl} {p : Bool} {d d' : D} : kBk ρ i as os (some (.ow p d)) (.sh true d') = back (ρ.set i (.sh p d')) as os := rfl
@[simp] theorem back_nil {os : List Sl} : back ρ [] os = some ρ := by cases os <;> simp [back]
@[simp] theorem back_vl {d : D} {as : List Ad} {s : Sl} {os : List Sl} : back ρ (.vl d :: as) (s :: os) = back ρ as os := by simp [back]
@[simp] theorem back_pk {i : Nat} {as : List Ad} {s : Sl} {os : List Sl} : back ρ (.pk i :: as) (s :: os) = kBk ρ i as os ρ[i]? s := by
  simp only [back]
  rcases ρ[i]? with _ | t
  · cases s <;> rfl
  · cases t <;> cases s <;> first | rfl | (rename_i a b c d; cases c <;> rfl) | (rename_i a b; cases a <;> rfl)
/-! new objects, own methods -/
def kNw1 (ρ : Rho) (as : List Ad) : Option (D × Bool × List Sl) → R3
  | some (.non, _, .ow true d :: os) => kBack d true (back ρ as os)
  | some (.non, _, .sh true d :: os) => kBack d false (back ρ as os)
  | _ => none
@[simp] theorem kNw1_ow {as : List Ad} {f : Bool} {d : D} {os : List Sl} : kNw1 ρ as (some (.non, f, .ow true d :: os)) = kBack d true (back ρ as os) := rfl
@[simp] theorem kNw1_sh {as : List Ad} {f : Bool} {d : D} {os : List Sl} : kNw1 ρ as (some (.non, f, .sh true d :: os)) = kBack d false (back ρ as os) := rfl
def kNw2 (cf : Call) (f c : Nat) (ρ : Rho) (as : List Ad) : Option (List Sl) → R3
  | some sl => if distinct (lent as) then kNw1 ρ as (cf f (.ow true (.ins c [] []) :: sl)) else none
  | none => none
@[simp] theorem kNw2_some {f c : Nat} {as : List Ad} {sl : List Sl} : kNw2 cf f c ρ as (some sl) = if distinct (lent as) then kNw1 ρ as (cf f (.ow true (.ins c [] []) :: sl)) else none := rfl
def kNw3 (cf : Call) (f c : Nat) : Option (List Ad × Rho) → R3
  | some (as, ρ) => kNw2 cf f c ρ as (argsOf ρ as)
  | none => none
@[simp] theorem kNw3_some {f c : Nat} {as : List Ad} : kNw3 cf f c (some (as, ρ)) = kNw2 cf f c ρ as (argsOf ρ as) := rfl
def kNw (P : Pr) (cf : Call) (c : Nat) (es : Es) (ρ : Rho) : Option Cls → R3
  | some k => kNw3 cf k.init c (evos P cf ρ es)
  | none => none
@[simp] theorem kNw_some {c : Nat} {es : Es} {k : Cls} : kNw P cf c es ρ (some k) = kNw3 cf k.init c (evos P cf ρ es) := rfl
@[simp] theorem ev_new {c : Nat} {es : Es} : ev P cf ρ (.new c es) = kNw P cf c es ρ P.cls[c]? := by
  simp only [ev]
  rcases P.cls[c]? with _ | k
  · rfl
  · rw [Option.bind_some, kNw_some]
    rcases evos P cf ρ es with _ | ⟨as, ρ1⟩
    · rfl
    · rw [Option.bind_some]
      show (argsOf ρ1 as).bind _ = kNw2 cf k.init c ρ1 as (argsOf ρ1 as)
      rcases argsOf ρ1 as with _ | sl
      · rfl
      · rw [Option.bind_some]
        show (if _ then _ else _) = if _ then _ else _
        split
        · generalize cf k.init (.ow true (.ins c [] []) :: sl) = r
          rcases r with _ | ⟨d, f, os⟩
          · rfl
          · cases d <;> try rfl
            rcases os with _ | ⟨s0, os⟩
            · rfl
            · cases s0 with
              | un => rfl
              | sh p d =>
                cases p with
                | false => rfl
                | true =>
                  show (back ρ1 as os).map _ = kBack d false (back ρ1 as os)
                  rcases back ρ1 as os with _ | r <;> rfl
              | ow p d =>
                cases p with
                | false => rfl
                | true =>
                  show (back ρ1 as os).map _ = kBack d true (back ρ1 as os)
                  rcases back ρ1 as os with _ | r <;> rfl
        · rfl
def kMe1 (P : Pr) (cf : Call) (m : Str) (a : Ad) (as : List Ad) (ρ : Rho) : Option D → R3
  | some (.ins c ns _) => if ns.contains m then none else kMth cf ρ (a :: as) (mth P c m)
  | _ => none
@[simp] theorem kMe1_some {m : Str} {a : Ad} {as : List Ad} {c : Nat} {ns : List Str} {vs : List D} : kMe1 P cf m a as ρ (some (.ins c ns vs)) = if ns.contains m then none else kMth cf ρ (a :: as) (mth P c m) := rfl
def kMe2 (P : Pr) (cf : Call) (m : Str) (a : Ad) (ρ1 : Rho) : Option (List Ad × Rho) → R3
  | some (as, ρ) => kMe1 P cf m a as ρ (rs ρ1 a)
  | none => none
@[simp] theorem kMe2_some {m : Str} {a : Ad} {as : List Ad} {ρ1 : Rho} : kMe2 P cf m a ρ1 (some (as, ρ)) = kMe1 P cf m a as ρ (rs ρ1 a) := rfl
def kMe (P : Pr) (cf : Call) (m : Str) (es : Es) : Option (Ad × Rho) → R3
  | some (a, ρ) => kMe2 P cf m a ρ (evos P cf ρ es)
  | none => none
@[simp] theorem kMe_some {m : Str} {es : Es} {a : Ad} : kMe P cf m es (some (a, ρ)) = kMe2 P cf m a ρ (evos P cf ρ es) := rfl
@[simp] theorem ev_meth {m : Str} {o : E} {es : Es} : ev P cf ρ (.meth m o es) = kMe P cf m es (opn ρ o (ev P cf ρ o)) := by
  simp only [ev]
  rcases opn ρ o (ev P cf ρ o) with _ | ⟨a, ρ1⟩
  · rfl
  · rw [Option.bind_some]
    show (evos P cf ρ1 es).bind _ = kMe2 P cf m a ρ1 (evos P cf ρ1 es)
    rcases evos P cf ρ1 es with _ | ⟨as, ρ2⟩
    · rfl
    · rw [Option.bind_some]
      show (rs ρ1 a).bind _ = kMe1 P cf m a as ρ2 (rs ρ1 a)
      rcases rs ρ1 a with _ | d
      · rfl
      · rw [Option.bind_some]
        cases d <;> try rfl
        rename_i c ns vs
        show (if _ then _ else _) = if _ then _ else _
        split
        · rfl
        · show (mth P c m).bind _ = kMth cf ρ2 (a :: as) (mth P c m)
          rcases mth P c m with _ | f
          · rfl
          · exact go_eq (as := a :: as)
/-! tests -/
def kTr (ρ : Rho) : Option Bool → Option (Bool × Rho)
  | some t => some (t, ρ)
  | none => none
@[simp] theorem kTr_some {t : Bool} : kTr ρ (some t) = some (t, ρ) := rfl
def kTd (ρ : Rho) : Option D → Option (Bool × Rho)
  | some d => kTr ρ (tru d)
  | none => none
@[simp] theorem kTd_some {d : D} : kTd ρ (some d) = kTr ρ (tru d) := rfl
def kVal : Option (Ad × Rho) → Option (Bool × Rho)
  | some (a, ρ) => kTd ρ (rs ρ a)
  | none => none
@[simp] theorem kVal_some {a : Ad} : kVal (some (a, ρ)) = kTd ρ (rs ρ a) := rfl
@[simp] theorem evT_val {e : E} : evT P cf ρ (.val e) = kVal (opn ρ e (ev P cf ρ e)) := by
  simp only [evT]
  rcases opn ρ e (ev P cf ρ e) with _ | ⟨x, ρ1⟩
  · rfl
  · show (rs ρ1 x).bind _ = kTd ρ1 (rs ρ1 x)
    rcases rs ρ1 x with _ | d
    · rfl
    · show (tru d).map _ = kTr ρ1 (tru d)
      rcases tru d with _ | t <;> rfl
def tOf (ρ : Rho) : Option (D × Bool) → Option (Bool × Rho)
  | some (.bl t, _) => some (t, ρ)
  | _ => none
@[simp] theorem tOf_bl {t f : Bool} : tOf ρ (some (.bl t, f)) = some (t, ρ) := rfl
def tOf3 : R3 → Option (Bool × Rho)
  | some (.bl t, _, ρ) => some (t, ρ)
  | _ => none
@[simp] theorem tOf3_bl {t f : Bool} : tOf3 (some (.bl t, f, ρ)) = some (t, ρ) := rfl
def kCs (P : Pr) (cf : Call) (o : Op) (a b : Ad) (ρ : Rho) (d e : D) : Option (Nat × Str × Bool) → Option (Bool × Rho)
  | some x => tOf3 (kEnd o (kMth cf ρ (swp x.2.2 a b) (mth P x.1 x.2.1)))
  | none => tOf ρ (op2 o d e)
@[simp] theorem kCs_some {o : Op} {a b : Ad} {d e : D} {c : Nat} {m : Str} {sw : Bool} : kCs P cf o a b ρ d e (some (c, m, sw)) = tOf3 (kEnd o (kMth cf ρ (swp sw a b) (mth P c m))) := rfl
@[simp] theorem kCs_none {o : Op} {a b : Ad} {d e : D} : kCs P cf o a b ρ d e none = tOf ρ (op2 o d e) := rfl
def kCd (P : Pr) (cf : Call) (o : Op) (a b : Ad) (ρ : Rho) : Option D → Option D → Option (Bool × Rho)
  | some d, some e => kCs P cf o a b ρ d e (spc2 o d e)
  | _, _ => none
@[simp] theorem kCd_some {o : Op} {a b : Ad} {d e : D} : kCd P cf o a b ρ (some d) (some e) = kCs P cf o a b ρ d e (spc2 o d e) := rfl
def kCb (P : Pr) (cf : Call) (o : Op) (a : Ad) : Option (Ad × Rho) → Option (Bool × Rho)
  | some y => kCd P cf o a y.1 y.2 (rs y.2 a) (rs y.2 y.1)
  | none => none
@[simp] theorem kCb_some {o : Op} {a b : Ad} : kCb P cf o a (some (b, ρ)) = kCd P cf o a b ρ (rs ρ a) (rs ρ b) := rfl
def kCmp (P : Pr) (cf : Call) (o : Op) (b : E) : Option (Ad × Rho) → Option (Bool × Rho)
  | some x => kCb P cf o x.1 (opn x.2 b (ev P cf x.2 b))
  | none => none
@[simp] theorem kCmp_some {o : Op} {b : E} {a : Ad} : kCmp P cf o b (some (a, ρ)) = kCb P cf o a (opn ρ b (ev P cf ρ b)) := rfl
@[simp] theorem evT_cmp {o : Op} {a b : E} : evT P cf ρ (.cmp o a b) = kCmp P cf o b (opn ρ a (ev P cf ρ a)) := by
  simp only [evT]
  rcases opn ρ a (ev P cf ρ a) with _ | ⟨x, ρ1⟩
  · rfl
  · rw [Option.bind_some]
    show _ = kCb P cf o x (opn ρ1 b (ev P cf ρ1 b))
    rcases opn ρ1 b (ev P cf ρ1 b) with _ | ⟨y, ρ2⟩
    · rfl
    · rw [Option.bind_some]
      show _ = kCd P cf o x y ρ2 (rs ρ2 x) (rs ρ2 y)
      show (rs ρ2 x).bind _ = _
      rcases rs ρ2 x with _ | d
      · rfl
      · rw [Option.bind_some]
        show (rs ρ2 y).bind _ = _
        rcases rs ρ2 y with _ | e
        · rfl
        · rw [Option.bind_some, kCd_some]
          show (match spc2 o d e with
            | some (c, m, sw) => (match ownEnd o (ownGo P cf c m ρ2 (swp sw x y)) with
              | some (.bl t, _, ρ3) => some (t, ρ3)
              | _ => none)
            | none => (match op2 o d e with
              | some (.bl t, _) => some (t, ρ2)
              | _ => none)) = _
          rcases spc2 o d e with _ | ⟨c, m, sw⟩
          · rw [kCs_none]
            rcases op2 o d e with _ | ⟨r, f⟩
            · rfl
            · cases r <;> rfl
          · rw [kCs_some, ← ownGo_eq, ← ownEnd_eq]
            show (match ownEnd o (ownGo P cf c m ρ2 (swp sw x y)) with
              | some (.bl t, _, ρ3) => some (t, ρ3)
              | _ => none) = tOf3 _
            rcases ownEnd o (ownGo P cf c m ρ2 (swp sw x y)) with _ | ⟨r, f, ρ3⟩
            · rfl
            · cases r <;> rfl
@[simp] theorem evT_all {ts : Ts} : evT P cf ρ (.all ts) = evAll P cf ρ ts := by simp only [evT]
@[simp] theorem evT_any {ts : Ts} : evT P cf ρ (.any ts) = evAny P cf ρ ts := by simp only [evT]
def kTn : Option (Bool × Rho) → Option (Bool × Rho)
  | some (t, ρ) => some (!t, ρ)
  | none => none
@[simp] theorem kTn_some {t : Bool} : kTn (some (t, ρ)) = some (!t, ρ) := rfl
@[simp] theorem evT_not {t : T} : evT P cf ρ (.not t) = kTn (evT P cf ρ t) := by
  simp only [evT]
  rcases evT P cf ρ t with _ | ⟨x, ρ1⟩ <;> rfl
def kAll (P : Pr) (cf : Call) (ts : Ts) : Option (Bool × Rho) → Option (Bool × Rho)
  | some (true, ρ) => evAll P cf ρ ts
  | some (false, ρ) => some (false, ρ)
  | none => none
@[simp] theorem kAll_t {ts : Ts} : kAll P cf ts (some (true, ρ)) = evAll P cf ρ ts := rfl
@[simp] theorem kAll_f {ts : Ts} : kAll P cf ts (some (false, ρ)) = some (false, ρ) := rfl
@[simp] theorem evAll_nil : evAll P cf ρ .nil = some (true, ρ) := by simp only [evAll]
@[simp] theorem evAll_cons {t : T} {ts : Ts} : evAll P cf ρ (.cons t ts) = kAll P cf ts (evT P cf ρ t) := by
  simp only [evAll]
  rcases evT P cf ρ t with _ | ⟨x, ρ1⟩ <;> first | rfl | (cases x <;> rfl)
def kAny (P : Pr) (cf : Call) (ts : Ts) : Option (Bool × Rho) → Option (Bool × Rho)
  | some (true, ρ) => some (true, ρ)
  | some (false, ρ) => evAny P cf ρ ts
  | none => none
@[simp] theorem kAny_t {ts : Ts} : kAny P cf ts (some (true, ρ)) = some (true, ρ) := rfl
@[simp] theorem kAny_f {ts : Ts} : kAny P cf ts (some (false, ρ)) = evAny P cf ρ ts := rfl
@[simp] theorem evAny_nil : evAny P cf ρ .nil = some (false, ρ) := by simp only [evAny]
@[simp] theorem evAny_cons {t : T} {ts : Ts} : evAny P cf ρ (.cons t ts) = kAny P cf ts (evT P cf ρ t) := by
  simp only [evAny]
  rcases evT P cf ρ t with _ | ⟨x, ρ1⟩ <;> first | rfl | (cases x <;> rfl)
/-! stores -/
@[simp] theorem bind_nm {d : D} {f : Bool} {i : Nat} : Tg1.bind ρ d f (.nm i) = put ρ i (if f then .ow false d else .sh false d) := rfl
@[simp] theorem bind_ix {d : D} {f : Bool} {x : Nat} {k : D} : Tg1.bind ρ d f (.ix x k) = setAt ρ x k d := rfl
@[simp] theorem bind_one {d : D} {f : Bool} {t : Tg1} : Tg.bind ρ d f (.one t) = t.bind ρ d f := rfl
def offD : List D → List (D × Bool)
  | [] => []
  | d :: ds => (d, false) :: offD ds
@[simp] theorem offD_nil : offD [] = [] := rfl
@[simp] theorem offD_cons {d : D} {ds : List D} : offD (d :: ds) = (d, false) :: offD ds := rfl
theorem offD_eq : ∀ ds : List D, (ds.map fun x => (x, false)) = offD ds
  | [] => rfl
  | d :: ds => by rw [List.map_cons, offD_eq ds]; rfl
@[simp] theorem bind_tpt {ds : List D} {f : Bool} {ts : List Tg1} : Tg.bind ρ (.tup ds) f (.tp ts) = puts ρ ts (offD ds) := by rw [← offD_eq]; rfl
@[simp] theorem bind_tpl {ds : List D} {f : Bool} {ts : List Tg1} : Tg.bind ρ (.lst ds) f (.tp ts) = puts ρ ts (offD ds) := by rw [← offD_eq]; rfl
def kPts (ts : List Tg1) (ds : List (D × Bool)) : Option Rho → Option Rho
  | some ρ => puts ρ ts ds
  | none => none
@[simp] theorem kPts_some {ts : List Tg1} {ds : List (D × Bool)} : kPts ts ds (some ρ) = puts ρ ts ds := rfl
@[simp] theorem puts_nil : puts ρ [] [] = some ρ := rfl
@[simp] theorem puts_cons {t : Tg1} {ts : List Tg1} {d : D} {f : Bool} {ds : List (D × Bool)} : puts ρ (t :: ts) ((d, f) :: ds) = kPts ts ds (t.bind ρ d f) := by
  show (t.bind ρ d f).bind _ = _
  rcases t.bind ρ d f with _ | r <;> rfl
def kPut (ρ : Rho) (i : Nat) (s : Sl) : Option Sl → Option Rho
  | some t => if t.pin then none else some (ρ.set i s)
  | none => none
@[simp] theorem kPut_some {i : Nat} {s t : Sl} : kPut ρ i s (some t) = if t.pin then none else some (ρ.set i s) := rfl
@[simp] theorem put_eq {i : Nat} {s : Sl} : put ρ i s = kPut ρ i s ρ[i]? := by
  unfold put
  rcases ρ[i]? with _ | r <;> rfl
@[simp] theorem pin_un : Sl.pin .un = false := rfl
@[simp] theorem pin_sh {p : Bool} {d : D} : Sl.pin (.sh p d) = p := rfl
@[simp] theorem pin_ow {p : Bool} {d : D} : Sl.pin (.ow p d) = p := rfl
@[simp] theorem fit_un : Sl.fit .un = true := rfl
@[simp] theorem fit_sh {p : Bool} {d : D} : Sl.fit (.sh p d) = true := rfl
@[simp] theorem fit_ow {p : Bool} {d : D} : Sl.fit (.ow p d) = p := by cases p <;> rfl
def kSetL (ρ : Rho) (x : Nat) (p : Bool) (xs : List D) (d : D) : Option Nat → Option Rho
  | some j => some (ρ.set x (.ow p (.lst (xs.set j d))))
  | none => none
@[simp] theorem kSetL_some {x : Nat} {p : Bool} {xs : List D} {d : D} {j : Nat} : kSetL ρ x p xs d (some j) = some (ρ.set x (.ow p (.lst (xs.set j d)))) := rfl
def kSetK (ρ : Rho) (x : Nat) (p : Bool) (ks : List L2.Key) (vs : List D) (d : D) : Option L2.Key → Option Rho
  | some q => some (ρ.set x (.ow p (.dk (dput ks vs q d).1 (dput ks vs q d).2)))
  | none => none
@[simp] theorem kSetK_some {x : Nat} {p : Bool} {ks : List L2.Key} {vs : List D} {d : D} {q : L2.Key} : kSetK ρ x p ks vs d (some q) = some (ρ.set x (.ow p (.dk (dput ks vs q d).1 (dput ks vs q d).2))) := rfl
def kSet (ρ : Rho) (x : Nat) (k d : D) : Option Sl → Option Rho
  | some (.ow p (.lst xs)) => match k with
    | .int n => kSetL ρ x p xs d (L2.ixN xs.length n)
    | _ => none
  | some (.ow p (.dk ks vs)) => if ks.length < most then kSetK ρ x p ks vs d k.key else none
  | _ => none
@[simp] theorem kSet_lst {x : Nat} {n : Int} {d : D} {p : Bool} {xs : List D} : kSet ρ x (.int n) d (some (.ow p (.lst xs))) = kSetL ρ x p xs d (L2.ixN xs.length n) := rfl
@[simp] theorem kSet_dk {x : Nat} {k d : D} {p : Bool} {ks : List L2.Key} {vs : List D} : kSet ρ x k d (some (.ow p (.dk ks vs))) = if ks.length < most then kSetK ρ x p ks vs d k.key else none := rfl
@[simp] theorem setAt_eq {x : Nat} {k d : D} : setAt ρ x k d = kSet ρ x k d ρ[x]? := by
  unfold setAt
  rcases ρ[x]? with _ | s
  · rfl
  · cases s <;> try rfl
    rename_i p c
    cases c <;> try rfl
    · rename_i xs
      cases k <;> try rfl
      rename_i n
      show (L2.ixN xs.length n).map _ = kSetL ρ x p xs d (L2.ixN xs.length n)
      rcases L2.ixN xs.length n with _ | j <;> rfl
    · rename_i ks vs
      show (if _ then _ else _) = if _ then _ else _
      split
      · show (k.key).map _ = kSetK ρ x p ks vs d k.key
        rcases k.key with _ | q <;> rfl
      · rfl
@[simp] theorem key_int {i : Int} : D.key (.int i) = some (Sum.inl i) := rfl
@[simp] theorem key_str {x : Str} : D.key (.str x) = some (Sum.inr x) := rfl
/-! statements -/
def oNx : Option Rho → Option Out
  | some ρ => some (.nx ρ)
  | none => none
@[simp] theorem oNx_some : oNx (some ρ) = some (.nx ρ) := rfl
theorem oNx_eq (r : Option Rho) : r.map Out.nx = oNx r := by cases r <;> rfl
def kAsg (tg : Tg) : R3 → Option Out
  | some (d, f, ρ) => oNx (tg.bind ρ d f)
  | none => none
@[simp] theorem kAsg_some {tg : Tg} {d : D} {f : Bool} : kAsg tg (some (d, f, ρ)) = oNx (tg.bind ρ d f) := rfl
@[simp] theorem ex_asg {tg : Tg} {e : E} : ex P cf ρ (.asg tg e) = kAsg tg (ev P cf ρ e) := by
  simp only [ex]
  rcases ev P cf ρ e with _ | ⟨d, f, ρ1⟩
  · rfl
  · exact oNx_eq _
def kPar (ts : List Tg1) : Option (List (D × Bool) × Rho) → Option Out
  | some (ds, ρ) => if ds.length ≤ most then oNx (puts ρ ts ds) else none
  | none => none
@[simp] theorem kPar_some {ts : List Tg1} {ds : List (D × Bool)} : kPar ts (some (ds, ρ)) = if ds.length ≤ most then oNx (puts ρ ts ds) else none := rfl
@[simp] theorem ex_par {ts : List Tg1} {es : Es} : ex P cf ρ (.par ts es) = kPar ts (evf P cf ρ es) := by
  simp only [ex]
  rcases evf P cf ρ es with _ | ⟨ds, ρ1⟩
  · rfl
  · show (if _ then _ else _) = if _ then _ else _
    rw [oNx_eq]
def kSf1 (P : Pr) (x : Nat) (n : Str) (d : D) (ρ : Rho) : Option Sl → Option Out
  | some (.ow p (.ins c ns vs)) => if ns.length < 100 ∧ ((P.cls[c]?).any fun k => k.fs.contains n) = true then some (.nx (ρ.set x (.ow p (.ins c (fput ns vs n d).1 (fput ns vs n d).2)))) else none
  | _ => none
@[simp] theorem kSf1_some {x : Nat} {n : Str} {d : D} {p : Bool} {c : Nat} {ns : List Str} {vs : List D} : kSf1 P x n d ρ (some (.ow p (.ins c ns vs))) = if ns.length < 100 ∧ ((P.cls[c]?).any fun k => k.fs.contains n) = true then some (.nx (ρ.set x (.ow p (.ins c (fput ns vs n d).1 (fput ns vs n d).2)))) else none := rfl
def kSf (P : Pr) (x : Nat) (n : Str) : R3 → Option Out
  | some (d, _, ρ) => kSf1 P x n d ρ ρ[x]?
  | none => none
@[simp] theorem kSf_some {x : Nat} {n : Str} {d : D} {f : Bool} : kSf P x n (some (d, f, ρ)) = kSf1 P x n d ρ ρ[x]? := rfl
@[simp] theorem ex_setf {x : Nat} {n : Str} {e : E} : ex P cf ρ (.setf x n e) = kSf P x n (ev P cf ρ e) := by
  simp only [ex]
  rcases ev P cf ρ e with _ | ⟨d, f, ρ1⟩
  · rfl
  · rw [Option.bind_some, kSf_some]
    rcases ρ1[x]? with _ | s
    · rfl
    · cases s with
      | ow p c => cases c <;> rfl
      | _ => rfl
def kExp : R3 → Option Out
  | some (_, _, ρ) => some (.nx ρ)
  | none => none
@[simp] theorem kExp_some {d : D} {f : Bool} : kExp (some (d, f, ρ)) = some (.nx ρ) := rfl
@[simp] theorem ex_exp {e : E} : ex P cf ρ (.exp e) = kExp (ev P cf ρ e) := by
  simp only [ex]
  rcases ev P cf ρ e with _ | ⟨d, f, ρ1⟩ <;> rfl
def rMap : R3 → Option Out
  | some (d, f, ρ) => some (.rt d f ρ)
  | none => none
@[simp] theorem rMap_some {d : D} {f : Bool} : rMap (some (d, f, ρ)) = some (.rt d f ρ) := rfl
theorem rMap_eq (r : R3) : (r.map fun x => Out.rt x.1 x.2.1 x.2.2) = rMap r := by rcases r with _ | ⟨d, f, ρ⟩ <;> rfl
def vRet (ρ : Rho) (i : Nat) : Option Sl → R3
  | some (.ow false d) => some (d, true, ρ.set i .un)
  | some (.ow true d) => some (d, false, ρ.set i (.sh true d))
  | some (.sh _ d) => some (d, false, ρ)
  | _ => none
@[simp] theorem vRet_own {i : Nat} {d : D} : vRet ρ i (some (.ow false d)) = some (d, true, ρ.set i .un) := rfl
@[simp] theorem vRet_lent {i : Nat} {d : D} : vRet ρ i (some (.ow true d)) = some (d, false, ρ.set i (.sh true d)) := rfl
@[simp] theorem vRet_sh {i : Nat} {p : Bool} {d : D} : vRet ρ i (some (.sh p d)) = some (d, false, ρ) := rfl
@[simp] theorem ex_retv {i : Nat} : ex P cf ρ (.ret (.var i)) = rMap (vRet ρ i ρ[i]?) := by
  simp only [ex, retE, ev]
  rcases ρ[i]? with _ | s
  · rfl
  · cases s <;> first | rfl | (rename_i p d; cases p <;> rfl)
theorem ex_ret {e : E} (h : ∀ i, e ≠ .var i) : ex P cf ρ (.ret e) = rMap (ev P cf ρ e) := by
  rw [← rMap_eq]
  cases e <;> simp only [ex, retE] <;> first
    | rfl
    | exact absurd rfl (h _)
@[simp] theorem ret_cst {d : D} : ex P cf ρ (.ret (.cst d)) = rMap (ev P cf ρ (.cst d)) := ex_ret (by intro i z; cases z)
@[simp] theorem ret_ap1 {o a} : ex P cf ρ (.ret (.ap1 o a)) = rMap (ev P cf ρ (.ap1 o a)) := ex_ret (by intro i z; cases z)
@[simp] theorem ret_ap2 {o a b} : ex P cf ρ (.ret (.ap2 o a b)) = rMap (ev P cf ρ (.ap2 o a b)) := ex_ret (by intro i z; cases z)
@[simp] theorem ret_tup {es} : ex P cf ρ (.ret (.tup es)) = rMap (ev P cf ρ (.tup es)) := ex_ret (by intro i z; cases z)
@[simp] theorem ret_lst {es} : ex P cf ρ (.ret (.lst es)) = rMap (ev P cf ρ (.lst es)) := ex_ret (by intro i z; cases z)
@[simp] theorem ret_ite {c a b} : ex P cf ρ (.ret (.ite c a b)) = rMap (ev P cf ρ (.ite c a b)) := ex_ret (by intro i z; cases z)
@[simp] theorem ret_and {es} : ex P cf ρ (.ret (.and es)) = rMap (ev P cf ρ (.and es)) := ex_ret (by intro i z; cases z)
@[simp] theorem ret_or {es} : ex P cf ρ (.ret (.or es)) = rMap (ev P cf ρ (.or es)) := ex_ret (by intro i z; cases z)
@[simp] theorem ret_not {a} : ex P cf ρ (.ret (.not a)) = rMap (ev P cf ρ (.not a)) := ex_ret (by intro i z; cases z)
@[simp] theorem ret_call {f es} : ex P cf ρ (.ret (.call f es)) = rMap (ev P cf ρ (.call f es)) := ex_ret (by intro i z; cases z)
@[simp] theorem ret_bm {m o es} : ex P cf ρ (.ret (.bm m o es)) = rMap (ev P cf ρ (.bm m o es)) := ex_ret (by intro i z; cases z)
@[simp] theorem ret_pick {es k} : ex P cf ρ (.ret (.pick es k)) = rMap (ev P cf ρ (.pick es k)) := ex_ret (by intro i z; cases z)
@[simp] theorem ret_lc {e t i c} : ex P cf ρ (.ret (.lc e t i c)) = rMap (ev P cf ρ (.lc e t i c)) := ex_ret (by intro i z; cases z)
def kRi (P : Pr) (cf : Call) (a b : E) : Option (Bool × Rho) → Option Out
  | some (true, ρ) => ex P cf ρ (.ret a)
  | some (false, ρ) => ex P cf ρ (.ret b)
  | none => none
@[simp] theorem kRi_t {a b : E} : kRi P cf a b (some (true, ρ)) = ex P cf ρ (.ret a) := rfl
@[simp] theorem kRi_f {a b : E} : kRi P cf a b (some (false, ρ)) = ex P cf ρ (.ret b) := rfl
@[simp] theorem ex_reti {c : T} {a b : E} : ex P cf ρ (.reti c a b) = kRi P cf a b (evT P cf ρ c) := by
  simp only [ex]
  rcases evT P cf ρ c with _ | ⟨x, ρ1⟩
  · rfl
  · cases x
    · show _ = ex P cf ρ1 (.ret b)
      simp only [ex]; rfl
    · show _ = ex P cf ρ1 (.ret a)
      simp only [ex]; rfl
def kIf (P : Pr) (cf : Call) (a b : Ss) : Option (Bool × Rho) → Option Out
  | some (true, ρ) => exs P cf ρ a
  | some (false, ρ) => exs P cf ρ b
  | none => none
@[simp] theorem kIf_t {a b : Ss} : kIf P cf a b (some (true, ρ)) = exs P cf ρ a := rfl
@[simp] theorem kIf_f {a b : Ss} : kIf P cf a b (some (false, ρ)) = exs P cf ρ b := rfl
@[simp] theorem ex_iff {c : T} {a b : Ss} : ex P cf ρ (.iff c a b) = kIf P cf a b (evT P cf ρ c) := by
  simp only [ex]
  rcases evT P cf ρ c with _ | ⟨x, ρ1⟩ <;> first | rfl | (cases x <;> rfl)
def kSt3 (x : Nat) (d : D) : R3 → Option Out
  | some (k, _, ρ) => oNx (setAt ρ x k d)
  | none => none
@[simp] theorem kSt3_some {x : Nat} {k d : D} {f : Bool} : kSt3 x d (some (k, f, ρ)) = oNx (setAt ρ x k d) := rfl
def kSt2 (P : Pr) (cf : Call) (x : Nat) (i : E) (d : D) (ρ : Rho) : Option Sl → Option Out
  | some (.ow _ _) => kSt3 x d (ev P cf ρ i)
  | _ => none
@[simp] theorem kSt2_ow {x : Nat} {i : E} {d c : D} {p : Bool} : kSt2 P cf x i d ρ (some (.ow p c)) = kSt3 x d (ev P cf ρ i) := rfl
def kSt (P : Pr) (cf : Call) (x : Nat) (i : E) : R3 → Option Out
  | some (d, _, ρ) => kSt2 P cf x i d ρ ρ[x]?
  | none => none
@[simp] theorem kSt_some {x : Nat} {i : E} {d : D} {f : Bool} : kSt P cf x i (some (d, f, ρ)) = kSt2 P cf x i d ρ ρ[x]? := rfl
@[simp] theorem ex_set {x : Nat} {i e : E} : ex P cf ρ (.set x i e) = kSt P cf x i (ev P cf ρ e) := by
  simp only [ex]
  rcases ev P cf ρ e with _ | ⟨d, f, ρ1⟩
  · rfl
  · show _ = kSt2 P cf x i d ρ1 ρ1[x]?
    rw [Option.bind_some]
    rcases ρ1[x]? with _ | s
    · rfl
    · cases s <;> try rfl
      show (ev P cf ρ1 i).bind _ = kSt3 x d (ev P cf ρ1 i)
      rcases ev P cf ρ1 i with _ | ⟨k, g, ρ2⟩
      · rfl
      · exact oNx_eq _
def kAu2 (x : Nat) (ρ : Rho) : Option D → Option Out
  | some r => oNx (put ρ x (.sh false r))
  | none => none
@[simp] theorem kAu2_some {x : Nat} {r : D} : kAu2 x ρ (some r) = oNx (put ρ x (.sh false r)) := rfl
def kAu1 (x : Nat) (o : Op) (d : D) (ρ : Rho) : Option Sl → Option Out
  | some (.sh false b) => kAu2 x ρ (augD o b d)
  | _ => none
@[simp] theorem kAu1_some {x : Nat} {o : Op} {d b : D} : kAu1 x o d ρ (some (.sh false b)) = kAu2 x ρ (augD o b d) := rfl
def kAu (x : Nat) (o : Op) (ρ0 : Rho) : R3 → Option Out
  | some (d, _, ρ) => kAu1 x o d ρ ρ0[x]?
  | none => none
@[simp] theorem kAu_some {x : Nat} {o : Op} {ρ0 : Rho} {d : D} {f : Bool} : kAu x o ρ0 (some (d, f, ρ)) = kAu1 x o d ρ ρ0[x]? := rfl
@[simp] theorem ex_aug {x : Nat} {o : Op} {e : E} : ex P cf ρ (.aug x o e) = kAu x o ρ (ev P cf ρ e) := by
  simp only [ex]
  rcases ev P cf ρ e with _ | ⟨d, f, ρ1⟩
  · rfl
  · show _ = kAu1 x o d ρ1 ρ[x]?
    rw [Option.bind_some]
    rcases ρ[x]? with _ | s
    · rfl
    · cases s <;> try rfl
      rename_i p b
      cases p <;> try rfl
      show (augD o b d).bind _ = kAu2 x ρ1 (augD o b d)
      rcases augD o b d with _ | r
      · rfl
      · exact oNx_eq _
def kAi5 (ρ : Rho) (x : Nat) (p : Bool) (ys : List D) (r : D) : Option Nat → Option Out
  | some j => some (.nx (ρ.set x (.ow p (.lst (ys.set j r)))))
  | none => none
@[simp] theorem kAi5_some {x : Nat} {p : Bool} {ys : List D} {r : D} {j : Nat} : kAi5 ρ x p ys r (some j) = some (.nx (ρ.set x (.ow p (.lst (ys.set j r))))) := rfl
def kAi4 (ρ : Rho) (x : Nat) (n : Int) (r : D) : Option Sl → Option Out
  | some (.ow p (.lst ys)) => kAi5 ρ x p ys r (L2.ixN ys.length n)
  | _ => none
@[simp] theorem kAi4_some {x : Nat} {n : Int} {r : D} {p : Bool} {ys : List D} : kAi4 ρ x n r (some (.ow p (.lst ys))) = kAi5 ρ x p ys r (L2.ixN ys.length n) := rfl
def kAi3 (ρ : Rho) (x : Nat) (n : Int) : Option D → Option Out
  | some r => kAi4 ρ x n r ρ[x]?
  | none => none
@[simp] theorem kAi3_some {x : Nat} {n : Int} {r : D} : kAi3 ρ x n (some r) = kAi4 ρ x n r ρ[x]? := rfl
def kAi2 (x : Nat) (n : Int) (o : Op) (b : D) : R3 → Option Out
  | some (d, _, ρ) => kAi3 ρ x n (augD o b d)
  | none => none
@[simp] theorem kAi2_some {x : Nat} {n : Int} {o : Op} {b d : D} {f : Bool} : kAi2 x n o b (some (d, f, ρ)) = kAi3 ρ x n (augD o b d) := rfl
def kAi1b (P : Pr) (cf : Call) (x : Nat) (o : Op) (e : E) (n : Int) (ρ : Rho) : Option D → Option Out
  | some b => kAi2 x n o b (ev P cf ρ e)
  | none => none
@[simp] theorem kAi1b_some {x : Nat} {o : Op} {e : E} {n : Int} {b : D} : kAi1b P cf x o e n ρ (some b) = kAi2 x n o b (ev P cf ρ e) := rfl
def kAi1 (P : Pr) (cf : Call) (x : Nat) (o : Op) (e : E) (k : D) (ρ : Rho) : Option Sl → Option Out
  | some (.ow _ (.lst xs)) => match k with
    | .int n => kAi1b P cf x o e n ρ (atD xs n)
    | _ => none
  | _ => none
@[simp] theorem kAi1_some {x : Nat} {o : Op} {e : E} {n : Int} {p : Bool} {xs : List D} : kAi1 P cf x o e (.int n) ρ (some (.ow p (.lst xs))) = kAi1b P cf x o e n ρ (atD xs n) := rfl
def kAi0 (P : Pr) (cf : Call) (x : Nat) (o : Op) (e : E) : R3 → Option Out
  | some (k, _, ρ) => kAi1 P cf x o e k ρ ρ[x]?
  | none => none
@[simp] theorem kAi0_some {x : Nat} {o : Op} {e : E} {k : D} {f : Bool} : kAi0 P cf x o e (some (k, f, ρ)) = kAi1 P cf x o e k ρ ρ[x]? := rfl
def kAi (P : Pr) (cf : Call) (x : Nat) (i : E) (o : Op) (e : E) (ρ : Rho) : Option Sl → Option Out
  | some (.ow _ _) => kAi0 P cf x o e (ev P cf ρ i)
  | _ => none
@[simp] theorem kAi_some {x : Nat} {i : E} {o : Op} {e : E} {p : Bool} {c : D} : kAi P cf x i o e ρ (some (.ow p c)) = kAi0 P cf x o e (ev P cf ρ i) := rfl
@[simp] theorem ex_augi {x : Nat} {i e : E} {o : Op} : ex P cf ρ (.augi x i o e) = kAi P cf x i o e ρ ρ[x]? := by
  simp only [ex]
  rcases ρ[x]? with _ | s
  · rfl
  · cases s <;> try rfl
    show (ev P cf ρ i).bind _ = kAi0 P cf x o e (ev P cf ρ i)
    rcases ev P cf ρ i with _ | ⟨k, g, ρ1⟩
    · rfl
    · rw [Option.bind_some]
      show _ = kAi1 P cf x o e k ρ1 ρ1[x]?
      show (match ρ1[x]?, k with
        | some (.ow _ (.lst xs)), .int n => (atD xs n).bind fun b => (ev P cf ρ1 e).bind fun (d, _, ρ2) => (augD o b d).bind fun r => match ρ2[x]? with
          | some (.ow p (.lst ys)) => (L2.ixN ys.length n).map fun j => Out.nx (ρ2.set x (.ow p (.lst (ys.set j r))))
          | _ => none
        | _, _ => none) = _
      rcases ρ1[x]? with _ | t
      · cases k <;> rfl
      · cases t with
        | un => cases k <;> rfl
        | sh p c => cases k <;> rfl
        | ow p c =>
          cases c with
          | lst xs =>
            cases k with
            | int n =>
              show (atD xs n).bind _ = kAi1b P cf x o e n ρ1 (atD xs n)
              rcases atD xs n with _ | b
              · rfl
              · show (ev P cf ρ1 e).bind _ = kAi2 x n o b (ev P cf ρ1 e)
                rcases ev P cf ρ1 e with _ | ⟨d, h, ρ2⟩
                · rfl
                · show (augD o b d).bind _ = kAi3 ρ2 x n (augD o b d)
                  rcases augD o b d with _ | r
                  · rfl
                  · rw [Option.bind_some]
                    show _ = kAi4 ρ2 x n r ρ2[x]?
                    rcases ρ2[x]? with _ | t2
                    · rfl
                    · cases t2 with
                      | un => rfl
                      | sh _ _ => rfl
                      | ow p2 c2 =>
                        cases c2 <;> try rfl
                        rename_i ys
                        show (L2.ixN ys.length n).map _ = kAi5 ρ2 x p2 ys r (L2.ixN ys.length n)
                        rcases L2.ixN ys.length n with _ | j <;> rfl
            | _ => rfl
          | _ => cases k <;> rfl
@[simp] theorem ex_brk : ex P cf ρ .brk = some (.bk ρ) := by simp only [ex]
@[simp] theorem ex_cnt : ex P cf ρ .cnt = some (.ct ρ) := by simp only [ex]
@[simp] theorem ex_pss : ex P cf ρ .pss = some (.nx ρ) := by simp only [ex]
@[simp] theorem exs_nil : exs P cf ρ .nil = some (.nx ρ) := by simp only [exs]
def kSeq (P : Pr) (cf : Call) (ss : Ss) : Option Out → Option Out
  | some (.nx ρ1) => exs P cf ρ1 ss
  | some (.bk ρ1) => some (.bk ρ1)
  | some (.ct ρ1) => some (.ct ρ1)
  | some (.rt d g ρ1) => some (.rt d g ρ1)
  | none => none
@[simp] theorem kSeq_nx {ss : Ss} : kSeq P cf ss (some (.nx ρ)) = exs P cf ρ ss := rfl
@[simp] theorem kSeq_rt {ss : Ss} {d : D} {g : Bool} : kSeq P cf ss (some (.rt d g ρ)) = some (.rt d g ρ) := rfl
@[simp] theorem kSeq_bk {ss : Ss} : kSeq P cf ss (some (.bk ρ)) = some (.bk ρ) := rfl
@[simp] theorem kSeq_ct {ss : Ss} : kSeq P cf ss (some (.ct ρ)) = some (.ct ρ) := rfl
@[simp] theorem exs_cons {s : S} {ss : Ss} : exs P cf ρ (.cons s ss) = kSeq P cf ss (ex P cf ρ s) := by
  simp only [exs]
  rcases ex P cf ρ s with _ | o <;> first | rfl | (cases o <;> rfl)
/-- a call's end -/
def fin (np : Nat) : Option Out → Option (D × Bool × List Sl)
  | some (.rt r fr ρ) => some (r, fr, ρ.take np)
  | some (.nx ρ) => some (.non, false, ρ.take np)
  | _ => none
@[simp] theorem fin_rt {np : Nat} {d : D} {f : Bool} : fin np (some (.rt d f ρ)) = some (d, f, ρ.take np) := rfl
@[simp] theorem fin_nx {np : Nat} : fin np (some (.nx ρ)) = some (.non, false, ρ.take np) := rfl
theorem call_eq {n f : Nat} {sl : List Sl} {d : Def} (h : P.defs[f]? = some d) (hl : sl.length = d.np) (hn : d.np ≤ d.nn) (hf : sl.all Sl.fit = true) :
    callAt P (n + 1) f sl = fin d.np (exs P (callAt P n) (sl ++ List.replicate (d.nn - d.np) .un) d.body) := by
  unfold callAt
  rw [h]
  simp only [Option.bind_some]
  rw [if_pos ⟨hl, hn, hf⟩]
  generalize exs P _ _ _ = r
  cases r with
  | none => rfl
  | some o => cases o <;> rfl
/-! operations -/
@[simp] theorem o2_add {i j : Int} : op2 .add (.int i) (.int j) = some (.int (i + j), false) := rfl
@[simp] theorem o2_addl {xs ys : List D} : op2 .add (.lst xs) (.lst ys) = if xs.length + ys.length ≤ most then some (.lst (xs ++ ys), true) else none := rfl
@[simp] theorem o2_sub {i j : Int} : op2 .sub (.int i) (.int j) = some (.int (i - j), false) := rfl
@[simp] theorem o2_mul {i j : Int} : op2 .mul (.int i) (.int j) = if small64 i || small64 j then some (.int (i * j), false) else none := rfl
@[simp] theorem o2_fdiv {i j : Int} : op2 .fdiv (.int i) (.int j) = if 0 < j && decide (j < 1073741824) then some (.int (i / j), false) else none := rfl
@[simp] theorem o2_mod {i j : Int} : op2 .mod (.int i) (.int j) = if 0 < j then some (.int (i % j), false) else none := rfl
@[simp] theorem o2_pow {i j : Int} : op2 .pow (.int i) (.int j) = if 0 ≤ j && decide (j ≤ 1000) && decide (i.natAbs < 2 ^ 64) then some (.int (i ^ j.toNat), false) else none := rfl
@[simp] theorem o2_lt {i j : Int} : op2 .lt (.int i) (.int j) = some (.bl (decide (i < j)), false) := rfl
@[simp] theorem o2_le {i j : Int} : op2 .le (.int i) (.int j) = some (.bl (decide (i ≤ j)), false) := rfl
@[simp] theorem o2_gt {i j : Int} : op2 .gt (.int i) (.int j) = some (.bl (decide (j < i)), false) := rfl
@[simp] theorem o2_ge {i j : Int} : op2 .ge (.int i) (.int j) = some (.bl (decide (j ≤ i)), false) := rfl
@[simp] theorem o2_eqi {i j : Int} : op2 .eq (.int i) (.int j) = some (.bl (decide (i = j)), false) := rfl
@[simp] theorem o2_nei {i j : Int} : op2 .ne (.int i) (.int j) = some (.bl (!decide (i = j)), false) := rfl
@[simp] theorem o2_eqs {x y : Str} : op2 .eq (.str x) (.str y) = some (.bl (x == y), false) := rfl
@[simp] theorem o2_nes {x y : Str} : op2 .ne (.str x) (.str y) = some (.bl (!(x == y)), false) := rfl
def kAt : Option D → Option (D × Bool)
  | some d => some (d, false)
  | none => none
@[simp] theorem kAt_some {d : D} : kAt (some d) = some (d, false) := rfl
theorem kAt_eq (r : Option D) : (r.map fun d => (d, false)) = kAt r := by cases r <;> rfl
@[simp] theorem o2_idxl {xs : List D} {i : Int} : op2 .idx (.lst xs) (.int i) = kAt (atD xs i) := kAt_eq _
@[simp] theorem o2_idxt {xs : List D} {i : Int} : op2 .idx (.tup xs) (.int i) = kAt (atD xs i) := kAt_eq _
@[simp] theorem o2_idxk {ks : List Str} {vs : List D} {q : Str} : op2 .idx (.kd ks vs) (.str q) = kAt (kget ks vs q) := kAt_eq _
@[simp] theorem o1_neg {i : Int} : op1 .neg (.int i) = some (.int (-i), false) := rfl
@[simp] theorem o1_int {i : Int} : op1 .int (.int i) = some (.int i, false) := rfl
@[simp] theorem o1_lenl {xs : List D} : op1 .len (.lst xs) = some (.int xs.length, false) := rfl
@[simp] theorem o1_lent {xs : List D} : op1 .len (.tup xs) = some (.int xs.length, false) := rfl
@[simp] theorem o1_abs {i : Int} : op1 .abs (.int i) = some (.int (if i < 0 then -i else i), false) := rfl
@[simp] theorem tru_bl {b : Bool} : tru (.bl b) = some b := rfl
@[simp] theorem tru_int {i : Int} : tru (.int i) = some (i != 0) := rfl
@[simp] theorem tru_lst {xs : List D} : tru (.lst xs) = some (!xs.isEmpty) := rfl
@[simp] theorem tru_tup {xs : List D} : tru (.tup xs) = some (!xs.isEmpty) := rfl
theorem atD_nat {xs : List D} {i : Nat} : atD xs (i : Int) = xs[i]? := by
  unfold atD L2.atI L2.ixN
  by_cases h : i < xs.length
  · simp [h]
  · have : ¬ ((i : Int) < xs.length) := by omega
    rw [if_pos (by omega), if_neg this, List.getElem?_eq_none (by omega)]
    rfl
@[simp] theorem atD_0 {xs : List D} : atD xs 0 = xs[0]? := atD_nat (i := 0)
@[simp] theorem atD_1 {xs : List D} : atD xs 1 = xs[1]? := atD_nat (i := 1)
@[simp] theorem atD_2 {xs : List D} : atD xs 2 = xs[2]? := atD_nat (i := 2)
@[simp] theorem atD_3 {xs : List D} : atD xs 3 = xs[3]? := atD_nat (i := 3)
@[simp] theorem atD_4 {xs : List D} : atD xs 4 = xs[4]? := atD_nat (i := 4)
theorem ixN_nat {n i : Nat} : L2.ixN n (i : Int) = if i < n then some i else none := by
  unfold L2.ixN
  by_cases h : i < n
  · simp [h]
  · have : ¬ ((i : Int) < n) := by omega
    rw [if_pos (by omega), if_neg this, if_neg h]
@[simp] theorem ixN_0 {n : Nat} : L2.ixN n 0 = if 0 < n then some 0 else none := ixN_nat (i := 0)
@[simp] theorem ixN_1 {n : Nat} : L2.ixN n 1 = if 1 < n then some 1 else none := ixN_nat (i := 1)
@[simp] theorem ixN_2 {n : Nat} : L2.ixN n 2 = if 2 < n then some 2 else none := ixN_nat (i := 2)
@[simp] theorem aug_add {i j : Int} : augD .add (.int i) (.int j) = some (.int (i + j)) := rfl
@[simp] theorem aug_sub {i j : Int} : augD .sub (.int i) (.int j) = some (.int (i - j)) := rfl
theorem s64 {i : Int} (h : -(2 ^ 64) < i) (h' : i < 2 ^ 64) : small64 i = true := by
  unfold small64
  rw [decide_eq_true h, decide_eq_true h']
  rfl
end
end BK

set_option Elab.async false
set_option linter.all false
set_option maxRecDepth 100000
/-! BKn: the laws' common defs: the bag that tells numbers; loops by an invariant. -/
namespace BK
open PySem
/-! ### loops -/
section
variable {f : Rho → D → Option Out} {ρ : Rho}
@[simp] theorem forLoop_nil : forLoop f ρ [] = some (.nx ρ) := rfl
def kLoop (f : Rho → D → Option Out) (xs : List D) : Option Out → Option Out
  | some (.nx ρ1) => forLoop f ρ1 xs
  | some (.ct ρ1) => forLoop f ρ1 xs
  | some (.bk ρ1) => some (.nx ρ1)
  | some (.rt d b ρ1) => some (.rt d b ρ1)
  | none => none
@[simp] theorem kLoop_nx {xs : List D} : kLoop f xs (some (.nx ρ)) = forLoop f ρ xs := rfl
@[simp] theorem kLoop_ct {xs : List D} : kLoop f xs (some (.ct ρ)) = forLoop f ρ xs := rfl
@[simp] theorem kLoop_bk {xs : List D} : kLoop f xs (some (.bk ρ)) = some (.nx ρ) := rfl
@[simp] theorem kLoop_rt {xs : List D} {d : D} {b : Bool} : kLoop f xs (some (.rt d b ρ)) = some (.rt d b ρ) := rfl
theorem forLoop_cons {x : D} {xs : List D} : forLoop f ρ (x :: xs) = kLoop f xs (f ρ x) := by
  rw [forLoop]
  rcases f ρ x with _ | o <;> first | rfl | (cases o <;> rfl)
theorem forLoop_inv (I : Rho → Prop) : ∀ (xs : List D) (ρ : Rho), (∀ ρ x, x ∈ xs → I ρ → ∃ ρ', f ρ x = some (.nx ρ') ∧ I ρ') → I ρ → ∃ ρ', forLoop f ρ xs = some (.nx ρ') ∧ I ρ'
  | [], ρ, _, h0 => ⟨ρ, rfl, h0⟩
  | x :: xs, ρ, h, h0 => by
    obtain ⟨ρ1, e, h1⟩ := h ρ x (List.mem_cons_self ..) h0
    obtain ⟨ρ2, e2, h2⟩ := forLoop_inv I xs ρ1 (fun ρ x hx => h ρ x (List.mem_cons_of_mem _ hx)) h1
    exact ⟨ρ2, by rw [forLoop_cons, e]; exact e2, h2⟩
/-- .. by the turn's number -/
theorem forLoop_inv' (I : Nat → Rho → Prop) : ∀ (xs : List D) (k : Nat) (ρ : Rho), (∀ i ρ x, xs[i]? = some x → I (k + i) ρ → ∃ ρ', f ρ x = some (.nx ρ') ∧ I (k + i + 1) ρ') → I k ρ → ∃ ρ', forLoop f ρ xs = some (.nx ρ') ∧ I (k + xs.length) ρ'
  | [], k, ρ, _, h0 => ⟨ρ, rfl, h0⟩
  | x :: xs, k, ρ, h, h0 => by
    obtain ⟨ρ1, e, h1⟩ := h 0 ρ x rfl h0
    obtain ⟨ρ2, e2, h2⟩ := forLoop_inv' I xs (k + 1) ρ1 (fun i ρ y hy q => by
      have e1 : k + (i + 1) = k + 1 + i := by omega
      have := h (i + 1) ρ y (by simpa using hy) (by rw [e1]; exact q)
      rw [e1] at this
      exact this) h1
    refine ⟨ρ2, by rw [forLoop_cons, e]; exact e2, ?_⟩
    rw [List.length_cons, show k + (xs.length + 1) = k + 1 + xs.length by omega]
    exact h2
end
section
variable {f : Rho → D → Option (Option D × Rho)} {ρ : Rho}
@[simp] theorem lcLoop_nil : lcLoop f ρ [] = some ([], ρ) := rfl
def lcC (y : Option D) : Option (List D × Rho) → Option (List D × Rho)
  | some (ys, ρ) => some (match y with | some d => d :: ys | none => ys, ρ)
  | none => none
@[simp] theorem lcC_some {d : D} {ys : List D} : lcC (some d) (some (ys, ρ)) = some (d :: ys, ρ) := rfl
@[simp] theorem lcC_none {ys : List D} : lcC none (some (ys, ρ)) = some (ys, ρ) := rfl
def kLc (f : Rho → D → Option (Option D × Rho)) (xs : List D) : Option (Option D × Rho) → Option (List D × Rho)
  | some (y, ρ1) => lcC y (lcLoop f ρ1 xs)
  | none => none
@[simp] theorem kLc_some {xs : List D} {y : Option D} : kLc f xs (some (y, ρ)) = lcC y (lcLoop f ρ xs) := rfl
theorem lcLoop_cons {x : D} {xs : List D} : lcLoop f ρ (x :: xs) = kLc f xs (f ρ x) := by
  rw [lcLoop]
  rcases f ρ x with _ | ⟨y, ρ1⟩
  · rfl
  · show (lcLoop f ρ1 xs).map _ = lcC y (lcLoop f ρ1 xs)
    rcases lcLoop f ρ1 xs with _ | ⟨ys, ρ2⟩ <;> rfl
theorem lcLoop_inv (I : Rho → Prop) (Q : D → Prop) : ∀ (xs : List D) (ρ : Rho), (∀ ρ x, x ∈ xs → I ρ → ∃ y ρ', f ρ x = some (some y, ρ') ∧ I ρ' ∧ Q y) → I ρ → ∃ ys ρ', lcLoop f ρ xs = some (ys, ρ') ∧ I ρ' ∧ ys.length = xs.length ∧ ∀ y ∈ ys, Q y
  | [], ρ, _, h0 => ⟨[], ρ, rfl, h0, rfl, by simp⟩
  | x :: xs, ρ, h, h0 => by
    obtain ⟨y, ρ1, e, h1, q⟩ := h ρ x (List.mem_cons_self ..) h0
    obtain ⟨ys, ρ2, e2, h2, l, qs⟩ := lcLoop_inv I Q xs ρ1 (fun ρ x hx => h ρ x (List.mem_cons_of_mem _ hx)) h1
    refine ⟨y :: ys, ρ2, by rw [lcLoop_cons, e, kLc_some, e2]; rfl, h2, by simp [l], ?_⟩
    intro z hz
    rcases List.mem_cons.mp hz with rfl | hz
    · exact q
    · exact qs z hz
/-- .. that leaves the names as they are -/
theorem lcLoop_map (g : D → D) : ∀ (xs : List D), (∀ x, x ∈ xs → f ρ x = some (some (g x), ρ)) → lcLoop f ρ xs = some (xs.map g, ρ)
  | [], _ => rfl
  | x :: xs, h => by
    rw [lcLoop_cons, h x (List.mem_cons_self ..), kLc_some, lcLoop_map g xs fun y hy => h y (List.mem_cons_of_mem _ hy)]
    rfl
/-- .. with a test -/
theorem lcLoop_filter (p : D → Bool) (g : D → D) : ∀ (xs : List D), (∀ x, x ∈ xs → f ρ x = some (if p x then some (g x) else none, ρ)) → lcLoop f ρ xs = some ((xs.filter p).map g, ρ)
  | [], _ => rfl
  | x :: xs, h => by
    rw [lcLoop_cons, h x (List.mem_cons_self ..), kLc_some, lcLoop_filter p g xs fun y hy => h y (List.mem_cons_of_mem _ hy)]
    by_cases hp : p x = true
    · rw [if_pos hp, List.filter_cons_of_pos hp]; rfl
    · rw [if_neg hp, List.filter_cons_of_neg hp]; rfl
end
section
variable {P : Pr} {cf : Call} {ρ : Rho}
def kLe (own : List Nat) : R3 → Option (Option D × Rho)
  | some (d, _, ρ) => some (some d, wipeR ρ own)
  | none => none
@[simp] theorem kLe_some {own : List Nat} {d : D} {f : Bool} : kLe own (some (d, f, ρ)) = some (some d, wipeR ρ own) := rfl
def kLt (P : Pr) (cf : Call) (elt : E) (own : List Nat) : Option (Bool × Rho) → Option (Option D × Rho)
  | some (true, ρ) => kLe own (ev P cf ρ elt)
  | some (false, ρ) => some (none, wipeR ρ own)
  | none => none
@[simp] theorem kLt_t {elt : E} {own : List Nat} : kLt P cf elt own (some (true, ρ)) = kLe own (ev P cf ρ elt) := rfl
@[simp] theorem kLt_f {elt : E} {own : List Nat} : kLt P cf elt own (some (false, ρ)) = some (none, wipeR ρ own) := rfl
def kLb (P : Pr) (cf : Call) (elt : E) (own : List Nat) (cd : Ts) : Option Rho → Option (Option D × Rho)
  | some ρ => kLt P cf elt own (evAll P cf ρ cd)
  | none => none
@[simp] theorem kLb_some {elt : E} {own : List Nat} {cd : Ts} : kLb P cf elt own cd (some ρ) = kLt P cf elt own (evAll P cf ρ cd) := rfl
def lcBody (P : Pr) (cf : Call) (elt : E) (tg : Tg) (cd : Ts) (ρ' : Rho) (x : D) : Option (Option D × Rho) := kLb P cf elt tg.own cd (tg.bind (wipeR ρ' tg.own) x false)
def kLw (ρ : Rho) (own : List Nat) : Option (List D × Rho) → R3
  | some (ds, ρ1) => some (.lst ds, true, unwipe ρ ρ1 own)
  | none => none
@[simp] theorem kLw_some {own : List Nat} {ds : List D} {ρ1 : Rho} : kLw ρ own (some (ds, ρ1)) = some (.lst ds, true, unwipe ρ ρ1 own) := rfl
def kLi (P : Pr) (cf : Call) (elt : E) (tg : Tg) (cd : Ts) : Option (List D × Rho) → R3
  | some (xs, ρ) => if loose ρ tg.own && decide (xs.length ≤ most) then kLw ρ tg.own (lcLoop (lcBody P cf elt tg cd) (wipeR ρ tg.own) xs) else none
  | none => none
@[simp] theorem kLi_some {elt : E} {tg : Tg} {cd : Ts} {xs : List D} : kLi P cf elt tg cd (some (xs, ρ)) = if loose ρ tg.own && decide (xs.length ≤ most) then kLw ρ tg.own (lcLoop (lcBody P cf elt tg cd) (wipeR ρ tg.own) xs) else none := rfl
theorem lcBody_eq {elt : E} {tg : Tg} {cd : Ts} : (fun (ρ' : Rho) (x : D) => (tg.bind (wipeR ρ' tg.own) x false).bind fun ρ2 => (evAll P cf ρ2 cd).bind fun (t, ρ3) => if t then (ev P cf ρ3 elt).map fun (d, _, ρ4) => (some d, wipeR ρ4 tg.own) else some (none, wipeR ρ3 tg.own)) = lcBody P cf elt tg cd := by
  funext ρ' x
  show _ = kLb P cf elt tg.own cd (tg.bind (wipeR ρ' tg.own) x false)
  rcases tg.bind (wipeR ρ' tg.own) x false with _ | ρ2
  · rfl
  · show (evAll P cf ρ2 cd).bind _ = kLt P cf elt tg.own (evAll P cf ρ2 cd)
    rcases evAll P cf ρ2 cd with _ | ⟨t, ρ3⟩
    · rfl
    · cases t
      · rfl
      · show (ev P cf ρ3 elt).map _ = kLe tg.own (ev P cf ρ3 elt)
        rcases ev P cf ρ3 elt with _ | ⟨d, f, ρ4⟩ <;> rfl
@[simp] theorem ev_lc {elt : E} {tg : Tg} {it : I} {cd : Ts} : ev P cf ρ (.lc elt tg it cd) = kLi P cf elt tg cd (evI P cf ρ it) := by
  simp only [ev]
  rcases evI P cf ρ it with _ | ⟨xs, ρ1⟩
  · rfl
  · rw [Option.bind_some, kLi_some, ← lcBody_eq]
    show (if _ then _ else _) = if _ then _ else _
    split
    · show (lcLoop _ _ xs).map _ = kLw ρ1 tg.own (lcLoop _ _ xs)
      rcases lcLoop _ (wipeR ρ1 tg.own) xs with _ | ⟨ds, ρ2⟩ <;> rfl
    · rfl
def kWu (ρ : Rho) (ds xs : List D) (p : Bool) (i : Nat) : Option Sl → R3
  | some .un => some (.lst ds, true, ρ.set i (.ow p (.lst xs)))
  | _ => none
@[simp] theorem kWu_un {ds xs : List D} {p : Bool} {i : Nat} : kWu ρ ds xs p i (some .un) = some (.lst ds, true, ρ.set i (.ow p (.lst xs))) := rfl
def kWl (ρ : Rho) (own : List Nat) (xs : List D) (p : Bool) (i : Nat) : Option (List D × Rho) → R3
  | some (ds, ρ5) => kWu (unwipe ρ ρ5 own) ds xs p i (unwipe ρ ρ5 own)[i]?
  | none => none
@[simp] theorem kWl_some {own : List Nat} {ds xs : List D} {p : Bool} {i : Nat} {ρ5 : Rho} : kWl ρ own xs p i (some (ds, ρ5)) = kWu (unwipe ρ ρ5 own) ds xs p i (unwipe ρ ρ5 own)[i]? := rfl
def kWo (P : Pr) (cf : Call) (elt : E) (tg : Tg) (cd : Ts) (ρ : Rho) (i : Nat) : Option Sl → R3
  | some (.ow p (.lst xs)) => if loose (ρ.set i .un) tg.own && decide (xs.length ≤ most) then kWl (ρ.set i .un) tg.own xs p i (lcLoop (lcBody P cf elt tg cd) (wipeR (ρ.set i .un) tg.own) xs) else none
  | some (.sh _ (.lst xs)) => if loose ρ tg.own && decide (xs.length ≤ most) then kLw ρ tg.own (lcLoop (lcBody P cf elt tg cd) (wipeR ρ tg.own) xs) else none
  | some (.sh _ (.tup xs)) => if loose ρ tg.own && decide (xs.length ≤ most) then kLw ρ tg.own (lcLoop (lcBody P cf elt tg cd) (wipeR ρ tg.own) xs) else none
  | _ => none
@[simp] theorem kWo_ow {elt : E} {tg : Tg} {cd : Ts} {i : Nat} {p : Bool} {xs : List D} : kWo P cf elt tg cd ρ i (some (.ow p (.lst xs))) = if loose (ρ.set i .un) tg.own && decide (xs.length ≤ most) then kWl (ρ.set i .un) tg.own xs p i (lcLoop (lcBody P cf elt tg cd) (wipeR (ρ.set i .un) tg.own) xs) else none := rfl
@[simp] theorem kWo_sh {elt : E} {tg : Tg} {cd : Ts} {i : Nat} {p : Bool} {xs : List D} : kWo P cf elt tg cd ρ i (some (.sh p (.lst xs))) = if loose ρ tg.own && decide (xs.length ≤ most) then kLw ρ tg.own (lcLoop (lcBody P cf elt tg cd) (wipeR ρ tg.own) xs) else none := rfl
@[simp] theorem kWo_tp {elt : E} {tg : Tg} {cd : Ts} {i : Nat} {p : Bool} {xs : List D} : kWo P cf elt tg cd ρ i (some (.sh p (.tup xs))) = if loose ρ tg.own && decide (xs.length ≤ most) then kLw ρ tg.own (lcLoop (lcBody P cf elt tg cd) (wipeR ρ tg.own) xs) else none := rfl
@[simp] theorem ev_lcw {elt : E} {tg : Tg} {i : Nat} {cd : Ts} : ev P cf ρ (.lcw elt tg i cd) = kWo P cf elt tg cd ρ i ρ[i]? := by
  simp only [ev]
  rcases ρ[i]? with _ | s
  · rfl
  · cases s with
    | un => rfl
    | sh p d =>
      cases d <;> try rfl
      · rename_i xs
        rw [kWo_sh, ← lcBody_eq]
        show (if _ then _ else _) = if _ then _ else _
        split
        · rcases lcLoop _ (wipeR ρ tg.own) xs with _ | ⟨ds, ρ5⟩ <;> rfl
        · rfl
      · rename_i xs
        rw [kWo_tp, ← lcBody_eq]
        show (if _ then _ else _) = if _ then _ else _
        split
        · rcases lcLoop _ (wipeR ρ tg.own) xs with _ | ⟨ds, ρ5⟩ <;> rfl
        · rfl
    | ow p d =>
      cases d <;> try rfl
      rename_i xs
      rw [kWo_ow, ← lcBody_eq]
      show (if _ then _ else _) = if _ then _ else _
      split
      · rcases lcLoop _ (wipeR (ρ.set i .un) tg.own) xs with _ | ⟨ds, ρ5⟩
        · rfl
        · show (match (unwipe (ρ.set i .un) ρ5 tg.own)[i]? with
            | some .un => some (D.lst ds, true, (unwipe (ρ.set i .un) ρ5 tg.own).set i (Sl.ow p (.lst xs)))
            | _ => none) = kWu (unwipe (ρ.set i .un) ρ5 tg.own) ds xs p i (unwipe (ρ.set i .un) ρ5 tg.own)[i]?
          rcases (unwipe (ρ.set i .un) ρ5 tg.own)[i]? with _ | t
          · rfl
          · cases t <;> rfl
      · rfl
def kFb (P : Pr) (cf : Call) (b : Ss) : Option Rho → Option Out
  | some ρ => exs P cf ρ b
  | none => none
@[simp] theorem kFb_some {b : Ss} : kFb P cf b (some ρ) = exs P cf ρ b := rfl
def fBody (P : Pr) (cf : Call) (tg : Tg) (b : Ss) (ρ' : Rho) (x : D) : Option Out := kFb P cf b (tg.bind ρ' x false)
theorem fBody_eq {tg : Tg} {b : Ss} : (fun (ρ' : Rho) (x : D) => (tg.bind ρ' x false).bind fun ρ2 => exs P cf ρ2 b) = fBody P cf tg b := by
  funext ρ' x
  show _ = kFb P cf b (tg.bind ρ' x false)
  rcases tg.bind ρ' x false with _ | ρ2 <;> rfl
def kFor (f : Rho → D → Option Out) : Option (List D × Rho) → Option Out
  | some (xs, ρ) => forLoop f ρ xs
  | none => none
@[simp] theorem kFor_some {f : Rho → D → Option Out} {xs : List D} : kFor f (some (xs, ρ)) = forLoop f ρ xs := rfl
@[simp] theorem ex_for {tg : Tg} {it : I} {b : Ss} : ex P cf ρ (.for_ tg it b) = kFor (fBody P cf tg b) (evI P cf ρ it) := by
  simp only [ex]
  rw [← fBody_eq]
  rcases evI P cf ρ it with _ | ⟨xs, ρ1⟩ <;> rfl
def kR1 : R3 → Option (List D × Rho)
  | some (.int n, _, ρ) => if decide (-(most : Int) ≤ n) && decide (n ≤ most) then some (rngD 0 n, ρ) else none
  | _ => none
@[simp] theorem kR1_some {n : Int} {f : Bool} : kR1 (some (.int n, f, ρ)) = if decide (-(most : Int) ≤ n) && decide (n ≤ most) then some (rngD 0 n, ρ) else none := rfl
@[simp] theorem evI_rng1 {a : E} : evI P cf ρ (.rng1 a) = kR1 (ev P cf ρ a) := by
  simp only [evI]
  rcases ev P cf ρ a with _ | ⟨d, f, ρ1⟩
  · rfl
  · cases d <;> rfl
def kR2b (d : D) : R3 → Option (List D × Rho)
  | some (.int n, _, ρ) => match d with
    | .int m => if decide (-(most : Int) ≤ m) && decide (m ≤ most) && decide (n ≤ most) && decide (-(most : Int) ≤ n) then some (rngD m n, ρ) else none
    | _ => none
  | _ => none
@[simp] theorem kR2b_some {m n : Int} {f : Bool} : kR2b (.int m) (some (.int n, f, ρ)) = if decide (-(most : Int) ≤ m) && decide (m ≤ most) && decide (n ≤ most) && decide (-(most : Int) ≤ n) then some (rngD m n, ρ) else none := rfl
def kR2 (P : Pr) (cf : Call) (b : E) : R3 → Option (List D × Rho)
  | some (d, _, ρ) => kR2b d (ev P cf ρ b)
  | none => none
@[simp] theorem kR2_some {b : E} {d : D} {f : Bool} : kR2 P cf b (some (d, f, ρ)) = kR2b d (ev P cf ρ b) := rfl
@[simp] theorem evI_rng2 {a b : E} : evI P cf ρ (.rng2 a b) = kR2 P cf b (ev P cf ρ a) := by
  simp only [evI]
  rcases ev P cf ρ a with _ | ⟨d, f, ρ1⟩
  · rfl
  · show (ev P cf ρ1 b).bind _ = kR2b d (ev P cf ρ1 b)
    rcases ev P cf ρ1 b with _ | ⟨e, g, ρ2⟩
    · rfl
    · cases d <;> cases e <;> rfl
def insI (ρ1 : Rho) : Option D → Option (List D × Rho)
  | some (.tup xs) => some (xs, ρ1)
  | _ => none
@[simp] theorem insI_tup {xs : List D} : insI ρ (some (.tup xs)) = some (xs, ρ) := rfl
def seqI (P : Pr) (ρ : Rho) (e : E) : R3 → Option (List D × Rho)
  | some (.lst xs, _, ρ1) => some (xs, ρ1)
  | some (.tup xs, _, ρ1) => some (xs, ρ1)
  | some (.dk ks _, fr, ρ1) => if still ρ e fr then some (ks.map keyD, ρ1) else none
  | some (.kd ks _, _, ρ1) => some (ks.map D.str, ρ1)
  | some (.str x, _, ρ1) => some (signsD x, ρ1)
  | some (.ins c ns ds, _, ρ1) => insI ρ1 (itD P c ns ds)
  | _ => none
@[simp] theorem seqI_lst {e : E} {xs : List D} {f : Bool} {ρ1 : Rho} : seqI P ρ e (some (.lst xs, f, ρ1)) = some (xs, ρ1) := rfl
@[simp] theorem seqI_tup {e : E} {xs : List D} {f : Bool} {ρ1 : Rho} : seqI P ρ e (some (.tup xs, f, ρ1)) = some (xs, ρ1) := rfl
@[simp] theorem seqI_kd {e : E} {ks : List Str} {vs : List D} {f : Bool} {ρ1 : Rho} : seqI P ρ e (some (.kd ks vs, f, ρ1)) = some (ks.map D.str, ρ1) := rfl
@[simp] theorem seqI_str {e : E} {x : Str} {f : Bool} {ρ1 : Rho} : seqI P ρ e (some (.str x, f, ρ1)) = some (signsD x, ρ1) := rfl
@[simp] theorem seqI_dk {e : E} {ks : List L2.Key} {vs : List D} {f : Bool} {ρ1 : Rho} : seqI P ρ e (some (.dk ks vs, f, ρ1)) = if still ρ e f then some (ks.map keyD, ρ1) else none := rfl
@[simp] theorem seqI_ins {e : E} {c : Nat} {ns : List Str} {ds : List D} {f : Bool} {ρ1 : Rho} : seqI P ρ e (some (.ins c ns ds, f, ρ1)) = insI ρ1 (itD P c ns ds) := rfl
@[simp] theorem evI_seq {e : E} : evI P cf ρ (.seq e) = seqI P ρ e (ev P cf ρ e) := by
  simp only [evI]
  rcases ev P cf ρ e with _ | ⟨d, f, ρ1⟩
  · rfl
  · cases d <;> first
      | rfl
      | (rename_i c ns ds
         show (match itD P c ns ds with | some (.tup xs) => some (xs, ρ1) | _ => none) = insI ρ1 (itD P c ns ds)
         rcases itD P c ns ds with _ | x
         · rfl
         · cases x <;> rfl)
@[simp] theorem loose_nil : loose ρ [] = true := rfl
def isLoose : Option Sl → Bool
  | some (.sh false _) => true
  | some .un => true
  | _ => false
@[simp] theorem isLoose_sh {d : D} : isLoose (some (.sh false d)) = true := rfl
@[simp] theorem isLoose_un : isLoose (some .un) = true := rfl
@[simp] theorem loose_cons {i : Nat} {is : List Nat} : loose ρ (i :: is) = (isLoose ρ[i]? && loose ρ is) := by
  show ((match ρ[i]? with
    | some (.sh false _) => true
    | some .un => true
    | _ => false) && loose ρ is) = _
  rcases ρ[i]? with _ | s <;> first | rfl | (cases s <;> first | rfl | (rename_i p d; cases p <;> rfl))
@[simp] theorem wipe_nil : wipeR ρ [] = ρ := rfl
@[simp] theorem wipe_cons {i : Nat} {is : List Nat} : wipeR ρ (i :: is) = (wipeR ρ is).set i .un := rfl
@[simp] theorem unwipe_nil {ρ0 : Rho} : unwipe ρ0 ρ [] = ρ := rfl
@[simp] theorem unwipe_cons {ρ0 : Rho} {i : Nat} {is : List Nat} : unwipe ρ0 ρ (i :: is) = (unwipe ρ0 ρ is).set i (ρ0.getD i .un) := rfl
@[simp] theorem own_nm {i : Nat} : Tg1.own (.nm i) = [i] := rfl
@[simp] theorem own_ix {x : Nat} {k : D} : Tg1.own (.ix x k) = [] := rfl
@[simp] theorem own_one {t : Tg1} : Tg.own (.one t) = t.own := rfl
@[simp] theorem own_tp {ts : List Tg1} : Tg.own (.tp ts) = (ts.map Tg1.own).flatten := rfl
end
/-! ### the bag -/
structure Bag where
  a : Int
  b : Int
  c : Nat
  xs : List Int
def Bag.ok (s : Bag) : Prop := 0 ≤ s.a ∧ (0 ≤ s.b ∧ s.b < 2147483647) ∧ ∀ x ∈ s.xs, 0 ≤ x
def Bag.d (s : Bag) : D := .lst [.int s.a, .int s.b, .int s.c, .lst (s.xs.map .int)]
def Bag.cell (s : Bag) : Int := s.xs.getD s.c 0
def Bag.step (s : Bag) : Bag := if s.a = 0 then { a := if 1000000000000000000 ≤ s.cell then s.cell else 0, b := (s.b * 48271 + s.cell % 2147483647 + 7919 * (s.c + 1)) % 2147483647, c := s.c + 1, xs := s.xs } else s
def Bag.mix (s : Bag) : Int := (s.b + 1) * 39373 % 1000000007
def Bag.out (s : Bag) (m : Int) : Int := if 0 < s.step.a then s.step.a % m else (s.step.mix * s.step.mix % 998244353 * 30011 % 998244353 / 7) % m
def Bag.nx (s : Bag) (m : Int) : Bag := if 0 < s.step.a then { s.step with a := s.step.a / m } else s.step
theorem Bag.cell_ok {s : Bag} (h : s.ok) : 0 ≤ s.cell := by
  unfold cell
  rw [List.getD_eq_getElem?_getD]
  cases e : s.xs[s.c]? with
  | none => exact Int.le_refl 0
  | some x => exact h.2.2 x (List.mem_of_getElem? e)
theorem Bag.step_ok {s : Bag} (h : s.ok) : s.step.ok := by
  unfold step
  split
  · refine ⟨?_, ⟨Int.emod_nonneg _ (by decide), Int.emod_lt_of_pos _ (by decide)⟩, h.2.2⟩
    show 0 ≤ (if _ then _ else _ : Int)
    split
    · exact Bag.cell_ok h
    · exact Int.le_refl 0
  · exact h
theorem Bag.out_lo {s : Bag} {m : Int} (h0 : 0 < m) : 0 ≤ s.out m := by
  unfold out
  split <;> exact Int.emod_nonneg _ (by omega)
theorem Bag.out_hi {s : Bag} {m : Int} (h0 : 0 < m) : s.out m < m := by
  unfold out
  split <;> exact Int.emod_lt_of_pos _ h0
@[simp] theorem Bag.nx_ok {s : Bag} {m : Int} (h : s.ok) (h0 : 0 < m) : (s.nx m).ok := by
  unfold nx
  split
  · exact ⟨Int.ediv_nonneg (Bag.step_ok h).1 (by omega), (Bag.step_ok h).2⟩
  · exact (Bag.step_ok h)
def takeDef : Def := { name := "_law_take", np := 2, nn := 7, body :=
    (.cons (.iff (.cmp .eq (.ap2 .idx (.var 0) (.cst (.int 0))) (.cst (.int 0)))
    (.cons (.asg (.one (.nm 4)) (.cst (.int 0)))
    (.cons (.iff (.cmp .lt (.ap2 .idx (.var 0) (.cst (.int 2))) (.ap1 .len (.ap2 .idx (.var 0) (.cst (.int 3)))))
    (.cons (.asg (.one (.nm 4)) (.ap2 .idx (.ap2 .idx (.var 0) (.cst (.int 3))) (.ap2 .idx (.var 0) (.cst (.int 2)))))
    .nil)
    .nil)
    (.cons (.augi 0 (.cst (.int 2)) .add (.cst (.int 1)))
    (.cons (.iff (.cmp .ge (.var 4) (.ap2 .pow (.cst (.int 10)) (.cst (.int 18))))
    (.cons (.set 0 (.cst (.int 0)) (.var 4))
    .nil)
    .nil)
    (.cons (.asg (.one (.nm 5)) (.ap2 .add (.ap2 .add (.ap2 .mul (.ap2 .idx (.var 0) (.cst (.int 1))) (.cst (.int 48271))) (.ap2 .mod (.ap1 .int (.var 4)) (.cst (.int 2147483647)))) (.ap2 .mul (.cst (.int 7919)) (.ap2 .idx (.var 0) (.cst (.int 2))))))
    (.cons (.set 0 (.cst (.int 1)) (.ap2 .mod (.ap1 .int (.var 5)) (.cst (.int 2147483647))))
    .nil))))))
    .nil)
    (.cons (.iff (.cmp .gt (.ap2 .idx (.var 0) (.cst (.int 0))) (.cst (.int 0)))
    (.cons (.asg (.one (.nm 6)) (.ap2 .mod (.ap1 .int (.ap2 .idx (.var 0) (.cst (.int 0)))) (.var 1)))
    (.cons (.set 0 (.cst (.int 0)) (.ap2 .fdiv (.ap2 .idx (.var 0) (.cst (.int 0))) (.var 1)))
    (.cons (.ret (.var 6))
    .nil)))
    .nil)
    (.cons (.asg (.one (.nm 2)) (.ap2 .mod (.ap1 .int (.ap2 .mul (.ap2 .add (.ap2 .idx (.var 0) (.cst (.int 1))) (.cst (.int 1))) (.cst (.int 39373)))) (.cst (.int 1000000007))))
    (.cons (.asg (.one (.nm 3)) (.ap2 .mod (.ap1 .int (.ap2 .mul (.ap2 .mod (.ap1 .int (.ap2 .mul (.var 2) (.var 2))) (.cst (.int 998244353))) (.cst (.int 30011)))) (.cst (.int 998244353))))
    (.cons (.ret (.ap2 .mod (.ap1 .int (.ap2 .fdiv (.var 3) (.cst (.int 7)))) (.var 1)))
    .nil))))) }
theorem atD_map {xs : List Int} {c : Nat} (h : c < xs.length) : atD (xs.map D.int) (c : Int) = some (.int (xs.getD c 0)) := by
  rw [atD_nat, List.getElem?_map, List.getElem?_eq_getElem h, List.getD_eq_getElem?_getD, List.getElem?_eq_getElem h]; rfl
theorem s48 : small64 48271 = true := by decide
theorem s39 : small64 39373 = true := by decide
theorem s79 : small64 7919 = true := by decide
theorem s30 : small64 30011 = true := by decide
section
variable {P : Pr} {f n : Nat} {s : Bag} {m : Int}
set_option maxHeartbeats 2000000 in
theorem call_take (e9 : P.defs[f]? = some takeDef) (hs : s.ok) (h0 : 0 < m) (h1 : m < 1073741824) : callAt P (n + 1) f [.ow true s.d, .sh false (.int m)] = some (.int (s.out m), false, [.ow true (s.nx m).d, .sh false (.int m)]) := by
  rw [call_eq e9 rfl (by decide) rfl]
  have hm : small64 s.step.mix = true := s64 (Int.lt_of_lt_of_le (by decide) (Int.emod_nonneg _ (by decide))) (Int.lt_of_lt_of_le (Int.emod_lt_of_pos _ (by decide)) (by decide))
  unfold Bag.out Bag.nx
  by_cases ha : s.a = 0
  · by_cases hc : s.c < s.xs.length
    · have hat := atD_map hc
      rw [show s.xs.getD s.c 0 = s.cell from rfl] at hat
      by_cases hg : 1000000000000000000 ≤ s.cell
      · have hg0 : 0 < s.cell := by omega
        simp [takeDef, Bag.d, Bag.step, ha, hc, List.replicate, hat, hg, s48, s79, hg0, h0, h1]
      · simp only [Bag.mix, Bag.step, if_pos ha, if_neg hg, Int.lt_irrefl, if_false] at hm ⊢
        simp [takeDef, Bag.d, ha, hc, List.replicate, hat, hg, s48, s79, s39, s30, h0, h1, hm]
    · have hx : s.cell = 0 := by unfold Bag.cell; rw [List.getD_eq_getElem?_getD, List.getElem?_eq_none (by omega)]; rfl
      have hg : ¬ 1000000000000000000 ≤ (0 : Int) := by decide
      simp only [Bag.mix, Bag.step, if_pos ha, hx, if_neg hg, Int.lt_irrefl, if_false] at hm ⊢
      simp at hm
      simp [takeDef, Bag.d, ha, hc, List.replicate, s48, s79, s39, s30, h0, h1, hm]
  · have h2 : 0 < s.a := by have := hs.1; omega
    simp [takeDef, Bag.d, Bag.step, ha, h2, List.replicate, h0, h1]
end
end BK

set_option Elab.async false
set_option linter.all false
set_option maxRecDepth 100000
/-! BKp: data that are small enough to be written out; what is equal to itself. -/
namespace BK
open PySem
mutual
def D.mild : D → Bool
  | .non => true
  | .bl _ => true
  | .int i => decide (i.natAbs.log2 < 139)
  | .str x => PyData.strOk x
  | .lst xs => D.milds xs
  | .tup xs => D.milds xs
  | _ => false
def D.milds : List D → Bool
  | [] => true
  | x :: xs => D.mild x && D.milds xs
end
mutual
def D.bulk : D → Nat
  | .str x => x.cps.size
  | .lst xs => D.bulks xs
  | .tup xs => D.bulks xs
  | _ => 0
def D.bulks : List D → Nat
  | [] => 0
  | x :: xs => D.bulk x + 1 + D.bulks xs
end
mutual
def D.deep : D → Nat
  | .lst xs => D.deeps xs + 1
  | .tup xs => D.deeps xs + 1
  | _ => 0
def D.deeps : List D → Nat
  | [] => 0
  | x :: xs => max (D.deep x) (D.deeps xs)
end
theorem strOk_short {x : Str} (h : PyData.strOk x = true) : (x.cps.toList.all fun c => decide (c < 16 ^ 8)) = true := by
  unfold PyData.strOk at h
  rw [← Array.all_toList] at h
  rw [List.all_eq_true] at h ⊢
  intro c hc
  have := of_decide_eq_true (h c hc)
  exact decide_eq_true (by omega)
theorem int_short {i : Int} (h : i.natAbs.log2 < 139) : (PyData.shown (.int i)).length ≤ 140 := by
  have e := int_text_length_le (k := 139) (by decide) h
  show (Str.ofString (toString i)).length ≤ 140
  rw [ofString_length]
  omega
mutual
theorem mild_ok : ∀ d : D, d.mild = true → ∃ p, d.py = some p ∧ p.canLay0 = true ∧ p.showable = true ∧ p.leavesShort 140 = true ∧ p.bulk = d.bulk ∧ p.depth = d.deep
  | .non, _ => ⟨_, rfl, rfl, rfl, rfl, rfl, rfl⟩
  | .bl b, _ => ⟨_, rfl, rfl, rfl, rfl, rfl, rfl⟩
  | .int i, h => by
    have h : i.natAbs.log2 < 139 := of_decide_eq_true h
    exact ⟨.int i, rfl, rfl, decide_eq_true (by omega), decide_eq_true (int_short h), rfl, rfl⟩
  | .str x, h => ⟨.str x, rfl, h, rfl, strOk_short h, rfl, rfl⟩
  | .lst xs, h => by
    obtain ⟨ps, h1, h2, h3, h4, h5, h6⟩ := milds_ok xs h
    refine ⟨.list ps, by rw [D.py, h1]; rfl, by rw [PyData.canLay0]; exact h2, by rw [PyData.showable]; exact h3, by rw [PyData.leavesShort]; exact h4, by rw [PyData.bulk, D.bulk]; exact h5, by rw [PyData.depth, D.deep, h6]⟩
  | .tup xs, h => by
    obtain ⟨ps, h1, h2, h3, h4, h5, h6⟩ := milds_ok xs h
    refine ⟨.tuple ps, by rw [D.py, h1]; rfl, by rw [PyData.canLay0]; exact h2, by rw [PyData.showable]; exact h3, by rw [PyData.leavesShort]; exact h4, by rw [PyData.bulk, D.bulk]; exact h5, by rw [PyData.depth, D.deep, h6]⟩
  | .rl _, h => by simp [D.mild] at h
  | .dk _ _, h => by simp [D.mild] at h
  | .ins _ _ _, h => by simp [D.mild] at h
  | .kd _ _, h => by simp [D.mild] at h
theorem milds_ok : ∀ xs : List D, D.milds xs = true → ∃ ps, D.pys xs = some ps ∧ PyData.canLayAll0 ps = true ∧ PyData.showableAll ps = true ∧ PyData.leavesShortAll 140 ps = true ∧ PyData.bulkAll ps = D.bulks xs ∧ PyData.depthAll ps = D.deeps xs
  | [], _ => ⟨[], rfl, rfl, rfl, rfl, rfl, rfl⟩
  | x :: xs, h => by
    rw [D.milds, Bool.and_eq_true] at h
    obtain ⟨p, a1, a2, a3, a4, a5, a6⟩ := mild_ok x h.1
    obtain ⟨ps, h1, h2, h3, h4, h5, h6⟩ := milds_ok xs h.2
    refine ⟨p :: ps, by rw [D.pys, a1, Option.bind_some, h1]; rfl, by rw [PyData.canLayAll0, a2, h2]; rfl, by rw [PyData.showableAll, a3, h3]; rfl, by rw [PyData.leavesShortAll, a4, h4]; rfl, by rw [PyData.bulkAll, D.bulks, a5, h5], by rw [PyData.depthAll, D.deeps, a6, h6]⟩
end
/-- fit for being compared and written out -/
structure D.good (d : D) : Prop where
  m : d.mild = true
  b : d.bulk ≤ 600
  s : d.deep ≤ 60
theorem good_py {d : D} (g : d.good) : ∃ p, d.py = some p ∧ SeqAt.shaped p = true ∧ okRepr p = true ∧ PyData.eqv p p = true := by
  obtain ⟨p, h1, h2, h3, h4, h5, h6⟩ := mild_ok d g.m
  have hs : SeqAt.shaped p = true := by
    unfold SeqAt.shaped
    rw [h2, decide_eq_true (by rw [h6]; have := g.s; omega)]
    rfl
  refine ⟨p, h1, hs, ?_, SeqAt.eqv_refl p h2⟩
  have hb := PyData.shown_le_bulk 140 (by decide) p h4
  have := g.b
  unfold okRepr
  rw [h3, PyData.hasDict_of_canLay p h2, decide_eq_true (by rw [h6]; have := g.s; omega), decide_eq_true (by rw [h5] at hb; simp only [most]; omega)]
  rfl
theorem eq_self {d : D} (g : d.good) : op2 .eq d d = some (.bl true, false) := by
  obtain ⟨p, h1, h2, h3, h4⟩ := good_py g
  show (eqD d d).map _ = _
  have : eqD d d = some true := by
    by_cases hs : ∃ x, d = .str x
    · obtain ⟨x, rfl⟩ := hs
      show some (x == x) = some true
      rw [beq_self_eq_true]
    · have : eqD d d = eqDp d d := by
        cases d <;> first
          | rfl
          | exact absurd ⟨_, rfl⟩ hs
      rw [this]
      unfold eqDp
      rw [h1]
      simp only [h2, Bool.and_self, if_true, h4]
  rw [this]
  rfl
theorem ne_self {d : D} (g : d.good) : op2 .ne d d = some (.bl false, false) := by
  obtain ⟨p, h1, h2, h3, h4⟩ := good_py g
  show (eqD d d).map _ = _
  have : eqD d d = some true := by
    by_cases hs : ∃ x, d = .str x
    · obtain ⟨x, rfl⟩ := hs
      show some (x == x) = some true
      rw [beq_self_eq_true]
    · have : eqD d d = eqDp d d := by
        cases d <;> first
          | rfl
          | exact absurd ⟨_, rfl⟩ hs
      rw [this]
      unfold eqDp
      rw [h1]
      simp only [h2, Bool.and_self, if_true, h4]
  rw [this]
  rfl
theorem repr_good {d : D} (g : d.good) (f : d.flat = false) : ∃ x, op1 .repr d = some (.str x, false) := by
  obtain ⟨p, h1, h2, h3, h4⟩ := good_py g
  exact ⟨p.shown, repr_of_py h1 h3⟩
theorem good_ins {d : D} (g : d.good) : isIns d = none := by
  obtain ⟨p, h1, _⟩ := good_py g
  cases d <;> first
    | rfl
    | (simp [D.py] at h1; done)
def alikeDef : Def := { name := "_law_alike", np := 2, nn := 2, body :=
    (.cons (.ret (.and (.cons (.ap2 .eq (.var 0) (.var 1)) (.cons (.ap2 .eq (.ap1 .repr (.var 0)) (.ap1 .repr (.var 1))) .nil))))
    .nil) }
theorem call_alike {P : Pr} {n f : Nat} {a b : Sl} {d : D} (e : P.defs[f]? = some alikeDef) (ha : a = .sh false d ∨ a = .ow true d) (hb : b = .sh false d ∨ b = .ow true d) (g : d.good) (hf : d.flat = false) : callAt P (n + 1) f [a, b] = some (.bl true, false, [a, b]) := by
  obtain ⟨x, hx⟩ := repr_good g hf
  have h1 := eq_self g
  have fa : a.fit = true := by rcases ha with rfl | rfl <;> rfl
  have fb : b.fit = true := by rcases hb with rfl | rfl <;> rfl
  rw [call_eq e rfl (by decide) (by rw [List.all_cons, List.all_cons, fa, fb]; rfl)]
  rcases ha with rfl | rfl <;> rcases hb with rfl | rfl <;> simp [alikeDef, h1, hx, good_ins g]
end BK

set_option Elab.async false
set_option linter.all false
set_option maxRecDepth 100000
set_option maxHeartbeats 2000000
/-! BKq: the laws' common defs: bows that are drawn. -/
namespace BK
open PySem
abbrev Bw (a b : Int) : D := .tup [.int a, .int b]
def IsB (lo hi : Int) (x : D) : Prop := ∃ a b, x = Bw a b ∧ lo ≤ a ∧ a < b ∧ b < hi
theorem IsB.mono {lo hi lo' hi' : Int} {x : D} (h : IsB lo hi x) (h1 : lo' ≤ lo) (h2 : hi ≤ hi') : IsB lo' hi' x := by
  obtain ⟨a, b, rfl, q1, q2, q3⟩ := h
  exact ⟨a, b, rfl, by omega, q2, by omega⟩
def bagDef : Def := { name := "_law_bag", np := 1, nn := 2, body :=
    (.cons (.ret (.lst (.cons (.cst (.int 0)) (.cons (.cst (.int 1234567891)) (.cons (.cst (.int 0)) (.cons (.lc (.ap1 .abs (.var 1)) (.one (.nm 1)) (.seq (.ap2 (.sl false true) (.var 0) (.cst (.int 63)))) .nil) .nil))))))
    .nil) }
def bowDef (t : Nat) : Def := { name := "_law_bow", np := 2, nn := 3, body :=
    (.cons (.asg (.one (.nm 2)) (.call t (.cons (.var 0) (.cons (.ap2 .sub (.var 1) (.cst (.int 1))) .nil))))
    (.cons (.ret (.tup (.cons (.var 2) (.cons (.ap2 .add (.ap2 .add (.var 2) (.cst (.int 1))) (.call t (.cons (.var 0) (.cons (.ap2 .sub (.ap2 .sub (.var 1) (.cst (.int 1))) (.var 2)) .nil)))) .nil))))
    .nil)) }
def bowsDef (b t : Nat) : Def := { name := "_law_bows", np := 3, nn := 5, body :=
    (.cons (.asg (.one (.nm 3)) (.lc (.call b (.cons (.var 0) (.cons (.var 2) .nil))) (.one (.nm 4)) (.rng1 (.var 1)) .nil))
    (.cons (.iff (.all (.cons (.cmp .gt (.var 1) (.cst (.int 1))) (.cons (.cmp .eq (.call t (.cons (.var 0) (.cons (.cst (.int 4)) .nil))) (.cst (.int 0))) .nil)))
    (.cons (.set 3 (.ap1 .neg (.cst (.int 1))) (.ap2 .idx (.var 3) (.cst (.int 0))))
    .nil)
    .nil)
    (.cons (.ret (.var 3))
    .nil))) }
def spreadDef (t : Nat) : Def := { name := "_law_spread", np := 2, nn := 6, body :=
    (.cons (.asg (.one (.nm 2)) (.call t (.cons (.var 0) (.cons (.cst (.int 6)) .nil))))
    (.cons (.iff (.cmp .eq (.var 2) (.cst (.int 0)))
    (.cons (.ret (.lc (.tup (.cons (.ap2 .sub (.ap2 .mul (.ap2 .pow (.cst (.int 10)) (.cst (.int 25))) (.var 4)) (.ap2 .pow (.cst (.int 10)) (.cst (.int 29)))) (.cons (.ap2 .sub (.ap2 .mul (.ap2 .pow (.cst (.int 10)) (.cst (.int 25))) (.var 5)) (.ap2 .pow (.cst (.int 10)) (.cst (.int 29)))) .nil))) (.tp [(.nm 4), (.nm 5)]) (.seq (.var 1)) .nil))
    .nil)
    .nil)
    (.cons (.iff (.cmp .eq (.var 2) (.cst (.int 1)))
    (.cons (.ret (.lc (.tup (.cons (.ap2 .sub (.ap2 .mul (.var 4) (.var 4)) (.cst (.int 50))) (.cons (.ap2 .sub (.ap2 .mul (.var 5) (.var 5)) (.cst (.int 50))) .nil))) (.tp [(.nm 4), (.nm 5)]) (.seq (.var 1)) .nil))
    .nil)
    .nil)
    (.cons (.iff (.cmp .eq (.var 2) (.cst (.int 2)))
    (.cons (.ret (.lc (.tup (.cons (.ap2 .add (.var 4) (.ap2 .mul (.ap2 .fdiv (.var 4) (.cst (.int 3))) (.ap2 .pow (.cst (.int 10)) (.cst (.int 28))))) (.cons (.ap2 .add (.var 5) (.ap2 .mul (.ap2 .fdiv (.var 5) (.cst (.int 3))) (.ap2 .pow (.cst (.int 10)) (.cst (.int 28))))) .nil))) (.tp [(.nm 4), (.nm 5)]) (.seq (.var 1)) .nil))
    .nil)
    .nil)
    (.cons (.asg (.one (.nm 3)) (.ap2 .idx (.lst (.cons (.cst (.int 0)) (.cons (.cst (.int 6)) (.cons (.cst (.int 9)) .nil)))) (.ap2 .sub (.var 2) (.cst (.int 3)))))
    (.cons (.ret (.lc (.tup (.cons (.ap2 .sub (.var 4) (.var 3)) (.cons (.ap2 .sub (.var 5) (.var 3)) .nil))) (.tp [(.nm 4), (.nm 5)]) (.seq (.var 1)) .nil))
    .nil)))))) }
theorem cut63 {xs : List D} (h : xs.length ≤ 63) : cutD xs none (some 63) = xs := by
  unfold cutD
  have e1 : HT.sIx xs.length 0 none = 0 := rfl
  have e2 : HT.sIx xs.length xs.length (some 63) = xs.length := by
    show min (63 : Nat) xs.length = xs.length
    omega
  rw [e1, e2]
  simp
section
variable {P : Pr} {f t b n : Nat} {s : Bag} {m : Int}
theorem call_bag {ns : List Int} (e : P.defs[f]? = some bagDef) (h : ns.length ≤ 63) : ∃ s : Bag, callAt P (n + 1) f [.sh false (.rl (ns.map D.int))] = some (s.d, true, [.sh false (.rl (ns.map D.int))]) ∧ s.ok := by
  refine ⟨⟨0, 1234567891, 0, ns.map fun i => if i < 0 then -i else i⟩, ?_, by show (0 : Int) ≤ 0; decide, ⟨by show (0 : Int) ≤ 1234567891; decide, by show (1234567891 : Int) < _; decide⟩, fun x hx => ?_⟩
  · rw [call_eq e rfl (Nat.le_of_ble_eq_true rfl) rfl]
    have hc : op2 (.sl false true) (.rl (ns.map D.int)) (.int 63) = some (.lst (ns.map D.int), true) := by
      show some (D.lst (cutD (ns.map D.int) none (some 63)), true) = _
      rw [cut63 (by rw [List.length_map]; exact h)]
    have hl := lcLoop_map (f := lcBody P (callAt P n) (.ap1 .abs (.var 1)) (.one (.nm 1)) .nil) (ρ := [.sh false (.rl (ns.map D.int)), .un]) (fun d => match d with
      | .int i => .int (if i < 0 then -i else i)
      | d => d) (ns.map D.int) (fun x hx => by
        obtain ⟨i, _, rfl⟩ := List.mem_map.mp hx
        simp [lcBody])
    have hm : ns.length ≤ 100000 := by omega
    simp [bagDef, List.replicate, most, hc, hl, hm, Bag.d]
  · obtain ⟨i, _, rfl⟩ := List.mem_map.mp hx
    show (0 : Int) ≤ if i < 0 then -i else i
    split <;> omega
theorem call_bow (et : P.defs[t]? = some takeDef) (e : P.defs[f]? = some (bowDef t)) (hs : s.ok) (h0 : 2 ≤ m) (h1 : m < 100000) : ∃ x s', callAt P (n + 2) f [.ow true s.d, .sh false (.int m)] = some (x, false, [.ow true (Bag.d s'), .sh false (.int m)]) ∧ IsB 0 m x ∧ s'.ok := by
  have t1 := call_take (n := n) (P := P) et hs (m := m - 1) (by omega) (by omega)
  have lo := Bag.out_lo (s := s) (m := m - 1) (by omega)
  have hi := Bag.out_hi (s := s) (m := m - 1) (by omega)
  have ok1 := Bag.nx_ok (m := m - 1) hs (by omega)
  have t2 := call_take (n := n) (P := P) et ok1 (m := m - 1 - s.out (m - 1)) (by omega) (by omega)
  have lo2 := Bag.out_lo (s := s.nx (m - 1)) (m := m - 1 - s.out (m - 1)) (by omega)
  have hi2 := Bag.out_hi (s := s.nx (m - 1)) (m := m - 1 - s.out (m - 1)) (by omega)
  have ok2 := Bag.nx_ok (m := m - 1 - s.out (m - 1)) ok1 (by omega)
  refine ⟨Bw (s.out (m - 1)) (s.out (m - 1) + 1 + (s.nx (m - 1)).out (m - 1 - s.out (m - 1))), (s.nx (m - 1)).nx (m - 1 - s.out (m - 1)), ?_, ⟨_, _, rfl, lo, by omega, by omega⟩, ok2⟩
  rw [call_eq e rfl (Nat.le_of_ble_eq_true rfl) rfl]
  simp [bowDef, List.replicate, t1, t2, most]
theorem rngD_len {k : Nat} : (rngD 0 k).length = k := by
  unfold rngD
  rw [List.length_map, List.length_range]
  omega
theorem rngD_mem {lo hi : Int} {x : D} (h : x ∈ rngD lo hi) : ∃ i, x = .int i ∧ lo ≤ i ∧ i < hi := by
  unfold rngD at h
  obtain ⟨k, hk, rfl⟩ := List.mem_map.mp h
  have := List.mem_range.mp hk
  exact ⟨_, rfl, by omega, by omega⟩
theorem ixN_m1 {n : Nat} (h : 0 < n) : L2.ixN n (-1) = some (n - 1) := by
  unfold L2.ixN
  have h2 : ¬ ((0 : Int) ≤ -1) := by decide
  rw [if_neg h2]
  simp <;> omega
theorem call_bows {k : Nat} (et : P.defs[t]? = some takeDef) (eb : P.defs[b]? = some (bowDef t)) (e : P.defs[f]? = some (bowsDef b t)) (hs : s.ok) (h0 : 2 ≤ m) (h1 : m < 100000) (hk : k ≤ 1000) :
    ∃ xs s', callAt P (n + 3) f [.ow true s.d, .sh false (.int k), .sh false (.int m)] = some (.lst xs, true, [.ow true (Bag.d s'), .sh false (.int k), .sh false (.int m)]) ∧ xs.length = k ∧ (∀ x ∈ xs, IsB 0 m x) ∧ s'.ok := by
  obtain ⟨ys, ρ1, hl, ⟨s1, o1, rfl⟩, ln, hy⟩ := lcLoop_inv (f := lcBody P (callAt P (n + 2)) (.call b (.cons (.var 0) (.cons (.var 2) .nil))) (.one (.nm 4)) .nil) (fun ρ => ∃ s : Bag, s.ok ∧ ρ = [.ow true s.d, .sh false (.int k), .sh false (.int m), .un, .un]) (IsB 0 m) (rngD 0 k) [.ow true s.d, .sh false (.int k), .sh false (.int m), .un, .un] (fun ρ x hx hI => by
    obtain ⟨s1, o1, rfl⟩ := hI
    obtain ⟨i, rfl, _⟩ := rngD_mem hx
    obtain ⟨y, s2, q, by1, o2⟩ := call_bow (n := n) et eb o1 h0 h1
    exact ⟨y, _, by simp [lcBody, q], ⟨s2, o2, rfl⟩, by1⟩) ⟨s, hs, rfl⟩
  rw [rngD_len] at ln
  have k1 : -(100000 : Int) ≤ k := by omega
  have k2 : (k : Int) ≤ 100000 := by omega
  have k3 : k ≤ 100000 := by omega
  have rl : (rngD 0 (k : Int)).length ≤ 100000 := by rw [rngD_len]; omega
  by_cases c1 : 1 < k
  · have c1' : (1 : Int) < k := by omega
    have t1 := call_take (n := n + 1) (P := P) et o1 (m := 4) (by omega) (by omega)
    have o3 := Bag.nx_ok (m := 4) o1 (by omega)
    by_cases hz : s1.out 4 = 0
    · cases ys with
      | nil => simp at ln; omega
      | cons y ys' =>
        have x1 := ixN_m1 (n := ys'.length + 1) (by omega)
        refine ⟨(y :: ys').set (ys'.length) y, s1.nx 4, ?_, by rw [List.length_set]; exact ln, fun x hx => ?_, o3⟩
        · rw [call_eq e rfl (Nat.le_of_ble_eq_true rfl) rfl]
          simp [bowsDef, List.replicate, hl, k1, k2, most, c1', t1, hz, x1, rl]
        · rcases List.mem_or_eq_of_mem_set hx with h | h
          · exact hy x h
          · rw [h]; exact hy y (List.mem_cons_self ..)
    · refine ⟨ys, s1.nx 4, ?_, ln, hy, o3⟩
      rw [call_eq e rfl (Nat.le_of_ble_eq_true rfl) rfl]
      simp [bowsDef, List.replicate, hl, k1, k2, most, c1', t1, hz, rl]
  · have c1' : ¬ (1 : Int) < k := by omega
    refine ⟨ys, s1, ?_, ln, hy, o1⟩
    rw [call_eq e rfl (Nat.le_of_ble_eq_true rfl) rfl]
    simp [bowsDef, List.replicate, hl, k1, k2, most, c1', rl]
theorem sml {i : Int} (h : 0 ≤ i) (h' : i < 1000) : small64 i = true := s64 (by omega) (by omega)
theorem sqr {a b : Int} (h0 : 0 ≤ a) (h : a < b) : a * a < b * b := by
  have h1 : a * a ≤ a * b := Int.mul_le_mul_of_nonneg_left (by omega) h0
  have h2 : a * b < b * b := Int.mul_lt_mul_of_pos_right h (by omega)
  omega
def mapB (f : Int → Int) : D → D
  | .tup [.int a, .int b] => Bw (f a) (f b)
  | d => d
theorem IsB.map {g : Int → Int} {lo hi lo' hi' : Int} {x : D} (h : IsB lo hi x) (hg : ∀ a b, lo ≤ a → a < b → b < hi → lo' ≤ g a ∧ g a < g b ∧ g b < hi') : IsB lo' hi' (mapB g x) := by
  obtain ⟨a, b, rfl, q1, q2, q3⟩ := h
  obtain ⟨r1, r2, r3⟩ := hg a b q1 q2 q3
  exact ⟨g a, g b, rfl, r1, r2, r3⟩
theorem call_spread {xs : List D} (et : P.defs[t]? = some takeDef) (e : P.defs[f]? = some (spreadDef t)) (hs : s.ok) (hx : ∀ x ∈ xs, IsB 0 100 x) (hk : xs.length ≤ 1000) :
    ∃ ys s', callAt P (n + 2) f [.ow true s.d, .sh false (.lst xs)] = some (.lst ys, true, [.ow true (Bag.d s'), .sh false (.lst xs)]) ∧ ys.length = xs.length ∧ (∀ y ∈ ys, IsB (-(10 ^ 29)) (10 ^ 30) y) ∧ s'.ok := by
  have t1 := call_take (n := n) (P := P) et hs (m := 6) (by omega) (by omega)
  have lo := Bag.out_lo (s := s) (m := 6) (by omega)
  have hi := Bag.out_hi (s := s) (m := 6) (by omega)
  have o1 := Bag.nx_ok (m := 6) hs (by omega)
  have l1 : xs.length ≤ 100000 := by omega
  generalize hw : s.out 6 = w at *
  have fin : ∀ g : Int → Int, (∀ a b, 0 ≤ a → a < b → b < 100 → -(10 ^ 29) ≤ g a ∧ g a < g b ∧ g b < 10 ^ 30) → (xs.map (mapB g)).length = xs.length ∧ (∀ y ∈ xs.map (mapB g), IsB (-(10 ^ 29)) (10 ^ 30) y) := fun g hg =>
    ⟨List.length_map _, fun y hy => by
      obtain ⟨x, hx', rfl⟩ := List.mem_map.mp hy
      exact (hx x hx').map hg⟩
  by_cases w0 : w = 0
  · subst w0
    obtain ⟨f1, f2⟩ := fin (fun a => 10 ^ 25 * a - 10 ^ 29) (fun a b h1 h2 h3 => by omega)
    refine ⟨_, s.nx 6, ?_, f1, f2, o1⟩
    have hl := lcLoop_map (f := lcBody P (callAt P (n + 1)) (.tup (.cons (.ap2 .sub (.ap2 .mul (.ap2 .pow (.cst (.int 10)) (.cst (.int 25))) (.var 4)) (.ap2 .pow (.cst (.int 10)) (.cst (.int 29)))) (.cons (.ap2 .sub (.ap2 .mul (.ap2 .pow (.cst (.int 10)) (.cst (.int 25))) (.var 5)) (.ap2 .pow (.cst (.int 10)) (.cst (.int 29)))) .nil))) (.tp [(.nm 4), (.nm 5)]) .nil) (ρ := [.ow true (s.nx 6).d, .sh false (.lst xs), .sh false (.int 0), .un, .un, .un]) (mapB fun a => 10 ^ 25 * a - 10 ^ 29) xs (fun x hx' => by
      obtain ⟨a, b, rfl, q1, q2, q3⟩ := hx x hx'
      have sa := sml (i := a) (by omega) (by omega)
      have sb := sml (i := b) (by omega) (by omega)
      simp [lcBody, sa, sb, most, mapB])
    rw [call_eq e rfl (Nat.le_of_ble_eq_true rfl) rfl]
    simp [spreadDef, List.replicate, t1, hl, most, l1]
  by_cases w1 : w = 1
  · subst w1
    obtain ⟨f1, f2⟩ := fin (fun a => a * a - 50) (fun a b h1 h2 h3 => by
      have := sqr h1 h2
      have bb : b * b ≤ 100 * 100 := Int.mul_le_mul (by omega) (by omega) (by omega) (by omega)
      have a0 : 0 ≤ a * a := Int.mul_nonneg (by omega) (by omega)
      omega)
    refine ⟨_, s.nx 6, ?_, f1, f2, o1⟩
    have hl := lcLoop_map (f := lcBody P (callAt P (n + 1)) (.tup (.cons (.ap2 .sub (.ap2 .mul (.var 4) (.var 4)) (.cst (.int 50))) (.cons (.ap2 .sub (.ap2 .mul (.var 5) (.var 5)) (.cst (.int 50))) .nil))) (.tp [(.nm 4), (.nm 5)]) .nil) (ρ := [.ow true (s.nx 6).d, .sh false (.lst xs), .sh false (.int 1), .un, .un, .un]) (mapB fun a => a * a - 50) xs (fun x hx' => by
      obtain ⟨a, b, rfl, q1, q2, q3⟩ := hx x hx'
      have sa := sml (i := a) (by omega) (by omega)
      have sb := sml (i := b) (by omega) (by omega)
      simp [lcBody, sa, sb, most, mapB])
    rw [call_eq e rfl (Nat.le_of_ble_eq_true rfl) rfl]
    simp [spreadDef, List.replicate, t1, hl, most, l1]
  by_cases w2 : w = 2
  · subst w2
    obtain ⟨f1, f2⟩ := fin (fun a => a + a / 3 * 10 ^ 28) (fun a b h1 h2 h3 => by omega)
    refine ⟨_, s.nx 6, ?_, f1, f2, o1⟩
    have hl := lcLoop_map (f := lcBody P (callAt P (n + 1)) (.tup (.cons (.ap2 .add (.var 4) (.ap2 .mul (.ap2 .fdiv (.var 4) (.cst (.int 3))) (.ap2 .pow (.cst (.int 10)) (.cst (.int 28))))) (.cons (.ap2 .add (.var 5) (.ap2 .mul (.ap2 .fdiv (.var 5) (.cst (.int 3))) (.ap2 .pow (.cst (.int 10)) (.cst (.int 28))))) .nil))) (.tp [(.nm 4), (.nm 5)]) .nil) (ρ := [.ow true (s.nx 6).d, .sh false (.lst xs), .sh false (.int 2), .un, .un, .un]) (mapB fun a => a + a / 3 * 10 ^ 28) xs (fun x hx' => by
      obtain ⟨a, b, rfl, q1, q2, q3⟩ := hx x hx'
      have sa := sml (i := a / 3) (by omega) (by omega)
      have sb := sml (i := b / 3) (by omega) (by omega)
      simp [lcBody, sa, sb, most, mapB])
    rw [call_eq e rfl (Nat.le_of_ble_eq_true rfl) rfl]
    simp [spreadDef, List.replicate, t1, hl, most, l1]
  · have key : ∀ k : Int, 0 ≤ k → k ≤ 9 → atD [.int 0, .int 6, .int 9] (w - 3) = some (.int k) → ∃ ys s', callAt P (n + 2) f [.ow true s.d, .sh false (.lst xs)] = some (.lst ys, true, [.ow true (Bag.d s'), .sh false (.lst xs)]) ∧ ys.length = xs.length ∧ (∀ y ∈ ys, IsB (-(10 ^ 29)) (10 ^ 30) y) ∧ s'.ok := by
      intro k k0 k9 hk
      obtain ⟨f1, f2⟩ := fin (fun a => a - k) (fun a b h1 h2 h3 => by omega)
      refine ⟨_, s.nx 6, ?_, f1, f2, o1⟩
      have hl := lcLoop_map (f := lcBody P (callAt P (n + 1)) (.tup (.cons (.ap2 .sub (.var 4) (.var 3)) (.cons (.ap2 .sub (.var 5) (.var 3)) .nil))) (.tp [(.nm 4), (.nm 5)]) .nil) (ρ := [.ow true (s.nx 6).d, .sh false (.lst xs), .sh false (.int w), .sh false (.int k), .un, .un]) (mapB fun a => a - k) xs (fun x hx' => by
        obtain ⟨a, b, rfl, q1, q2, q3⟩ := hx x hx'
        simp [lcBody, most, mapB])
      rw [call_eq e rfl (Nat.le_of_ble_eq_true rfl) rfl]
      simp [spreadDef, List.replicate, t1, hl, most, l1, w0, w1, w2, hk]
    have : w = 3 ∨ w = 4 ∨ w = 5 := by omega
    rcases this with rfl | rfl | rfl
    · exact key 0 (by omega) (by omega) rfl
    · exact key 6 (by omega) (by omega) rfl
    · exact key 9 (by omega) (by omega) rfl
def oneDef (t : Nat) : Def := { name := "_law_one", np := 2, nn := 2, body :=
    (.cons (.ret (.ap2 .idx (.var 1) (.call t (.cons (.var 0) (.cons (.ap1 .len (.var 1)) .nil)))))
    .nil) }
theorem call_one {xs : List D} (et : P.defs[t]? = some takeDef) (e : P.defs[f]? = some (oneDef t)) (hs : s.ok) (h0 : 0 < xs.length) (h1 : xs.length < 100000) :
    ∃ x s', callAt P (n + 2) f [.ow true s.d, .sh false (.lst xs)] = some (x, false, [.ow true (Bag.d s'), .sh false (.lst xs)]) ∧ x ∈ xs ∧ s'.ok := by
  have t1 := call_take (n := n) (P := P) et hs (m := xs.length) (by omega) (by omega)
  have lo := Bag.out_lo (s := s) (m := xs.length) (by omega)
  have hi := Bag.out_hi (s := s) (m := xs.length) (by omega)
  have o1 := Bag.nx_ok (m := xs.length) hs (by omega)
  obtain ⟨k, hk⟩ : ∃ k : Nat, s.out xs.length = k := ⟨(s.out xs.length).toNat, by omega⟩
  have kl : k < xs.length := by omega
  have ha : atD xs (k : Int) = some xs[k] := by rw [atD_nat, List.getElem?_eq_getElem kl]
  refine ⟨xs[k], s.nx xs.length, ?_, List.getElem_mem kl, o1⟩
  rw [call_eq e rfl (Nat.le_of_ble_eq_true rfl) rfl]
  rw [hk] at t1
  simp [oneDef, List.replicate, t1, ha]
end
end BK

set_option Elab.async false
set_option linter.all false
set_option maxRecDepth 100000
set_option maxHeartbeats 2000000
/-! BKr: reckoning, on: lists that change, ranges as lists, two numbers sorted, where a number stands; loops that fill a list; larger data that are alike. -/
namespace BK
open PySem
section
variable {P : Pr} {cf : Call} {ρ : Rho}
def kMa (m : Mu) (x : Nat) (ρ1 : Rho) (ds : List D) (s : Option Sl) : R3 := match m, s, ds with
    | .app, some (.ow p (.lst xs)), [d] => if xs.length < most then some (.non, false, ρ1.set x (.ow p (.lst (xs ++ [d])))) else none
    | .ins, some (.ow p (.lst xs)), [.int i, d] => if xs.length < most ∧ 0 ≤ i ∧ i ≤ xs.length then some (.non, false, ρ1.set x (.ow p (.lst (xs.take i.toNat ++ d :: xs.drop i.toNat)))) else none
    | .ext, some (.ow p (.lst xs)), [.lst ys] => if xs.length + ys.length < most then some (.non, false, ρ1.set x (.ow p (.lst (xs ++ ys)))) else none
    | .pop, some (.ow p (.lst xs)), [] => match xs.getLast? with
      | some d => some (d, false, ρ1.set x (.ow p (.lst xs.dropLast)))
      | none => none
    | _, _, _ => none
@[simp] theorem kMa_app {x : Nat} {p : Bool} {xs : List D} {d : D} : kMa .app x ρ [d] (some (.ow p (.lst xs))) = if xs.length < most then some (.non, false, ρ.set x (.ow p (.lst (xs ++ [d])))) else none := rfl
@[simp] theorem kMa_ins {x : Nat} {p : Bool} {xs : List D} {d : D} {i : Int} : kMa .ins x ρ [.int i, d] (some (.ow p (.lst xs))) = if xs.length < most ∧ 0 ≤ i ∧ i ≤ xs.length then some (.non, false, ρ.set x (.ow p (.lst (xs.take i.toNat ++ d :: xs.drop i.toNat)))) else none := rfl
@[simp] theorem kMa_ext {x : Nat} {p : Bool} {xs ys : List D} : kMa .ext x ρ [.lst ys] (some (.ow p (.lst xs))) = if xs.length + ys.length < most then some (.non, false, ρ.set x (.ow p (.lst (xs ++ ys)))) else none := rfl
def kM2 (m : Mu) (x : Nat) : Option (List D × Rho) → R3
  | some (ds, ρ1) => kMa m x ρ1 ds ρ1[x]?
  | none => none
@[simp] theorem kM2_some {m : Mu} {x : Nat} {ds : List D} {ρ1 : Rho} : kM2 m x (some (ds, ρ1)) = kMa m x ρ1 ds ρ1[x]? := rfl
def kM1 (P : Pr) (cf : Call) (m : Mu) (es : Es) (ρ : Rho) (x : Nat) : Option Sl → R3
  | some (.ow _ (.lst _)) => kM2 m x (evs P cf ρ es)
  | _ => none
@[simp] theorem kM1_lst {m : Mu} {es : Es} {x : Nat} {p : Bool} {xs : List D} : kM1 P cf m es ρ x (some (.ow p (.lst xs))) = kM2 m x (evs P cf ρ es) := rfl
@[simp] theorem ev_mut {m : Mu} {x : Nat} {es : Es} : ev P cf ρ (.mut m x es) = kM1 P cf m es ρ x ρ[x]? := by
  simp only [ev]
  rcases ρ[x]? with _ | s
  · rfl
  · cases s with
    | un => rfl
    | sh p d => rfl
    | ow p d =>
      cases d <;> try rfl
      rw [kM1_lst]
      rcases evs P cf ρ es with _ | ⟨ds, ρ1⟩ <;> rfl
def kC4 (o2 : Op) (y : D) : R3 → R3
  | some (z, _, ρ3) => kR ρ3 (op2 o2 y z)
  | none => none
@[simp] theorem kC4_some {o2 : Op} {y z : D} {f : Bool} {ρ3 : Rho} : kC4 o2 y (some (z, f, ρ3)) = kR ρ3 (op2 o2 y z) := rfl
def kC3 (P : Pr) (cf : Call) (o2 : Op) (c : E) (y : D) (ρ2 : Rho) : Option (D × Bool) → R3
  | some (.bl true, _) => kC4 o2 y (ev P cf ρ2 c)
  | some (.bl false, _) => some (.bl false, false, ρ2)
  | _ => none
@[simp] theorem kC3_t {o2 : Op} {c : E} {y : D} {f : Bool} : kC3 P cf o2 c y ρ (some (.bl true, f)) = kC4 o2 y (ev P cf ρ c) := rfl
@[simp] theorem kC3_f {o2 : Op} {c : E} {y : D} {f : Bool} : kC3 P cf o2 c y ρ (some (.bl false, f)) = some (.bl false, false, ρ) := rfl
def kC2' (P : Pr) (cf : Call) (o1 o2 : Op) (c : E) (x : D) : R3 → R3
  | some (y, _, ρ2) => kC3 P cf o2 c y ρ2 (op2 o1 x y)
  | none => none
@[simp] theorem kC2'_some {o1 o2 : Op} {c : E} {x y : D} {f : Bool} : kC2' P cf o1 o2 c x (some (y, f, ρ)) = kC3 P cf o2 c y ρ (op2 o1 x y) := rfl
def kC1' (P : Pr) (cf : Call) (o1 o2 : Op) (b c : E) : R3 → R3
  | some (x, _, ρ1) => kC2' P cf o1 o2 c x (ev P cf ρ1 b)
  | none => none
@[simp] theorem kC1'_some {o1 o2 : Op} {b c : E} {x : D} {f : Bool} : kC1' P cf o1 o2 b c (some (x, f, ρ)) = kC2' P cf o1 o2 c x (ev P cf ρ b) := rfl
@[simp] theorem ev_chn {o1 o2 : Op} {a b c : E} : ev P cf ρ (.chn o1 o2 a b c) = kC1' P cf o1 o2 b c (ev P cf ρ a) := by
  simp only [ev]
  rcases ev P cf ρ a with _ | ⟨x, f, ρ1⟩
  · rfl
  · show (ev P cf ρ1 b).bind _ = kC2' P cf o1 o2 c x (ev P cf ρ1 b)
    rcases ev P cf ρ1 b with _ | ⟨y, g, ρ2⟩
    · rfl
    · show (match op2 o1 x y with
        | some (.bl true, _) => (ev P cf ρ2 c).bind fun (z, _, ρ3) => (op2 o2 y z).map fun (r, f) => (r, f, ρ3)
        | some (.bl false, _) => some (D.bl false, false, ρ2)
        | _ => none) = kC3 P cf o2 c y ρ2 (op2 o1 x y)
      rcases op2 o1 x y with _ | ⟨d, h⟩
      · rfl
      · cases d <;> try rfl
        rename_i t
        cases t
        · rfl
        · show (ev P cf ρ2 c).bind _ = kC4 o2 y (ev P cf ρ2 c)
          rcases ev P cf ρ2 c with _ | ⟨z, k, ρ3⟩
          · rfl
          · show (op2 o2 y z).map _ = kR ρ3 (op2 o2 y z)
            rcases op2 o2 y z with _ | ⟨r, l⟩ <;> rfl
def kLr : Option (List D × Rho) → R3
  | some (xs, ρ1) => some (.lst xs, true, ρ1)
  | none => none
@[simp] theorem kLr_some {xs : List D} {ρ1 : Rho} : kLr (some (xs, ρ1)) = some (.lst xs, true, ρ1) := rfl
@[simp] theorem ev_lrg1 {a : E} : ev P cf ρ (.lrg (.rng1 a)) = kLr (evI P cf ρ (.rng1 a)) := by
  simp only [ev]
  rcases evI P cf ρ (.rng1 a) with _ | ⟨xs, ρ1⟩ <;> rfl
@[simp] theorem ev_lrg2 {a b : E} : ev P cf ρ (.lrg (.rng2 a b)) = kLr (evI P cf ρ (.rng2 a b)) := by
  simp only [ev]
  rcases evI P cf ρ (.rng2 a b) with _ | ⟨xs, ρ1⟩ <;> rfl
end
/-! ### loops that fill a list -/
theorem forLoop_acc {f : Rho → D → Option Out} (L : Nat) (g : D → D) (I : List D → Rho → Prop) : ∀ (xs acc : List D) (ρ : Rho), acc.length + xs.length ≤ L → (∀ acc ρ x, x ∈ xs → acc.length < L → I acc ρ → ∃ ρ', f ρ x = some (.nx ρ') ∧ I (acc ++ [g x]) ρ') → I acc ρ → ∃ ρ', forLoop f ρ xs = some (.nx ρ') ∧ I (acc ++ xs.map g) ρ'
  | [], acc, ρ, _, _, h0 => ⟨ρ, rfl, by simpa using h0⟩
  | x :: xs, acc, ρ, hl, h, h0 => by
    rw [List.length_cons] at hl
    obtain ⟨ρ1, e, h1⟩ := h acc ρ x (List.mem_cons_self ..) (by omega) h0
    obtain ⟨ρ2, e2, h2⟩ := forLoop_acc L g I xs (acc ++ [g x]) ρ1 (by rw [List.length_append]; simp; omega) (fun acc ρ y hy => h acc ρ y (List.mem_cons_of_mem _ hy)) h1
    exact ⟨ρ2, by rw [forLoop_cons, e]; exact e2, by simpa using h2⟩
theorem lcLoop_mapI {f : Rho → D → Option (Option D × Rho)} (g : D → D) (I : Rho → Prop) : ∀ (xs : List D) (ρ : Rho), (∀ ρ x, x ∈ xs → I ρ → ∃ ρ', f ρ x = some (some (g x), ρ') ∧ I ρ') → I ρ → ∃ ρ', lcLoop f ρ xs = some (xs.map g, ρ') ∧ I ρ'
  | [], ρ, _, h0 => ⟨ρ, rfl, h0⟩
  | x :: xs, ρ, h, h0 => by
    obtain ⟨ρ1, e, h1⟩ := h ρ x (List.mem_cons_self ..) h0
    obtain ⟨ρ2, e2, h2⟩ := lcLoop_mapI g I xs ρ1 (fun ρ y hy => h ρ y (List.mem_cons_of_mem _ hy)) h1
    exact ⟨ρ2, by rw [lcLoop_cons, e, kLc_some, e2]; rfl, h2⟩
/-! ### two numbers sorted -/
theorem leD_int {p q : Int} : sortD.leD (.int p) (.int q) = decide (p ≤ q) := by
  show (!PyProof.Rows.lexLt PyProof.Rows.itemOrd [.inl q] [.inl p]) = _
  have h1 : PyProof.Rows.itemOrd.blt (.inl q) (.inl p) = decide (q < p) := rfl
  unfold PyProof.Rows.lexLt
  rw [h1]
  by_cases h : q < p
  · rw [decide_eq_true h, decide_eq_false (by omega)]
    simp
  · rw [decide_eq_false h, decide_eq_true (by omega)]
    simp [PyProof.Rows.lexLt]
theorem sort2 {p q : Int} : op1 .sort (.lst [.int p, .int q]) = some (.lst (if p ≤ q then [.int p, .int q] else [.int q, .int p]), true) := by
  have h1 : sortD [.int p, .int q] = some ([D.int p, D.int q].mergeSort fun a b => sortD.leD a b) := rfl
  have h2 : ([D.int p, D.int q].mergeSort fun a b => sortD.leD a b) = if p ≤ q then [.int p, .int q] else [.int q, .int p] := by
    simp [List.mergeSort, List.merge, leD_int, List.MergeSort.Internal.splitInTwo]
  show (if 2 ≤ most then (sortD [.int p, .int q]).map fun ys => (D.lst ys, true) else none) = _
  rw [h1, h2]
  rfl
/-! ### where a number stands -/
theorem pys_ints : ∀ is : List Int, D.pys (is.map D.int) = some (is.map PyData.int)
  | [] => rfl
  | i :: is => by rw [List.map_cons, D.pys, pys_ints is]; rfl
theorem lay_ints : ∀ is : List Int, PyData.canLayAll0 (is.map PyData.int) = true ∧ PyData.depthAll (is.map PyData.int) = 0
  | [] => ⟨rfl, rfl⟩
  | i :: is => by
    obtain ⟨h1, h2⟩ := lay_ints is
    rw [List.map_cons, PyData.canLayAll0, PyData.depthAll, h1, h2]
    exact ⟨rfl, rfl⟩
theorem find_ints {v : Int} : ∀ (is : List Int) (j k : Nat), is[k]? = some v → (∀ m, m < k → is[m]? ≠ some v) → findD (.int v) (is.map PyData.int) j = some (j + k)
  | [], j, k, h, _ => by simp at h
  | i :: is, j, 0, h, _ => by
    simp only [List.getElem?_cons_zero, Option.some.injEq] at h
    subst h
    rw [List.map_cons, findD]
    have : PyData.eqv (.int i) (.int i) = true := by
      show (i == i) = true
      exact beq_self_eq_true i
    rw [if_pos this]
    rfl
  | i :: is, j, k + 1, h, hn => by
    have h0 := hn 0 (Nat.succ_pos k)
    simp only [List.getElem?_cons_zero, ne_eq, Option.some.injEq] at h0
    rw [List.map_cons, findD]
    have : PyData.eqv (.int i) (.int v) = false := by
      show (i == v) = false
      exact beq_eq_false_iff_ne.mpr h0
    rw [if_neg (by rw [this]; exact Bool.false_ne_true)]
    rw [find_ints is (j + 1) k (by simpa using h) fun m hm => by
      have := hn (m + 1) (Nat.succ_lt_succ hm)
      simpa using this]
    congr 1
    omega
theorem index_ints {is : List Int} {v : Int} {k : Nat} (h : is[k]? = some v) (hn : ∀ m, m < k → is[m]? ≠ some v) : bmOp .index (.lst (is.map D.int)) [.int v] = some (.int k) := by
  show bmIndex (is.map D.int) (.int v) = _
  unfold bmIndex
  rw [pys_ints]
  have e1 : (D.int v).py = some (.int v) := rfl
  rw [e1]
  obtain ⟨h1, h2⟩ := lay_ints is
  have s1 : SeqAt.shaped (.int v) = true := rfl
  have s2 : SeqAt.shaped (.list (is.map PyData.int)) = true := by
    unfold SeqAt.shaped
    rw [PyData.canLay0, h1, decide_eq_true (by rw [PyData.depth, h2]; omega)]
    rfl
  simp only [s1, s2, Bool.and_self, if_true]
  rw [find_ints is 0 k h hn]
  simp
/-! ### data that are alike -/
/-- fit for being compared -/
structure D.fine (d : D) : Prop where
  m : d.mild = true
  s : d.deep ≤ 60
theorem fine_py {d : D} (g : d.fine) : ∃ p, d.py = some p ∧ SeqAt.shaped p = true ∧ PyData.eqv p p = true := by
  obtain ⟨p, h1, h2, h3, h4, h5, h6⟩ := mild_ok d g.m
  refine ⟨p, h1, ?_, SeqAt.eqv_refl p h2⟩
  unfold SeqAt.shaped
  rw [h2, decide_eq_true (by rw [h6]; have := g.s; omega)]
  rfl
theorem eqD_fine {d : D} (g : d.fine) : eqD d d = some true := by
  obtain ⟨p, h1, h2, h4⟩ := fine_py g
  by_cases hs : ∃ x, d = .str x
  · obtain ⟨x, rfl⟩ := hs
    show some (x == x) = some true
    rw [beq_self_eq_true]
  · have : eqD d d = eqDp d d := by
      cases d <;> first
        | rfl
        | exact absurd ⟨_, rfl⟩ hs
    rw [this]
    unfold eqDp
    rw [h1]
    simp only [h2, Bool.and_self, if_true, h4]
theorem eq_fine {d : D} (g : d.fine) : op2 .eq d d = some (.bl true, false) := by
  show (eqD d d).map _ = _
  rw [eqD_fine g]
  rfl
theorem ne_fine {d : D} (g : d.fine) : op2 .ne d d = some (.bl false, false) := by
  show (eqD d d).map _ = _
  rw [eqD_fine g]
  rfl
mutual
/-- whole numbers of a few digits, in lists and tuples -/
def D.tiny : D → Bool
  | .int i => decide (i.natAbs < 10000000)
  | .lst xs => D.tinys xs
  | .tup xs => D.tinys xs
  | _ => false
def D.tinys : List D → Bool
  | [] => true
  | x :: xs => D.tiny x && D.tinys xs
end
theorem int_tiny {i : Int} (h : i.natAbs < 10000000) : (PyData.shown (.int i)).length ≤ 8 := by
  show (Str.ofString (toString i)).length ≤ 8
  rw [ofString_length]
  have := int_text_length_le10 (a := i) (k := 7) (by decide) h
  omega
mutual
theorem tiny_ok : ∀ d : D, d.tiny = true → d.mild = true ∧ ∃ p, d.py = some p ∧ p.leavesShort 8 = true
  | .non, h => by simp [D.tiny] at h
  | .bl b, h => by simp [D.tiny] at h
  | .int i, h => by
    have h : i.natAbs < 10000000 := of_decide_eq_true h
    refine ⟨decide_eq_true ?_, .int i, rfl, decide_eq_true (int_tiny h)⟩
    by_cases h0 : i.natAbs = 0
    · rw [h0]; decide
    · exact (Nat.log2_lt h0).mpr (Nat.lt_of_lt_of_le h (by decide))
  | .str x, h => by simp [D.tiny] at h
  | .lst xs, h => by
    obtain ⟨h1, ps, h2, h3⟩ := tinys_ok xs h
    exact ⟨h1, .list ps, by rw [D.py, h2]; rfl, by rw [PyData.leavesShort]; exact h3⟩
  | .tup xs, h => by
    obtain ⟨h1, ps, h2, h3⟩ := tinys_ok xs h
    exact ⟨h1, .tuple ps, by rw [D.py, h2]; rfl, by rw [PyData.leavesShort]; exact h3⟩
  | .rl _, h => by simp [D.tiny] at h
  | .dk _ _, h => by simp [D.tiny] at h
  | .ins _ _ _, h => by simp [D.tiny] at h
  | .kd _ _, h => by simp [D.tiny] at h
theorem tinys_ok : ∀ xs : List D, D.tinys xs = true → D.milds xs = true ∧ ∃ ps, D.pys xs = some ps ∧ PyData.leavesShortAll 8 ps = true
  | [], _ => ⟨rfl, [], rfl, rfl⟩
  | x :: xs, h => by
    rw [D.tinys, Bool.and_eq_true] at h
    obtain ⟨a1, p, a2, a3⟩ := tiny_ok x h.1
    obtain ⟨h1, ps, h2, h3⟩ := tinys_ok xs h.2
    exact ⟨by rw [D.milds, a1, h1]; rfl, p :: ps, by rw [D.pys, a2, Option.bind_some, h2]; rfl, by rw [PyData.leavesShortAll, a3, h3]; rfl⟩
end
/-- fit for being written out -/
structure D.plain (d : D) : Prop where
  t : d.tiny = true
  b : d.bulk ≤ 9000
  s : d.deep ≤ 60
theorem D.plain.fine {d : D} (g : d.plain) : d.fine := ⟨(tiny_ok d g.t).1, g.s⟩
theorem repr_plain {d : D} (g : d.plain) (f : d.flat = false) : ∃ x, op1 .repr d = some (.str x, false) := by
  obtain ⟨m, q, q1, q2⟩ := tiny_ok d g.t
  obtain ⟨p, h1, h2, h3, h4, h5, h6⟩ := mild_ok d m
  have e : q = p := Option.some.inj (q1.symm.trans h1)
  rw [e] at q2
  refine ⟨p.shown, ?_⟩
  have ok : okRepr p = true := by
    have hb := PyData.shown_le_bulk 8 (by decide) p q2
    have := g.b
    have := g.s
    unfold okRepr
    rw [h3, PyData.hasDict_of_canLay p h2, decide_eq_true (by rw [h6]; omega), decide_eq_true (by rw [h5] at hb; simp only [most]; omega)]
    rfl
  exact repr_of_py h1 ok
theorem fine_ins {d : D} (g : d.fine) : isIns d = none := by
  obtain ⟨p, h1, _⟩ := fine_py g
  cases d <;> first
    | rfl
    | (simp [D.py] at h1; done)
theorem call_alikeP {P : Pr} {n f : Nat} {a b : Sl} {d : D} (e : P.defs[f]? = some alikeDef) (ha : a = .sh false d ∨ a = .ow true d) (hb : b = .sh false d ∨ b = .ow true d) (g : d.plain) (hf : d.flat = false) : callAt P (n + 1) f [a, b] = some (.bl true, false, [a, b]) := by
  obtain ⟨x, hx⟩ := repr_plain g hf
  have h1 := eq_fine g.fine
  have fa : a.fit = true := by rcases ha with rfl | rfl <;> rfl
  have fb : b.fit = true := by rcases hb with rfl | rfl <;> rfl
  rw [call_eq e rfl (by decide) (by rw [List.all_cons, List.all_cons, fa, fb]; rfl)]
  rcases ha with rfl | rfl <;> rcases hb with rfl | rfl <;> simp [alikeDef, h1, hx, fine_ins g.fine]
/-! ### things in another order -/
def mixedDef (t : Nat) : Def := { name := "_law_mixed", np := 2, nn := 4, body :=
    (.cons (.asg (.one (.nm 2)) (.lst .nil))
    (.cons (.for_ (.one (.nm 3)) (.seq (.var 1))
    (.cons (.exp (.mut .ins 2 (.cons (.call t (.cons (.var 0) (.cons (.ap2 .add (.ap1 .len (.var 2)) (.cst (.int 1))) .nil))) (.cons (.var 3) .nil))))
    .nil))
    (.cons (.ret (.var 2))
    .nil))) }
section
variable {P : Pr} {f t n : Nat} {s : Bag}
theorem call_mixed {xs : List D} (et : P.defs[t]? = some takeDef) (e : P.defs[f]? = some (mixedDef t)) (hs : s.ok) (hk : xs.length ≤ 1000) :
    ∃ ys s', callAt P (n + 2) f [.ow true s.d, .sh false (.lst xs)] = some (.lst ys, true, [.ow true (Bag.d s'), .sh false (.lst xs)]) ∧ ys.length = xs.length ∧ (∀ y ∈ ys, y ∈ xs) ∧ s'.ok := by
  have lp : ∀ (us : List D) (zs : List D) (s : Bag) (w : Sl), s.ok → w.pin = false → zs.length + us.length ≤ 1000 → (∀ u ∈ us, u ∈ xs) → (∀ z ∈ zs, z ∈ xs) →
      ∃ ys s' w', forLoop (fBody P (callAt P (n + 1)) (.one (.nm 3)) (.cons (.exp (.mut .ins 2 (.cons (.call t (.cons (.var 0) (.cons (.ap2 .add (.ap1 .len (.var 2)) (.cst (.int 1))) .nil))) (.cons (.var 3) .nil)))) .nil)) [.ow true s.d, .sh false (.lst xs), .ow false (.lst zs), w] us = some (.nx [.ow true (Bag.d s'), .sh false (.lst xs), .ow false (.lst ys), w']) ∧ ys.length = zs.length + us.length ∧ (∀ y ∈ ys, y ∈ xs) ∧ s'.ok := by
    intro us
    induction us with
    | nil => exact fun zs s w hs _ _ _ hz => ⟨zs, s, w, rfl, rfl, hz, hs⟩
    | cons u us ih =>
      intro zs s w hs hw hl hu hz
      simp only [List.length_cons] at hl
      have t1 := call_take (n := n) (P := P) et hs (m := (zs.length : Int) + 1) (by omega) (by omega)
      have lo := Bag.out_lo (s := s) (m := (zs.length : Int) + 1) (by omega)
      have hi := Bag.out_hi (s := s) (m := (zs.length : Int) + 1) (by omega)
      have o1 := Bag.nx_ok (m := (zs.length : Int) + 1) hs (by omega)
      have ul : (zs.take (s.out ((zs.length : Int) + 1)).toNat ++ u :: zs.drop (s.out ((zs.length : Int) + 1)).toNat).length = zs.length + 1 := by
        simp only [List.length_append, List.length_cons, List.length_take, List.length_drop]
        omega
      obtain ⟨ys, s', w', h1, h2, h3, h4⟩ := ih (zs.take (s.out ((zs.length : Int) + 1)).toNat ++ u :: zs.drop (s.out ((zs.length : Int) + 1)).toNat) (s.nx ((zs.length : Int) + 1)) (.sh false u) o1 rfl (by rw [ul]; omega) (fun v hv => hu v (List.mem_cons_of_mem _ hv)) (fun z hz' => by
        rcases List.mem_append.mp hz' with h | h
        · exact hz z (List.mem_of_mem_take h)
        · rcases List.mem_cons.mp h with rfl | h
          · exact hu _ (List.mem_cons_self ..)
          · exact hz z (List.mem_of_mem_drop h))
      refine ⟨ys, s', w', ?_, by rw [h2, ul, List.length_cons]; omega, h3, h4⟩
      have l1 : zs.length < 100000 := by omega
      have l2 : s.out ((zs.length : Int) + 1) ≤ zs.length := by omega
      rw [forLoop_cons]
      simp [fBody, hw, t1, most, l1, l2, lo, h1]
  obtain ⟨ys, s', w', h1, h2, h3, h4⟩ := lp xs [] s .un hs rfl (by simpa using hk) (fun u h => h) (fun z h => by simp at h)
  refine ⟨ys, s', ?_, by simpa using h2, h3, h4⟩
  rw [call_eq e rfl (Nat.le_of_ble_eq_true rfl) rfl]
  simp [mixedDef, List.replicate, h1]
end
end BK

set_option Elab.async false
set_option linter.all false
set_option maxRecDepth 100000
/-! BKs: reckoning, on: comprehensions of two fors. -/
namespace BK
open PySem
section
variable {P : Pr} {cf : Call} {ρ : Rho}
def lc2C (ys : List D) : Option (List D × Rho) → Option (List D × Rho)
  | some (zs, ρ2) => some (ys ++ zs, ρ2)
  | none => none
@[simp] theorem lc2C_some {ys zs : List D} {ρ2 : Rho} : lc2C ys (some (zs, ρ2)) = some (ys ++ zs, ρ2) := rfl
def kLc2 (f : Rho → D → Option (List D × Rho)) (xs : List D) : Option (List D × Rho) → Option (List D × Rho)
  | some (ys, ρ1) => lc2C ys (lc2Loop f ρ1 xs)
  | none => none
@[simp] theorem kLc2_some {f : Rho → D → Option (List D × Rho)} {xs ys : List D} {ρ1 : Rho} : kLc2 f xs (some (ys, ρ1)) = lc2C ys (lc2Loop f ρ1 xs) := rfl
@[simp] theorem lc2Loop_nil {f : Rho → D → Option (List D × Rho)} : lc2Loop f ρ [] = some ([], ρ) := rfl
theorem lc2Loop_cons {f : Rho → D → Option (List D × Rho)} {x : D} {xs : List D} : lc2Loop f ρ (x :: xs) = kLc2 f xs (f ρ x) := by
  rw [lc2Loop]
  rcases f ρ x with _ | ⟨y, ρ1⟩
  · rfl
  · show (lc2Loop f ρ1 xs).map _ = lc2C y (lc2Loop f ρ1 xs)
    rcases lc2Loop f ρ1 xs with _ | ⟨ys, ρ2⟩ <;> rfl
/-- .. that leaves the names as they are -/
theorem lc2Loop_map {f : Rho → D → Option (List D × Rho)} (g : D → List D) : ∀ (xs : List D), (∀ x, x ∈ xs → f ρ x = some (g x, ρ)) → lc2Loop f ρ xs = some ((xs.map g).flatten, ρ)
  | [], _ => rfl
  | x :: xs, h => by
    rw [lc2Loop_cons, h x (List.mem_cons_self ..), kLc2_some, lc2Loop_map g xs fun y hy => h y (List.mem_cons_of_mem _ hy)]
    rfl
def k2w (own : List Nat) : Option (List D × Rho) → Option (List D × Rho)
  | some (ds, ρ8) => some (ds, wipeR ρ8 own)
  | none => none
@[simp] theorem k2w_some {own : List Nat} {ds : List D} {ρ8 : Rho} : k2w own (some (ds, ρ8)) = some (ds, wipeR ρ8 own) := rfl
def k2i (P : Pr) (cf : Call) (elt : E) (own : List Nat) (tg1 : Tg) (cd1 : Ts) : Option (List D × Rho) → Option (List D × Rho)
  | some (ys, ρ4) => if decide (ys.length ≤ most) then k2w own (lcLoop (lcBody P cf elt tg1 cd1) (wipeR ρ4 tg1.own) ys) else none
  | none => none
@[simp] theorem k2i_some {elt : E} {own : List Nat} {tg1 : Tg} {cd1 : Ts} {ys : List D} {ρ4 : Rho} : k2i P cf elt own tg1 cd1 (some (ys, ρ4)) = if decide (ys.length ≤ most) then k2w own (lcLoop (lcBody P cf elt tg1 cd1) (wipeR ρ4 tg1.own) ys) else none := rfl
def k2t (P : Pr) (cf : Call) (elt : E) (own : List Nat) (tg1 : Tg) (it1 : I) (cd1 : Ts) : Option (Bool × Rho) → Option (List D × Rho)
  | some (true, ρ3) => k2i P cf elt own tg1 cd1 (evI P cf ρ3 it1)
  | some (false, ρ3) => some ([], wipeR ρ3 own)
  | none => none
@[simp] theorem k2t_t {elt : E} {own : List Nat} {tg1 : Tg} {it1 : I} {cd1 : Ts} {ρ3 : Rho} : k2t P cf elt own tg1 it1 cd1 (some (true, ρ3)) = k2i P cf elt own tg1 cd1 (evI P cf ρ3 it1) := rfl
@[simp] theorem k2t_f {elt : E} {own : List Nat} {tg1 : Tg} {it1 : I} {cd1 : Ts} {ρ3 : Rho} : k2t P cf elt own tg1 it1 cd1 (some (false, ρ3)) = some ([], wipeR ρ3 own) := rfl
def k2b' (P : Pr) (cf : Call) (elt : E) (own : List Nat) (cd : Ts) (tg1 : Tg) (it1 : I) (cd1 : Ts) : Option Rho → Option (List D × Rho)
  | some ρ2 => k2t P cf elt own tg1 it1 cd1 (evAll P cf ρ2 cd)
  | none => none
@[simp] theorem k2b'_some {elt : E} {own : List Nat} {cd : Ts} {tg1 : Tg} {it1 : I} {cd1 : Ts} {ρ2 : Rho} : k2b' P cf elt own cd tg1 it1 cd1 (some ρ2) = k2t P cf elt own tg1 it1 cd1 (evAll P cf ρ2 cd) := rfl
def lc2Body (P : Pr) (cf : Call) (elt : E) (tg : Tg) (cd : Ts) (tg1 : Tg) (it1 : I) (cd1 : Ts) (ρ' : Rho) (x : D) : Option (List D × Rho) := k2b' P cf elt (tg.own ++ tg1.own) cd tg1 it1 cd1 (tg.bind (wipeR ρ' (tg.own ++ tg1.own)) x false)
def k2o (ρ : Rho) (own : List Nat) : Option (List D × Rho) → R3
  | some (ds, ρ5) => if ds.length ≤ most then some (.lst ds, true, unwipe ρ ρ5 own) else none
  | none => none
@[simp] theorem k2o_some {own : List Nat} {ds : List D} {ρ5 : Rho} : k2o ρ own (some (ds, ρ5)) = if ds.length ≤ most then some (.lst ds, true, unwipe ρ ρ5 own) else none := rfl
def k2x (P : Pr) (cf : Call) (elt : E) (tg : Tg) (cd : Ts) (tg1 : Tg) (it1 : I) (cd1 : Ts) : Option (List D × Rho) → R3
  | some (xs, ρ1) => if loose ρ1 (tg.own ++ tg1.own) && decide (xs.length ≤ most) then k2o ρ1 (tg.own ++ tg1.own) (lc2Loop (lc2Body P cf elt tg cd tg1 it1 cd1) (wipeR ρ1 (tg.own ++ tg1.own)) xs) else none
  | none => none
@[simp] theorem k2x_some {elt : E} {tg : Tg} {cd : Ts} {tg1 : Tg} {it1 : I} {cd1 : Ts} {xs : List D} {ρ1 : Rho} : k2x P cf elt tg cd tg1 it1 cd1 (some (xs, ρ1)) = if loose ρ1 (tg.own ++ tg1.own) && decide (xs.length ≤ most) then k2o ρ1 (tg.own ++ tg1.own) (lc2Loop (lc2Body P cf elt tg cd tg1 it1 cd1) (wipeR ρ1 (tg.own ++ tg1.own)) xs) else none := rfl
theorem lc2Body_eq {elt : E} {tg : Tg} {cd : Ts} {tg1 : Tg} {it1 : I} {cd1 : Ts} : turn2 P cf elt tg cd tg1 it1 cd1 = lc2Body P cf elt tg cd tg1 it1 cd1 := by
  funext ρ' x
  show _ = k2b' P cf elt (tg.own ++ tg1.own) cd tg1 it1 cd1 (tg.bind (wipeR ρ' (tg.own ++ tg1.own)) x false)
  unfold turn2
  rcases tg.bind (wipeR ρ' (tg.own ++ tg1.own)) x false with _ | ρ2
  · rfl
  · show (evAll P cf ρ2 cd).bind _ = k2t P cf elt (tg.own ++ tg1.own) tg1 it1 cd1 (evAll P cf ρ2 cd)
    rcases evAll P cf ρ2 cd with _ | ⟨t, ρ3⟩
    · rfl
    · cases t
      · rfl
      · show (evI P cf ρ3 it1).bind _ = k2i P cf elt (tg.own ++ tg1.own) tg1 cd1 (evI P cf ρ3 it1)
        rcases evI P cf ρ3 it1 with _ | ⟨ys, ρ4⟩
        · rfl
        · rw [k2i_some, ← (show turnLc P cf elt tg1 cd1 = lcBody P cf elt tg1 cd1 from lcBody_eq)]
          show (if _ then _ else _) = if _ then _ else _
          split
          · show (lcLoop (turnLc P cf elt tg1 cd1) (wipeR ρ4 tg1.own) ys).map _ = k2w _ (lcLoop (turnLc P cf elt tg1 cd1) (wipeR ρ4 tg1.own) ys)
            rcases lcLoop (turnLc P cf elt tg1 cd1) (wipeR ρ4 tg1.own) ys with _ | ⟨ds, ρ8⟩ <;> rfl
          · rfl
@[simp] theorem ev_lc2 {elt : E} {tg : Tg} {it : I} {cd : Ts} {tg1 : Tg} {it1 : I} {cd1 : Ts} : ev P cf ρ (.lc2 elt tg it cd tg1 it1 cd1) = k2x P cf elt tg cd tg1 it1 cd1 (evI P cf ρ it) := by
  simp only [ev]
  rcases evI P cf ρ it with _ | ⟨xs, ρ1⟩
  · rfl
  · rw [Option.bind_some, k2x_some, ← lc2Body_eq]
    show (if _ then _ else _) = if _ then _ else _
    split
    · show (lc2Loop (turn2 P cf elt tg cd tg1 it1 cd1) (wipeR ρ1 (tg.own ++ tg1.own)) xs).bind _ = k2o ρ1 (tg.own ++ tg1.own) (lc2Loop (turn2 P cf elt tg cd tg1 it1 cd1) (wipeR ρ1 (tg.own ++ tg1.own)) xs)
      rcases lc2Loop (turn2 P cf elt tg cd tg1 it1 cd1) (wipeR ρ1 (tg.own ++ tg1.own)) xs with _ | ⟨ds, ρ5⟩ <;> rfl
    · rfl
end
end BK

set_option Elab.async false
set_option linter.all false
set_option maxRecDepth 100000
/-! BKt: reckoning, on: walks that keep a name's list. -/
namespace BK
open PySem
section
variable {P : Pr} {cf : Call} {ρ : Rho}
def kUn (p : Bool) (i : Nat) : Option Out → Option Out
  | some o => unmO p i o
  | none => none
@[simp] theorem kUn_some {p : Bool} {i : Nat} {o : Out} : kUn p i (some o) = unmO p i o := rfl
def kUr (p : Bool) (i : Nat) (ρ : Rho) (g : Rho → Out) : Option Sl → Option Out
  | some (.ow true d) => some (g (ρ.set i (.ow p d)))
  | _ => none
@[simp] theorem kUr_ow {p : Bool} {i : Nat} {g : Rho → Out} {d : D} : kUr p i ρ g (some (.ow true d)) = some (g (ρ.set i (.ow p d))) := rfl
theorem unm_eq {p : Bool} {i : Nat} {g : Rho → Out} : (unmR p i ρ).map (fun ρ1 => g ρ1) = kUr p i ρ g ρ[i]? := by
  unfold unmR
  generalize ρ[i]? = s
  rcases s with _ | s
  · rfl
  · cases s with
    | un => rfl
    | sh q d => rfl
    | ow q d => cases q <;> rfl
@[simp] theorem unmO_nx {p : Bool} {i : Nat} : unmO p i (.nx ρ) = kUr p i ρ .nx ρ[i]? := unm_eq
@[simp] theorem unmO_rt {p : Bool} {i : Nat} {d : D} {f : Bool} : unmO p i (.rt d f ρ) = kUr p i ρ (.rt d f) ρ[i]? := unm_eq
def kFw (P : Pr) (cf : Call) (tg : Tg) (i : Nat) (b : Ss) (ρ : Rho) : Option Sl → Option Out
  | some (.ow p (.lst xs)) => kUn p i (fwLoop (fBody P cf tg b) i most 0 (ρ.set i (.ow true (.lst xs))))
  | some (.sh _ (.lst xs)) => forLoop (fBody P cf tg b) ρ xs
  | some (.sh _ (.tup xs)) => forLoop (fBody P cf tg b) ρ xs
  | _ => none
@[simp] theorem kFw_ow {tg : Tg} {i : Nat} {b : Ss} {p : Bool} {xs : List D} : kFw P cf tg i b ρ (some (.ow p (.lst xs))) = kUn p i (fwLoop (fBody P cf tg b) i most 0 (ρ.set i (.ow true (.lst xs)))) := rfl
@[simp] theorem kFw_sh {tg : Tg} {i : Nat} {b : Ss} {p : Bool} {xs : List D} : kFw P cf tg i b ρ (some (.sh p (.lst xs))) = forLoop (fBody P cf tg b) ρ xs := rfl
@[simp] theorem kFw_tp {tg : Tg} {i : Nat} {b : Ss} {p : Bool} {xs : List D} : kFw P cf tg i b ρ (some (.sh p (.tup xs))) = forLoop (fBody P cf tg b) ρ xs := rfl
@[simp] theorem ex_forw {tg : Tg} {i : Nat} {b : Ss} : ex P cf ρ (.forw tg i b) = kFw P cf tg i b ρ ρ[i]? := by
  simp only [ex, fBody_eq]
  rcases ρ[i]? with _ | s
  · rfl
  · cases s with
    | un => rfl
    | sh p d => cases d <;> rfl
    | ow p d =>
      cases d <;> try rfl
      rename_i xs
      rw [kFw_ow]
      show (fwLoop (fBody P cf tg b) i most 0 (ρ.set i (.ow true (.lst xs)))).bind (unmO p i) = _
      rcases fwLoop (fBody P cf tg b) i most 0 (ρ.set i (.ow true (.lst xs))) with _ | o <;> rfl
end
/-- as long as the list stays, the walk is one over its members -/
theorem fw_for {f : Rho → D → Option Out} {i : Nat} {xs : List D} (J : Rho → Prop) (hJ : ∀ ρ, J ρ → ρ[i]? = some (.ow true (.lst xs))) (hs : ∀ ρ x ρ', x ∈ xs → J ρ → (f ρ x = some (.nx ρ') ∨ f ρ x = some (.ct ρ')) → J ρ') :
    ∀ (n k : Nat) (ρ : Rho), J ρ → xs.length < n + k → k ≤ xs.length → fwLoop f i n k ρ = forLoop f ρ (xs.drop k)
  | 0, k, ρ, h, l, kl => by omega
  | n + 1, k, ρ, h, l, kl => by
    rw [fwLoop, hJ ρ h]
    by_cases hk : k < xs.length
    · rw [List.drop_eq_getElem_cons hk]
      have e : xs[k]? = some xs[k] := List.getElem?_eq_getElem hk
      simp only [e, forLoop]
      rcases hf : f ρ xs[k] with _ | o
      · rfl
      · cases o with
        | nx ρ1 => exact fw_for J hJ hs n (k + 1) ρ1 (hs ρ _ ρ1 (List.getElem_mem hk) h (.inl hf)) (by omega) hk
        | ct ρ1 => exact fw_for J hJ hs n (k + 1) ρ1 (hs ρ _ ρ1 (List.getElem_mem hk) h (.inr hf)) (by omega) hk
        | bk ρ1 => rfl
        | rt d b ρ1 => rfl
    · have e : xs[k]? = none := List.getElem?_eq_none (by omega)
      simp only [e]
      rw [List.drop_eq_nil_of_le (by omega)]
      rfl
end BK
namespace BK
open PySem
section
variable {P : Pr} {cf : Call} {ρ : Rho}
def kFe (P : Pr) (cf : Call) (tg : Tg) (b : Ss) : R3 → Option Out
  | some (.lst xs, _, ρ1) => forLoop (fBody P cf tg b) ρ1 (enumD xs)
  | some (.str z, _, ρ1) => forLoop (fBody P cf tg b) ρ1 (enumD (signsD z))
  | _ => none
@[simp] theorem kFe_lst {tg : Tg} {b : Ss} {xs : List D} {f : Bool} {ρ1 : Rho} : kFe P cf tg b (some (.lst xs, f, ρ1)) = forLoop (fBody P cf tg b) ρ1 (enumD xs) := rfl
@[simp] theorem kFe_str {tg : Tg} {b : Ss} {z : Str} {f : Bool} {ρ1 : Rho} : kFe P cf tg b (some (.str z, f, ρ1)) = forLoop (fBody P cf tg b) ρ1 (enumD (signsD z)) := rfl
@[simp] theorem ex_fore {tg : Tg} {e : E} {b : Ss} : ex P cf ρ (.fore tg e b) = kFe P cf tg b (ev P cf ρ e) := by
  simp only [ex, fBody_eq]
  rcases ev P cf ρ e with _ | ⟨d, f, ρ1⟩
  · rfl
  · cases d <;> rfl
end
end BK

set_option Elab.async false
set_option linter.all false
set_option maxRecDepth 100000
/-! BKw: reckoning by what comes out: a reckoning ends, and its answer is good; loops by what their turns keep. No loop's text is written out again. -/
namespace BK
open PySem
@[simp] theorem most_v : most = 100000 := rfl
section
variable {α β : Type}
/-- it comes to an answer, and that is good -/
def Ok (Q : α → Prop) (r : Option α) : Prop := ∃ a, r = some a ∧ Q a
@[simp] theorem Ok_some {Q : α → Prop} {a : α} : Ok Q (some a) ↔ Q a := ⟨fun ⟨b, e, h⟩ => by cases e; exact h, fun h => ⟨a, rfl, h⟩⟩
theorem Ok.mono {Q R : α → Prop} {r : Option α} (h : Ok Q r) (i : ∀ a, Q a → R a) : Ok R r := by
  obtain ⟨a, e, q⟩ := h
  exact ⟨a, e, i a q⟩
theorem Ok.eq {r : Option α} {a : α} (h : Ok (fun b => b = a) r) : r = some a := by
  obtain ⟨b, e, q⟩ := h
  rw [e, q]
end
section
variable {P : Pr} {cf : Call} {ρ : Rho} {Q : Out → Prop}
def shS : Sl → Sl
  | .ow p d => .sh p d
  | s => s
@[simp] theorem shS_un : shS .un = .un := rfl
@[simp] theorem shS_sh {p : Bool} {d : D} : shS (.sh p d) = .sh p d := rfl
@[simp] theorem shS_ow {p : Bool} {d : D} : shS (.ow p d) = .sh p d := rfl
@[simp] theorem shR_cons {s : Sl} : shR (s :: ρ) = shS s :: shR ρ := by cases s <;> rfl
/-- what a turn of a loop may come to -/
def turn (I : Rho → Prop) (B : Rho → Prop) (Q : Out → Prop) : Out → Prop
  | .nx ρ => I ρ
  | .ct ρ => I ρ
  | .bk ρ => B ρ
  | .rt d f ρ => Q (.rt d f ρ)
@[simp] theorem turn_nx {I B : Rho → Prop} : turn I B Q (.nx ρ) = I ρ := rfl
@[simp] theorem turn_ct {I B : Rho → Prop} : turn I B Q (.ct ρ) = I ρ := rfl
@[simp] theorem turn_bk {I B : Rho → Prop} : turn I B Q (.bk ρ) = B ρ := rfl
@[simp] theorem turn_rt {I B : Rho → Prop} {d : D} {f : Bool} : turn I B Q (.rt d f ρ) = Q (.rt d f ρ) := rfl
/-- it goes on, and keeps that -/
def onlyN (I : Rho → Prop) : Out → Prop
  | .nx ρ => I ρ
  | _ => False
@[simp] theorem onlyN_nx {I : Rho → Prop} : onlyN I (.nx ρ) = I ρ := rfl
theorem Ok.nx {I B : Rho → Prop} {r : Option Out} (h : Ok (onlyN I) r) : Ok (turn I B Q) r := h.mono fun o q => by
  cases o with
  | nx ρ => exact q
  | _ => exact q.elim
theorem for_ok {f : Rho → D → Option Out} {B : Rho → Prop} : ∀ (xs pre : List D) (ρ : Rho) (I : List D → Rho → Prop),
    (∀ pre' x suf ρ, pre ++ xs = pre' ++ x :: suf → I pre' ρ → Ok (turn (I (pre' ++ [x])) B Q) (f ρ x)) → I pre ρ → Ok (turn (I (pre ++ xs)) B Q) (forLoop f ρ xs) ∨ (∃ ρ', forLoop f ρ xs = some (.nx ρ') ∧ B ρ')
  | [], pre, ρ, I, _, h0 => .inl ⟨_, rfl, by simpa using h0⟩
  | x :: xs, pre, ρ, I, h, h0 => by
    obtain ⟨o, e, q⟩ := h pre x xs ρ rfl h0
    rw [forLoop_cons, e]
    cases o with
    | nx ρ1 =>
      have := for_ok xs (pre ++ [x]) ρ1 I (fun p y s r z w => h p y s r (by rw [← z]; simp) w) q
      simpa using this
    | ct ρ1 =>
      have := for_ok xs (pre ++ [x]) ρ1 I (fun p y s r z w => h p y s r (by rw [← z]; simp) w) q
      simpa using this
    | bk ρ1 => exact .inr ⟨ρ1, rfl, q⟩
    | rt d b ρ1 => exact .inl ⟨_, rfl, q⟩
/-- a `for`, and what comes behind it -/
theorem ok_for {f : Rho → D → Option Out} {ss : Ss} {xs : List D} (I : List D → Rho → Prop) (h0 : I [] ρ)
    (step : ∀ pre x suf ρ, xs = pre ++ x :: suf → I pre ρ → Ok (turn (I (pre ++ [x])) (fun ρ' => Ok Q (exs P cf ρ' ss)) Q) (f ρ x))
    (fin : ∀ ρ', I xs ρ' → Ok Q (exs P cf ρ' ss)) : Ok Q (kSeq P cf ss (forLoop f ρ xs)) := by
  rcases for_ok (Q := Q) (B := fun ρ' => Ok Q (exs P cf ρ' ss)) xs [] ρ I (fun p y s r z w => step p y s r (by simpa using z) w) h0 with ⟨o, e, q⟩ | ⟨ρ', e, q⟩
  · rw [e]
    cases o with
    | nx ρ1 => exact fin ρ1 (by simpa using q)
    | ct ρ1 =>
      exfalso
      clear q
      revert e
      clear step fin h0
      induction xs generalizing ρ with
      | nil => intro e; cases e
      | cons x xs ih =>
        rw [forLoop_cons]
        rcases f ρ x with _ | o
        · intro e; cases e
        · cases o <;> first
            | exact ih
            | (intro e; cases e)
    | bk ρ1 =>
      exfalso
      clear q
      revert e
      clear step fin h0
      induction xs generalizing ρ with
      | nil => intro e; cases e
      | cons x xs ih =>
        rw [forLoop_cons]
        rcases f ρ x with _ | o
        · intro e; cases e
        · cases o <;> first
            | exact ih
            | (intro e; cases e)
    | rt d b ρ1 => exact ⟨_, rfl, q⟩
  · rw [e]
    exact q
/-- .. that only keeps something -/
theorem ok_forI {f : Rho → D → Option Out} {ss : Ss} {xs : List D} (I : Rho → Prop) (h0 : I ρ)
    (step : ∀ x ρ, x ∈ xs → I ρ → Ok (turn I (fun ρ' => Ok Q (exs P cf ρ' ss)) Q) (f ρ x))
    (fin : ∀ ρ', I ρ' → Ok Q (exs P cf ρ' ss)) : Ok Q (kSeq P cf ss (forLoop f ρ xs)) :=
  ok_for (fun _ => I) h0 (fun pre x suf ρ e h => step x ρ (by rw [e]; simp) h) fin
/-- .. over members that are made alike -/
theorem ok_forM {α : Type} {g : α → D} {l : List α} {f : Rho → D → Option Out} {ss : Ss} (I : List α → Rho → Prop) (h0 : I [] ρ)
    (step : ∀ pre c suf ρ, l = pre ++ c :: suf → I pre ρ → Ok (turn (I (pre ++ [c])) (fun ρ' => Ok Q (exs P cf ρ' ss)) Q) (f ρ (g c)))
    (fin : ∀ ρ', I l ρ' → Ok Q (exs P cf ρ' ss)) : Ok Q (kSeq P cf ss (forLoop f ρ (l.map g))) := by
  refine ok_for (fun pre ρ => ∃ p, p <+: l ∧ pre = p.map g ∧ I p ρ) ⟨[], List.nil_prefix, rfl, h0⟩ ?_ ?_
  · rintro pre x suf ρ e ⟨p, ⟨t, rfl⟩, rfl, hI⟩
    rw [List.map_append] at e
    have e2 := List.append_cancel_left e
    cases t with
    | nil => cases e2
    | cons c t =>
      rw [List.map_cons] at e2
      cases e2
      refine (step p c t ρ rfl hI).mono fun o h => ?_
      cases o with
      | nx ρ1 => exact ⟨p ++ [c], ⟨t, by simp⟩, by simp, h⟩
      | ct ρ1 => exact ⟨p ++ [c], ⟨t, by simp⟩, by simp, h⟩
      | bk ρ1 => exact h
      | rt d b ρ1 => exact h
  · rintro ρ' ⟨p, ⟨t, rfl⟩, e, hI⟩
    have : t = [] := by
      have := congrArg List.length e
      simp at this
      exact this
    subst this
    rw [List.append_nil] at *
    exact fin ρ' hI
theorem rngD_nat {n : Nat} : rngD 0 (n : Int) = (List.range n).map fun k => D.int (k : Nat) := by
  unfold rngD
  simp
/-- .. over the numbers below n -/
theorem ok_forR {n : Nat} {f : Rho → D → Option Out} {ss : Ss} (I : Nat → Rho → Prop) (h0 : I 0 ρ)
    (step : ∀ k ρ, k < n → I k ρ → Ok (turn (I (k + 1)) (fun ρ' => Ok Q (exs P cf ρ' ss)) Q) (f ρ (.int (k : Nat))))
    (fin : ∀ ρ', I n ρ' → Ok Q (exs P cf ρ' ss)) : Ok Q (kSeq P cf ss (forLoop f ρ (rngD 0 (n : Int)))) := by
  rw [rngD_nat]
  refine ok_forM (fun pre ρ => I pre.length ρ) h0 ?_ (fun ρ' h => fin ρ' (by simpa using h))
  intro pre c suf ρ e hI
  have hc : c = pre.length := by
    have h1 : (List.range n)[pre.length]? = some c := by rw [e]; simp
    rw [List.getElem?_range] at h1
    · cases h1; rfl
    · have := congrArg List.length e
      simp at this
      omega
  have hn : pre.length < n := by
    have := congrArg List.length e
    simp at this
    omega
  subst hc
  have := step pre.length ρ hn hI
  simpa using this
/-- .. over the numbers from lo to hi -/
theorem ok_forR2 {lo hi : Int} {f : Rho → D → Option Out} {ss : Ss} (I : Nat → Rho → Prop) (h0 : I 0 ρ)
    (step : ∀ k ρ, k < (hi - lo).toNat → I k ρ → Ok (turn (I (k + 1)) (fun ρ' => Ok Q (exs P cf ρ' ss)) Q) (f ρ (.int (lo + (k : Nat)))))
    (fin : ∀ ρ', I (hi - lo).toNat ρ' → Ok Q (exs P cf ρ' ss)) : Ok Q (kSeq P cf ss (forLoop f ρ (rngD lo hi))) := by
  unfold rngD
  refine ok_forM (fun pre ρ => I pre.length ρ) h0 ?_ (fun ρ' h => fin ρ' (by simpa using h))
  intro pre c suf ρ e hI
  have hn : pre.length < (hi - lo).toNat := by
    have := congrArg List.length e
    simp at this
    omega
  have hc : c = pre.length := by
    have h1 : (List.range (hi - lo).toNat)[pre.length]? = some c := by rw [e]; simp
    rw [List.getElem?_range hn] at h1
    cases h1; rfl
  subst hc
  have := step pre.length ρ hn hI
  simpa using this
/-- what a turn of a walk that keeps the list may come to -/
def turnW (p : Bool) (i : Nat) (xs : List D) (I : Rho → Prop) (B : Rho → Prop) (Q : Out → Prop) : Out → Prop
  | .nx ρ => I ρ
  | .ct ρ => I ρ
  | .bk ρ => ρ[i]? = some (.ow true (.lst xs)) ∧ B (ρ.set i (.ow p (.lst xs)))
  | .rt d f ρ => ρ[i]? = some (.ow true (.lst xs)) ∧ Q (.rt d f (ρ.set i (.ow p (.lst xs))))
@[simp] theorem turnW_nx {p : Bool} {i : Nat} {xs : List D} {I B : Rho → Prop} : turnW p i xs I B Q (.nx ρ) = I ρ := rfl
@[simp] theorem turnW_ct {p : Bool} {i : Nat} {xs : List D} {I B : Rho → Prop} : turnW p i xs I B Q (.ct ρ) = I ρ := rfl
@[simp] theorem turnW_rt {p : Bool} {i : Nat} {xs : List D} {I B : Rho → Prop} {d : D} {f : Bool} : turnW p i xs I B Q (.rt d f ρ) = (ρ[i]? = some (.ow true (.lst xs)) ∧ Q (.rt d f (ρ.set i (.ow p (.lst xs))))) := rfl
theorem fw_ok {f : Rho → D → Option Out} {ss : Ss} {p : Bool} {i : Nat} {xs : List D} (I : List D → Rho → Prop) (hI : ∀ pre ρ, I pre ρ → ρ[i]? = some (.ow true (.lst xs)))
    (step : ∀ pre x suf ρ, xs = pre ++ x :: suf → I pre ρ → Ok (turnW p i xs (I (pre ++ [x])) (fun ρ' => Ok Q (exs P cf ρ' ss)) Q) (f ρ x))
    (fin : ∀ ρ', I xs ρ' → Ok Q (exs P cf (ρ'.set i (.ow p (.lst xs))) ss)) :
    ∀ (n : Nat) (pre suf : List D) (ρ : Rho), xs = pre ++ suf → suf.length < n → I pre ρ → Ok Q (kSeq P cf ss (kUn p i (fwLoop f i n pre.length ρ)))
  | 0, pre, suf, ρ, _, h, _ => absurd h (Nat.not_lt_zero _)
  | n + 1, pre, suf, ρ, e, hl, h => by
    rw [fwLoop, hI pre ρ h]
    cases suf with
    | nil =>
      have e1 : xs[pre.length]? = none := by rw [e]; simp
      simp only [e1]
      rw [List.append_nil] at e
      subst e
      simp [hI _ ρ h]
      exact fin ρ h
    | cons x suf =>
      have e1 : xs[pre.length]? = some x := by rw [e]; simp
      simp only [e1]
      obtain ⟨o, e2, q⟩ := step pre x suf ρ e h
      rw [e2]
      have go : ∀ ρ1, I (pre ++ [x]) ρ1 → Ok Q (kSeq P cf ss (kUn p i (fwLoop f i n (pre.length + 1) ρ1))) := fun ρ1 h1 => by
        have := fw_ok I hI step fin n (pre ++ [x]) suf ρ1 (by rw [e]; simp) (by simp at hl; omega) h1
        simpa using this
      cases o with
      | nx ρ1 => exact go ρ1 q
      | ct ρ1 => exact go ρ1 q
      | bk ρ1 =>
        obtain ⟨q1, q2⟩ := q
        show Ok Q (kSeq P cf ss (unmO p i (.nx ρ1)))
        simp [q1]
        exact q2
      | rt d b ρ1 =>
        obtain ⟨q1, q2⟩ := q
        show Ok Q (kSeq P cf ss (unmO p i (.rt d b ρ1)))
        simp [q1]
        exact q2
/-- a `for` over a name's own list that it keeps -/
theorem ok_fw {f : Rho → D → Option Out} {ss : Ss} {p : Bool} {i : Nat} {xs : List D} (I : List D → Rho → Prop) (hl : xs.length < 100000) (hI : ∀ pre ρ, I pre ρ → ρ[i]? = some (.ow true (.lst xs))) (h0 : I [] ρ)
    (step : ∀ pre x suf ρ, xs = pre ++ x :: suf → I pre ρ → Ok (turnW p i xs (I (pre ++ [x])) (fun ρ' => Ok Q (exs P cf ρ' ss)) Q) (f ρ x))
    (fin : ∀ ρ', I xs ρ' → Ok Q (exs P cf (ρ'.set i (.ow p (.lst xs))) ss)) : Ok Q (kSeq P cf ss (kUn p i (fwLoop f i 100000 0 ρ))) :=
  fw_ok I hI step fin 100000 [] xs ρ rfl hl h0
/-- .. over numbered members -/
theorem ok_forE {α : Type} {g : α → D} {l : List α} {f : Rho → D → Option Out} {ss : Ss} (I : List α → Rho → Prop) (h0 : I [] ρ)
    (step : ∀ pre c suf ρ, l = pre ++ c :: suf → I pre ρ → Ok (turn (I (pre ++ [c])) (fun ρ' => Ok Q (exs P cf ρ' ss)) Q) (f ρ (.tup [.int (pre.length : Nat), g c])))
    (fin : ∀ ρ', I l ρ' → Ok Q (exs P cf ρ' ss)) : Ok Q (kSeq P cf ss (forLoop f ρ (enumD (l.map g)))) := by
  have e : enumD (l.map g) = (l.mapIdx fun i c => (i, c)).map fun x => D.tup [.int (x.1 : Nat), g x.2] := by
    unfold enumD
    simp [List.mapIdx_eq_zipIdx_map, List.zipIdx_map, Function.comp_def]
  rw [e]
  refine ok_forM (fun pre ρ => ∃ p, pre = p.mapIdx (fun i c => (i, c)) ∧ I p ρ) ⟨[], rfl, h0⟩ ?_ ?_
  · rintro pre c suf ρ e ⟨p, rfl, hI⟩
    have hl : ∀ q : List α, (q.mapIdx fun i c => (i, c)).map (·.2) = q := fun q => by simp [List.mapIdx_eq_zipIdx_map, Function.comp_def]
    have e2 := congrArg (List.map (·.2)) e
    rw [hl, List.map_append, hl, List.map_cons] at e2
    have e3 : c = (p.length, c.2) := by
      have h1 : (l.mapIdx fun i c => (i, c))[p.length]? = some c := by rw [e]; simp
      rw [List.getElem?_mapIdx] at h1
      obtain ⟨d, _, q⟩ := Option.map_eq_some_iff.mp h1
      rw [← q]
    refine (by rw [e3]; exact (step p c.2 _ ρ e2 hI) : Ok _ (f ρ (D.tup [.int (c.1 : Nat), g c.2]))).mono fun o h => ?_
    have mk : ∀ ρ1, I (p ++ [c.2]) ρ1 → ∃ p', (p.mapIdx fun i c => (i, c)) ++ [c] = p'.mapIdx (fun i c => (i, c)) ∧ I p' ρ1 := fun ρ1 h => ⟨p ++ [c.2], by rw [List.mapIdx_append]; simp; exact e3, h⟩
    cases o with
    | nx ρ1 => exact mk ρ1 h
    | ct ρ1 => exact mk ρ1 h
    | bk ρ1 => exact h
    | rt d b ρ1 => exact h
  · rintro ρ' ⟨p, e, hI⟩
    have hl : ∀ q : List α, (q.mapIdx fun i c => (i, c)).map (·.2) = q := fun q => by simp [List.mapIdx_eq_zipIdx_map, Function.comp_def]
    have := congrArg (List.map (·.2)) e
    rw [hl, hl] at this
    subst this
    exact fin ρ' hI
def tOk (R : Rho → Prop) (F : Rho → Prop) : Bool × Rho → Prop
  | (true, ρ) => R ρ
  | (false, ρ) => F ρ
@[simp] theorem tOk_t {R F : Rho → Prop} : tOk R F (true, ρ) = R ρ := rfl
@[simp] theorem tOk_f {R F : Rho → Prop} : tOk R F (false, ρ) = F ρ := rfl
theorem whl_ok {c : Rho → Option (Bool × Rho)} {f : Rho → Option Out} {ss : Ss} (I : Nat → Rho → Prop)
    (step : ∀ k ρ, I k ρ → Ok (tOk (fun ρ1 => Ok (turn (fun ρ2 => ∃ j, j < k ∧ I j ρ2) (fun ρ' => Ok Q (exs P cf ρ' ss)) Q) (f ρ1)) (fun ρ' => Ok Q (exs P cf ρ' ss))) (c ρ)) :
    ∀ (n k : Nat) (ρ : Rho), k < n → I k ρ → Ok Q (kSeq P cf ss (whlLoop c f n ρ))
  | 0, k, ρ, h, _ => absurd h (Nat.not_lt_zero _)
  | n + 1, k, ρ, h, h0 => by
    obtain ⟨⟨t, ρ1⟩, e, q⟩ := step k ρ h0
    rw [whlLoop, e]
    cases t with
    | false => exact q
    | true =>
      obtain ⟨o, e1, q1⟩ := q
      show Ok Q (kSeq P cf ss ((f ρ1).bind _))
      rw [e1]
      cases o with
      | nx ρ2 =>
        obtain ⟨j, hj, hI⟩ := q1
        exact whl_ok I step n j ρ2 (by omega) hI
      | ct ρ2 =>
        obtain ⟨j, hj, hI⟩ := q1
        exact whl_ok I step n j ρ2 (by omega) hI
      | bk ρ2 => exact q1
      | rt d b ρ2 => exact ⟨_, rfl, q1⟩
/-- a `while`, by a number that falls -/
theorem ok_whl {c : Rho → Option (Bool × Rho)} {f : Rho → Option Out} {ss : Ss} {n : Nat} (I : Nat → Rho → Prop) (k : Nat) (hk : k < n) (h0 : I k ρ)
    (step : ∀ k ρ, I k ρ → Ok (tOk (fun ρ1 => Ok (turn (fun ρ2 => ∃ j, j < k ∧ I j ρ2) (fun ρ' => Ok Q (exs P cf ρ' ss)) Q) (f ρ1)) (fun ρ' => Ok Q (exs P cf ρ' ss))) (c ρ)) :
    Ok Q (kSeq P cf ss (whlLoop c f n ρ)) := whl_ok I step n k ρ hk h0
@[simp] theorem ex_whl {c : T} {b : Ss} : ex P cf ρ (.whl c b) = whlLoop (fun ρ' => evT P cf ρ' c) (fun ρ' => exs P cf ρ' b) most ρ := by simp only [ex]
@[simp] theorem kAnd_last {t f : Bool} : kAnd P cf .nil (some (.bl t, f, ρ)) = some (t, ρ) := by cases t <;> simp
@[simp] theorem kOr_last {t f : Bool} : kOr P cf .nil (some (.bl t, f, ρ)) = some (t, ρ) := by cases t <;> simp
@[simp] theorem kAll_last {t : Bool} : kAll P cf .nil (some (t, ρ)) = some (t, ρ) := by cases t <;> simp
@[simp] theorem kAny_last {t : Bool} : kAny P cf .nil (some (t, ρ)) = some (t, ρ) := by cases t <;> simp
theorem kIf_if {a b : Ss} {t : Bool} : kIf P cf a b (some (t, ρ)) = if t then exs P cf ρ a else exs P cf ρ b := by cases t <;> rfl
/-- what comes of a call's body -/
def retP (np : Nat) (R : D × Bool × List Sl → Prop) : Out → Prop
  | .rt r fr ρ => R (r, fr, ρ.take np)
  | .nx ρ => R (.non, false, ρ.take np)
  | _ => False
@[simp] theorem retP_rt {np : Nat} {R : D × Bool × List Sl → Prop} {d : D} {f : Bool} : retP np R (.rt d f ρ) = R (d, f, ρ.take np) := rfl
@[simp] theorem retP_nx {np : Nat} {R : D × Bool × List Sl → Prop} : retP np R (.nx ρ) = R (.non, false, ρ.take np) := rfl
/-- a call -/
theorem ok_call {n f : Nat} {sl : List Sl} {d : Def} {R : D × Bool × List Sl → Prop} (h : P.defs[f]? = some d) (hl : sl.length = d.np) (hn : d.np ≤ d.nn) (hf : sl.all Sl.fit = true)
    (q : Ok (retP d.np R) (exs P (callAt P n) (sl ++ List.replicate (d.nn - d.np) .un) d.body)) : Ok R (callAt P (n + 1) f sl) := by
  rw [call_eq h hl hn hf]
  obtain ⟨o, e, w⟩ := q
  rw [e]
  cases o with
  | nx ρ => exact ⟨_, rfl, w⟩
  | rt d f ρ => exact ⟨_, rfl, w⟩
  | bk ρ => exact w.elim
  | ct ρ => exact w.elim
end
/-! comprehensions over members that are made alike -/
section
variable {α : Type} {g : α → D} {f : Rho → D → Option (Option D × Rho)} {ρ : Rho}
theorem lcLoop_fM (p : α → Bool) (h : α → D) : ∀ {l : List α}, (∀ c ∈ l, f ρ (g c) = some (if p c then some (h c) else none, ρ)) → lcLoop f ρ (l.map g) = some ((l.filter p).map h, ρ)
  | [], _ => rfl
  | c :: l, H => by
    rw [List.map_cons, lcLoop_cons, H c (List.mem_cons_self ..), kLc_some, lcLoop_fM p h fun d hd => H d (List.mem_cons_of_mem _ hd)]
    by_cases hp : p c = true
    · rw [if_pos hp, List.filter_cons_of_pos hp]; rfl
    · rw [if_neg hp, List.filter_cons_of_neg hp]; rfl
theorem lcLoop_mM (h : α → D) {l : List α} (H : ∀ c ∈ l, f ρ (g c) = some (some (h c), ρ)) : lcLoop f ρ (l.map g) = some (l.map h, ρ) := by
  have := lcLoop_fM (p := fun _ => true) h (l := l) (f := f) (g := g) (ρ := ρ) fun c hc => by simpa using H c hc
  rw [this, List.filter_eq_self.mpr fun _ _ => rfl]
end
end BK

set_option Elab.async false
set_option linter.all false
set_option maxRecDepth 100000
/-! BKx: texts by their signs. -/
namespace BK
open PySem
def Sg (l : List Nat) : Str := ⟨l.toArray⟩
def Tx (l : List Nat) : D := .str (Sg l)
theorem str_T (x : Str) : D.str x = Tx x.cps.toList := by
  cases x
  simp [Tx, Sg]
@[simp] theorem S_len {l : List Nat} : (Sg l).length = l.length := by simp [Sg, Str.length]
@[simp] theorem S_cps {l : List Nat} : (Sg l).cps.toList = l := by simp [Sg]
theorem S_inj {a b : List Nat} : Sg a = Sg b ↔ a = b := by simp [Sg]
@[simp] theorem S_beq {a b : List Nat} : (Sg a == Sg b) = (a == b) := by
  by_cases h : a = b
  · subst h; simp
  · rw [beq_eq_false_iff_ne.mpr h, beq_eq_false_iff_ne.mpr (fun z => h (S_inj.mp z))]
@[simp] theorem S_app {a b : List Nat} : Sg a ++ Sg b = Sg (a ++ b) := by
  show Str.mk (a.toArray ++ b.toArray) = _
  simp [Sg]
theorem signs_T {l : List Nat} : signsD (Sg l) = l.map fun c => Tx [c] := by
  unfold signsD
  rw [S_cps]
  rfl
@[simp] theorem isIns_T {l : List Nat} : isIns (Tx l) = none := rfl
@[simp] theorem flat_T {l : List Nat} : D.flat (Tx l) = true := rfl
@[simp] theorem o1_intb {b : Bool} : op1 .int (.bl b) = some (.int (if b then 1 else 0), false) := rfl
@[simp] theorem flat_bl {b : Bool} : D.flat (.bl b) = true := rfl
@[simp] theorem flat_int {i : Int} : D.flat (.int i) = true := rfl
@[simp] theorem flat_non : D.flat .non = true := rfl
@[simp] theorem okI_T {P : Pr} {l : List Nat} : okI P (Tx l) = true := rfl
@[simp] theorem okI_non {P : Pr} : okI P .non = true := rfl
@[simp] theorem okI_bl {P : Pr} {b : Bool} : okI P (.bl b) = true := rfl
@[simp] theorem okI_int {P : Pr} {i : Int} : okI P (.int i) = true := rfl
@[simp] theorem okI_lst {P : Pr} {xs : List D} : okI P (.lst xs) = true := rfl
@[simp] theorem okI_tup {P : Pr} {xs : List D} : okI P (.tup xs) = true := rfl
@[simp] theorem okI_dk {P : Pr} {ks : List L2.Key} {vs : List D} : okI P (.dk ks vs) = true := rfl
@[simp] theorem isi_T {l : List Nat} {t : Ty} : D.isi (Tx l) t = decide (t = .str) := by cases t <;> rfl
@[simp] theorem seqI_T {P : Pr} {ρ ρ1 : Rho} {e : E} {l : List Nat} {f : Bool} : seqI P ρ e (some (Tx l, f, ρ1)) = some (l.map fun c => Tx [c], ρ1) := by rw [← signs_T]; rfl
@[simp] theorem o2_eqT {a b : List Nat} : op2 .eq (Tx a) (Tx b) = some (.bl (a == b), false) := by rw [← S_beq]; rfl
@[simp] theorem o2_neT {a b : List Nat} : op2 .ne (Tx a) (Tx b) = some (.bl (!(a == b)), false) := by rw [← S_beq]; rfl
@[simp] theorem o2_addT {a b : List Nat} : op2 .add (Tx a) (Tx b) = if a.length + b.length ≤ most then some (Tx (a ++ b), false) else none := by
  show (if (Sg a).length + (Sg b).length ≤ most then some (D.str (Sg a ++ Sg b), false) else none) = _
  rw [S_len, S_len, S_app]; rfl
@[simp] theorem o1_lenT {a : List Nat} : op1 .len (Tx a) = if a.length ≤ most then some (.int a.length, false) else none := by
  show (if (Sg a).length ≤ most then some (D.int (Sg a).length, false) else none) = _
  rw [S_len]
@[simp] theorem o1_listT {a : List Nat} : op1 .list (Tx a) = if a.length ≤ most then some (.lst (a.map fun c => Tx [c]), true) else none := by
  rw [← signs_T, ← S_len (l := a)]; rfl
@[simp] theorem o1_revT {a : List Nat} : op1 .rev (Tx a) = if a.length ≤ most then some (Tx a.reverse, false) else none := by
  show (if (Sg a).length ≤ most then some (D.str (revT (Sg a)), false) else none) = _
  rw [S_len]
  unfold revT
  rw [S_cps]; rfl
theorem cutS_to {a : List Nat} {i : Nat} : L2.cutS (Sg a) none (some (i : Int)) = Sg (a.take i) := by
  unfold L2.cutS
  rw [S_cps, S_len, HT.sIx_none, HT.sIx_nat]
  simp only [List.drop_zero, Nat.sub_zero]
  rw [show a.take (min i a.length) = a.take i by rw [← List.take_take, List.take_length]]
  rfl
theorem cutS_from {a : List Nat} {i : Nat} : L2.cutS (Sg a) (some (i : Int)) none = Sg (a.drop i) := by
  unfold L2.cutS
  rw [S_cps, S_len, HT.sIx_none, HT.sIx_nat]
  show Str.mk ((a.drop (min i a.length)).take (a.length - min i a.length)).toArray = _
  rw [List.take_of_length_le (by rw [List.length_drop]; exact Nat.le_refl _)]
  by_cases h : i ≤ a.length
  · rw [Nat.min_eq_left h]; rfl
  · rw [Nat.min_eq_right (by omega), List.drop_length, List.drop_eq_nil_of_le (by omega)]; rfl
theorem o2_to {a : List Nat} {i : Int} (h : 0 ≤ i) : op2 (.sl false true) (Tx a) (.int i) = if a.length ≤ most then some (Tx (a.take i.toNat), false) else none := by
  obtain ⟨k, rfl⟩ := Int.eq_ofNat_of_zero_le h
  show (if (Sg a).length ≤ most then some (D.str (L2.cutS (Sg a) none (some (k : Int))), false) else none) = _
  rw [S_len, cutS_to]; rfl
theorem o2_from {a : List Nat} {i : Int} (h : 0 ≤ i) : op2 (.sl true false) (Tx a) (.int i) = if a.length ≤ most then some (Tx (a.drop i.toNat), false) else none := by
  obtain ⟨k, rfl⟩ := Int.eq_ofNat_of_zero_le h
  show (if (Sg a).length ≤ most then some (D.str (L2.cutS (Sg a) (some (k : Int)) none), false) else none) = _
  rw [S_len, cutS_from]; rfl
theorem cnt_count {c : Nat} : ∀ l : List Nat, PyProof.Rows.cnt c l = (l.count c : Nat)
  | [] => by rw [PyProof.Rows.cnt_nil]; rfl
  | x :: l => by
    rw [PyProof.Rows.cnt_cons, cnt_count l, List.count_cons]
    by_cases h : x = c
    · subst h; simp; try omega
    · have h2 : ¬ c = x := fun z => h z.symm
      simp [h, h2]
theorem count_S {c : Nat} {l : List Nat} : Txt.count (Sg l) (Sg [c]) = (l.count c : Nat) := by
  show Txt.count (Sg l) ⟨#[c]⟩ = _
  rw [PyProof.Rows.count_cnt, S_cps, cnt_count]
@[simp] theorem ty_scn {l : List Nat} : bmTy .scn (Tx l) = true := rfl
@[simp] theorem bm_scn {c : Nat} {l : List Nat} : bmOp .scn (Tx l) [Tx [c]] = some (.int (l.count c : Nat)) := by
  show some (D.int (Txt.count (Sg l) (Sg [c]))) = _
  rw [count_S]
@[simp] theorem kFe_T {P : Pr} {cf : Call} {tg : Tg} {b : Ss} {z : List Nat} {f : Bool} {ρ1 : Rho} : kFe P cf tg b (some (Tx z, f, ρ1)) = forLoop (fBody P cf tg b) ρ1 (enumD (z.map fun c => Tx [c])) := by rw [← signs_T]; rfl
@[simp] theorem ev_T {P : Pr} {cf : Call} {ρ : Rho} {l : List Nat} : ev P cf ρ (.cst (Tx l)) = some (Tx l, false, ρ) := ev_str
theorem enum_mem {xs pre suf : List D} {x : D} (h : enumD xs = pre ++ x :: suf) : ∃ d, xs[pre.length]? = some d ∧ x = .tup [.int (pre.length : Nat), d] := by
  have h1 : (enumD xs)[pre.length]? = some x := by rw [h]; simp
  rw [enumD_get] at h1
  obtain ⟨d, e, q⟩ := Option.map_eq_some_iff.mp h1
  exact ⟨d, e, q.symm⟩
/-! a text many times -/
theorem join_app : ∀ (n : Nat) (a : Array Nat) (acc : Array Nat), ((List.replicate n a).foldl (· ++ ·) acc).toList = acc.toList ++ (List.replicate n a.toList).flatten
  | 0, a, acc => by simp
  | n + 1, a, acc => by
    rw [List.replicate_succ, List.foldl_cons, join_app n a, List.replicate_succ, List.flatten_cons]
    simp
theorem repS_T {l : List Nat} {n : Nat} : repS (Sg l) (n : Int) = Sg (List.replicate n l).flatten := by
  unfold repS
  split
  · have : n = 0 := by omega
    subst this
    rfl
  · split
    · rename_i h1 h2
      rw [Bool.or_eq_true] at h2
      rcases h2 with h2 | h2
      · have : n = 1 := by have := eq_of_beq h2; omega
        subst this
        simp
      · have h3 := eq_of_beq h2
        rw [S_len] at h3
        have : l = [] := List.length_eq_zero_iff.mp h3
        subst this
        simp
    · rw [Int.toNat_natCast]
      have e : ∀ x : Array Nat, (Str.mk x) = Sg x.toList := fun x => by simp [Sg]
      rw [e]
      congr 1
      have := join_app n l.toArray #[]
      simpa [Sg] using this
theorem o2_mulT {l : List Nat} {i : Int} (h : 0 ≤ i) (h1 : i ≤ 100000) (h2 : l.length * i.toNat ≤ 100000) : op2 .mul (Tx l) (.int i) = some (Tx (List.replicate i.toNat l).flatten, false) := by
  obtain ⟨k, rfl⟩ := Int.eq_ofNat_of_zero_le h
  show (if decide (-(2 ^ 63) ≤ (k : Int)) && decide ((k : Int) ≤ most) && decide ((Sg l).length * (k : Int).toNat ≤ most) then some (D.str (repS (Sg l) (k : Int)), false) else none) = _
  rw [S_len, repS_T, decide_eq_true (by omega), decide_eq_true (show (k : Int) ≤ most by show (k : Int) ≤ 100000; omega), decide_eq_true (show l.length * (k : Int).toNat ≤ most from h2)]
  rfl
/-! texts written out -/
theorem mild_T {l : List Nat} (h : ∀ c ∈ l, c < 55296) : (Tx l).mild = true := by
  show PyData.strOk (Sg l) = true
  unfold PyData.strOk
  rw [← Array.all_toList, S_cps, List.all_eq_true]
  intro c hc
  have := h c hc
  exact decide_eq_true (by omega)
theorem bulk_T {l : List Nat} : (Tx l).bulk = l.length := by
  show (Sg l).cps.size = _
  exact S_len
/-! a text among texts -/
def okT (l : List Nat) : Prop := ∀ c ∈ l, c < 55296
theorem strOk_T {l : List Nat} (h : okT l) : PyData.strOk (Sg l) = true := mild_T h
theorem pys_T : ∀ ls : List (List Nat), D.pys (ls.map Tx) = some (ls.map fun l => PyData.str (Sg l))
  | [] => rfl
  | l :: ls => by rw [List.map_cons, D.pys, pys_T ls]; rfl
theorem milds_T : ∀ {ls : List (List Nat)}, (∀ l ∈ ls, okT l) → D.milds (ls.map Tx) = true ∧ D.deeps (ls.map Tx) = 0
  | [], _ => ⟨rfl, rfl⟩
  | l :: ls, h => by
    obtain ⟨h1, h2⟩ := milds_T fun z hz => h z (List.mem_cons_of_mem _ hz)
    rw [List.map_cons, D.milds, D.deeps, h1, h2, mild_T (h l (List.mem_cons_self ..))]
    exact ⟨rfl, rfl⟩
theorem hasD_T {a : List Nat} {ls : List (List Nat)} (ha : okT a) (h : ∀ l ∈ ls, okT l) : hasD (Tx a) (ls.map Tx) = some (ls.any fun l => l == a) := by
  obtain ⟨m1, m2⟩ := milds_T h
  obtain ⟨qs, r1, r2, _, _, _, r6⟩ := milds_ok _ m1
  rw [pys_T] at r1
  cases r1
  unfold hasD
  have e1 : (Tx a).py = some (.str (Sg a)) := rfl
  rw [e1, pys_T]
  have s1 : SeqAt.shaped (.str (Sg a)) = true := by
    unfold SeqAt.shaped
    rw [PyData.canLay0, strOk_T ha]
    rfl
  have s2 : SeqAt.shaped (.list (ls.map fun l => PyData.str (Sg l))) = true := by
    unfold SeqAt.shaped
    rw [PyData.canLay0, r2, decide_eq_true (by rw [PyData.depth, r6, m2]; omega)]
    rfl
  simp only [s1, s2, Bool.and_self, if_true, List.any_map]
  congr 2
  funext l
  show (Sg l == Sg a) = _
  rw [S_beq]
theorem flats_T : ∀ ls : List (List Nat), (ls.map Tx).all D.flat = true := fun ls => by rw [List.all_eq_true]; intro x hx; obtain ⟨l, _, rfl⟩ := List.mem_map.mp hx; rfl
theorem o2_inT {a : List Nat} {ls : List (List Nat)} (ha : okT a) (h : ∀ l ∈ ls, okT l) : op2 .isin (Tx a) (.lst (ls.map Tx)) = some (.bl (ls.any fun l => l == a), false) := by
  show (hasD _ _).map _ = _
  rw [hasD_T ha h]; rfl
theorem o2_ninT {a : List Nat} {ls : List (List Nat)} (ha : okT a) (h : ∀ l ∈ ls, okT l) : op2 .notin (Tx a) (.lst (ls.map Tx)) = some (.bl (!(ls.any fun l => l == a)), false) := by
  show (hasD _ _).map _ = _
  rw [hasD_T ha h]; rfl
theorem o2_inTt {a : List Nat} {ls : List (List Nat)} (ha : okT a) (h : ∀ l ∈ ls, okT l) : op2 .isin (Tx a) (.tup (ls.map Tx)) = some (.bl (ls.any fun l => l == a), false) := by
  show (if D.flat (Tx a) && (ls.map Tx).all D.flat then (hasD _ _).map _ else none) = _
  rw [hasD_T ha h, flats_T]; rfl
theorem o2_ninTt {a : List Nat} {ls : List (List Nat)} (ha : okT a) (h : ∀ l ∈ ls, okT l) : op2 .notin (Tx a) (.tup (ls.map Tx)) = some (.bl (!(ls.any fun l => l == a)), false) := by
  show (if D.flat (Tx a) && (ls.map Tx).all D.flat then (hasD _ _).map _ else none) = _
  rw [hasD_T ha h, flats_T]; rfl
/-! a list beside the empty one -/
theorem eqD_nil {xs : List D} (g : (D.lst xs).fine) : eqD (.lst xs) (.lst []) = some xs.isEmpty := by
  obtain ⟨p, h1, h2, h4⟩ := fine_py g
  have e : eqD (.lst xs) (.lst []) = eqDp (.lst xs) (.lst []) := rfl
  rw [e]
  unfold eqDp
  rw [h1]
  have e0 : (D.lst []).py = some (.list []) := rfl
  have s0 : SeqAt.shaped (.list []) = true := rfl
  rw [e0]
  simp only [h2, s0, Bool.and_self, if_true]
  rw [D.py] at h1
  obtain ⟨ps, q1, rfl⟩ := Option.map_eq_some_iff.mp h1
  cases xs with
  | nil => cases q1; rfl
  | cons x xs =>
    rw [D.pys] at q1
    obtain ⟨a, _, q2⟩ := Option.bind_eq_some_iff.mp q1
    obtain ⟨b, _, rfl⟩ := Option.map_eq_some_iff.mp q2
    rfl
theorem o2_eqnil {xs : List D} (g : (D.lst xs).fine) : op2 .eq (.lst xs) (.lst []) = some (.bl xs.isEmpty, false) := by
  show (eqD _ _).map _ = _
  rw [eqD_nil g]; rfl
theorem o2_nenil {xs : List D} (g : (D.lst xs).fine) : op2 .ne (.lst xs) (.lst []) = some (.bl (!xs.isEmpty), false) := by
  show (eqD _ _).map _ = _
  rw [eqD_nil g]; rfl
theorem fine_Ts {ls : List (List Nat)} (h : ∀ l ∈ ls, okT l) : (D.lst (ls.map Tx)).fine := by
  obtain ⟨m1, m2⟩ := milds_T h
  exact ⟨by rw [D.mild]; exact m1, by rw [D.deep, m2]; omega⟩
theorem o2_nenil1 {l : List Nat} (h : okT l) : op2 .ne (.lst (l.map fun c => Tx [c])) (.lst []) = some (.bl (!l.isEmpty), false) := by
  have e : (l.map fun c => Tx [c]) = (l.map fun c => [c]).map Tx := by rw [List.map_map]; rfl
  rw [e, o2_nenil (fine_Ts fun x hx => by
    obtain ⟨c, hc, rfl⟩ := List.mem_map.mp hx
    intro d hd
    rw [List.mem_singleton] at hd
    subst hd
    exact h d hc)]
  cases l <;> rfl
theorem fine_T {l : List Nat} (h : okT l) : (Tx l).fine := ⟨mild_T h, Nat.zero_le _⟩
end BK

set_option Elab.async false
set_option linter.all false
set_option maxRecDepth 100000
/-! BKy: lists sorted; larger data that are alike. -/
namespace BK
open PySem
/-! ### sorting -/
theorem unique_sorted {α : Type} {le : α → α → Bool} (anti : ∀ a b, le a b = true → le b a = true → a = b) : ∀ {as bs : List α}, as.Perm bs → as.Pairwise (fun a b => le a b = true) → bs.Pairwise (fun a b => le a b = true) → as = bs
  | [], bs, hp, _, _ => (List.nil_perm.mp hp).symm
  | a :: as, [], hp, _, _ => by have := hp.length_eq; simp at this
  | a :: as, b :: bs, hp, h1, h2 => by
    rw [List.pairwise_cons] at h1 h2
    have e : a = b := by
      have ha : a ∈ b :: bs := hp.mem_iff.mp (List.mem_cons_self ..)
      have hb : b ∈ a :: as := hp.mem_iff.mpr (List.mem_cons_self ..)
      rcases List.mem_cons.mp ha with h | h
      · exact h
      · rcases List.mem_cons.mp hb with h' | h'
        · exact h'.symm
        · exact anti a b (h1.1 b h') (h2.1 a h)
    subst e
    rw [unique_sorted anti hp.cons_inv h1.2 h2.2]
/-- an order by which lists may be sorted -/
structure Lin {α : Type} (le : α → α → Bool) : Prop where
  tr : ∀ a b c, le a b = true → le b c = true → le a c = true
  to : ∀ a b, (le a b || le b a) = true
  an : ∀ a b, le a b = true → le b a = true → a = b
theorem Lin.sorted {α : Type} {le : α → α → Bool} (h : Lin le) (l : List α) : (l.mergeSort le).Pairwise (fun a b => le a b = true) := List.pairwise_mergeSort h.tr h.to l
theorem Lin.is {α : Type} {le : α → α → Bool} (h : Lin le) {l ys : List α} (hp : ys.Perm l) (hs : ys.Pairwise (fun a b => le a b = true)) : l.mergeSort le = ys :=
  unique_sorted h.an ((List.mergeSort_perm l le).trans hp.symm) (h.sorted l) hs
def leI (a b : Int) : Bool := decide (a ≤ b)
def leT (a b : List Nat) : Bool := decide (a ≤ b)
theorem linI : Lin leI := ⟨fun a b c h1 h2 => by simp only [leI, decide_eq_true_eq] at *; omega, fun a b => by simp only [leI, Bool.or_eq_true, decide_eq_true_eq]; omega, fun a b h1 h2 => by simp only [leI, decide_eq_true_eq] at *; omega⟩
theorem linT : Lin leT := ⟨fun a b c h1 h2 => by simp only [leT, decide_eq_true_eq] at *; exact List.le_trans h1 h2, fun a b => by simp only [leT, Bool.or_eq_true, decide_eq_true_eq]; exact List.le_total a b, fun a b h1 h2 => by simp only [leT, decide_eq_true_eq] at *; exact List.le_antisymm h1 h2⟩
theorem leD_T (a b : List Nat) : sortD.leD (Tx a) (Tx b) = leT a b := by
  have h := congrFun (congrFun (PySem.W.dataLe_str (β := List Nat) (fun l => Sg l)) a) b
  simp only [S_cps] at h
  exact h
theorem leD_I (a b : Int) : sortD.leD (.int a) (.int b) = leI a b := by
  have h := congrFun (congrFun (PySem.W.dataLe_int (β := Int) (fun l => l)) a) b
  exact h
theorem sort_of {α : Type} {g : α → D} {le : α → α → Bool} {l : List α} (hl : l.length ≤ 100000) (hg : ∃ p : α → PyData, (∀ a, (g a).py = some (p a)) ∧ (∀ a ∈ l, ∀ b ∈ l, PySem.W.alike (p a) (p b) = true) ∧ sortD.sortableB (l.map p) = true ∧ ∀ a ∈ l, (p a).depth ≤ 64)
    (hle : ∀ a b, sortD.leD (g a) (g b) = le a b) : op1 .sort (.lst (l.map g)) = some (.lst ((l.mergeSort le).map g), true) := by
  obtain ⟨p, h1, h2, h3, h4⟩ := hg
  have hp : ∀ m : List α, D.pys (m.map g) = some (m.map p) := by
    intro m
    induction m with
    | nil => rfl
    | cons a m ih => rw [List.map_cons, D.pys, h1, ih]; rfl
  have c1 : (l.map p).all (fun x => (l.map p).all fun y => sortD.alikeB x y) = true := by
    simp only [List.all_eq_true, List.mem_map]
    rintro x ⟨a, ha, rfl⟩ y ⟨b, hb, rfl⟩
    exact h2 a ha b hb
  have c3 : (l.map p).all (fun x => decide (x.depth ≤ 64)) = true := by
    simp only [List.all_eq_true, List.mem_map]
    rintro x ⟨a, ha, rfl⟩
    exact decide_eq_true (h4 a ha)
  have e : sortD (l.map g) = some ((l.map g).mergeSort fun a b => sortD.leD a b) := by
    unfold sortD
    rw [hp]
    simp only [c1, h3, c3, Bool.and_self, if_true]
  show (if (l.map g).length ≤ most then (sortD (l.map g)).map fun ys => (D.lst ys, true) else none) = _
  rw [e, List.length_map, if_pos (by simp only [most]; exact hl)]
  rw [List.map_mergeSort (r := le) (s := fun a b => sortD.leD a b) (fun a _ b _ => (hle a b).symm)]
  rfl
theorem sort_T {l : List (List Nat)} (hl : l.length ≤ 100000) : op1 .sort (.lst (l.map Tx)) = some (.lst ((l.mergeSort leT).map Tx), true) := by
  refine sort_of hl ⟨fun a => .str (Sg a), fun a => rfl, fun a _ b _ => by rw [PySem.W.alike], ?_, fun a _ => Nat.zero_le _⟩ leD_T
  unfold sortD.sortableB
  rw [Bool.or_eq_true]
  refine .inr ?_
  simp only [List.all_eq_true, List.mem_map]
  rintro p ⟨a, _, rfl⟩
  rfl
theorem sort_I {l : List Int} (hl : l.length ≤ 100000) : op1 .sort (.lst (l.map D.int)) = some (.lst ((l.mergeSort leI).map D.int), true) := by
  refine sort_of hl ⟨fun a => .int a, fun a => rfl, fun a _ b _ => by rw [PySem.W.alike], ?_, fun a _ => Nat.zero_le _⟩ leD_I
  unfold sortD.sortableB
  rw [Bool.or_eq_true]
  refine .inr ?_
  simp only [List.all_eq_true, List.mem_map]
  rintro p ⟨a, _, rfl⟩
  rfl
/-! ### written out, and alike -/
mutual
/-- texts, truths, None, numbers of a few digits, in lists and tuples -/
def D.smal : D → Bool
  | .non => true
  | .bl _ => true
  | .int i => decide (i.natAbs < 10000000)
  | .str x => PyData.strOk x
  | .lst xs => D.smals xs
  | .tup xs => D.smals xs
  | _ => false
def D.smals : List D → Bool
  | [] => true
  | x :: xs => D.smal x && D.smals xs
end
mutual
theorem smal_ok : ∀ d : D, d.smal = true → d.mild = true ∧ ∃ p, d.py = some p ∧ p.leavesShort 8 = true
  | .non, h => ⟨rfl, _, rfl, rfl⟩
  | .bl b, h => ⟨rfl, _, rfl, rfl⟩
  | .int i, h => by
    have h : i.natAbs < 10000000 := of_decide_eq_true h
    refine ⟨decide_eq_true ?_, .int i, rfl, decide_eq_true (int_tiny h)⟩
    by_cases h0 : i.natAbs = 0
    · rw [h0]; decide
    · exact (Nat.log2_lt h0).mpr (Nat.lt_of_lt_of_le h (by decide))
  | .str x, h => ⟨h, .str x, rfl, strOk_short h⟩
  | .lst xs, h => by
    obtain ⟨h1, ps, h2, h3⟩ := smals_ok xs h
    exact ⟨h1, .list ps, by rw [D.py, h2]; rfl, by rw [PyData.leavesShort]; exact h3⟩
  | .tup xs, h => by
    obtain ⟨h1, ps, h2, h3⟩ := smals_ok xs h
    exact ⟨h1, .tuple ps, by rw [D.py, h2]; rfl, by rw [PyData.leavesShort]; exact h3⟩
  | .rl _, h => by simp [D.smal] at h
  | .dk _ _, h => by simp [D.smal] at h
  | .ins _ _ _, h => by simp [D.smal] at h
  | .kd _ _, h => by simp [D.smal] at h
theorem smals_ok : ∀ xs : List D, D.smals xs = true → D.milds xs = true ∧ ∃ ps, D.pys xs = some ps ∧ PyData.leavesShortAll 8 ps = true
  | [], _ => ⟨rfl, [], rfl, rfl⟩
  | x :: xs, h => by
    rw [D.smals, Bool.and_eq_true] at h
    obtain ⟨a1, p, a2, a3⟩ := smal_ok x h.1
    obtain ⟨h1, ps, h2, h3⟩ := smals_ok xs h.2
    exact ⟨by rw [D.milds, a1, h1]; rfl, p :: ps, by rw [D.pys, a2, Option.bind_some, h2]; rfl, by rw [PyData.leavesShortAll, a3, h3]; rfl⟩
end
/-- it is equal to itself, and written out -/
structure D.sound (d : D) : Prop where
  eq : op2 .eq d d = some (.bl true, false)
  ne : op2 .ne d d = some (.bl false, false)
  re : ∃ x, op1 .repr d = some (.str x, false)
  ins : isIns d = none
theorem sound_of {d : D} {B : Nat} (hB : 8 ≤ B) (m : d.mild = true) (s : d.deep ≤ 60) (l : ∃ p, d.py = some p ∧ p.leavesShort B = true) (b : (B + 2) * d.bulk + B ≤ 100000) : d.sound := by
  have f : d.fine := ⟨m, s⟩
  refine ⟨eq_fine f, ne_fine f, ?_, fine_ins f⟩
  obtain ⟨q, q1, q2⟩ := l
  obtain ⟨p, h1, h2, h3, h4, h5, h6⟩ := mild_ok d m
  have e : q = p := Option.some.inj (q1.symm.trans h1)
  rw [e] at q2
  have hb := PyData.shown_le_bulk B hB p q2
  rw [h5] at hb
  exact ⟨p.shown, repr_of_py h1 (by
    unfold okRepr
    rw [h3, PyData.hasDict_of_canLay p h2, decide_eq_true (show p.depth ≤ 64 by rw [h6]; omega), decide_eq_true (show p.shown.length ≤ most from Nat.le_trans hb b)]
    rfl)⟩
theorem sound_smal {d : D} (t : d.smal = true) (b : d.bulk ≤ 9999) (s : d.deep ≤ 60) : d.sound := by
  obtain ⟨m, l⟩ := smal_ok d t
  exact sound_of (Nat.le_refl _) m s l (by omega)
theorem sound_mild {d : D} (t : d.mild = true) (b : d.bulk ≤ 700) (s : d.deep ≤ 60) : d.sound := by
  obtain ⟨p, h1, h2, h3, h4, h5, h6⟩ := mild_ok d t
  exact sound_of (B := 140) (by decide) t s ⟨p, h1, h4⟩ (by omega)
theorem sound_T {l : List Nat} (h : okT l) (hl : l.length ≤ 9999) : (Tx l).sound := sound_smal (show PyData.strOk (Sg l) = true from strOk_T h) (by rw [bulk_T]; exact hl) (Nat.zero_le _)
theorem sound_bl {b : Bool} : (D.bl b).sound := sound_smal rfl (Nat.zero_le _) (Nat.zero_le _)
theorem smals_T : ∀ {ls : List (List Nat)}, (∀ l ∈ ls, okT l) → D.smals (ls.map Tx) = true
  | [], _ => rfl
  | l :: ls, h => by
    rw [List.map_cons, D.smals, smals_T fun z hz => h z (List.mem_cons_of_mem _ hz)]
    have : (Tx l).smal = true := strOk_T (h l (List.mem_cons_self ..))
    rw [this]; rfl
theorem bulks_T : ∀ ls : List (List Nat), D.bulks (ls.map Tx) = (ls.map fun l => l.length + 1).sum
  | [] => rfl
  | l :: ls => by rw [List.map_cons, D.bulks, bulks_T ls, bulk_T, List.map_cons, List.sum_cons]
theorem sound_Ts {ls : List (List Nat)} (h : ∀ l ∈ ls, okT l) (hl : (ls.map fun l => l.length + 1).sum ≤ 9999) : (D.lst (ls.map Tx)).sound := by
  refine sound_smal (by rw [D.smal]; exact smals_T h) (by rw [D.bulk, bulks_T]; exact hl) ?_
  rw [D.deep, (milds_T h).2]
  omega
theorem call_same {P : Pr} {n f : Nat} {a b : Sl} {d : D} (e : P.defs[f]? = some alikeDef) (ha : a = .sh false d ∨ a = .ow true d) (hb : b = .sh false d ∨ b = .ow true d) (g : d.sound) : callAt P (n + 1) f [a, b] = some (.bl true, false, [a, b]) := by
  obtain ⟨x, hx⟩ := g.re
  have h1 := g.eq
  have fa : a.fit = true := by rcases ha with rfl | rfl <;> rfl
  have fb : b.fit = true := by rcases hb with rfl | rfl <;> rfl
  rw [call_eq e rfl (by decide) (by rw [List.all_cons, List.all_cons, fa, fb]; rfl)]
  rcases ha with rfl | rfl <;> rcases hb with rfl | rfl <;> simp [alikeDef, h1, hx, g.ins]
end BK

set_option Elab.async false
set_option linter.all false
set_option maxRecDepth 100000
set_option maxHeartbeats 4000000
/-! BKz: what many laws share of the program and of their own defs: directions, ways, values of any sort, kinds. -/
namespace BK
open PySem
/-- how two bows may lie -/
inductive R where
  | bef | aft | mee | met | cro | crd | sta | std | fin | fnd | ins | hol | sam
  deriving DecidableEq
def R.name : R → Str
  | .bef => "before" | .aft => "after" | .mee => "meets" | .met => "met" | .cro => "crosses" | .crd => "crossed" | .sta => "starts" | .std => "started" | .fin => "finishes" | .fnd => "finished" | .ins => "inside" | .hol => "holds" | .sam => "same"
def R.rev : R → R
  | .bef => .aft | .aft => .bef | .mee => .met | .met => .mee | .cro => .crd | .crd => .cro | .sta => .std | .std => .sta | .fin => .fnd | .fnd => .fin | .ins => .hol | .hol => .ins | .sam => .sam
/-- the ways, ascending -/
inductive Wy where
  | apa | beg | cha | cro | end_ | sam | wit
  deriving DecidableEq
def Wy.name : Wy → Str
  | .apa => "apart" | .beg => "begun" | .cha => "chained" | .cro => "crossing" | .end_ => "ended" | .sam => "same" | .wit => "within"
def R.way : R → Wy
  | .bef => .apa | .aft => .apa | .mee => .cha | .met => .cha | .cro => .cro | .crd => .cro | .sta => .beg | .std => .beg | .fin => .end_ | .fnd => .end_ | .ins => .wit | .hol => .wit | .sam => .sam
abbrev nm (r : R) : D := .str r.name
abbrev nw (w : Wy) : D := .str w.name
def allR : List R := [.aft, .bef, .crd, .cro, .fnd, .fin, .hol, .ins, .mee, .met, .sam, .std, .sta]
def allW : List Wy := [.apa, .beg, .cha, .cro, .end_, .sam, .wit]
theorem mem_allR (r : R) : r ∈ allR := by cases r <;> decide
theorem mem_allW (w : Wy) : w ∈ allW := by cases w <;> decide
/-- by their names -/
def R.rank : R → Nat
  | .aft => 0 | .bef => 1 | .crd => 2 | .cro => 3 | .fnd => 4 | .fin => 5 | .hol => 6 | .ins => 7 | .mee => 8 | .met => 9 | .sam => 10 | .std => 11 | .sta => 12
def Wy.rank : Wy → Nat
  | .apa => 0 | .beg => 1 | .cha => 2 | .cro => 3 | .end_ => 4 | .sam => 5 | .wit => 6
theorem R.rank_inj {a b : R} (h : a.rank = b.rank) : a = b := by cases a <;> cases b <;> first | rfl | cases h
theorem Wy.rank_inj {a b : Wy} (h : a.rank = b.rank) : a = b := by cases a <;> cases b <;> first | rfl | cases h
theorem R.rev_rev (r : R) : r.rev.rev = r := by cases r <;> rfl
theorem R.rev_way (r : R) : r.rev.way = r.way := by cases r <;> rfl
def dirs : Wy → List R
  | .apa => [.aft, .bef] | .beg => [.std, .sta] | .cha => [.mee, .met] | .cro => [.crd, .cro] | .end_ => [.fnd, .fin] | .sam => [.sam] | .wit => [.hol, .ins]
theorem dirs_way {w : Wy} {r : R} : r ∈ dirs w ↔ r.way = w := by cases w <;> cases r <;> decide
/-! the directions of bows -/
def R.H : R → Int → Int → Int → Int → Prop
  | .bef, a, b, c, d => b < c
  | .aft, a, b, c, d => d < a
  | .mee, a, b, c, d => b = c
  | .met, a, b, c, d => d = a
  | .cro, a, b, c, d => a < c ∧ c < b ∧ b < d
  | .crd, a, b, c, d => c < a ∧ a < d ∧ d < b
  | .sta, a, b, c, d => a = c ∧ b < d
  | .std, a, b, c, d => a = c ∧ d < b
  | .fin, a, b, c, d => b = d ∧ c < a
  | .fnd, a, b, c, d => b = d ∧ a < c
  | .ins, a, b, c, d => c < a ∧ b < d
  | .hol, a, b, c, d => a < c ∧ d < b
  | .sam, a, b, c, d => a = c ∧ b = d
/-- the direction itself -/
def dirI (a b c d : Int) : R :=
  if b < c then .bef else if d < a then .aft else if b = c then .mee else if d = a then .met
  else if a = c then (if b = d then .sam else if b < d then .sta else .std)
  else if b = d then (if a < c then .fnd else .fin)
  else if a < c then (if b < d then .cro else .hol)
  else if b < d then .ins else .crd
theorem dirI_H {a b c d : Int} (h1 : a < b) (h2 : c < d) : (dirI a b c d).H a b c d := by
  unfold dirI
  repeat' split
  all_goals (simp only [R.H]; omega)
theorem H_dirI {r : R} {a b c d : Int} (h1 : a < b) (h2 : c < d) (h : r.H a b c d) : dirI a b c d = r := by
  unfold dirI
  cases r <;> simp only [R.H] at h <;> (repeat' split) <;> first | rfl | (exfalso; omega)
theorem rev_H {r : R} {a b c d : Int} (h : r.H a b c d) : r.rev.H c d a b := by
  cases r <;> simp only [R.H, R.rev] at h ⊢ <;> omega
theorem dirI_rev {a b c d : Int} (h1 : a < b) (h2 : c < d) : dirI c d a b = (dirI a b c d).rev := H_dirI h2 h1 (rev_H (dirI_H h1 h2))
theorem dirI_sam {a b c d : Int} (h1 : a < b) (h2 : c < d) : dirI a b c d = .sam ↔ a = c ∧ b = d := by
  constructor
  · intro h
    have := dirI_H h1 h2
    rw [h] at this
    exact this
  · intro h
    exact H_dirI h1 h2 h
/-- is_integer: thing -/
def t_is_integer : Def := { name := "is_integer", np := 1, nn := 1, body :=
    (.cons (.ret (.and (.cons (.isi [.int] (.var 0)) (.cons (.not (.isi [.bool] (.var 0))) .nil))))
    .nil) }
/-- is_place: thing -/
def t_is_place (f_is_integer : Nat) (g_FARTHEST : Nat) : Def := { name := "is_place", np := 1, nn := 1, body :=
    (.cons (.ret (.and (.cons (.call f_is_integer (.cons (.var 0) .nil)) (.cons (.chn .le .le (.ap1 .neg (.glb g_FARTHEST)) (.var 0) (.glb g_FARTHEST)) .nil))))
    .nil) }
/-- is_bow: thing begin end -/
def t_is_bow (f_is_place : Nat) : Def := { name := "is_bow", np := 1, nn := 3, body :=
    (.cons (.iff (.any (.cons (.not (.val (.isi [.tuple] (.var 0)))) (.cons (.cmp .ne (.ap1 .len (.var 0)) (.cst (.int 2))) .nil)))
    (.cons (.ret (.cst (.bl false)))
    .nil)
    .nil)
    (.cons (.asg (.tp [(.nm 1), (.nm 2)]) (.var 0))
    (.cons (.ret (.and (.cons (.call f_is_place (.cons (.var 1) .nil)) (.cons (.call f_is_place (.cons (.var 2) .nil)) (.cons (.ap2 .lt (.var 1) (.var 2)) .nil)))))
    .nil))) }
/-- are_bows: thing part -/
def t_are_bows (f_is_bow : Nat) : Def := { name := "are_bows", np := 1, nn := 2, body :=
    (.cons (.ret (.and (.cons (.isi [.list, .tuple] (.var 0)) (.cons (.ap1 .all (.lcw (.call f_is_bow (.cons (.var 1) .nil)) (.one (.nm 1)) 0 .nil)) .nil))))
    .nil) }
/-- is_way: thing -/
def t_is_way (g_WAYS : Nat) : Def := { name := "is_way", np := 1, nn := 1, body :=
    (.cons (.ret (.and (.cons (.isi [.str] (.var 0)) (.cons (.ap2 .isin (.var 0) (.glb g_WAYS)) .nil))))
    .nil) }
/-- are_ways: thing part -/
def t_are_ways (f_is_way : Nat) : Def := { name := "are_ways", np := 1, nn := 2, body :=
    (.cons (.ret (.and (.cons (.isi [.list, .tuple] (.var 0)) (.cons (.ap1 .all (.lcw (.call f_is_way (.cons (.var 1) .nil)) (.one (.nm 1)) 0 .nil)) .nil))))
    .nil) }
/-- direction_of: one other begin end its_begin its_end -/
def t_direction_of (f_direction_from_one_begin : Nat) : Def := { name := "direction_of", np := 2, nn := 6, body :=
    (.cons (.asg (.tp [(.nm 2), (.nm 3)]) (.var 0))
    (.cons (.asg (.tp [(.nm 4), (.nm 5)]) (.var 1))
    (.cons (.iff (.cmp .le (.var 3) (.var 4))
    (.cons (.ret (.ite (.cmp .eq (.var 3) (.var 4)) (.cst (.str "meets")) (.cst (.str "before"))))
    .nil)
    .nil)
    (.cons (.iff (.cmp .le (.var 5) (.var 2))
    (.cons (.ret (.ite (.cmp .eq (.var 5) (.var 2)) (.cst (.str "met")) (.cst (.str "after"))))
    .nil)
    .nil)
    (.cons (.iff (.cmp .eq (.var 2) (.var 4))
    (.cons (.ret (.call f_direction_from_one_begin (.cons (.var 3) (.cons (.var 5) .nil))))
    .nil)
    .nil)
    (.cons (.iff (.cmp .eq (.var 3) (.var 5))
    (.cons (.ret (.ite (.cmp .lt (.var 2) (.var 4)) (.cst (.str "finished")) (.cst (.str "finishes"))))
    .nil)
    .nil)
    (.cons (.iff (.cmp .lt (.var 2) (.var 4))
    (.cons (.ret (.ite (.cmp .lt (.var 3) (.var 5)) (.cst (.str "crosses")) (.cst (.str "holds"))))
    .nil)
    .nil)
    (.cons (.ret (.ite (.cmp .lt (.var 3) (.var 5)) (.cst (.str "inside")) (.cst (.str "crossed"))))
    .nil)))))))) }
/-- _direction_from_one_begin: end its_end -/
def t_direction_from_one_begin : Def := { name := "_direction_from_one_begin", np := 2, nn := 2, body :=
    (.cons (.iff (.cmp .eq (.var 0) (.var 1))
    (.cons (.ret (.cst (.str "same")))
    .nil)
    .nil)
    (.cons (.ret (.ite (.cmp .lt (.var 0) (.var 1)) (.cst (.str "starts")) (.cst (.str "started"))))
    .nil)) }
/-- way_of: one other -/
def t_way_of (f_direction_of : Nat) (g_WAYS_BY_DIRECTION : Nat) : Def := { name := "way_of", np := 2, nn := 2, body :=
    (.cons (.ret (.ap2 .idx (.glb g_WAYS_BY_DIRECTION) (.call f_direction_of (.cons (.var 0) (.cons (.var 1) .nil)))))
    .nil) }
/-- Kind.__init__: self ways way -/
def t_Kind_init (f_are_ways : Nat) (g_WAYS : Nat) : Def := { name := "__init__", np := 2, nn := 3, body :=
    (.cons (.iff (.not (.val (.call f_are_ways (.cons (.var 1) .nil))))
    (.cons .never
    .nil)
    .nil)
    (.cons (.setf 0 "_ways" (.ap1 .tup (.lc (.var 2) (.one (.nm 2)) (.seq (.glb g_WAYS)) (.cons (.cmp .isin (.var 2) (.var 1)) .nil))))
    .nil)) }
/-- Kind.lets: self one other -/
def t_Kind_lets (f_way_of : Nat) : Def := { name := "lets", np := 3, nn := 3, body :=
    (.cons (.ret (.ap2 .isin (.call f_way_of (.cons (.var 1) (.cons (.var 2) .nil))) (.att "_ways" (.var 0))))
    .nil) }
/-- _law_all_ways:  -/
def t_law_all_ways : Def := { name := "_law_all_ways", np := 0, nn := 0, body :=
    (.cons (.ret (.lst (.cons (.cst (.str "apart")) (.cons (.cst (.str "begun")) (.cons (.cst (.str "chained")) (.cons (.cst (.str "crossing")) (.cons (.cst (.str "ended")) (.cons (.cst (.str "same")) (.cons (.cst (.str "within")) .nil)))))))))
    .nil) }
/-- _law_direction: _law_one_here _law_other -/
def t_law_direction : Def := { name := "_law_direction", np := 2, nn := 2, body :=
    (.cons (.iff (.cmp .eq (.var 0) (.var 1))
    (.cons (.ret (.cst (.str "same")))
    .nil)
    .nil)
    (.cons (.iff (.cmp .le (.ap2 .idx (.var 0) (.cst (.int 1))) (.ap2 .idx (.var 1) (.cst (.int 0))))
    (.cons (.ret (.ite (.cmp .eq (.ap2 .idx (.var 0) (.cst (.int 1))) (.ap2 .idx (.var 1) (.cst (.int 0)))) (.cst (.str "meets")) (.cst (.str "before"))))
    .nil)
    .nil)
    (.cons (.iff (.cmp .le (.ap2 .idx (.var 1) (.cst (.int 1))) (.ap2 .idx (.var 0) (.cst (.int 0))))
    (.cons (.ret (.ite (.cmp .eq (.ap2 .idx (.var 1) (.cst (.int 1))) (.ap2 .idx (.var 0) (.cst (.int 0)))) (.cst (.str "met")) (.cst (.str "after"))))
    .nil)
    .nil)
    (.cons (.iff (.cmp .eq (.ap2 .idx (.var 0) (.cst (.int 0))) (.ap2 .idx (.var 1) (.cst (.int 0))))
    (.cons (.ret (.ite (.cmp .lt (.ap2 .idx (.var 0) (.cst (.int 1))) (.ap2 .idx (.var 1) (.cst (.int 1)))) (.cst (.str "starts")) (.cst (.str "started"))))
    .nil)
    .nil)
    (.cons (.iff (.cmp .eq (.ap2 .idx (.var 0) (.cst (.int 1))) (.ap2 .idx (.var 1) (.cst (.int 1))))
    (.cons (.ret (.ite (.cmp .gt (.ap2 .idx (.var 0) (.cst (.int 0))) (.ap2 .idx (.var 1) (.cst (.int 0)))) (.cst (.str "finishes")) (.cst (.str "finished"))))
    .nil)
    .nil)
    (.cons (.iff (.cmp .lt (.ap2 .idx (.var 0) (.cst (.int 0))) (.ap2 .idx (.var 1) (.cst (.int 0))))
    (.cons (.ret (.ite (.cmp .gt (.ap2 .idx (.var 0) (.cst (.int 1))) (.ap2 .idx (.var 1) (.cst (.int 1)))) (.cst (.str "holds")) (.cst (.str "crosses"))))
    .nil)
    .nil)
    (.cons (.ret (.ite (.cmp .gt (.ap2 .idx (.var 0) (.cst (.int 1))) (.ap2 .idx (.var 1) (.cst (.int 1)))) (.cst (.str "crossed")) (.cst (.str "inside"))))
    .nil))))))) }
/-- _law_pairs_of_words: _law_found -/
def t_law_pairs_of_words : Def := { name := "_law_pairs_of_words", np := 0, nn := 1, body :=
    (.cons (.asg (.one (.nm 0)) (.dsp ["apart", "begun", "chained"] (.cons (.lst (.cons (.cst (.str "after")) (.cons (.cst (.str "before")) .nil))) (.cons (.lst (.cons (.cst (.str "started")) (.cons (.cst (.str "starts")) .nil))) (.cons (.lst (.cons (.cst (.str "meets")) (.cons (.cst (.str "met")) .nil))) .nil)))))
    (.cons (.par [(.ix 0 (.str "crossing")), (.ix 0 (.str "ended"))] (.cons (.lst (.cons (.cst (.str "crossed")) (.cons (.cst (.str "crosses")) .nil))) (.cons (.lst (.cons (.cst (.str "finished")) (.cons (.cst (.str "finishes")) .nil))) .nil)))
    (.cons (.set 0 (.cst (.str "within")) (.lst (.cons (.cst (.str "holds")) (.cons (.cst (.str "inside")) .nil))))
    (.cons (.ret (.var 0))
    .nil)))) }
/-- _law_way: _law_one_here _law_other _law_told _law_words _law_name -/
def t_law_way (f_law_direction : Nat) (f_law_pairs_of_words : Nat) : Def := { name := "_law_way", np := 2, nn := 5, body :=
    (.cons (.asg (.one (.nm 2)) (.call f_law_direction (.cons (.var 0) (.cons (.var 1) .nil))))
    (.cons (.asg (.one (.nm 3)) (.call f_law_pairs_of_words .nil))
    (.cons (.ret (.ap2 .idx (.ap2 .add (.lc (.var 4) (.one (.nm 4)) (.seq (.var 3)) (.cons (.cmp .isin (.var 2) (.ap2 .idx (.var 3) (.var 4))) .nil)) (.lst (.cons (.cst (.str "same")) .nil))) (.cst (.int 0))))
    .nil))) }
/-- _law_ways_drawn: _law_bag_here _law_name -/
def t_law_ways_drawn (f_law_all_ways : Nat) (f_law_take : Nat) : Def := { name := "_law_ways_drawn", np := 1, nn := 2, body :=
    (.cons (.ret (.lc (.var 1) (.one (.nm 1)) (.seq (.call f_law_all_ways .nil)) (.cons (.cmp .eq (.call f_law_take (.cons (.var 0) (.cons (.cst (.int 2)) .nil))) (.cst (.int 0))) .nil)))
    .nil) }
/-- _law_lets: _law_ways _law_bows _law_i _law_j -/
def t_law_lets (f_law_way : Nat) : Def := { name := "_law_lets", np := 4, nn := 4, body :=
    (.cons (.ret (.ap2 .isin (.call f_law_way (.cons (.ap2 .idx (.var 1) (.var 2)) (.cons (.ap2 .idx (.var 1) (.var 3)) .nil))) (.var 0)))
    .nil) }
/-- _law_is_whole_number: _law_thing -/
def t_law_is_whole_number : Def := { name := "_law_is_whole_number", np := 1, nn := 1, body :=
    (.cons (.ret (.and (.cons (.isi [.int] (.var 0)) (.cons (.not (.isi [.bool] (.var 0))) .nil))))
    .nil) }

/-! ### values of any sort -/
@[simp] theorem isi_lst {xs : List D} {t : Ty} : D.isi (.lst xs) t = decide (t = .list) := by cases t <;> rfl
@[simp] theorem isi_tup {xs : List D} {t : Ty} : D.isi (.tup xs) t = decide (t = .tuple) := by cases t <;> rfl
@[simp] theorem isi_int {i : Int} {t : Ty} : D.isi (.int i) t = decide (t = .int) := by cases t <;> rfl
@[simp] theorem isi_non {t : Ty} : D.isi .non t = false := by cases t <;> rfl
@[simp] theorem isi_str {x : Str} {t : Ty} : D.isi (.str x) t = decide (t = .str) := by cases t <;> rfl
@[simp] theorem isi_dk {ks : List L2.Key} {vs : List D} {t : Ty} : D.isi (.dk ks vs) t = decide (t = .dict) := by cases t <;> rfl
@[simp] theorem isi_blI {b : Bool} : D.isi (.bl b) .int = true := rfl
@[simp] theorem isi_blB {b : Bool} : D.isi (.bl b) .bool = true := rfl
@[simp] theorem isi_blS {b : Bool} : D.isi (.bl b) .str = false := rfl
@[simp] theorem isi_blL {b : Bool} : D.isi (.bl b) .list = false := rfl
@[simp] theorem isi_blT {b : Bool} : D.isi (.bl b) .tuple = false := rfl
@[simp] theorem okI_str {P : Pr} {x : Str} : okI P (.str x) = true := rfl
/-- what a law may hand about: nothing of own classes on top -/
def D.dat : D → Bool
  | .non => true
  | .bl _ => true
  | .int _ => true
  | .str _ => true
  | .lst _ => true
  | .tup _ => true
  | .dk _ _ => true
  | _ => false
theorem dat_okI {P : Pr} {d : D} (h : d.dat = true) : okI P d = true := by cases d <;> first | rfl | cases h
def intQ : D → Bool
  | .int _ => true
  | _ => false
def far : Int := 10 ^ 30
def placeQ : D → Bool
  | .int i => decide (-far ≤ i) && decide (i ≤ far)
  | _ => false
def bowQ : D → Bool
  | .tup [.int a, .int b] => decide (-far ≤ a) && decide (b ≤ far) && decide (a < b)
  | _ => false
section
variable {P : Pr} {n f f1 f2 f3 f4 f5 : Nat}
theorem c_integer {d : D} (e : P.defs[f]? = some t_is_integer) (h : d.dat = true) : callAt P (n + 1) f [.sh false d] = some (.bl (intQ d), false, [.sh false d]) := by
  rw [call_eq e rfl (Nat.le_of_ble_eq_true rfl) rfl]
  cases d <;> first
    | (cases h; done)
    | simp [t_is_integer, List.replicate, intQ]
theorem c_whole {d : D} (e : P.defs[f]? = some t_law_is_whole_number) (h : d.dat = true) : callAt P (n + 1) f [.sh false d] = some (.bl (intQ d), false, [.sh false d]) := by
  rw [call_eq e rfl (Nat.le_of_ble_eq_true rfl) rfl]
  cases d <;> first
    | (cases h; done)
    | simp [t_law_is_whole_number, List.replicate, intQ]
theorem c_place {d : D} {g : Nat} {nm : Str} (e : P.defs[f]? = some (t_is_place f1 g)) (e1 : P.defs[f1]? = some t_is_integer) (hg : P.gls[g]? = some (nm, .int (10 ^ 30))) (h : d.dat = true) : callAt P (n + 2) f [.sh false d] = some (.bl (placeQ d), false, [.sh false d]) := by
  have q := c_integer (n := n) e1 h
  rw [call_eq e rfl (Nat.le_of_ble_eq_true rfl) rfl]
  cases d <;> first
    | (cases h; done)
    | (simp [t_is_place, List.replicate, placeQ, intQ] at q ⊢; simp [q]; done)
    | skip
  rename_i i
  simp only [intQ] at q
  by_cases h1 : -far ≤ i
  · have h1' : -1000000000000000000000000000000 ≤ i := h1
    by_cases h2 : i ≤ far
    · have h2' : i ≤ 1000000000000000000000000000000 := h2
      simp [t_is_place, List.replicate, placeQ, q, hg, h1, h2, h1', h2']
    · have h2' : ¬ i ≤ 1000000000000000000000000000000 := h2
      simp [t_is_place, List.replicate, placeQ, q, hg, h1, h2, h1', h2']
  · have h1' : ¬ -1000000000000000000000000000000 ≤ i := h1
    simp [t_is_place, List.replicate, placeQ, q, hg, h1, h1']
theorem bow_place {x y : D} : bowQ (.tup [x, y]) = (placeQ x && placeQ y && match x, y with | .int a, .int b => decide (a < b) | _, _ => false) := by
  cases x <;> cases y <;> simp [bowQ, placeQ]
  rename_i a b
  by_cases h1 : -far ≤ a <;> by_cases h2 : b ≤ far <;> by_cases h3 : a < b <;> simp [h1, h2, h3]
  exact ⟨by omega, by omega⟩
theorem c_bow {d : D} {g : Nat} {nm : Str} (e : P.defs[f]? = some (t_is_bow f1)) (e1 : P.defs[f1]? = some (t_is_place f2 g)) (e2 : P.defs[f2]? = some t_is_integer) (hg : P.gls[g]? = some (nm, .int (10 ^ 30))) (h : d.dat = true) (h2 : ∀ xs, d = .tup xs → ∀ x ∈ xs, x.dat = true) : callAt P (n + 3) f [.sh false d] = some (.bl (bowQ d), false, [.sh false d]) := by
  rw [call_eq e rfl (Nat.le_of_ble_eq_true rfl) rfl]
  by_cases ht : ∃ xs, d = .tup xs
  · obtain ⟨xs, rfl⟩ := ht
    have hx := h2 xs rfl
    match xs, hx with
    | [], _ => simp [t_is_bow, List.replicate, bowQ]
    | [x], _ => simp [t_is_bow, List.replicate, bowQ]
    | [x, y], hx =>
      have q1 := c_place (n := n) e1 e2 hg (hx x (by simp))
      have q2 := c_place (n := n) e1 e2 hg (hx y (by simp))
      rw [bow_place]
      cases p1 : placeQ x
      · simp [t_is_bow, List.replicate, q1, p1]
      · cases p2 : placeQ y
        · simp [t_is_bow, List.replicate, q1, q2, p1, p2]
        · obtain ⟨a, rfl⟩ : ∃ a, x = .int a := by cases x <;> first | exact ⟨_, rfl⟩ | cases p1
          obtain ⟨b, rfl⟩ : ∃ a, y = .int a := by cases y <;> first | exact ⟨_, rfl⟩ | cases p2
          simp [t_is_bow, List.replicate, q1, q2, p1, p2]
    | x :: y :: z :: r, _ =>
      have h1 : ¬ ((r.length : Int) + 1 + 1 + 1 = 2) := by omega
      simp [t_is_bow, List.replicate, bowQ, h1]
  · have hi : d.isi .tuple = false := by
      cases d <;> first
        | rfl
        | exact absurd ⟨_, rfl⟩ ht
    have hb : bowQ d = false := by
      cases d <;> first
        | rfl
        | exact absurd ⟨_, rfl⟩ ht
    simp [t_is_bow, List.replicate, hi, hb, dat_okI h]
theorem boolsD_all {α : Type} {q : α → Bool} : ∀ xs : List α, boolsD (xs.map fun x => D.bl (q x)) = some (xs.map q)
  | [] => rfl
  | x :: xs => by rw [List.map_cons, boolsD, boolsD_all xs]; rfl
theorem o1_all {α : Type} {q : α → Bool} {xs : List α} : op1 .all (.lst (xs.map fun x => D.bl (q x))) = some (.bl (xs.all q), false) := by
  show (boolsD _).map _ = _
  rw [boolsD_all]
  show some (D.bl ((xs.map q).all id), false) = _
  rw [List.all_map]
  rfl
/-- every part is data, down to where a bow's places stand -/
def dat2 (d : D) : Prop := d.dat = true ∧ ∀ xs, d = .tup xs → ∀ x ∈ xs, x.dat = true
theorem c_bows_l {s : Sl} {xs : List D} {g : Nat} {nm : Str} (e : P.defs[f]? = some (t_are_bows f3)) (e3 : P.defs[f3]? = some (t_is_bow f1)) (e1 : P.defs[f1]? = some (t_is_place f2 g)) (e2 : P.defs[f2]? = some t_is_integer) (hg : P.gls[g]? = some (nm, .int (10 ^ 30))) (hs : s = .sh false (.lst xs) ∨ s = .ow true (.lst xs)) (h : ∀ x ∈ xs, dat2 x) (hl : xs.length ≤ 100000) :
    callAt P (n + 4) f [s] = some (.bl (xs.all bowQ), false, [s]) := by
  have key : ∀ t : Sl, lcLoop (lcBody P (callAt P (n + 3)) (.call f3 (.cons (.var 1) .nil)) (.one (.nm 1)) .nil) [t, .un] xs = some (xs.map fun x => D.bl (bowQ x), [t, .un]) := fun t =>
    lcLoop_map (fun x => D.bl (bowQ x)) xs fun x hx => by
      have := c_bow (n := n) e3 e1 e2 hg (h x hx).1 (h x hx).2
      simp [lcBody, this]
  have oa := o1_all (q := bowQ) (xs := xs)
  rcases hs with rfl | rfl
  · rw [call_eq e rfl (Nat.le_of_ble_eq_true rfl) rfl]
    simp [t_are_bows, List.replicate, key, oa, hl]
  · rw [call_eq e rfl (Nat.le_of_ble_eq_true rfl) rfl]
    simp [t_are_bows, List.replicate, key, oa, hl]
end
/-! ### directions of bows -/
section
variable {P : Pr} {n f f1 f2 f3 f4 f5 : Nat}
theorem c_one_begin {b d : Int} (e : P.defs[f]? = some t_direction_from_one_begin) : callAt P (n + 1) f [.sh false (.int b), .sh false (.int d)] = some (nm (if b = d then .sam else if b < d then .sta else .std), false, [.sh false (.int b), .sh false (.int d)]) := by
  rw [call_eq e rfl (Nat.le_of_ble_eq_true rfl) rfl]
  by_cases h1 : b = d
  · simp [t_direction_from_one_begin, List.replicate, h1, R.name]
  · by_cases h2 : b < d <;> simp [t_direction_from_one_begin, List.replicate, h1, h2, R.name]
theorem c_direction {a b c d : Int} (e : P.defs[f]? = some (t_direction_of f1)) (e1 : P.defs[f1]? = some t_direction_from_one_begin) (h1 : a < b) (h2 : c < d) :
    callAt P (n + 2) f [.sh false (Bw a b), .sh false (Bw c d)] = some (nm (dirI a b c d), false, [.sh false (Bw a b), .sh false (Bw c d)]) := by
  have q := c_one_begin (n := n) (b := b) (d := d) e1
  rw [call_eq e rfl (Nat.le_of_ble_eq_true rfl) rfl]
  by_cases c1 : b ≤ c
  · by_cases c2 : b = c
    · subst c2
      have : dirI a b b d = .mee := H_dirI h1 h2 rfl
      simp [t_direction_of, List.replicate, this, R.name]
    · have : dirI a b c d = .bef := H_dirI h1 h2 (show b < c by omega)
      simp [t_direction_of, List.replicate, c1, c2, this, R.name]
  · by_cases c2 : d ≤ a
    · by_cases c3 : d = a
      · subst c3
        have : dirI d b c d = .met := H_dirI h1 h2 rfl
        simp [t_direction_of, List.replicate, c1, this, R.name]
      · have : dirI a b c d = .aft := H_dirI h1 h2 (show d < a by omega)
        simp [t_direction_of, List.replicate, c1, c2, c3, this, R.name]
    · by_cases c3 : a = c
      · subst c3
        have : dirI a b a d = (if b = d then .sam else if b < d then .sta else .std) := by
          by_cases z : b = d
          · rw [if_pos z]; exact H_dirI h1 h2 ⟨rfl, z⟩
          · rw [if_neg z]
            by_cases z2 : b < d
            · rw [if_pos z2]; exact H_dirI h1 h2 ⟨rfl, z2⟩
            · rw [if_neg z2]; exact H_dirI h1 h2 ⟨rfl, by omega⟩
        rw [this]
        simp [t_direction_of, List.replicate, c1, c2, q]
      · by_cases c4 : b = d
        · subst c4
          by_cases c5 : a < c
          · have : dirI a b c b = .fnd := H_dirI h1 h2 ⟨rfl, c5⟩
            simp [t_direction_of, List.replicate, c1, c2, c3, c5, this, R.name]
          · have : dirI a b c b = .fin := H_dirI h1 h2 ⟨rfl, by omega⟩
            simp [t_direction_of, List.replicate, c1, c2, c3, c5, this, R.name]
        · by_cases c5 : a < c
          · by_cases c6 : b < d
            · have : dirI a b c d = .cro := H_dirI h1 h2 ⟨c5, by omega, c6⟩
              simp [t_direction_of, List.replicate, c1, c2, c3, c4, c5, c6, this, R.name]
            · have : dirI a b c d = .hol := H_dirI h1 h2 ⟨c5, by omega⟩
              simp [t_direction_of, List.replicate, c1, c2, c3, c4, c5, c6, this, R.name]
          · by_cases c6 : b < d
            · have : dirI a b c d = .ins := H_dirI h1 h2 ⟨by omega, c6⟩
              simp [t_direction_of, List.replicate, c1, c2, c3, c4, c5, c6, this, R.name]
            · have : dirI a b c d = .crd := H_dirI h1 h2 ⟨by omega, by omega, by omega⟩
              simp [t_direction_of, List.replicate, c1, c2, c3, c4, c5, c6, this, R.name]
end
end BK

set_option Elab.async false
set_option linter.all false
set_option maxRecDepth 100000
set_option maxHeartbeats 4000000
/-! BKz2: ways of bows, by the program and by the laws; kinds. -/
namespace BK
open PySem
theorem eq_Bw {a b c d : Int} : op2 .eq (Bw a b) (Bw c d) = some (.bl (decide (a = c ∧ b = d)), false) := by
  have : eqD (Bw a b) (Bw c d) = some ((a == c) && ((b == d) && true)) := rfl
  have e : op2 .eq (Bw a b) (Bw c d) = (eqD (Bw a b) (Bw c d)).map fun k => (.bl k, false) := rfl
  rw [e, this]
  by_cases h1 : a = c <;> by_cases h2 : b = d <;> simp [h1, h2]
theorem ne_Bw {a b c d : Int} : op2 .ne (Bw a b) (Bw c d) = some (.bl (!decide (a = c ∧ b = d)), false) := by
  have : eqD (Bw a b) (Bw c d) = some ((a == c) && ((b == d) && true)) := rfl
  have e : op2 .ne (Bw a b) (Bw c d) = (eqD (Bw a b) (Bw c d)).map fun k => (.bl (!k), false) := rfl
  rw [e, this]
  by_cases h1 : a = c <;> by_cases h2 : b = d <;> simp [h1, h2]
/-- ways by directions, as the program writes them -/
def wbdD : D := .kd ["after", "before", "crossed", "crosses", "finished", "finishes", "holds", "inside", "meets", "met", "same", "started", "starts"] [.str "apart", .str "apart", .str "crossing", .str "crossing", .str "ended", .str "ended", .str "within", .str "within", .str "chained", .str "chained", .str "same", .str "begun", .str "begun"]
theorem wbd_get (r : R) : op2 .idx wbdD (nm r) = some (nw r.way, false) := by cases r <;> kernel_rfl
def waysT : D := .tup [.str "apart", .str "begun", .str "chained", .str "crossing", .str "ended", .str "same", .str "within"]
theorem waysT_eq : waysT = .tup (allW.map nw) := rfl
def pairsD : D := .dk [.inr "apart", .inr "begun", .inr "chained", .inr "crossing", .inr "ended", .inr "within"] [.lst [.str "after", .str "before"], .lst [.str "started", .str "starts"], .lst [.str "meets", .str "met"], .lst [.str "crossed", .str "crosses"], .lst [.str "finished", .str "finishes"], .lst [.str "holds", .str "inside"]]
section
variable {P : Pr} {n f f1 f2 f3 f4 f5 : Nat} {a b c d : Int}
theorem c_way_of {g : Nat} {gn : Str} (e : P.defs[f]? = some (t_way_of f1 g)) (e1 : P.defs[f1]? = some (t_direction_of f2)) (e2 : P.defs[f2]? = some t_direction_from_one_begin) (hg : P.gls[g]? = some (gn, wbdD)) (h1 : a < b) (h2 : c < d) :
    callAt P (n + 3) f [.sh false (Bw a b), .sh false (Bw c d)] = some (nw (dirI a b c d).way, false, [.sh false (Bw a b), .sh false (Bw c d)]) := by
  have q := c_direction (n := n) e1 e2 h1 h2
  rw [call_eq e rfl (Nat.le_of_ble_eq_true rfl) rfl]
  have hw := wbd_get (dirI a b c d)
  have hi : isIns wbdD = none := rfl
  simp [t_way_of, List.replicate, q, hg, hw, hi]
theorem c_law_direction (e : P.defs[f]? = some t_law_direction) (h1 : a < b) (h2 : c < d) :
    callAt P (n + 1) f [.sh false (Bw a b), .sh false (Bw c d)] = some (nm (dirI a b c d), false, [.sh false (Bw a b), .sh false (Bw c d)]) := by
  rw [call_eq e rfl (Nat.le_of_ble_eq_true rfl) rfl]
  have eb := eq_Bw (a := a) (b := b) (c := c) (d := d)
  by_cases c0 : a = c ∧ b = d
  · have : dirI a b c d = .sam := H_dirI h1 h2 c0
    rw [decide_eq_true c0] at eb
    simp [t_law_direction, List.replicate, eb, this, R.name]
  · rw [decide_eq_false c0] at eb
    by_cases c1 : b ≤ c
    · by_cases c2 : b = c
      · subst c2
        have : dirI a b b d = .mee := H_dirI h1 h2 rfl
        simp [t_law_direction, List.replicate, eb, this, R.name]
      · have : dirI a b c d = .bef := H_dirI h1 h2 (show b < c by omega)
        simp [t_law_direction, List.replicate, eb, c1, c2, this, R.name]
    · by_cases c2 : d ≤ a
      · by_cases c3 : d = a
        · subst c3
          have : dirI d b c d = .met := H_dirI h1 h2 rfl
          simp [t_law_direction, List.replicate, eb, c1, this, R.name]
        · have : dirI a b c d = .aft := H_dirI h1 h2 (show d < a by omega)
          simp [t_law_direction, List.replicate, eb, c1, c2, c3, this, R.name]
      · by_cases c3 : a = c
        · subst c3
          by_cases c4 : b < d
          · have : dirI a b a d = .sta := H_dirI h1 h2 ⟨rfl, c4⟩
            simp [t_law_direction, List.replicate, eb, c1, c2, c4, this, R.name]
          · have : dirI a b a d = .std := H_dirI h1 h2 ⟨rfl, by omega⟩
            simp [t_law_direction, List.replicate, eb, c1, c2, c4, this, R.name]
        · by_cases c4 : b = d
          · subst c4
            by_cases c5 : c < a
            · have : dirI a b c b = .fin := H_dirI h1 h2 ⟨rfl, c5⟩
              simp [t_law_direction, List.replicate, eb, c1, c2, c3, c5, this, R.name]
            · have : dirI a b c b = .fnd := H_dirI h1 h2 ⟨rfl, by omega⟩
              simp [t_law_direction, List.replicate, eb, c1, c2, c3, c5, this, R.name]
          · by_cases c5 : a < c
            · by_cases c6 : d < b
              · have : dirI a b c d = .hol := H_dirI h1 h2 ⟨c5, by omega⟩
                simp [t_law_direction, List.replicate, eb, c1, c2, c3, c4, c5, c6, this, R.name]
              · have : dirI a b c d = .cro := H_dirI h1 h2 ⟨c5, by omega, by omega⟩
                simp [t_law_direction, List.replicate, eb, c1, c2, c3, c4, c5, c6, this, R.name]
            · by_cases c6 : d < b
              · have : dirI a b c d = .crd := H_dirI h1 h2 ⟨by omega, by omega, by omega⟩
                simp [t_law_direction, List.replicate, eb, c1, c2, c3, c4, c5, c6, this, R.name]
              · have : dirI a b c d = .ins := H_dirI h1 h2 ⟨by omega, by omega⟩
                simp [t_law_direction, List.replicate, eb, c1, c2, c3, c4, c5, c6, this, R.name]
theorem c_pairs (e : P.defs[f]? = some t_law_pairs_of_words) : callAt P (n + 1) f [] = some (pairsD, true, []) := by
  rw [call_eq e rfl (Nat.le_of_ble_eq_true rfl) rfl]
  kernel_rfl
theorem way_loop {cf : Call} {s1 s2 : Sl} (r : R) : lcLoop (lcBody P cf (.var 4) (.one (.nm 4)) (.cons (.cmp .isin (.var 2) (.ap2 .idx (.var 3) (.var 4))) .nil)) [s1, s2, .sh false (nm r), .sh false pairsD, .un] [.str "apart", .str "begun", .str "chained", .str "crossing", .str "ended", .str "within"] =
    some (if r = .sam then [] else [nw r.way], [s1, s2, .sh false (nm r), .sh false pairsD, .un]) := by
  cases r <;> kernel_rfl
theorem c_law_way (e : P.defs[f]? = some (t_law_way f1 f2)) (e1 : P.defs[f1]? = some t_law_direction) (e2 : P.defs[f2]? = some t_law_pairs_of_words) (h1 : a < b) (h2 : c < d) :
    callAt P (n + 2) f [.sh false (Bw a b), .sh false (Bw c d)] = some (nw (dirI a b c d).way, false, [.sh false (Bw a b), .sh false (Bw c d)]) := by
  have q1 := c_law_direction (n := n) e1 h1 h2
  have q2 := c_pairs (n := n) e2
  generalize hr : dirI a b c d = r at q1 ⊢
  rw [call_eq e rfl (Nat.le_of_ble_eq_true rfl) rfl]
  have hl := way_loop (P := P) (cf := callAt P (n + 1)) (s1 := .sh false (Bw a b)) (s2 := .sh false (Bw c d)) r
  have hk : ∀ (ρ : Rho) (e : E) (ρ1 : Rho) (fr : Bool), seqI P ρ e (some (pairsD, fr, ρ1)) = if still ρ e fr then some ([D.str "apart", .str "begun", .str "chained", .str "crossing", .str "ended", .str "within"], ρ1) else none := fun _ _ _ _ => rfl
  have hst : still [.sh false (Bw a b), .sh false (Bw c d), .sh false (nm r), .ow false pairsD, .un] (.var 3) false = true := rfl
  simp [t_law_way, List.replicate, q1, q2, hk, hst, hl]
  by_cases hs : r = .sam
  · subst hs
    simp [R.way, Wy.name]
  · simp [hs]
theorem c_all_ways (e : P.defs[f]? = some t_law_all_ways) : callAt P (n + 1) f [] = some (.lst (allW.map nw), true, []) := by
  rw [call_eq e rfl (Nat.le_of_ble_eq_true rfl) rfl]
  kernel_rfl
end
end BK

set_option Elab.async false
set_option linter.all false
set_option maxRecDepth 100000
set_option maxHeartbeats 4000000
/-! BKz3: lists of names; kinds. -/
namespace BK
open PySem
/-! lists of names -/
theorem pys_strs {a : Str} : ∀ ss : List Str, D.pys (ss.map D.str) = some (ss.map PyData.str)
  | [] => rfl
  | s :: ss => by rw [List.map_cons, D.pys, pys_strs (a := a) ss]; rfl
theorem milds_strs : ∀ {ss : List Str}, (∀ s ∈ ss, PyData.strOk s = true) → D.milds (ss.map D.str) = true ∧ D.deeps (ss.map D.str) = 0
  | [], _ => ⟨rfl, rfl⟩
  | s :: ss, h => by
    obtain ⟨h1, h2⟩ := milds_strs fun z hz => h z (List.mem_cons_of_mem _ hz)
    rw [List.map_cons, D.milds, D.deeps, h1, h2]
    exact ⟨by rw [D.mild, h s (List.mem_cons_self ..)]; rfl, rfl⟩
theorem isinS {a : Str} {ss : List Str} (ha : PyData.strOk a = true) (h : ∀ s ∈ ss, PyData.strOk s = true) : op2 .isin (.str a) (.lst (ss.map D.str)) = some (.bl (ss.any fun s => s == a), false) := by
  obtain ⟨m1, m2⟩ := milds_strs h
  obtain ⟨qs, r1, r2, _, _, _, r6⟩ := milds_ok _ m1
  rw [pys_strs (a := a)] at r1
  cases r1
  show (hasD _ _).map _ = _
  have hd : hasD (.str a) (ss.map D.str) = some (ss.any fun s => s == a) := by
    unfold hasD
    have e1 : (D.str a).py = some (.str a) := rfl
    rw [e1, pys_strs (a := a)]
    have s1 : SeqAt.shaped (.str a) = true := by
      unfold SeqAt.shaped
      rw [PyData.canLay0, ha]
      rfl
    have s2 : SeqAt.shaped (.list (ss.map PyData.str)) = true := by
      unfold SeqAt.shaped
      rw [PyData.canLay0, r2, decide_eq_true (by rw [PyData.depth, r6, m2]; omega)]
      rfl
    simp only [s1, s2, Bool.and_self, if_true, List.any_map]
    rfl
  rw [hd]
  rfl
theorem ok_R (r : R) : PyData.strOk r.name = true := by cases r <;> kernel_rfl
theorem ok_W (w : Wy) : PyData.strOk w.name = true := by cases w <;> kernel_rfl
theorem eq_R (a b : R) : (a.name == b.name) = decide (a = b) := by cases a <;> cases b <;> kernel_rfl
theorem eq_W (a b : Wy) : (a.name == b.name) = decide (a = b) := by cases a <;> cases b <;> kernel_rfl
theorem has_R {O : List R} {r : R} : (O.map R.name).any (fun s => s == r.name) = decide (r ∈ O) := by
  rw [List.any_map]
  induction O with
  | nil => rfl
  | cons a O ih =>
    rw [List.any_cons, ih]
    simp only [Function.comp, eq_R, List.mem_cons, Bool.decide_or]
    congr 1
    by_cases h : a = r
    · rw [h]
    · rw [decide_eq_false h, decide_eq_false (fun z => h z.symm)]
theorem has_W {O : List Wy} {r : Wy} : (O.map Wy.name).any (fun s => s == r.name) = decide (r ∈ O) := by
  rw [List.any_map]
  induction O with
  | nil => rfl
  | cons a O ih =>
    rw [List.any_cons, ih]
    simp only [Function.comp, eq_W, List.mem_cons, Bool.decide_or]
    congr 1
    by_cases h : a = r
    · rw [h]
    · rw [decide_eq_false h, decide_eq_false (fun z => h z.symm)]
theorem mapR {O : List R} : O.map nm = (O.map R.name).map D.str := by rw [List.map_map]; rfl
theorem mapW {O : List Wy} : O.map nw = (O.map Wy.name).map D.str := by rw [List.map_map]; rfl
theorem inR {O : List R} {r : R} : op2 .isin (nm r) (.lst (O.map nm)) = some (.bl (decide (r ∈ O)), false) := by
  rw [mapR, isinS (ok_R r) (fun s hs => by obtain ⟨x, _, rfl⟩ := List.mem_map.mp hs; exact ok_R x), has_R]
theorem inW {O : List Wy} {r : Wy} : op2 .isin (nw r) (.lst (O.map nw)) = some (.bl (decide (r ∈ O)), false) := by
  rw [mapW, isinS (ok_W r) (fun s hs => by obtain ⟨x, _, rfl⟩ := List.mem_map.mp hs; exact ok_W x), has_W]
theorem notinW {O : List Wy} {r : Wy} : op2 .notin (nw r) (.lst (O.map nw)) = some (.bl (!decide (r ∈ O)), false) := by
  have h1 := inW (O := O) (r := r)
  simp only [op2] at h1 ⊢
  obtain ⟨b, e1, e2⟩ := Option.map_eq_some_iff.mp h1
  rw [e1]
  cases e2
  rfl
theorem neW {a b : Wy} : op2 .ne (nw a) (nw b) = some (.bl (!decide (a = b)), false) := by
  show some (D.bl (!(a.name == b.name)), false) = _
  rw [eq_W]

theorem isinTup {d : D} {xs : List D} (h : d.flat = true) (h2 : xs.all D.flat = true) : op2 .isin d (.tup xs) = op2 .isin d (.lst xs) := by
  show (if d.flat && xs.all D.flat then _ else none) = _
  rw [h, h2]
  rfl
theorem notinTup {d : D} {xs : List D} (h : d.flat = true) (h2 : xs.all D.flat = true) : op2 .notin d (.tup xs) = op2 .notin d (.lst xs) := by
  show (if d.flat && xs.all D.flat then _ else none) = _
  rw [h, h2]
  rfl
theorem flatW (ws : List Wy) : (ws.map nw).all D.flat = true := by rw [List.all_eq_true]; intro x hx; obtain ⟨l, _, rfl⟩ := List.mem_map.mp hx; rfl
theorem inWt {O : List Wy} {r : Wy} : op2 .isin (nw r) (.tup (O.map nw)) = some (.bl (decide (r ∈ O)), false) := by rw [isinTup rfl (flatW O), inW]
theorem notinWt {O : List Wy} {r : Wy} : op2 .notin (nw r) (.tup (O.map nw)) = some (.bl (!decide (r ∈ O)), false) := by rw [notinTup rfl (flatW O), notinW]
/-! ### ways drawn, kinds -/
theorem sub_filter {α : Type} [DecidableEq α] {l' l : List α} (h : l'.Sublist l) (nd : l.Nodup) : l.filter (fun x => decide (x ∈ l')) = l' := by
  induction h with
  | slnil => rfl
  | @cons a b x h ih =>
    rw [List.nodup_cons] at nd
    rw [List.filter_cons_of_neg (by simpa using fun z => nd.1 (h.subset z)), ih nd.2]
  | @cons_cons a b x h ih =>
    rw [List.nodup_cons] at nd
    rw [List.filter_cons_of_pos (by simp)]
    congr 1
    rw [← ih nd.2]
    refine List.filter_congr fun y hy => ?_
    have : y ≠ x := fun z => nd.1 (by rw [← z]; exact hy)
    rw [ih nd.2]
    simp [this]
theorem nodupW : allW.Nodup := by decide
def wset (p : Wy → Bool) : List Wy := allW.filter p
theorem mem_wset {p : Wy → Bool} {w : Wy} : w ∈ wset p ↔ p w = true := by
  unfold wset
  rw [List.mem_filter]
  exact ⟨fun h => h.2, fun h => ⟨mem_allW w, h⟩⟩
theorem dec_wset {p : Wy → Bool} {w : Wy} : decide (w ∈ wset p) = p w := by
  cases h : p w with
  | true => exact decide_eq_true (mem_wset.mpr h)
  | false => exact decide_eq_false fun z => by rw [mem_wset, h] at z; cases z
theorem wset_len {p : Wy → Bool} : (wset p).length ≤ 7 := Nat.le_trans (List.length_filter_le _ _) (by decide)
/-- a kind -/
def kdW (k : Nat) (p : Wy → Bool) : D := .ins k ["_ways"] [.tup ((wset p).map nw)]
section
variable {P : Pr} {n f f1 f2 f3 f4 f5 : Nat} {a b c d : Int} {s : Bag}
theorem c_ways_drawn (e : P.defs[f]? = some (t_law_ways_drawn f1 f2)) (e1 : P.defs[f1]? = some t_law_all_ways) (et : P.defs[f2]? = some takeDef) (hs : s.ok) :
    ∃ p s', callAt P (n + 2) f [.ow true s.d] = some (.lst ((wset p).map nw), true, [.ow true (Bag.d s')]) ∧ s'.ok := by
  have key : ∀ (ws : List Wy) (s : Bag), s.ok → ∃ ws' s', List.Sublist ws' ws ∧ lcLoop (lcBody P (callAt P (n + 1)) (.var 1) (.one (.nm 1)) (.cons (.cmp .eq (.call f2 (.cons (.var 0) (.cons (.cst (.int 2)) .nil))) (.cst (.int 0))) .nil)) [.ow true s.d, .un] (ws.map nw) = some (ws'.map nw, [.ow true (Bag.d s'), .un]) ∧ s'.ok := by
    intro ws
    induction ws with
    | nil => exact fun s hs => ⟨[], s, .slnil, rfl, hs⟩
    | cons w ws ih =>
      intro s hs
      have t1 := call_take (n := n) (P := P) et hs (m := 2) (by omega) (by omega)
      have ok1 := Bag.nx_ok (m := 2) hs (by omega)
      obtain ⟨ws', s', h1, h2, h3⟩ := ih _ ok1
      by_cases h0 : s.out 2 = 0
      · refine ⟨w :: ws', s', h1.cons_cons w, ?_, h3⟩
        rw [List.map_cons, lcLoop_cons]
        simp [lcBody, t1, h0] at h2 ⊢
        simp [lcBody, t1, h0, h2]
      · refine ⟨ws', s', h1.cons w, ?_, h3⟩
        rw [List.map_cons, lcLoop_cons]
        simp [lcBody, t1, h0] at h2 ⊢
        simp [lcBody, t1, h0, h2]
  obtain ⟨ws', s', h1, h2, h3⟩ := key allW s hs
  refine ⟨fun w => decide (w ∈ ws'), s', ?_, h3⟩
  have q := c_all_ways (n := n) e1
  rw [call_eq e rfl (Nat.le_of_ble_eq_true rfl) rfl]
  unfold wset
  rw [sub_filter h1 nodupW]
  have l7 : (allW.map nw).length ≤ 100000 := by decide
  simp [t_law_ways_drawn, List.replicate, q] at h2 ⊢
  simp [h2, show allW.length ≤ 100000 by decide]
theorem c_is_way {g : Nat} {gn : Str} {w : Wy} (e : P.defs[f]? = some (t_is_way g)) (hg : P.gls[g]? = some (gn, waysT)) : callAt P (n + 1) f [.sh false (nw w)] = some (.bl true, false, [.sh false (nw w)]) := by
  rw [call_eq e rfl (Nat.le_of_ble_eq_true rfl) rfl]
  have h := inWt (O := allW) (r := w)
  rw [decide_eq_true (mem_allW w), ← waysT_eq] at h
  have hi : isIns waysT = none := rfl
  simp [t_is_way, List.replicate, hg, h, hi]
theorem c_are_ways {g : Nat} {gn : Str} {ws : List Wy} {s : Sl} (e : P.defs[f]? = some (t_are_ways f1)) (e1 : P.defs[f1]? = some (t_is_way g)) (hg : P.gls[g]? = some (gn, waysT)) (hs : s = .sh false (.lst (ws.map nw)) ∨ s = .ow true (.lst (ws.map nw))) (hl : ws.length ≤ 100000) :
    callAt P (n + 2) f [s] = some (.bl true, false, [s]) := by
  have key : ∀ t : Sl, lcLoop (lcBody P (callAt P (n + 1)) (.call f1 (.cons (.var 1) .nil)) (.one (.nm 1)) .nil) [t, .un] (ws.map nw) = some (ws.map fun _ => D.bl true, [t, .un]) := fun t =>
    lcLoop_mM (fun _ => D.bl true) fun w hw => by
      have := c_is_way (n := n) (w := w) e1 hg
      simp [lcBody, this]
  have oa := o1_all (q := fun _ => true) (xs := ws)
  have ha : ws.all (fun _ => true) = true := List.all_eq_true.mpr fun _ _ => rfl
  rw [ha] at oa
  rcases hs with rfl | rfl
  · rw [call_eq e rfl (Nat.le_of_ble_eq_true rfl) rfl]
    simp [t_are_ways, List.replicate, hl] at key oa ⊢
    simp [key, oa]
  · rw [call_eq e rfl (Nat.le_of_ble_eq_true rfl) rfl]
    simp [t_are_ways, List.replicate, hl] at key oa ⊢
    simp [key, oa]
def kCls (fi : Nat) (ms : List (Str × Nat)) : Cls := { name := "Kind", init := fi, ms := ms, fs := ["_ways"], itf := some "_ways" }
theorem c_Kind {g k fi : Nat} {gn : Str} {ms : List (Str × Nat)} {ws : List Wy} {s : Sl} (e : P.defs[f]? = some (t_Kind_init f2 g)) (e2 : P.defs[f2]? = some (t_are_ways f1)) (e1 : P.defs[f1]? = some (t_is_way g)) (hg : P.gls[g]? = some (gn, waysT)) (hk : P.cls[k]? = some (kCls fi ms)) (hs : s = .sh false (.lst (ws.map nw)) ∨ s = .ow true (.lst (ws.map nw))) (hl : ws.length ≤ 100000) :
    callAt P (n + 3) f [.ow true (.ins k [] []), s] = some (.non, false, [.ow true (kdW k fun w => decide (w ∈ ws)), s]) := by
  have q := c_are_ways (n := n) e2 e1 hg hs hl
  have key : lcLoop (lcBody P (callAt P (n + 2)) (.var 2) (.one (.nm 2)) (.cons (.cmp .isin (.var 2) (.var 1)) .nil)) [.ow true (.ins k [] []), s, .un] (allW.map nw) = some ((wset fun w => decide (w ∈ ws)).map nw, [.ow true (.ins k [] []), s, .un]) := by
    refine lcLoop_fM (fun w => decide (w ∈ ws)) nw fun w hw => ?_
    have hi := inW (O := ws) (r := w)
    by_cases h : w ∈ ws
    · rw [decide_eq_true h] at hi
      rcases hs with rfl | rfl <;> simp [lcBody, hi, h]
    · rw [decide_eq_false h] at hi
      rcases hs with rfl | rfl <;> simp [lcBody, hi, h]
  have hg' : P.gls[g]? = some (gn, .tup (allW.map nw)) := hg
  have f7 : allW.length ≤ 100000 := by decide
  have o1 : ∀ xs : List D, op1 .tup (.lst xs) = some (.tup xs, false) := fun _ => rfl
  rcases hs with rfl | rfl
  · rw [call_eq e rfl (Nat.le_of_ble_eq_true rfl) rfl]
    simp [t_Kind_init, List.replicate, q, hg', f7, key, hk, kCls, o1, fput, kdW]
  · rw [call_eq e rfl (Nat.le_of_ble_eq_true rfl) rfl]
    simp [t_Kind_init, List.replicate, q, hg', f7, key, hk, kCls, o1, fput, kdW]
theorem c_lets {g k fi : Nat} {gn : Str} {ms : List (Str × Nat)} {p : Wy → Bool} {s : Sl} (e : P.defs[f]? = some (t_Kind_lets f3)) (e3 : P.defs[f3]? = some (t_way_of f1 g)) (e1 : P.defs[f1]? = some (t_direction_of f2)) (e2 : P.defs[f2]? = some t_direction_from_one_begin) (hg : P.gls[g]? = some (gn, wbdD)) (hk : P.cls[k]? = some (kCls fi ms)) (hs : s = .sh false (kdW k p) ∨ s = .ow true (kdW k p)) (h1 : a < b) (h2 : c < d) :
    callAt P (n + 4) f [s, .sh false (Bw a b), .sh false (Bw c d)] = some (.bl (p (dirI a b c d).way), false, [s, .sh false (Bw a b), .sh false (Bw c d)]) := by
  have q := c_way_of (n := n) e3 e1 e2 hg h1 h2
  have hi := inWt (O := wset p) (r := (dirI a b c d).way)
  rw [dec_wset] at hi
  have fg : ∀ x : D, fget ["_ways"] [x] "_ways" = some x := fun _ => rfl
  rcases hs with rfl | rfl
  · rw [call_eq e rfl (Nat.le_of_ble_eq_true rfl) rfl]
    simp [t_Kind_lets, List.replicate, q, hi, hk, kCls, kdW, fg]
  · rw [call_eq e rfl (Nat.le_of_ble_eq_true rfl) rfl]
    simp [t_Kind_lets, List.replicate, q, hi, hk, kCls, kdW, fg]
end
end BK

set_option maxRecDepth 100000
namespace K33
open PySem BK
/-- _wall: k -/
def d0 : Def := { name := "_wall", np := 1, nn := 1, body :=
    (.cons (.whl (.val (.cst (.bl true)))
    (.cons .pss
    .nil))
    .nil) }
/-- is_integer: thing -/
def d1 : Def := { name := "is_integer", np := 1, nn := 1, body :=
    (.cons (.ret (.and (.cons (.isi [.int] (.var 0)) (.cons (.not (.isi [.bool] (.var 0))) .nil))))
    .nil) }
/-- is_place: thing -/
def d2 : Def := { name := "is_place", np := 1, nn := 1, body :=
    (.cons (.ret (.and (.cons (.call 1 (.cons (.var 0) .nil)) (.cons (.chn .le .le (.ap1 .neg (.glb 0)) (.var 0) (.glb 0)) .nil))))
    .nil) }
/-- is_bow: thing begin end -/
def d3 : Def := { name := "is_bow", np := 1, nn := 3, body :=
    (.cons (.iff (.any (.cons (.not (.val (.isi [.tuple] (.var 0)))) (.cons (.cmp .ne (.ap1 .len (.var 0)) (.cst (.int 2))) .nil)))
    (.cons (.ret (.cst (.bl false)))
    .nil)
    .nil)
    (.cons (.asg (.tp [(.nm 1), (.nm 2)]) (.var 0))
    (.cons (.ret (.and (.cons (.call 2 (.cons (.var 1) .nil)) (.cons (.call 2 (.cons (.var 2) .nil)) (.cons (.ap2 .lt (.var 1) (.var 2)) .nil)))))
    .nil))) }
/-- are_bows: thing part -/
def d4 : Def := { name := "are_bows", np := 1, nn := 2, body :=
    (.cons (.ret (.and (.cons (.isi [.list, .tuple] (.var 0)) (.cons (.ap1 .all (.lcw (.call 3 (.cons (.var 1) .nil)) (.one (.nm 1)) 0 .nil)) .nil))))
    .nil) }
/-- is_way: thing -/
def d5 : Def := { name := "is_way", np := 1, nn := 1, body :=
    (.cons (.ret (.and (.cons (.isi [.str] (.var 0)) (.cons (.ap2 .isin (.var 0) (.glb 1)) .nil))))
    .nil) }
/-- are_ways: thing part -/
def d6 : Def := { name := "are_ways", np := 1, nn := 2, body :=
    (.cons (.ret (.and (.cons (.isi [.list, .tuple] (.var 0)) (.cons (.ap1 .all (.lcw (.call 5 (.cons (.var 1) .nil)) (.one (.nm 1)) 0 .nil)) .nil))))
    .nil) }
/-- direction_of: one other begin end its_begin its_end -/
def d7 : Def := { name := "direction_of", np := 2, nn := 6, body :=
    (.cons (.asg (.tp [(.nm 2), (.nm 3)]) (.var 0))
    (.cons (.asg (.tp [(.nm 4), (.nm 5)]) (.var 1))
    (.cons (.iff (.cmp .le (.var 3) (.var 4))
    (.cons (.ret (.ite (.cmp .eq (.var 3) (.var 4)) (.cst (.str "meets")) (.cst (.str "before"))))
    .nil)
    .nil)
    (.cons (.iff (.cmp .le (.var 5) (.var 2))
    (.cons (.ret (.ite (.cmp .eq (.var 5) (.var 2)) (.cst (.str "met")) (.cst (.str "after"))))
    .nil)
    .nil)
    (.cons (.iff (.cmp .eq (.var 2) (.var 4))
    (.cons (.ret (.call 8 (.cons (.var 3) (.cons (.var 5) .nil))))
    .nil)
    .nil)
    (.cons (.iff (.cmp .eq (.var 3) (.var 5))
    (.cons (.ret (.ite (.cmp .lt (.var 2) (.var 4)) (.cst (.str "finished")) (.cst (.str "finishes"))))
    .nil)
    .nil)
    (.cons (.iff (.cmp .lt (.var 2) (.var 4))
    (.cons (.ret (.ite (.cmp .lt (.var 3) (.var 5)) (.cst (.str "crosses")) (.cst (.str "holds"))))
    .nil)
    .nil)
    (.cons (.ret (.ite (.cmp .lt (.var 3) (.var 5)) (.cst (.str "inside")) (.cst (.str "crossed"))))
    .nil)))))))) }
/-- _direction_from_one_begin: end its_end -/
def d8 : Def := { name := "_direction_from_one_begin", np := 2, nn := 2, body :=
    (.cons (.iff (.cmp .eq (.var 0) (.var 1))
    (.cons (.ret (.cst (.str "same")))
    .nil)
    .nil)
    (.cons (.ret (.ite (.cmp .lt (.var 0) (.var 1)) (.cst (.str "starts")) (.cst (.str "started"))))
    .nil)) }
/-- way_of: one other -/
def d9 : Def := { name := "way_of", np := 2, nn := 2, body :=
    (.cons (.ret (.ap2 .idx (.glb 2) (.call 7 (.cons (.var 0) (.cons (.var 1) .nil)))))
    .nil) }
/-- Kind.__init__: self ways way -/
def d10 : Def := { name := "__init__", np := 2, nn := 3, body :=
    (.cons (.iff (.not (.val (.call 6 (.cons (.var 1) .nil))))
    (.cons .never
    .nil)
    .nil)
    (.cons (.setf 0 "_ways" (.ap1 .tup (.lc (.var 2) (.one (.nm 2)) (.seq (.glb 1)) (.cons (.cmp .isin (.var 2) (.var 1)) .nil))))
    .nil)) }
/-- Kind.__eq__: self other -/
def d11 : Def := { name := "__eq__", np := 2, nn := 2, body :=
    (.cons (.ret (.and (.cons (.isi [.own 0] (.var 1)) (.cons (.ap2 .eq (.att "_ways" (.var 0)) (.att "_ways" (.var 1))) .nil))))
    .nil) }
/-- Kind.__len__: self -/
def d12 : Def := { name := "__len__", np := 1, nn := 1, body :=
    (.cons (.ret (.ap1 .len (.att "_ways" (.var 0))))
    .nil) }
/-- Kind.__iter__: self -/
def d13 : Def := { name := "__iter__", np := 1, nn := 1, body :=
    (.cons (.ret .nev)
    .nil) }
/-- Kind.__contains__: self thing -/
def d14 : Def := { name := "__contains__", np := 2, nn := 2, body :=
    (.cons (.ret (.and (.cons (.call 5 (.cons (.var 1) .nil)) (.cons (.ap2 .isin (.var 1) (.att "_ways" (.var 0))) .nil))))
    .nil) }
/-- Kind.__invert__: self way -/
def d15 : Def := { name := "__invert__", np := 1, nn := 2, body :=
    (.cons (.ret (.new 0 (.cons (.lc (.var 1) (.one (.nm 1)) (.seq (.glb 1)) (.cons (.cmp .notin (.var 1) (.att "_ways" (.var 0))) .nil)) .nil)))
    .nil) }
/-- Kind.__or__: self other way -/
def d16 : Def := { name := "__or__", np := 2, nn := 3, body :=
    (.cons (.ret (.new 0 (.cons (.lc (.var 2) (.one (.nm 2)) (.seq (.glb 1)) (.cons (.any (.cons (.cmp .isin (.var 2) (.att "_ways" (.var 0))) (.cons (.cmp .isin (.var 2) (.att "_ways" (.var 1))) .nil))) .nil)) .nil)))
    .nil) }
/-- Kind.__and__: self other way -/
def d17 : Def := { name := "__and__", np := 2, nn := 3, body :=
    (.cons (.ret (.new 0 (.cons (.lc (.var 2) (.one (.nm 2)) (.seq (.att "_ways" (.var 0))) (.cons (.cmp .isin (.var 2) (.att "_ways" (.var 1))) .nil)) .nil)))
    .nil) }
/-- Kind.__sub__: self other way -/
def d18 : Def := { name := "__sub__", np := 2, nn := 3, body :=
    (.cons (.ret (.new 0 (.cons (.lc (.var 2) (.one (.nm 2)) (.seq (.att "_ways" (.var 0))) (.cons (.cmp .notin (.var 2) (.att "_ways" (.var 1))) .nil)) .nil)))
    .nil) }
/-- Kind.ways: self -/
def d19 : Def := { name := "ways", np := 1, nn := 1, body :=
    (.cons (.ret (.ap1 .list (.att "_ways" (.var 0))))
    .nil) }
/-- Kind.turned: self -/
def d20 : Def := { name := "turned", np := 1, nn := 1, body :=
    (.cons (.exp (.call 0 (.cons (.cst (.int 0)) .nil)))
    .nil) }
/-- Kind.lets: self one other -/
def d21 : Def := { name := "lets", np := 3, nn := 3, body :=
    (.cons (.ret (.ap2 .isin (.call 9 (.cons (.var 1) (.cons (.var 2) .nil))) (.att "_ways" (.var 0))))
    .nil) }
/-- Kind.inside_of: self other -/
def d22 : Def := { name := "inside_of", np := 2, nn := 2, body :=
    (.cons (.exp (.call 0 (.cons (.cst (.int 1)) .nil)))
    .nil) }
/-- ring_for: kind ring order bows at -/
def d23 : Def := { name := "ring_for", np := 1, nn := 5, body :=
    (.cons (.for_ (.one (.nm 1)) (.seq (.glb 3))
    (.cons (.for_ (.one (.nm 2)) (.seq (.glb 4))
    (.cons (.asg (.one (.nm 3)) (.lc (.ap2 .idx (.var 1) (.var 4)) (.one (.nm 4)) (.seq (.var 2)) .nil))
    (.cons (.iff (.val (.call 24 (.cons (.var 0) (.cons (.var 3) .nil))))
    (.cons (.ret (.var 3))
    .nil)
    .nil)
    .nil)))
    .nil))
    (.cons (.ret (.cst .non))
    .nil)) }
/-- is_ring: kind thing i j are_neighbours -/
def d24 : Def := { name := "is_ring", np := 2, nn := 5, body :=
    (.cons (.iff (.any (.cons (.not (.val (.isi [.list] (.var 1)))) (.cons (.cmp .ne (.ap1 .len (.var 1)) (.cst (.int 5))) (.cons (.not (.val (.call 4 (.cons (.var 1) .nil)))) .nil))))
    (.cons (.ret (.cst (.bl false)))
    .nil)
    .nil)
    (.cons (.for_ (.one (.nm 2)) (.rng1 (.cst (.int 5)))
    (.cons (.for_ (.one (.nm 3)) (.rng2 (.ap2 .add (.var 2) (.cst (.int 1))) (.cst (.int 5)))
    (.cons (.asg (.one (.nm 4)) (.ap2 .isin (.ap2 .sub (.var 3) (.var 2)) (.tup (.cons (.cst (.int 1)) (.cons (.cst (.int 4)) .nil)))))
    (.cons (.iff (.cmp .ne (.meth "lets" (.var 0) (.cons (.ap2 .idx (.var 1) (.var 2)) (.cons (.ap2 .idx (.var 1) (.var 3)) .nil))) (.var 4))
    (.cons (.ret (.cst (.bl false)))
    .nil)
    .nil)
    .nil)))
    .nil))
    (.cons (.ret (.cst (.bl true)))
    .nil))) }
/-- _law_bag: _law_script _law_cell -/
def d25 : Def := { name := "_law_bag", np := 1, nn := 2, body :=
    (.cons (.ret (.lst (.cons (.cst (.int 0)) (.cons (.cst (.int 1234567891)) (.cons (.cst (.int 0)) (.cons (.lc (.ap1 .abs (.var 1)) (.one (.nm 1)) (.seq (.ap2 (.sl false true) (.var 0) (.cst (.int 63)))) .nil) .nil))))))
    .nil) }
/-- _law_take: _law_bag_here _law_many _law_begin _law_second _law_cell _law_mixed _law_drawn -/
def d26 : Def := { name := "_law_take", np := 2, nn := 7, body :=
    (.cons (.iff (.cmp .eq (.ap2 .idx (.var 0) (.cst (.int 0))) (.cst (.int 0)))
    (.cons (.asg (.one (.nm 4)) (.cst (.int 0)))
    (.cons (.iff (.cmp .lt (.ap2 .idx (.var 0) (.cst (.int 2))) (.ap1 .len (.ap2 .idx (.var 0) (.cst (.int 3)))))
    (.cons (.asg (.one (.nm 4)) (.ap2 .idx (.ap2 .idx (.var 0) (.cst (.int 3))) (.ap2 .idx (.var 0) (.cst (.int 2)))))
    .nil)
    .nil)
    (.cons (.augi 0 (.cst (.int 2)) .add (.cst (.int 1)))
    (.cons (.iff (.cmp .ge (.var 4) (.ap2 .pow (.cst (.int 10)) (.cst (.int 18))))
    (.cons (.set 0 (.cst (.int 0)) (.var 4))
    .nil)
    .nil)
    (.cons (.asg (.one (.nm 5)) (.ap2 .add (.ap2 .add (.ap2 .mul (.ap2 .idx (.var 0) (.cst (.int 1))) (.cst (.int 48271))) (.ap2 .mod (.ap1 .int (.var 4)) (.cst (.int 2147483647)))) (.ap2 .mul (.cst (.int 7919)) (.ap2 .idx (.var 0) (.cst (.int 2))))))
    (.cons (.set 0 (.cst (.int 1)) (.ap2 .mod (.ap1 .int (.var 5)) (.cst (.int 2147483647))))
    .nil))))))
    .nil)
    (.cons (.iff (.cmp .gt (.ap2 .idx (.var 0) (.cst (.int 0))) (.cst (.int 0)))
    (.cons (.asg (.one (.nm 6)) (.ap2 .mod (.ap1 .int (.ap2 .idx (.var 0) (.cst (.int 0)))) (.var 1)))
    (.cons (.set 0 (.cst (.int 0)) (.ap2 .fdiv (.ap2 .idx (.var 0) (.cst (.int 0))) (.var 1)))
    (.cons (.ret (.var 6))
    .nil)))
    .nil)
    (.cons (.asg (.one (.nm 2)) (.ap2 .mod (.ap1 .int (.ap2 .mul (.ap2 .add (.ap2 .idx (.var 0) (.cst (.int 1))) (.cst (.int 1))) (.cst (.int 39373)))) (.cst (.int 1000000007))))
    (.cons (.asg (.one (.nm 3)) (.ap2 .mod (.ap1 .int (.ap2 .mul (.ap2 .mod (.ap1 .int (.ap2 .mul (.var 2) (.var 2))) (.cst (.int 998244353))) (.cst (.int 30011)))) (.cst (.int 998244353))))
    (.cons (.ret (.ap2 .mod (.ap1 .int (.ap2 .fdiv (.var 3) (.cst (.int 7)))) (.var 1)))
    .nil))))) }
/-- _law_alike: _law_found _law_due -/
def d27 : Def := { name := "_law_alike", np := 2, nn := 2, body :=
    (.cons (.ret (.and (.cons (.ap2 .eq (.var 0) (.var 1)) (.cons (.ap2 .eq (.ap1 .repr (.var 0)) (.ap1 .repr (.var 1))) .nil))))
    .nil) }
/-- _law_one: _law_bag_here _law_things -/
def d28 : Def := { name := "_law_one", np := 2, nn := 2, body :=
    (.cons (.ret (.ap2 .idx (.var 1) (.call 26 (.cons (.var 0) (.cons (.ap1 .len (.var 1)) .nil)))))
    .nil) }
/-- _law_all_ways:  -/
def d29 : Def := { name := "_law_all_ways", np := 0, nn := 0, body :=
    (.cons (.ret (.lst (.cons (.cst (.str "apart")) (.cons (.cst (.str "begun")) (.cons (.cst (.str "chained")) (.cons (.cst (.str "crossing")) (.cons (.cst (.str "ended")) (.cons (.cst (.str "same")) (.cons (.cst (.str "within")) .nil)))))))))
    .nil) }
/-- _law_direction: _law_one_here _law_other -/
def d30 : Def := { name := "_law_direction", np := 2, nn := 2, body :=
    (.cons (.iff (.cmp .eq (.var 0) (.var 1))
    (.cons (.ret (.cst (.str "same")))
    .nil)
    .nil)
    (.cons (.iff (.cmp .le (.ap2 .idx (.var 0) (.cst (.int 1))) (.ap2 .idx (.var 1) (.cst (.int 0))))
    (.cons (.ret (.ite (.cmp .eq (.ap2 .idx (.var 0) (.cst (.int 1))) (.ap2 .idx (.var 1) (.cst (.int 0)))) (.cst (.str "meets")) (.cst (.str "before"))))
    .nil)
    .nil)
    (.cons (.iff (.cmp .le (.ap2 .idx (.var 1) (.cst (.int 1))) (.ap2 .idx (.var 0) (.cst (.int 0))))
    (.cons (.ret (.ite (.cmp .eq (.ap2 .idx (.var 1) (.cst (.int 1))) (.ap2 .idx (.var 0) (.cst (.int 0)))) (.cst (.str "met")) (.cst (.str "after"))))
    .nil)
    .nil)
    (.cons (.iff (.cmp .eq (.ap2 .idx (.var 0) (.cst (.int 0))) (.ap2 .idx (.var 1) (.cst (.int 0))))
    (.cons (.ret (.ite (.cmp .lt (.ap2 .idx (.var 0) (.cst (.int 1))) (.ap2 .idx (.var 1) (.cst (.int 1)))) (.cst (.str "starts")) (.cst (.str "started"))))
    .nil)
    .nil)
    (.cons (.iff (.cmp .eq (.ap2 .idx (.var 0) (.cst (.int 1))) (.ap2 .idx (.var 1) (.cst (.int 1))))
    (.cons (.ret (.ite (.cmp .gt (.ap2 .idx (.var 0) (.cst (.int 0))) (.ap2 .idx (.var 1) (.cst (.int 0)))) (.cst (.str "finishes")) (.cst (.str "finished"))))
    .nil)
    .nil)
    (.cons (.iff (.cmp .lt (.ap2 .idx (.var 0) (.cst (.int 0))) (.ap2 .idx (.var 1) (.cst (.int 0))))
    (.cons (.ret (.ite (.cmp .gt (.ap2 .idx (.var 0) (.cst (.int 1))) (.ap2 .idx (.var 1) (.cst (.int 1)))) (.cst (.str "holds")) (.cst (.str "crosses"))))
    .nil)
    .nil)
    (.cons (.ret (.ite (.cmp .gt (.ap2 .idx (.var 0) (.cst (.int 1))) (.ap2 .idx (.var 1) (.cst (.int 1)))) (.cst (.str "crossed")) (.cst (.str "inside"))))
    .nil))))))) }
/-- _law_pairs_of_words: _law_found -/
def d31 : Def := { name := "_law_pairs_of_words", np := 0, nn := 1, body :=
    (.cons (.asg (.one (.nm 0)) (.dsp ["apart", "begun", "chained"] (.cons (.lst (.cons (.cst (.str "after")) (.cons (.cst (.str "before")) .nil))) (.cons (.lst (.cons (.cst (.str "started")) (.cons (.cst (.str "starts")) .nil))) (.cons (.lst (.cons (.cst (.str "meets")) (.cons (.cst (.str "met")) .nil))) .nil)))))
    (.cons (.par [(.ix 0 (.str "crossing")), (.ix 0 (.str "ended"))] (.cons (.lst (.cons (.cst (.str "crossed")) (.cons (.cst (.str "crosses")) .nil))) (.cons (.lst (.cons (.cst (.str "finished")) (.cons (.cst (.str "finishes")) .nil))) .nil)))
    (.cons (.set 0 (.cst (.str "within")) (.lst (.cons (.cst (.str "holds")) (.cons (.cst (.str "inside")) .nil))))
    (.cons (.ret (.var 0))
    .nil)))) }
/-- _law_way: _law_one_here _law_other _law_told _law_words _law_name -/
def d32 : Def := { name := "_law_way", np := 2, nn := 5, body :=
    (.cons (.asg (.one (.nm 2)) (.call 30 (.cons (.var 0) (.cons (.var 1) .nil))))
    (.cons (.asg (.one (.nm 3)) (.call 31 .nil))
    (.cons (.ret (.ap2 .idx (.ap2 .add (.lc (.var 4) (.one (.nm 4)) (.seq (.var 3)) (.cons (.cmp .isin (.var 2) (.ap2 .idx (.var 3) (.var 4))) .nil)) (.lst (.cons (.cst (.str "same")) .nil))) (.cst (.int 0))))
    .nil))) }
/-- _law_spread: _law_bag_here _law_bows _law_way_here _law_by _law_begin _law_end -/
def d33 : Def := { name := "_law_spread", np := 2, nn := 6, body :=
    (.cons (.asg (.one (.nm 2)) (.call 26 (.cons (.var 0) (.cons (.cst (.int 6)) .nil))))
    (.cons (.iff (.cmp .eq (.var 2) (.cst (.int 0)))
    (.cons (.ret (.lc (.tup (.cons (.ap2 .sub (.ap2 .mul (.ap2 .pow (.cst (.int 10)) (.cst (.int 25))) (.var 4)) (.ap2 .pow (.cst (.int 10)) (.cst (.int 29)))) (.cons (.ap2 .sub (.ap2 .mul (.ap2 .pow (.cst (.int 10)) (.cst (.int 25))) (.var 5)) (.ap2 .pow (.cst (.int 10)) (.cst (.int 29)))) .nil))) (.tp [(.nm 4), (.nm 5)]) (.seq (.var 1)) .nil))
    .nil)
    .nil)
    (.cons (.iff (.cmp .eq (.var 2) (.cst (.int 1)))
    (.cons (.ret (.lc (.tup (.cons (.ap2 .sub (.ap2 .mul (.var 4) (.var 4)) (.cst (.int 50))) (.cons (.ap2 .sub (.ap2 .mul (.var 5) (.var 5)) (.cst (.int 50))) .nil))) (.tp [(.nm 4), (.nm 5)]) (.seq (.var 1)) .nil))
    .nil)
    .nil)
    (.cons (.iff (.cmp .eq (.var 2) (.cst (.int 2)))
    (.cons (.ret (.lc (.tup (.cons (.ap2 .add (.var 4) (.ap2 .mul (.ap2 .fdiv (.var 4) (.cst (.int 3))) (.ap2 .pow (.cst (.int 10)) (.cst (.int 28))))) (.cons (.ap2 .add (.var 5) (.ap2 .mul (.ap2 .fdiv (.var 5) (.cst (.int 3))) (.ap2 .pow (.cst (.int 10)) (.cst (.int 28))))) .nil))) (.tp [(.nm 4), (.nm 5)]) (.seq (.var 1)) .nil))
    .nil)
    .nil)
    (.cons (.asg (.one (.nm 3)) (.ap2 .idx (.lst (.cons (.cst (.int 0)) (.cons (.cst (.int 6)) (.cons (.cst (.int 9)) .nil)))) (.ap2 .sub (.var 2) (.cst (.int 3)))))
    (.cons (.ret (.lc (.tup (.cons (.ap2 .sub (.var 4) (.var 3)) (.cons (.ap2 .sub (.var 5) (.var 3)) .nil))) (.tp [(.nm 4), (.nm 5)]) (.seq (.var 1)) .nil))
    .nil)))))) }
/-- _law_ways_drawn: _law_bag_here _law_name -/
def d34 : Def := { name := "_law_ways_drawn", np := 1, nn := 2, body :=
    (.cons (.ret (.lc (.var 1) (.one (.nm 1)) (.seq (.call 29 .nil)) (.cons (.cmp .eq (.call 26 (.cons (.var 0) (.cons (.cst (.int 2)) .nil))) (.cst (.int 0))) .nil)))
    .nil) }
/-- _law_lets: _law_ways _law_bows _law_i _law_j -/
def d35 : Def := { name := "_law_lets", np := 4, nn := 4, body :=
    (.cons (.ret (.ap2 .isin (.call 32 (.cons (.ap2 .idx (.var 1) (.var 2)) (.cons (.ap2 .idx (.var 1) (.var 3)) .nil))) (.var 0)))
    .nil) }
/-- _law_is_whole_number: _law_thing -/
def d36 : Def := { name := "_law_is_whole_number", np := 1, nn := 1, body :=
    (.cons (.ret (.and (.cons (.isi [.int] (.var 0)) (.cons (.not (.isi [.bool] (.var 0))) .nil))))
    .nil) }
/-- _law_is_ring_of: _law_ways _law_thing _law_bow _law_i _law_good _law_j _law_place -/
def d37 : Def := { name := "_law_is_ring_of", np := 2, nn := 7, body :=
    (.cons (.iff (.any (.cons (.not (.val (.isi [.list] (.var 1)))) (.cons (.cmp .ne (.ap1 .len (.var 1)) (.cst (.int 5))) .nil)))
    (.cons (.ret (.cst (.bl false)))
    .nil)
    .nil)
    (.cons (.forw (.one (.nm 2)) 1
    (.cons (.iff (.any (.cons (.not (.val (.isi [.tuple] (.var 2)))) (.cons (.cmp .ne (.ap1 .len (.var 2)) (.cst (.int 2))) .nil)))
    (.cons (.ret (.cst (.bl false)))
    .nil)
    .nil)
    (.cons (.asg (.one (.nm 4)) (.lc (.and (.cons (.call 36 (.cons (.var 6) .nil)) (.cons (.chn .le .le (.ap1 .neg (.ap2 .pow (.cst (.int 10)) (.cst (.int 30)))) (.var 6) (.ap2 .pow (.cst (.int 10)) (.cst (.int 30)))) .nil))) (.one (.nm 6)) (.seq (.var 2)) .nil))
    (.cons (.iff (.any (.cons (.cmp .ne (.var 4) (.lst (.cons (.cst (.bl true)) (.cons (.cst (.bl true)) .nil)))) (.cons (.cmp .ge (.ap2 .idx (.var 2) (.cst (.int 0))) (.ap2 .idx (.var 2) (.cst (.int 1)))) .nil)))
    (.cons (.ret (.cst (.bl false)))
    .nil)
    .nil)
    .nil))))
    (.cons (.for_ (.one (.nm 3)) (.rng1 (.cst (.int 5)))
    (.cons (.for_ (.one (.nm 5)) (.rng1 (.var 3))
    (.cons (.iff (.cmp .ne (.call 35 (.cons (.var 0) (.cons (.var 1) (.cons (.var 3) (.cons (.var 5) .nil))))) (.ap2 .isin (.ap2 .sub (.var 3) (.var 5)) (.tup (.cons (.cst (.int 1)) (.cons (.cst (.int 4)) .nil)))))
    (.cons (.ret (.cst (.bl false)))
    .nil)
    .nil)
    .nil))
    .nil))
    (.cons (.ret (.cst (.bl true)))
    .nil)))) }
/-- _law_known_rings: _law_found _law_bows -/
def d38 : Def := { name := "_law_known_rings", np := 0, nn := 2, body :=
    (.cons (.asg (.one (.nm 0)) (.lst (.cons (.lst (.cons (.tup (.cons (.cst (.int 0)) (.cons (.cst (.int 1)) .nil))) (.cons (.tup (.cons (.cst (.int 1)) (.cons (.cst (.int 3)) .nil))) (.cons (.tup (.cons (.cst (.int 3)) (.cons (.cst (.int 4)) .nil))) (.cons (.tup (.cons (.cst (.int 2)) (.cons (.cst (.int 3)) .nil))) (.cons (.tup (.cons (.cst (.int 1)) (.cons (.cst (.int 2)) .nil))) .nil)))))) (.cons (.lst (.cons (.tup (.cons (.cst (.int 0)) (.cons (.cst (.int 3)) .nil))) (.cons (.tup (.cons (.cst (.int 2)) (.cons (.cst (.int 5)) .nil))) (.cons (.tup (.cons (.cst (.int 4)) (.cons (.cst (.int 7)) .nil))) (.cons (.tup (.cons (.cst (.int 6)) (.cons (.cst (.int 9)) .nil))) (.cons (.tup (.cons (.cst (.int 1)) (.cons (.cst (.int 8)) .nil))) .nil)))))) .nil))))
    (.cons (.asg (.one (.nm 0)) (.ap2 .add (.var 0) (.lst (.cons (.lst (.cons (.tup (.cons (.cst (.int 0)) (.cons (.cst (.int 1)) .nil))) (.cons (.tup (.cons (.cst (.int 0)) (.cons (.cst (.int 2)) .nil))) (.cons (.tup (.cons (.cst (.int 2)) (.cons (.cst (.int 3)) .nil))) (.cons (.tup (.cons (.cst (.int 3)) (.cons (.cst (.int 4)) .nil))) (.cons (.tup (.cons (.cst (.int 1)) (.cons (.cst (.int 3)) .nil))) .nil)))))) (.cons (.lst (.cons (.tup (.cons (.cst (.int 0)) (.cons (.cst (.int 1)) .nil))) (.cons (.tup (.cons (.cst (.int 1)) (.cons (.cst (.int 2)) .nil))) (.cons (.tup (.cons (.cst (.int 2)) (.cons (.cst (.int 3)) .nil))) (.cons (.tup (.cons (.cst (.int 3)) (.cons (.cst (.int 4)) .nil))) (.cons (.tup (.cons (.cst (.int 0)) (.cons (.cst (.int 4)) .nil))) .nil)))))) .nil)))))
    (.cons (.asg (.one (.nm 0)) (.ap2 .add (.var 0) (.lst (.cons (.lst (.cons (.tup (.cons (.cst (.int 0)) (.cons (.cst (.int 7)) .nil))) (.cons (.tup (.cons (.cst (.int 1)) (.cons (.cst (.int 2)) .nil))) (.cons (.tup (.cons (.cst (.int 0)) (.cons (.cst (.int 4)) .nil))) (.cons (.tup (.cons (.cst (.int 3)) (.cons (.cst (.int 7)) .nil))) (.cons (.tup (.cons (.cst (.int 5)) (.cons (.cst (.int 6)) .nil))) .nil)))))) (.cons (.lst (.cons (.tup (.cons (.cst (.int 0)) (.cons (.cst (.int 4)) .nil))) (.cons (.tup (.cons (.cst (.int 5)) (.cons (.cst (.int 6)) .nil))) (.cons (.tup (.cons (.cst (.int 2)) (.cons (.cst (.int 3)) .nil))) (.cons (.tup (.cons (.cst (.int 4)) (.cons (.cst (.int 8)) .nil))) (.cons (.tup (.cons (.cst (.int 1)) (.cons (.cst (.int 7)) .nil))) .nil)))))) .nil)))))
    (.cons (.exp (.mut .app 0 (.cons (.lst (.cons (.tup (.cons (.cst (.int 3)) (.cons (.cst (.int 4)) .nil))) (.cons (.tup (.cons (.cst (.int 2)) (.cons (.cst (.int 4)) .nil))) (.cons (.tup (.cons (.cst (.int 1)) (.cons (.cst (.int 2)) .nil))) (.cons (.tup (.cons (.cst (.int 0)) (.cons (.cst (.int 1)) .nil))) (.cons (.tup (.cons (.cst (.int 1)) (.cons (.cst (.int 3)) .nil))) .nil)))))) .nil)))
    (.cons (.ret (.ap2 .add (.var 0) (.lcw (.lst (.cons (.ap2 .idx (.var 1) (.cst (.int 0))) (.cons (.ap2 .idx (.var 1) (.cst (.int 2))) (.cons (.ap2 .idx (.var 1) (.cst (.int 4))) (.cons (.ap2 .idx (.var 1) (.cst (.int 1))) (.cons (.ap2 .idx (.var 1) (.cst (.int 3))) .nil)))))) (.one (.nm 1)) 0 .nil)))
    .nil))))) }
/-- _law_moved_ring: _law_bag_here _law_bows _law_found _law_at _law_way_here _law_by _law_begin _law_end -/
def d39 : Def := { name := "_law_moved_ring", np := 2, nn := 8, body :=
    (.cons (.par [(.nm 3), (.nm 4)] (.cons (.call 26 (.cons (.var 0) (.cons (.cst (.int 5)) .nil))) (.cons (.call 26 (.cons (.var 0) (.cons (.cst (.int 6)) .nil))) .nil)))
    (.cons (.asg (.one (.nm 2)) (.ap2 .add (.ap2 (.sl true false) (.var 1) (.var 3)) (.ap2 (.sl false true) (.var 1) (.var 3))))
    (.cons (.iff (.cmp .eq (.var 4) (.cst (.int 5)))
    (.cons (.asg (.one (.nm 5)) (.ap2 .add (.ap2 .sub (.ap2 .pow (.cst (.int 10)) (.cst (.int 30))) (.ap1 .max (.lc (.var 7) (.tp [(.nm 6), (.nm 7)]) (.seq (.var 1)) .nil))) (.call 26 (.cons (.var 0) (.cons (.cst (.int 2)) .nil)))))
    (.cons (.ret (.lc (.tup (.cons (.ap2 .add (.var 6) (.var 5)) (.cons (.ap2 .add (.var 7) (.var 5)) .nil))) (.tp [(.nm 6), (.nm 7)]) (.seq (.var 2)) .nil))
    .nil))
    .nil)
    (.cons (.iff (.cmp .eq (.var 4) (.cst (.int 0)))
    (.cons (.ret (.ap1 .rev (.var 2)))
    .nil)
    .nil)
    (.cons (.iff (.cmp .eq (.var 4) (.cst (.int 1)))
    (.cons (.ret (.call 33 (.cons (.var 0) (.cons (.var 2) .nil))))
    .nil)
    .nil)
    (.cons (.iff (.cmp .eq (.var 4) (.cst (.int 2)))
    (.cons (.ret (.lc (.tup (.cons (.ap1 .neg (.var 7)) (.cons (.ap1 .neg (.var 6)) .nil))) (.tp [(.nm 6), (.nm 7)]) (.seq (.var 2)) .nil))
    .nil)
    .nil)
    (.cons (.reti (.cmp .eq (.var 4) (.cst (.int 3))) (.lst (.cons (.ap2 .idx (.var 2) (.cst (.int 0))) (.cons (.ap2 .idx (.var 2) (.cst (.int 2))) (.cons (.ap2 .idx (.var 2) (.cst (.int 4))) (.cons (.ap2 .idx (.var 2) (.cst (.int 1))) (.cons (.ap2 .idx (.var 2) (.cst (.int 3))) .nil)))))) (.var 2))
    .nil))))))) }
/-- _law_bent_ring: _law_bag_here _law_bows _law_found _law_way_here _law_at _law_kept -/
def d40 : Def := { name := "_law_bent_ring", np := 2, nn := 6, body :=
    (.cons (.par [(.nm 2), (.nm 3), (.nm 4)] (.cons (.ap1 .list (.var 1)) (.cons (.call 26 (.cons (.var 0) (.cons (.cst (.int 9)) .nil))) (.cons (.call 26 (.cons (.var 0) (.cons (.cst (.int 5)) .nil))) .nil))))
    (.cons (.iff (.cmp .eq (.var 3) (.cst (.int 0)))
    (.cons (.set 2 (.var 4) (.tup (.cons (.ap2 .idx (.ap2 .idx (.var 2) (.var 4)) (.cst (.int 0))) (.cons (.ap2 .add (.ap2 .idx (.ap2 .idx (.var 2) (.var 4)) (.cst (.int 1))) (.cst (.int 1))) .nil))))
    .nil)
    .nil)
    (.cons (.iff (.cmp .eq (.var 3) (.cst (.int 1)))
    (.cons (.set 2 (.var 4) (.tup (.cons (.ap2 .sub (.ap2 .idx (.ap2 .idx (.var 2) (.var 4)) (.cst (.int 0))) (.cst (.int 1))) (.cons (.ap2 .idx (.ap2 .idx (.var 2) (.var 4)) (.cst (.int 1))) .nil))))
    .nil)
    .nil)
    (.cons (.iff (.cmp .eq (.var 3) (.cst (.int 2)))
    (.cons (.asg (.one (.nm 2)) (.ap2 .add (.ap2 (.sl false true) (.var 2) (.var 4)) (.ap2 (.sl true false) (.var 2) (.ap2 .add (.var 4) (.cst (.int 1))))))
    .nil)
    .nil)
    (.cons (.iff (.cmp .eq (.var 3) (.cst (.int 3)))
    (.cons (.exp (.mut .ins 2 (.cons (.var 4) (.cons (.ap2 .idx (.var 2) (.var 4)) .nil))))
    .nil)
    .nil)
    (.cons (.iff (.cmp .eq (.var 3) (.cst (.int 4)))
    (.cons (.asg (.one (.nm 5)) (.ap2 .idx (.var 2) (.var 4)))
    (.cons (.set 2 (.var 4) (.ap2 .idx (.var 2) (.ap2 .sub (.var 4) (.cst (.int 1)))))
    (.cons (.set 2 (.ap2 .sub (.var 4) (.cst (.int 1))) (.var 5))
    .nil)))
    .nil)
    (.cons (.iff (.cmp .eq (.var 3) (.cst (.int 5)))
    (.cons (.set 2 (.var 4) (.pick (.cons (.ap1 .list (.ap2 .idx (.var 2) (.var 4))) (.cons (.cst .non) (.cons (.tup (.cons (.ap2 .idx (.ap2 .idx (.var 2) (.var 4)) (.cst (.int 1))) (.cons (.ap2 .idx (.ap2 .idx (.var 2) (.var 4)) (.cst (.int 0))) .nil))) (.cons (.tup (.cons (.cst (.int 0)) (.cons (.cst (.bl true)) .nil))) (.cons (.ap2 .idx (.var 2) (.ap2 .sub (.var 4) (.cst (.int 1)))) .nil))))) (.call 26 (.cons (.var 0) (.cons (.cst (.int 5)) .nil)))))
    .nil)
    .nil)
    (.cons (.iff (.cmp .eq (.var 3) (.cst (.int 6)))
    (.cons (.ret (.pick (.cons (.ap1 .tup (.var 2)) (.cons (.cst .non) (.cons (.dsp [] .nil) (.cons (.cst (.str "ring")) (.cons (.lst (.cons (.var 2) .nil)) (.cons (.ap2 .add (.var 2) (.lst (.cons (.tup (.cons (.cst (.int 0)) (.cons (.cst (.int 1)) .nil))) .nil))) (.cons (.lst .nil) .nil))))))) (.call 26 (.cons (.var 0) (.cons (.cst (.int 7)) .nil)))))
    .nil)
    .nil)
    (.cons (.ret (.var 2))
    .nil))))))))) }
/-- law: _law_script _law_bag_here _law_turn _law_ways _law_said _law_again _law_k _law_kind _law_rings _law_found _law_some _law_thing _law_told _law_due _law_bows -/
def d41 : Def := { name := "law", np := 1, nn := 15, body :=
    (.cons (.asg (.one (.nm 1)) (.call 25 (.cons (.var 0) .nil)))
    (.cons (.for_ (.one (.nm 2)) (.rng1 (.cst (.int 5)))
    (.cons (.asg (.one (.nm 3)) (.call 34 (.cons (.var 1) .nil)))
    (.cons (.par [(.nm 7), (.nm 8)] (.cons (.new 0 (.cons (.var 3) .nil)) (.cons (.lc (.var 14) (.one (.nm 14)) (.seq (.call 38 .nil)) (.cons (.val (.call 37 (.cons (.var 3) (.cons (.var 14) .nil)))) .nil)) .nil)))
    (.cons (.asg (.one (.nm 4)) (.lst .nil))
    (.cons (.for_ (.one (.nm 5)) (.rng1 (.cst (.int 3)))
    (.cons (.asg (.one (.nm 9)) (.call 23 (.cons (.var 7) .nil)))
    (.cons (.exp (.mut .app 4 (.cons (.ap1 .repr (.var 9)) .nil)))
    (.cons (.iff (.any (.cons (.cmp .ne (.ap1 .isN (.var 9)) (.ap2 .eq (.var 8) (.lst .nil))) (.cons (.all (.cons (.val (.ap1 .notN (.var 9))) (.cons (.not (.val (.call 37 (.cons (.var 3) (.cons (.var 9) .nil))))) .nil))) .nil)))
    (.cons (.ret (.cst (.bl false)))
    .nil)
    .nil)
    (.cons (.iff (.val (.ap1 .notN (.var 9)))
    (.cons (.exp (.mut .app 8 (.cons (.ap1 .list (.var 9)) .nil)))
    (.cons (.exp (.mut .app 9 (.cons (.cst .non) .nil)))
    .nil))
    .nil)
    .nil)))))
    (.cons (.iff (.cmp .ne (.var 4) (.ap2 .mul (.ap2 (.sl false true) (.var 4) (.cst (.int 1))) (.cst (.int 3))))
    (.cons (.ret (.cst (.bl false)))
    .nil)
    .nil)
    (.cons (.for_ (.one (.nm 6)) (.rng1 (.cst (.int 6)))
    (.cons (.asg (.one (.nm 10)) (.call 28 (.cons (.var 1) (.cons (.ite (.all (.cons (.cmp .ne (.var 8) (.lst .nil)) (.cons (.cmp .gt (.call 26 (.cons (.var 1) (.cons (.cst (.int 3)) .nil))) (.cst (.int 0))) .nil))) (.var 8) (.call 38 .nil)) .nil))))
    (.cons (.asg (.one (.nm 11)) (.call 39 (.cons (.var 1) (.cons (.var 10) .nil))))
    (.cons (.iff (.cmp .eq (.call 26 (.cons (.var 1) (.cons (.cst (.int 2)) .nil))) (.cst (.int 0)))
    (.cons (.asg (.one (.nm 11)) (.call 40 (.cons (.var 1) (.cons (.var 11) .nil))))
    .nil)
    .nil)
    (.cons (.par [(.nm 12), (.nm 13)] (.cons (.ap1 .repr (.var 11)) (.cons (.call 37 (.cons (.var 3) (.cons (.var 11) .nil))) .nil)))
    (.cons (.asg (.one (.nm 9)) (.lst (.cons (.call 24 (.cons (.var 7) (.cons (.var 11) .nil))) (.cons (.call 24 (.cons (.var 7) (.cons (.var 11) .nil))) .nil))))
    (.cons (.iff (.any (.cons (.not (.val (.call 27 (.cons (.var 9) (.cons (.lst (.cons (.var 13) (.cons (.var 13) .nil))) .nil))))) (.cons (.cmp .ne (.ap1 .repr (.var 11)) (.var 12)) .nil)))
    (.cons (.ret (.cst (.bl false)))
    .nil)
    .nil)
    (.cons (.iff (.all (.cons (.val (.isi [.list] (.var 11))) (.cons (.cmp .ne (.var 11) (.lst .nil)) .nil)))
    (.cons (.set 11 (.cst (.int 0)) (.ite (.cmp .ne (.ap2 .idx (.var 11) (.cst (.int 0))) (.tup (.cons (.cst (.int 0)) (.cons (.cst (.int 1)) .nil)))) (.tup (.cons (.cst (.int 0)) (.cons (.cst (.int 1)) .nil))) (.tup (.cons (.cst (.int 0)) (.cons (.cst (.int 2)) .nil)))))
    (.cons (.iff (.not (.val (.call 27 (.cons (.call 24 (.cons (.var 7) (.cons (.var 11) .nil))) (.cons (.call 37 (.cons (.var 3) (.cons (.var 11) .nil))) .nil)))))
    (.cons (.ret (.cst (.bl false)))
    .nil)
    .nil)
    .nil))
    .nil)
    .nil))))))))
    .nil)))))))
    (.cons (.ret (.cst (.bl true)))
    .nil))) }
abbrev gld0 : D := (.int 1000000000000000000000000000000)
abbrev gld1 : D := (.tup [(.str "apart"), (.str "begun"), (.str "chained"), (.str "crossing"), (.str "ended"), (.str "same"), (.str "within")])
abbrev gld2 : D := (.kd ["after", "before", "crossed", "crosses", "finished", "finishes", "holds", "inside", "meets", "met", "same", "started", "starts"] [(.str "apart"), (.str "apart"), (.str "crossing"), (.str "crossing"), (.str "ended"), (.str "ended"), (.str "within"), (.str "within"), (.str "chained"), (.str "chained"), (.str "same"), (.str "begun"), (.str "begun")])
abbrev gld3 : D := (.tup [(.tup [(.tup [(.int 0), (.int 1)]), (.tup [(.int 1), (.int 2)]), (.tup [(.int 2), (.int 3)]), (.tup [(.int 3), (.int 4)]), (.tup [(.int 1), (.int 3)])]), (.tup [(.tup [(.int 0), (.int 2)]), (.tup [(.int 1), (.int 3)]), (.tup [(.int 2), (.int 4)]), (.tup [(.int 0), (.int 3)]), (.tup [(.int 1), (.int 4)])]), (.tup [(.tup [(.int 0), (.int 1)]), (.tup [(.int 2), (.int 3)]), (.tup [(.int 0), (.int 4)]), (.tup [(.int 1), (.int 2)]), (.tup [(.int 3), (.int 4)])]), (.tup [(.tup [(.int 0), (.int 1)]), (.tup [(.int 1), (.int 2)]), (.tup [(.int 2), (.int 3)]), (.tup [(.int 3), (.int 4)]), (.tup [(.int 0), (.int 3)])]), (.tup [(.tup [(.int 0), (.int 1)]), (.tup [(.int 1), (.int 2)]), (.tup [(.int 2), (.int 3)]), (.tup [(.int 3), (.int 4)]), (.tup [(.int 1), (.int 4)])]), (.tup [(.tup [(.int 0), (.int 4)]), (.tup [(.int 1), (.int 5)]), (.tup [(.int 1), (.int 3)]), (.tup [(.int 2), (.int 4)]), (.tup [(.int 3), (.int 5)])]), (.tup [(.tup [(.int 0), (.int 2)]), (.tup [(.int 1), (.int 3)]), (.tup [(.int 2), (.int 4)]), (.tup [(.int 0), (.int 4)]), (.tup [(.int 1), (.int 5)])]), (.tup [(.tup [(.int 0), (.int 2)]), (.tup [(.int 2), (.int 4)]), (.tup [(.int 0), (.int 5)]), (.tup [(.int 1), (.int 3)]), (.tup [(.int 3), (.int 5)])])])
abbrev gld4 : D := (.tup [(.tup [(.int 0), (.int 1), (.int 2), (.int 3), (.int 4)]), (.tup [(.int 0), (.int 2), (.int 4), (.int 1), (.int 3)])])
abbrev cls0 : Cls := { name := "Kind", init := 10, ms := [("__eq__", 11), ("__len__", 12), ("__iter__", 13), ("__contains__", 14), ("__invert__", 15), ("__or__", 16), ("__and__", 17), ("__sub__", 18), ("ways", 19), ("turned", 20), ("lets", 21), ("inside_of", 22)], fs := ["_ways"], itf := some "_ways" }
def P : Pr := { defs := [d0, d1, d2, d3, d4, d5, d6, d7, d8, d9, d10, d11, d12, d13, d14, d15, d16, d17, d18, d19, d20, d21, d22, d23, d24, d25, d26, d27, d28, d29, d30, d31, d32, d33, d34, d35, d36, d37, d38, d39, d40, d41], gls := [("FARTHEST", gld0), ("WAYS", gld1), ("WAYS_BY_DIRECTION", gld2), ("RINGS", gld3), ("RING_ORDERS", gld4)], cls := [cls0] }
def lawAt : Nat := 41
def names : List (List Str) := [(["k"] : List Str), (["thing"] : List Str), (["thing"] : List Str), (["thing", "begin", "end"] : List Str), (["thing", "part"] : List Str), (["thing"] : List Str), (["thing", "part"] : List Str), (["one", "other", "begin", "end", "its_begin", "its_end"] : List Str), (["end", "its_end"] : List Str), (["one", "other"] : List Str), (["self", "ways", "way"] : List Str), (["self", "other"] : List Str), (["self"] : List Str), (["self"] : List Str), (["self", "thing"] : List Str), (["self", "way"] : List Str), (["self", "other", "way"] : List Str), (["self", "other", "way"] : List Str), (["self", "other", "way"] : List Str), (["self"] : List Str), (["self"] : List Str), (["self", "one", "other"] : List Str), (["self", "other"] : List Str), (["kind", "ring", "order", "bows", "at"] : List Str), (["kind", "thing", "i", "j", "are_neighbours"] : List Str), (["_law_script", "_law_cell"] : List Str), (["_law_bag_here", "_law_many", "_law_begin", "_law_second", "_law_cell", "_law_mixed", "_law_drawn"] : List Str), (["_law_found", "_law_due"] : List Str), (["_law_bag_here", "_law_things"] : List Str), ([] : List Str), (["_law_one_here", "_law_other"] : List Str), (["_law_found"] : List Str), (["_law_one_here", "_law_other", "_law_told", "_law_words", "_law_name"] : List Str), (["_law_bag_here", "_law_bows", "_law_way_here", "_law_by", "_law_begin", "_law_end"] : List Str), (["_law_bag_here", "_law_name"] : List Str), (["_law_ways", "_law_bows", "_law_i", "_law_j"] : List Str), (["_law_thing"] : List Str), (["_law_ways", "_law_thing", "_law_bow", "_law_i", "_law_good", "_law_j", "_law_place"] : List Str), (["_law_found", "_law_bows"] : List Str), (["_law_bag_here", "_law_bows", "_law_found", "_law_at", "_law_way_here", "_law_by", "_law_begin", "_law_end"] : List Str), (["_law_bag_here", "_law_bows", "_law_found", "_law_way_here", "_law_at", "_law_kept"] : List Str), (["_law_script", "_law_bag_here", "_law_turn", "_law_ways", "_law_said", "_law_again", "_law_k", "_law_kind", "_law_rings", "_law_found", "_law_some", "_law_thing", "_law_told", "_law_due", "_law_bows"] : List Str)]
def G : Gd := { P := P, tops := [0, 1, 2, 3, 4, 5, 6, 7, 8, 9, 23, 24, 25, 26, 27, 28, 29, 30, 31, 32, 33, 34, 35, 36, 37, 38, 39, 40, 41], off := ["abs", "all", "bool", "int", "isinstance", "iter", "len", "list", "max", "range", "repr", "str", "tuple"] }
end K33

set_option Elab.async false
set_option linter.all false
set_option maxRecDepth 100000
set_option maxHeartbeats 4000000
/-! K33m1: rings judged. -/
namespace K33
open PySem BK
theorem f1 : P.defs[1]? = some t_is_integer := rfl
theorem f2 : P.defs[2]? = some (t_is_place 1 0) := rfl
theorem f3 : P.defs[3]? = some (t_is_bow 2) := rfl
theorem f4 : P.defs[4]? = some (t_are_bows 3) := rfl
theorem f5 : P.defs[5]? = some (t_is_way 1) := rfl
theorem f6 : P.defs[6]? = some (t_are_ways 5) := rfl
theorem f7 : P.defs[7]? = some (t_direction_of 8) := rfl
theorem f8 : P.defs[8]? = some t_direction_from_one_begin := rfl
theorem f9 : P.defs[9]? = some (t_way_of 7 2) := rfl
theorem f10 : P.defs[10]? = some (t_Kind_init 6 1) := rfl
theorem f21 : P.defs[21]? = some (t_Kind_lets 9) := rfl
theorem f25 : P.defs[25]? = some bagDef := rfl
theorem f26 : P.defs[26]? = some takeDef := rfl
theorem f27 : P.defs[27]? = some alikeDef := rfl
theorem f28 : P.defs[28]? = some (oneDef 26) := rfl
theorem f29 : P.defs[29]? = some t_law_all_ways := rfl
theorem f30 : P.defs[30]? = some t_law_direction := rfl
theorem f31 : P.defs[31]? = some t_law_pairs_of_words := rfl
theorem f32 : P.defs[32]? = some (t_law_way 30 31) := rfl
theorem f33 : P.defs[33]? = some (spreadDef 26) := rfl
theorem f34 : P.defs[34]? = some (t_law_ways_drawn 29 26) := rfl
theorem f35 : P.defs[35]? = some (t_law_lets 32) := rfl
theorem f36 : P.defs[36]? = some t_law_is_whole_number := rfl
theorem e23 : P.defs[23]? = some d23 := rfl
theorem e24 : P.defs[24]? = some d24 := rfl
theorem e37 : P.defs[37]? = some d37 := rfl
theorem e38 : P.defs[38]? = some d38 := rfl
theorem e39 : P.defs[39]? = some d39 := rfl
theorem e40 : P.defs[40]? = some d40 := rfl
theorem e41 : P.defs[41]? = some d41 := rfl
theorem g0 : P.gls[0]? = some (Str.ofString "FARTHEST", .int (10 ^ 30)) := rfl
theorem g1 : P.gls[1]? = some (Str.ofString "WAYS", waysT) := rfl
theorem g2 : P.gls[2]? = some (Str.ofString "WAYS_BY_DIRECTION", wbdD) := rfl
theorem kc : ∃ ms, P.cls[0]? = some (kCls 10 ms) := ⟨_, rfl⟩
theorem mlets : mth P 0 "lets" = some 21 := by kernel_rfl
theorem nsl : (Str.ofString "lets" = Str.ofString "_ways") = False := eq_false (by decide +kernel)
def wayD : D → D → Wy
  | .tup [.int a, .int b], .tup [.int c, .int d] => (dirI a b c d).way
  | _, _ => .apa
theorem bow_is {x : D} (h : bowQ x = true) : ∃ a b, x = Bw a b ∧ -far ≤ a ∧ a < b ∧ b ≤ far := by
  match x, h with
  | .tup [.int a, .int b], h =>
    simp only [bowQ, Bool.and_eq_true, decide_eq_true_eq] at h
    exact ⟨a, b, rfl, h.1.1, h.2, h.1.2⟩
theorem wayD_sym {x y : D} (hx : bowQ x = true) (hy : bowQ y = true) : wayD x y = wayD y x := by
  obtain ⟨a, b, rfl, _, h1, _⟩ := bow_is hx
  obtain ⟨c, d, rfl, _, h2, _⟩ := bow_is hy
  show (dirI a b c d).way = (dirI c d a b).way
  rw [dirI_rev h1 h2, R.rev_way]
/-- two of the five lie as they should -/
def okp (p : Wy → Bool) (xs : List D) (i j : Nat) : Bool := p (wayD (xs.getD i .non) (xs.getD j .non)) == (j - i == 1 || j - i == 4)
def ringQ (p : Wy → Bool) (xs : List D) : Bool := decide (xs.length = 5) && (xs.all bowQ && (List.range 5).all fun i => (List.range 5).all fun j => !decide (i < j) || okp p xs i j)
theorem ringQ_of {p : Wy → Bool} {xs : List D} (hl : xs.length = 5) (hb : xs.all bowQ = true) : ringQ p xs = true ↔ ∀ i j, i < j → j < 5 → okp p xs i j = true := by
  unfold ringQ
  rw [hl, hb]
  simp only [decide_true, Bool.true_and, List.all_eq_true, List.mem_range, Bool.or_eq_true, Bool.not_eq_true', decide_eq_false_iff_not]
  constructor
  · intro h i j h1 h2
    rcases h i (by omega) j h2 with z | z
    · exact absurd h1 z
    · exact z
  · intro h i hi j hj
    by_cases z : i < j
    · exact .inr (h i j z hj)
    · exact .inl z
def Ki (p : Wy → Bool) (s : Sl) : Prop := s = .sh false (kdW 0 p) ∨ s = .ow true (kdW 0 p)
def Li (xs : List D) (s : Sl) : Prop := s = .sh false (.lst xs) ∨ s = .ow true (.lst xs)
theorem getB {xs : List D} (hl : xs.length = 5) (hb : xs.all bowQ = true) {i : Nat} (hi : i < 5) : ∃ x, xs[i]? = some x ∧ bowQ x = true ∧ xs.getD i .non = x := by
  have : i < xs.length := by omega
  refine ⟨xs[i], List.getElem?_eq_getElem this, List.all_eq_true.mp hb _ (List.getElem_mem this), ?_⟩
  rw [List.getD_eq_getElem?_getD, List.getElem?_eq_getElem this]
  rfl
theorem int14 {z : Int} : op2 .isin (.int z) (.tup [.int 1, .int 4]) = some (.bl (z == 1 || z == 4), false) := by
  have : op2 .isin (.int z) (.tup [.int 1, .int 4]) = some (.bl (((1 : Int) == z) || ((4 == z) || false)), false) := rfl
  rw [this, Bool.or_false, Bool.beq_comm (a := (1 : Int)), Bool.beq_comm (a := (4 : Int))]
theorem nbl {a b : Bool} : op2 .ne (.bl a) (.bl b) = some (.bl (!(a == b)), false) := by cases a <;> cases b <;> rfl
theorem E24 {n : Nat} {p : Wy → Bool} {s t : Sl} {xs : List D} (hs : Ki p s) (ht : Li xs t) (h : ∀ x ∈ xs, dat2 x) (hl : xs.length ≤ 100000) :
    callAt P (n + 5) 24 [s, t] = some (.bl (ringQ p xs), false, [s, t]) := by
  obtain ⟨ms, hk⟩ := kc
  apply Ok.eq
  have ft : s.fit = true ∧ t.fit = true := by rcases hs with rfl | rfl <;> rcases ht with rfl | rfl <;> exact ⟨rfl, rfl⟩
  refine ok_call e24 rfl (by decide) (by rw [List.all_cons, List.all_cons, ft.1, ft.2]; rfl) ?_
  have qb := c_bows_l (n := n) f4 f3 f2 f1 g0 ht h hl
  by_cases h5 : xs.length = 5
  · by_cases hb : xs.all bowQ = true
    · rw [hb] at qb
      have h5' : ((xs.length : Int)) = 5 := by omega
      have start : Ok (retP 2 fun r => r = (D.bl (ringQ p xs), false, [s, t])) (exs P (callAt P (n + 4)) [s, t, .un, .un, .un] (.cons (.for_ (.one (.nm 2)) (.rng1 (.cst (.int 5)))
    (.cons (.for_ (.one (.nm 3)) (.rng2 (.ap2 .add (.var 2) (.cst (.int 1))) (.cst (.int 5)))
    (.cons (.asg (.one (.nm 4)) (.ap2 .isin (.ap2 .sub (.var 3) (.var 2)) (.tup (.cons (.cst (.int 1)) (.cons (.cst (.int 4)) .nil)))))
    (.cons (.iff (.cmp .ne (.meth "lets" (.var 0) (.cons (.ap2 .idx (.var 1) (.var 2)) (.cons (.ap2 .idx (.var 1) (.var 3)) .nil))) (.var 4))
    (.cons (.ret (.cst (.bl false)))
    .nil)
    .nil)
    .nil)))
    .nil))
    (.cons (.ret (.cst (.bl true)))
    .nil))) := by
        simp
        refine ok_forR (n := 5) (fun i ρ => (∀ i' j, i' < i → i' < j → j < 5 → okp p xs i' j = true) ∧ ∃ t2 t3 t4 : Sl, t2.pin = false ∧ t3.pin = false ∧ t4.pin = false ∧ ρ = [s, t, t2, t3, t4]) ⟨fun i' j z => by omega, .un, .un, .un, rfl, rfl, rfl, rfl⟩ ?_ ?_
        · rintro i ρ hi ⟨hok, t2, t3, t4, p2, p3, p4, rfl⟩
          have r1 : -100000 ≤ (i : Int) + 1 := by omega
          have r2 : (i : Int) + 1 ≤ 100000 := by omega
          simp [fBody, p2, r1, r2]
          refine ok_forR2 (fun k ρ => (∀ j, i < j → j < i + 1 + k → okp p xs i j = true) ∧ ∃ t3 t4 : Sl, t3.pin = false ∧ t4.pin = false ∧ ρ = [s, t, .sh false (.int i), t3, t4]) ⟨fun j z1 z2 => by omega, t3, t4, p3, p4, rfl⟩ ?_ ?_
          · rintro k ρ hk' ⟨hok2, t3, t4, p3, p4, rfl⟩
            have hj : i + 1 + k < 5 := by omega
            obtain ⟨x, x1, x2, x3⟩ := getB h5 hb hi
            obtain ⟨y, y1, y2, y3⟩ := getB h5 hb hj
            have ai : atD xs (i : Int) = some x := by rw [atD_nat, x1]
            have aj : atD xs ((i : Int) + 1 + k) = some y := by
              rw [show (i : Int) + 1 + k = ((i + 1 + k : Nat) : Int) by omega, atD_nat, y1]
            obtain ⟨a, b, rfl, _, hab, _⟩ := bow_is x2
            obtain ⟨c, d, rfl, _, hcd, _⟩ := bow_is y2
            have ql := c_lets (n := n) f21 f9 f7 f8 g2 hk hs hab hcd
            have hsub : (i : Int) + 1 + k - i = 1 + (k : Int) := by omega
            have ho : okp p xs i (i + 1 + k) = (p (dirI a b c d).way == (1 + k == 1 || 1 + k == 4)) := by
              unfold okp
              rw [x3, y3, show i + 1 + k - i = 1 + k by omega]
              rfl
            have h14 := int14 (z := 1 + (k : Int))
            have hc : ((1 + (k : Int) == 1) || (1 + (k : Int) == 4)) = (1 + k == 1 || 1 + k == 4) := by
              have : k < 4 := by omega
              match k, this with
              | 0, _ => rfl
              | 1, _ => rfl
              | 2, _ => rfl
              | 3, _ => rfl
            rw [hc] at h14
            generalize hB : (1 + k == 1 || 1 + k == 4) = B at h14 ho
            have hm := mlets
            have hn := nsl
            cases hv : (p (dirI a b c d).way == B) with
            | true =>
              rw [hv] at ho
              have nb := nbl (a := p (dirI a b c d).way) (b := B)
              rw [hv] at nb
              rcases hs with rfl | rfl <;> rcases ht with rfl | rfl <;>
                (simp [fBody, p3, p4, hsub, h14, ai, aj, kdW, hm] at ql ⊢
                 simp [ql, nb, hn]
                 intro j z1 z2
                 by_cases zz : j = i + 1 + k
                 · rw [zz]; exact ho
                 · exact hok2 j z1 (by omega))
            | false =>
              rw [hv] at ho
              have nb := nbl (a := p (dirI a b c d).way) (b := B)
              rw [hv] at nb
              have hr : ringQ p xs = false := by
                rw [← Bool.not_eq_true, ringQ_of h5 hb]
                intro z
                have := z i (i + 1 + k) (by omega) hj
                rw [ho] at this
                cases this
              rcases hs with rfl | rfl <;> rcases ht with rfl | rfl <;>
                (simp [fBody, p3, p4, hsub, h14, ai, aj, kdW, hm] at ql ⊢
                 simp [ql, nb, hr, hn])
          · rintro ρ ⟨hok2, t3, t4, p3, p4, rfl⟩
            simp
            refine ⟨fun i' j z1 z2 z3 => ?_, _, rfl, _, p3, _, p4, rfl, rfl, rfl⟩
            by_cases zz : i' = i
            · subst zz; exact hok2 j z2 (by omega)
            · exact hok i' j (by omega) z2 z3
        · rintro ρ ⟨hok, t2, t3, t4, p2, p3, p4, rfl⟩
          have hr : ringQ p xs = true := (ringQ_of h5 hb).mpr fun i j z1 z2 => hok i j (by omega) z1 z2
          simp [hr]
      rcases hs with rfl | rfl <;> rcases ht with rfl | rfl <;>
        (simp [d24, List.replicate, h5', qb] at start ⊢
         exact start)
    · have hb' : xs.all bowQ = false := by simpa using hb
      rw [hb'] at qb
      have hr : ringQ p xs = false := by unfold ringQ; rw [hb']; simp
      have h5' : ((xs.length : Int)) = 5 := by omega
      rcases hs with rfl | rfl <;> rcases ht with rfl | rfl <;> simp [d24, List.replicate, h5', qb, hr]
  · have h5' : ¬ ((xs.length : Int)) = 5 := by omega
    have hr : ringQ p xs = false := by unfold ringQ; rw [decide_eq_false h5]; rfl
    rcases hs with rfl | rfl <;> rcases ht with rfl | rfl <;> simp [d24, List.replicate, h5', hr]
theorem E24n {n : Nat} {p : Wy → Bool} {s t : Sl} {d : D} (hs : Ki p s) (ht : t = .sh false d ∨ t = .ow true d) (h : d.isi .list = false) (h2 : d.dat = true) : callAt P (n + 1) 24 [s, t] = some (.bl false, false, [s, t]) := by
  have := dat_okI (P := P) h2
  rcases hs with rfl | rfl <;> rcases ht with rfl | rfl <;> (rw [call_eq e24 rfl (by decide) rfl]; simp [d24, List.replicate, h, this])
end K33

set_option Elab.async false
set_option linter.all false
set_option maxRecDepth 100000
set_option maxHeartbeats 4000000
/-! K33m2: rings judged by the law itself. -/
namespace K33
open PySem BK
theorem E35 {n : Nat} {a b c d : Int} {p : Wy → Bool} {w s : Sl} {xs : List D} {i j : Int} (hw : w = .sh false (.lst ((wset p).map nw)) ∨ w = .ow true (.lst ((wset p).map nw))) (hs : Li xs s) (hi : atD xs i = some (Bw a b)) (hj : atD xs j = some (Bw c d)) (h1 : a < b) (h2 : c < d) :
    callAt P (n + 3) 35 [w, s, .sh false (.int i), .sh false (.int j)] = some (.bl (p (dirI a b c d).way), false, [w, s, .sh false (.int i), .sh false (.int j)]) := by
  have q := c_law_way (n := n) f32 f30 f31 h1 h2
  have hin := inW (O := wset p) (r := (dirI a b c d).way)
  rw [dec_wset] at hin
  rcases hw with rfl | rfl <;> rcases hs with rfl | rfl <;>
    (rw [call_eq f35 rfl (by decide) rfl]
     simp [t_law_lets, List.replicate, hi, hj, q, hin])
theorem okp_sym {p : Wy → Bool} {xs : List D} (hl : xs.length = 5) (hb : xs.all bowQ = true) {i j : Nat} (h : j < i) (hi : i < 5) : okp p xs j i = (p (wayD (xs.getD i .non) (xs.getD j .non)) == (i - j == 1 || i - j == 4)) := by
  obtain ⟨x, _, x2, x3⟩ := getB hl hb hi
  obtain ⟨y, _, y2, y3⟩ := getB hl hb (show j < 5 by omega)
  unfold okp
  rw [x3, y3, wayD_sym x2 y2]
/-- what the law asks of one bow -/
theorem goodB {n : Nat} {xs : List D} {ρ : Rho} : True := trivial
def bT : Ss := (.cons (.iff (.any (.cons (.not (.val (.isi [.tuple] (.var 2)))) (.cons (.cmp .ne (.ap1 .len (.var 2)) (.cst (.int 2))) .nil)))
    (.cons (.ret (.cst (.bl false)))
    .nil)
    .nil)
    (.cons (.asg (.one (.nm 4)) (.lc (.and (.cons (.call 36 (.cons (.var 6) .nil)) (.cons (.chn .le .le (.ap1 .neg (.ap2 .pow (.cst (.int 10)) (.cst (.int 30)))) (.var 6) (.ap2 .pow (.cst (.int 10)) (.cst (.int 30)))) .nil))) (.one (.nm 6)) (.seq (.var 2)) .nil))
    (.cons (.iff (.any (.cons (.cmp .ne (.var 4) (.lst (.cons (.cst (.bl true)) (.cons (.cst (.bl true)) .nil)))) (.cons (.cmp .ge (.ap2 .idx (.var 2) (.cst (.int 0))) (.ap2 .idx (.var 2) (.cst (.int 1)))) .nil)))
    (.cons (.ret (.cst (.bl false)))
    .nil)
    .nil)
    .nil)))
theorem good_elt {cf : Call} {ρ : Rho} {x : D} (hd : x.dat = true) (hc : cf 36 [.sh false x] = some (.bl (intQ x), false, [.sh false x])) (h6 : ρ[6]? = some (.sh false x)) :
    ev P cf ρ (.and (.cons (.call 36 (.cons (.var 6) .nil)) (.cons (.chn .le .le (.ap1 .neg (.ap2 .pow (.cst (.int 10)) (.cst (.int 30)))) (.var 6) (.ap2 .pow (.cst (.int 10)) (.cst (.int 30)))) .nil))) = some (.bl (placeQ x), false, ρ) := by
  cases x <;> first
    | (cases hd; done)
    | (simp [h6, hc, intQ, placeQ]; done)
    | skip
  rename_i i
  by_cases h1 : -far ≤ i
  · have h1' : -1000000000000000000000000000000 ≤ i := h1
    by_cases h2 : i ≤ far
    · have h2' : i ≤ 1000000000000000000000000000000 := h2
      simp [h6, hc, intQ, placeQ, h1, h2, h1', h2']
    · have h2' : ¬ i ≤ 1000000000000000000000000000000 := h2
      simp [h6, hc, intQ, placeQ, h1, h2, h1', h2']
  · have h1' : ¬ -1000000000000000000000000000000 ≤ i := h1
    simp [h6, hc, intQ, placeQ, h1, h1']
theorem tt_ne {a b : Bool} : op2 .ne (.lst [.bl a, .bl b]) (.lst [.bl true, .bl true]) = some (.bl (!(a && b)), false) := by cases a <;> cases b <;> rfl
theorem step37 {n : Nat} {x : D} {w t : Sl} {t2 t4 t5 t6 : Sl} {t3 : Sl} (h : dat2 x) (p2 : t2.pin = false) (p4 : t4.pin = false) (p6 : t6 = .un) :
    ∃ t4', t4'.pin = false ∧ fBody P (callAt P (n + 1)) (.one (.nm 2)) bT [w, t, t2, t3, t4, t5, t6] x = some (if bowQ x then .nx [w, t, .sh false x, t3, t4', t5, t6] else .rt (.bl false) false [w, t, .sh false x, t3, t4', t5, t6]) := by
  subst p6
  by_cases ht : ∃ xs, x = .tup xs
  · obtain ⟨xs, rfl⟩ := ht
    have hx := h.2 xs rfl
    match xs, hx with
    | [], _ => exact ⟨t4, p4, by simp [fBody, bT, p2, bowQ]⟩
    | [x], _ => exact ⟨t4, p4, by simp [fBody, bT, p2, bowQ]⟩
    | [x, y], hx =>
      have q1 := c_whole (n := n) (P := P) f36 (hx x (by simp))
      have q2 := c_whole (n := n) (P := P) f36 (hx y (by simp))
      have g1 := good_elt (cf := callAt P (n + 1)) (ρ := [w, t, .sh false (.tup [x, y]), t3, t4, t5, .sh false x]) (hx x (by simp)) q1 rfl
      have g2 := good_elt (cf := callAt P (n + 1)) (ρ := [w, t, .sh false (.tup [x, y]), t3, t4, t5, .sh false y]) (hx y (by simp)) q2 rfl
      have hl : lcLoop (lcBody P (callAt P (n + 1)) (.and (.cons (.call 36 (.cons (.var 6) .nil)) (.cons (.chn .le .le (.ap1 .neg (.ap2 .pow (.cst (.int 10)) (.cst (.int 30)))) (.var 6) (.ap2 .pow (.cst (.int 10)) (.cst (.int 30)))) .nil))) (.one (.nm 6)) .nil) [w, t, .sh false (.tup [x, y]), t3, t4, t5, .un] [x, y] = some ([.bl (placeQ x), .bl (placeQ y)], [w, t, .sh false (.tup [x, y]), t3, t4, t5, .un]) := by
        have b1 : lcBody P (callAt P (n + 1)) (.and (.cons (.call 36 (.cons (.var 6) .nil)) (.cons (.chn .le .le (.ap1 .neg (.ap2 .pow (.cst (.int 10)) (.cst (.int 30)))) (.var 6) (.ap2 .pow (.cst (.int 10)) (.cst (.int 30)))) .nil))) (.one (.nm 6)) .nil [w, t, .sh false (.tup [x, y]), t3, t4, t5, .un] x = some (some (.bl (placeQ x)), [w, t, .sh false (.tup [x, y]), t3, t4, t5, .un]) := by
          show kLb _ _ _ _ _ _ = _
          simp only [show Tg.bind (wipeR [w, t, Sl.sh false (D.tup [x, y]), t3, t4, t5, Sl.un] (Tg.one (Tg1.nm 6)).own) x false (.one (.nm 6)) = some [w, t, Sl.sh false (D.tup [x, y]), t3, t4, t5, Sl.sh false x] from rfl, kLb_some, evAll_nil, kLt_t, g1, kLe_some]
          rfl
        have b2 : lcBody P (callAt P (n + 1)) (.and (.cons (.call 36 (.cons (.var 6) .nil)) (.cons (.chn .le .le (.ap1 .neg (.ap2 .pow (.cst (.int 10)) (.cst (.int 30)))) (.var 6) (.ap2 .pow (.cst (.int 10)) (.cst (.int 30)))) .nil))) (.one (.nm 6)) .nil [w, t, .sh false (.tup [x, y]), t3, t4, t5, .un] y = some (some (.bl (placeQ y)), [w, t, .sh false (.tup [x, y]), t3, t4, t5, .un]) := by
          show kLb _ _ _ _ _ _ = _
          simp only [show Tg.bind (wipeR [w, t, Sl.sh false (D.tup [x, y]), t3, t4, t5, Sl.un] (Tg.one (Tg1.nm 6)).own) y false (.one (.nm 6)) = some [w, t, Sl.sh false (D.tup [x, y]), t3, t4, t5, Sl.sh false y] from rfl, kLb_some, evAll_nil, kLt_t, g2, kLe_some]
          rfl
        rw [lcLoop_cons, b1, kLc_some, lcLoop_cons, b2, kLc_some]
        rfl
      have ne := tt_ne (a := placeQ x) (b := placeQ y)
      rw [bow_place]
      refine ⟨.ow false (.lst [.bl (placeQ x), .bl (placeQ y)]), rfl, ?_⟩
      cases p1 : placeQ x
      · rw [p1] at hl ne
        simp [fBody, bT, p2, p4, hl, ne]
      · cases p2' : placeQ y
        · rw [p1, p2'] at hl ne
          simp [fBody, bT, p2, p4, hl, ne]
        · rw [p1, p2'] at hl ne
          obtain ⟨a, rfl⟩ : ∃ a, x = .int a := by cases x <;> first | exact ⟨_, rfl⟩ | cases p1
          obtain ⟨b, rfl⟩ : ∃ a, y = .int a := by cases y <;> first | exact ⟨_, rfl⟩ | cases p2'
          by_cases hab : a < b
          · have hab' : ¬ b ≤ a := by omega
            simp [fBody, bT, p2, p4, hl, ne, hab, hab']
          · have hab' : b ≤ a := by omega
            simp [fBody, bT, p2, p4, hl, ne, hab, hab']
    | x :: y :: z :: r, _ =>
      have h1 : ¬ ((r.length : Int) + 1 + 1 + 1 = 2) := by omega
      exact ⟨t4, p4, by simp [fBody, bT, p2, bowQ, h1]⟩
  · have hi : x.isi .tuple = false := by
      cases x <;> first
        | rfl
        | exact absurd ⟨_, rfl⟩ ht
    have hb : bowQ x = false := by
      cases x <;> first
        | rfl
        | exact absurd ⟨_, rfl⟩ ht
    exact ⟨t4, p4, by simp [fBody, bT, p2, hi, hb, dat_okI h.1]⟩
def Wi (p : Wy → Bool) (w : Sl) : Prop := w = .sh false (.lst ((wset p).map nw)) ∨ w = .ow true (.lst ((wset p).map nw))
/-- behind the first walk: the pairs -/
theorem pairs37 {n : Nat} {p : Wy → Bool} {w t t2 t4 : Sl} {xs : List D} (hw : Wi p w) (ht : Li xs t) (p2 : t2.pin = false) (p4 : t4.pin = false) (h5 : xs.length = 5) (hb : xs.all bowQ = true) :
    Ok (retP 2 fun r => r = (D.bl (ringQ p xs), false, [w, t])) (exs P (callAt P (n + 3)) [w, t, t2, .un, t4, .un, .un] (.cons (.for_ (.one (.nm 3)) (.rng1 (.cst (.int 5)))
    (.cons (.for_ (.one (.nm 5)) (.rng1 (.var 3))
    (.cons (.iff (.cmp .ne (.call 35 (.cons (.var 0) (.cons (.var 1) (.cons (.var 3) (.cons (.var 5) .nil))))) (.ap2 .isin (.ap2 .sub (.var 3) (.var 5)) (.tup (.cons (.cst (.int 1)) (.cons (.cst (.int 4)) .nil)))))
    (.cons (.ret (.cst (.bl false)))
    .nil)
    .nil)
    .nil))
    .nil))
    (.cons (.ret (.cst (.bl true)))
    .nil))) := by
  simp
  refine ok_forR (n := 5) (fun i ρ => (∀ i' j, j < i' → i' < i → okp p xs j i' = true) ∧ ∃ t3 t5 : Sl, t3.pin = false ∧ t5.pin = false ∧ ρ = [w, t, t2, t3, t4, t5, .un]) ⟨fun i' j z => by omega, .un, .un, rfl, rfl, rfl⟩ ?_ ?_
  · rintro i ρ hi ⟨hok, t3, t5, p3, p5, rfl⟩
    have r1 : -100000 ≤ (i : Int) := by omega
    have r2 : (i : Int) ≤ 100000 := by omega
    simp [fBody, p3, r1, r2]
    refine ok_forR (n := i) (fun k ρ => (∀ j, j < k → okp p xs j i = true) ∧ ∃ t5 : Sl, t5.pin = false ∧ ρ = [w, t, t2, .sh false (.int i), t4, t5, .un]) ⟨fun j z1 => by omega, t5, p5, rfl⟩ ?_ ?_
    · rintro k ρ hk' ⟨hok2, t5, p5, rfl⟩
      obtain ⟨x, x1, x2, x3⟩ := getB h5 hb hi
      obtain ⟨y, y1, y2, y3⟩ := getB h5 hb (show k < 5 by omega)
      have ai : atD xs (i : Int) = some x := by rw [atD_nat, x1]
      have aj : atD xs (k : Int) = some y := by rw [atD_nat, y1]
      have ho := okp_sym (p := p) h5 hb hk' hi
      obtain ⟨a, b, rfl, _, hab, _⟩ := bow_is x2
      obtain ⟨c, d, rfl, _, hcd, _⟩ := bow_is y2
      have ql := E35 (n := n) hw ht ai aj hab hcd
      have hsub : (i : Int) - k = ((i - k : Nat) : Int) := by omega
      have h14 := int14 (z := (i : Int) - k)
      have hc : (((i : Int) - k == 1) || ((i : Int) - k == 4)) = (i - k == 1 || i - k == 4) := by
        rw [hsub]
        have : i - k < 5 := by omega
        generalize i - k = m at this ⊢
        match m, this with
        | 0, _ => rfl
        | 1, _ => rfl
        | 2, _ => rfl
        | 3, _ => rfl
        | 4, _ => rfl
      rw [hc] at h14
      rw [x3, y3] at ho
      have ho : okp p xs k i = (p (dirI a b c d).way == (i - k == 1 || i - k == 4)) := ho
      generalize hB : (i - k == 1 || i - k == 4) = B at h14 ho
      have nb := nbl (a := p (dirI a b c d).way) (b := B)
      cases hv : (p (dirI a b c d).way == B) with
      | true =>
        rw [hv] at ho nb
        rcases hw with rfl | rfl <;> rcases ht with rfl | rfl <;>
          (simp [fBody, p5, h14, ql, nb]
           intro j z1
           by_cases zz : j = k
           · rw [zz]; exact ho
           · exact hok2 j (by omega))
      | false =>
        rw [hv] at ho nb
        have hr : ringQ p xs = false := by
          rw [← Bool.not_eq_true, ringQ_of h5 hb]
          intro z
          have := z k i (by omega) hi
          rw [ho] at this
          cases this
        rcases hw with rfl | rfl <;> rcases ht with rfl | rfl <;> simp [fBody, p5, h14, ql, nb, hr]
    · rintro ρ ⟨hok2, t5, p5, rfl⟩
      simp
      refine ⟨fun i' j z1 z2 => ?_, p5⟩
      by_cases zz : i' = i
      · subst zz; exact hok2 j z1
      · exact hok i' j z1 (by omega)
  · rintro ρ ⟨hok, t3, t5, p3, p5, rfl⟩
    have hr : ringQ p xs = true := (ringQ_of h5 hb).mpr fun i j z1 z2 => hok j i z1 z2
    simp [hr]
theorem E37 {n : Nat} {p : Wy → Bool} {w t : Sl} {xs : List D} (hw : Wi p w) (ht : Li xs t) (h : ∀ x ∈ xs, dat2 x) (hl : xs.length ≤ 99999) :
    callAt P (n + 4) 37 [w, t] = some (.bl (ringQ p xs), false, [w, t]) := by
  apply Ok.eq
  have ft : w.fit = true ∧ t.fit = true := by rcases hw with rfl | rfl <;> rcases ht with rfl | rfl <;> exact ⟨rfl, rfl⟩
  refine ok_call e37 rfl (by decide) (by rw [List.all_cons, List.all_cons, ft.1, ft.2]; rfl) ?_
  by_cases h5 : xs.length = 5
  · have h5' : ((xs.length : Int)) = 5 := by omega
    have early : ∀ x, x ∈ xs → bowQ x = false → ringQ p xs = false := fun x hx z => by
      have : xs.all bowQ = false := by
        rw [← Bool.not_eq_true, List.all_eq_true]
        intro y
        have := y x hx
        rw [z] at this; cases this
      unfold ringQ
      rw [this]; simp
    rcases ht with rfl | rfl
    · have go : Ok (retP 2 fun r => r = (D.bl (ringQ p xs), false, [w, Sl.sh false (.lst xs)])) (exs P (callAt P (n + 3)) [w, .sh false (.lst xs), .un, .un, .un, .un, .un] d37.body) := by
        simp [d37, h5']
        refine ok_for (fun pre ρ => pre.all bowQ = true ∧ ∃ t2 t4 : Sl, t2.pin = false ∧ t4.pin = false ∧ ρ = [w, .sh false (.lst xs), t2, .un, t4, .un, .un]) ⟨rfl, .un, .un, rfl, rfl, rfl⟩ ?_ ?_
        · rintro pre x suf ρ e ⟨hp, t2, t4, p2, p4, rfl⟩
          have hx : x ∈ xs := by rw [e]; simp
          obtain ⟨t4', q4, e1⟩ := step37 (n := n + 2) (w := w) (t := .sh false (.lst xs)) (t3 := .un) (t5 := .un) (h x hx) p2 p4 rfl
          unfold bT at e1
          rw [e1]
          cases hb : bowQ x with
          | true => simp [hb, hp, q4]; try (simpa using hp)
          | false => simp [early x hx hb]
        · rintro ρ ⟨hp, t2, t4, p2, p4, rfl⟩
          have := pairs37 (n := n) hw (.inl rfl) p2 p4 h5 hp
          simpa using this
      have := go
      rcases hw with rfl | rfl <;> simpa [d37, List.replicate] using this
    · have go : Ok (retP 2 fun r => r = (D.bl (ringQ p xs), false, [w, Sl.ow true (.lst xs)])) (exs P (callAt P (n + 3)) [w, .ow true (.lst xs), .un, .un, .un, .un, .un] d37.body) := by
        simp [d37, h5']
        refine ok_fw (xs := xs) (p := true) (fun pre ρ => pre.all bowQ = true ∧ ∃ t2 t4 : Sl, t2.pin = false ∧ t4.pin = false ∧ ρ = [w, .ow true (.lst xs), t2, .un, t4, .un, .un]) (by omega) (by rintro pre ρ ⟨_, t2, t4, _, _, rfl⟩; rfl) ⟨rfl, .un, .un, rfl, rfl, rfl⟩ ?_ ?_
        · rintro pre x suf ρ e ⟨hp, t2, t4, p2, p4, rfl⟩
          have hx : x ∈ xs := by rw [e]; simp
          obtain ⟨t4', q4, e1⟩ := step37 (n := n + 2) (w := w) (t := .ow true (.lst xs)) (t3 := .un) (t5 := .un) (h x hx) p2 p4 rfl
          unfold bT at e1
          rw [e1]
          cases hb : bowQ x with
          | true => simp [hb, hp, q4]; try (simpa using hp)
          | false => simp [early x hx hb]
        · rintro ρ ⟨hp, t2, t4, p2, p4, rfl⟩
          have := pairs37 (n := n) hw (.inr rfl) p2 p4 h5 hp
          simpa using this
      have := go
      rcases hw with rfl | rfl <;> simpa [d37, List.replicate] using this
  · have h5' : ¬ ((xs.length : Int)) = 5 := by omega
    have hr : ringQ p xs = false := by unfold ringQ; rw [decide_eq_false h5]; rfl
    rcases hw with rfl | rfl <;> rcases ht with rfl | rfl <;> simp [d37, List.replicate, h5', hr]
theorem E37n {n : Nat} {p : Wy → Bool} {w t : Sl} {d : D} (hw : Wi p w) (ht : t = .sh false d ∨ t = .ow true d) (h : d.isi .list = false) (h2 : d.dat = true) : callAt P (n + 1) 37 [w, t] = some (.bl false, false, [w, t]) := by
  have := dat_okI (P := P) h2
  rcases hw with rfl | rfl <;> rcases ht with rfl | rfl <;> (rw [call_eq e37 rfl (by decide) rfl]; simp [d37, List.replicate, h, this])
end K33

set_option Elab.async false
set_option linter.all false
set_option maxRecDepth 100000
set_option maxHeartbeats 4000000
/-! K33m3: rings told, rings known. -/
namespace K33
open PySem BK
abbrev bw (x : Int × Int) : D := Bw x.1 x.2
def RI : List (List (Int × Int)) := [[(0, 1), (1, 2), (2, 3), (3, 4), (1, 3)], [(0, 2), (1, 3), (2, 4), (0, 3), (1, 4)], [(0, 1), (2, 3), (0, 4), (1, 2), (3, 4)], [(0, 1), (1, 2), (2, 3), (3, 4), (0, 3)], [(0, 1), (1, 2), (2, 3), (3, 4), (1, 4)], [(0, 4), (1, 5), (1, 3), (2, 4), (3, 5)], [(0, 2), (1, 3), (2, 4), (0, 4), (1, 5)], [(0, 2), (2, 4), (0, 5), (1, 3), (3, 5)]]
def OI : List (List Nat) := [[0, 1, 2, 3, 4], [0, 2, 4, 1, 3]]
def KI : List (List (Int × Int)) :=
  let ks : List (List (Int × Int)) := [[(0, 1), (1, 3), (3, 4), (2, 3), (1, 2)], [(0, 3), (2, 5), (4, 7), (6, 9), (1, 8)], [(0, 1), (0, 2), (2, 3), (3, 4), (1, 3)], [(0, 1), (1, 2), (2, 3), (3, 4), (0, 4)], [(0, 7), (1, 2), (0, 4), (3, 7), (5, 6)], [(0, 4), (5, 6), (2, 3), (4, 8), (1, 7)], [(3, 4), (2, 4), (1, 2), (0, 1), (1, 3)]]
  ks ++ ks.map fun r => [0, 2, 4, 1, 3].map fun i => r.getD i (0, 0)
def cand (r : List (Int × Int)) (o : List Nat) : List (Int × Int) := o.map fun i => r.getD i (0, 0)
def ringD (r : List (Int × Int)) : D := .lst (r.map bw)
theorem g3 : P.gls[3]? = some (Str.ofString "RINGS", .tup (RI.map fun r => .tup (r.map bw))) := rfl
theorem g4 : P.gls[4]? = some (Str.ofString "RING_ORDERS", .tup (OI.map fun o => .tup (o.map fun k => .int (k : Nat)))) := rfl
theorem RI5 : ∀ r ∈ RI, r.length = 5 := by decide
theorem OI5 : ∀ o ∈ OI, o.length = 5 ∧ ∀ k ∈ o, k < 5 := by decide
def small (r : List (Int × Int)) : Prop := r.length = 5 ∧ ∀ x ∈ r, 0 ≤ x.1 ∧ x.1 < x.2 ∧ x.2 ≤ 9
instance (r : List (Int × Int)) : Decidable (small r) := inferInstanceAs (Decidable (_ ∧ _))
theorem candS : ∀ r ∈ RI, ∀ o ∈ OI, small (cand r o) := by decide
theorem knownS : ∀ r ∈ KI, small r := by decide
theorem dat_bw {x : Int × Int} : dat2 (bw x) := ⟨rfl, fun xs e y hy => by cases e; simp at hy; rcases hy with rfl | rfl <;> rfl⟩
theorem dat_bws {r : List (Int × Int)} : ∀ x ∈ r.map bw, dat2 x := fun x hx => by
  obtain ⟨y, _, rfl⟩ := List.mem_map.mp hx
  exact dat_bw
theorem E23 {n : Nat} {p : Wy → Bool} {s : Sl} (hs : Ki p s) : ∃ d fr, callAt P (n + 6) 23 [s] = some (d, fr, [s]) ∧ ((d = .non ∧ fr = false ∧ ∀ r ∈ RI, ∀ o ∈ OI, ringQ p ((cand r o).map bw) = false) ∨ ∃ r ∈ RI, ∃ o ∈ OI, d = ringD (cand r o) ∧ fr = true ∧ ringQ p ((cand r o).map bw) = true) := by
  have main : Ok (fun x => ∃ d fr, x = (d, fr, [s]) ∧ ((d = .non ∧ fr = false ∧ ∀ r ∈ RI, ∀ o ∈ OI, ringQ p ((cand r o).map bw) = false) ∨ ∃ r ∈ RI, ∃ o ∈ OI, d = ringD (cand r o) ∧ fr = true ∧ ringQ p ((cand r o).map bw) = true)) (callAt P (n + 6) 23 [s]) := by
    have fs : s.fit = true := by rcases hs with rfl | rfl <;> rfl
    refine ok_call e23 rfl (by decide) (by rw [List.all_cons, fs]; rfl) ?_
    generalize hQ : (retP _ _ : Out → Prop) = Q
    have start : Ok Q (exs P (callAt P (n + 5)) [s, .un, .un, .un, .un] d23.body) := by
      simp [d23, g3]
      refine ok_forM (fun pre ρ => (∀ r ∈ pre, ∀ o ∈ OI, ringQ p ((cand r o).map bw) = false) ∧ ∃ t1 t2 t3 : Sl, t1.pin = false ∧ t2.pin = false ∧ t3.pin = false ∧ ρ = [s, t1, t2, t3, .un]) ⟨by simp, .un, .un, .un, rfl, rfl, rfl, rfl⟩ ?_ ?_
      · rintro pre r suf ρ e ⟨hp, t1, t2, t3, p1, p2, p3, rfl⟩
        have hr : r ∈ RI := by rw [e]; simp
        simp [fBody, p1, g4]
        refine ok_forM (fun pre' ρ => (∀ o ∈ pre', ringQ p ((cand r o).map bw) = false) ∧ ∃ t2 t3 : Sl, t2.pin = false ∧ t3.pin = false ∧ ρ = [s, .sh false (.tup (r.map bw)), t2, t3, .un]) ⟨by simp, t2, t3, p2, p3, rfl⟩ ?_ ?_
        · rintro pre' o suf' ρ e' ⟨hp', t2, t3, p2, p3, rfl⟩
          have ho : o ∈ OI := by rw [e']; simp
          have l5 := RI5 r hr
          have o5 := OI5 o ho
          have hl : lcLoop (lcBody P (callAt P (n + 5)) (.ap2 .idx (.var 1) (.var 4)) (.one (.nm 4)) .nil) [s, .sh false (.tup (r.map bw)), .sh false (.tup (o.map fun k => .int (k : Nat))), t3, .un] (o.map fun k => .int (k : Nat)) = some ((cand r o).map bw, [s, .sh false (.tup (r.map bw)), .sh false (.tup (o.map fun k => .int (k : Nat))), t3, .un]) := by
            unfold cand
            rw [List.map_map]
            refine lcLoop_mM (bw ∘ fun i => r.getD i (0, 0)) fun k hk => ?_
            have hk5 := o5.2 k hk
            have ha : atD (r.map bw) (k : Int) = some (bw (r.getD k (0, 0))) := by
              rw [atD_nat, List.getElem?_map, List.getD_eq_getElem?_getD, List.getElem?_eq_getElem (by omega)]
              rfl
            simp [lcBody, ha]
          have o5' : o.length ≤ 100000 := by omega
          have q := E24 (n := n) hs (.inr rfl) (dat_bws (r := cand r o)) (by rw [List.length_map]; unfold cand; rw [List.length_map]; omega)
          cases hv : ringQ p ((cand r o).map bw) with
          | false =>
            rw [hv] at q
            rcases hs with rfl | rfl <;>
              (simp [fBody, p2, p3, hl, o5', q]
               intro o' ho'
               rcases ho' with h | h
               · exact hp' o' h
               · rw [h]; exact hv)
          | true =>
            rw [hv] at q
            rcases hs with rfl | rfl <;>
              (simp [fBody, p2, p3, hl, o5', q]
               rw [← hQ]
               exact ⟨_, _, rfl, .inr ⟨r, hr, o, ho, rfl, rfl, hv⟩⟩)
        · rintro ρ ⟨hp', t2, t3, p2, p3, rfl⟩
          simp [p2, p3]
          refine ⟨fun r' hr' o ho => ?_, _, rfl, _, p2, _, p3, rfl, rfl, rfl⟩
          rcases hr' with h | h
          · exact hp r' h o ho
          · rw [h]; exact hp' o ho
      · rintro ρ ⟨hp, t1, t2, t3, p1, p2, p3, rfl⟩
        simp
        rw [← hQ]
        exact ⟨_, _, rfl, .inl ⟨rfl, rfl, hp⟩⟩
    exact start
  obtain ⟨x, e, d, fr, rfl, h⟩ := main
  exact ⟨d, fr, e, h⟩
theorem E38 {n : Nat} : callAt P (n + 1) 38 [] = some (.lst (KI.map ringD), true, []) := by kernel_rfl
/-- told rings are there just where known ones are -/
def mkP (b0 b1 b2 b3 b4 b5 b6 : Bool) : Wy → Bool
  | .apa => b0 | .beg => b1 | .cha => b2 | .cro => b3 | .end_ => b4 | .sam => b5 | .wit => b6
theorem eta_p (p : Wy → Bool) : p = mkP (p .apa) (p .beg) (p .cha) (p .cro) (p .end_) (p .sam) (p .wit) := by
  funext w; cases w <;> rfl
def rows (r : List (Int × Int)) : List (Wy × Bool) := ((List.range 5).map fun i => ((List.range 5).filter fun j => i < j).map fun j => (wayD (bw (r.getD i (0, 0))) (bw (r.getD j (0, 0))), (j - i == 1 || j - i == 4))).flatten
theorem ring_rows {p : Wy → Bool} {r : List (Int × Int)} (h : small r) : ringQ p (r.map bw) = (rows r).all fun x => p x.1 == x.2 := by
  obtain ⟨h5, hx⟩ := h
  have hb : (r.map bw).all bowQ = true := by
    rw [List.all_map, List.all_eq_true]
    intro x hx'
    obtain ⟨z1, z2, z3⟩ := hx x hx'
    have e : far = 1000000000000000000000000000000 := rfl
    simp only [Function.comp, bowQ, Bool.and_eq_true, decide_eq_true_eq, e]
    omega
  have hd : ∀ i, i < 5 → (r.map bw).getD i .non = bw (r.getD i (0, 0)) := fun i hi => by
    rw [List.getD_eq_getElem?_getD, List.getElem?_map, List.getD_eq_getElem?_getD, List.getElem?_eq_getElem (by omega)]
    rfl
  rw [Bool.eq_iff_iff, ringQ_of (by rw [List.length_map]; exact h5) hb]
  simp only [rows, List.all_eq_true, List.mem_flatten]
  constructor
  · rintro h x ⟨l, hl, hx⟩
    obtain ⟨i, hi0, rfl⟩ := List.mem_map.mp hl
    have hi : i < 5 := by simpa using hi0
    obtain ⟨j, hj0, rfl⟩ := List.mem_map.mp hx
    obtain ⟨hj1, hj2⟩ := List.mem_filter.mp hj0
    have hj : j < 5 := by simpa using hj1
    have hij : i < j := by simpa using hj2
    have := h i j hij hj
    unfold okp at this
    rw [hd i hi, hd j hj] at this
    exact this
  · intro h i j hij hj
    unfold okp
    rw [hd i (by omega), hd j hj]
    exact eq_of_beq (by simpa using h _ ⟨_, List.mem_map.mpr ⟨i, by simp; omega, rfl⟩, List.mem_map.mpr ⟨j, List.mem_filter.mpr ⟨by simpa using hj, by simpa using hij⟩, rfl⟩⟩) |> beq_iff_eq.mpr
def exC (p : Wy → Bool) : Bool := RI.any fun r => OI.any fun o => (rows (cand r o)).all fun x => p x.1 == x.2
def exK (p : Wy → Bool) : Bool := KI.any fun r => (rows r).all fun x => p x.1 == x.2
theorem ex_eq0 : ∀ b0 b1 b2 b3 b4 b5 b6 : Bool, exC (mkP b0 b1 b2 b3 b4 b5 b6) = exK (mkP b0 b1 b2 b3 b4 b5 b6) := by decide +kernel
theorem ex_eq (p : Wy → Bool) : exC p = exK p := by rw [eta_p p]; exact ex_eq0 ..
theorem known_iff {p : Wy → Bool} : (KI.filter fun r => ringQ p (r.map bw)) = [] ↔ ∀ r ∈ RI, ∀ o ∈ OI, ringQ p ((cand r o).map bw) = false := by
  have h := ex_eq p
  rw [Bool.eq_iff_iff] at h
  unfold exC exK at h
  simp only [List.any_eq_true] at h
  rw [List.filter_eq_nil_iff]
  constructor
  · intro z r hr o ho
    rw [← Bool.not_eq_true]
    intro y
    rw [ring_rows (candS r hr o ho)] at y
    obtain ⟨k, hk, q⟩ := h.mp ⟨r, hr, o, ho, y⟩
    exact z k hk (by rw [ring_rows (knownS k hk)]; exact q)
  · intro z k hk y
    rw [ring_rows (knownS k hk)] at y
    obtain ⟨r, hr, o, ho, q⟩ := h.mpr ⟨k, hk, y⟩
    have := z r hr o ho
    rw [ring_rows (candS r hr o ho), q] at this
    cases this
end K33

set_option Elab.async false
set_option linter.all false
set_option maxRecDepth 100000
set_option maxHeartbeats 4000000
/-! K33m4: rings moved. -/
namespace K33
open PySem BK
theorem cut_to {xs : List D} {k : Nat} : cutD xs none (some (k : Int)) = xs.take k := by
  unfold cutD
  rw [HT.sIx_none, HT.sIx_nat, List.drop_zero, Nat.sub_zero, ← List.take_take, List.take_length]
theorem cut_from {xs : List D} {k : Nat} : cutD xs (some (k : Int)) none = xs.drop k := by
  unfold cutD
  rw [HT.sIx_none, HT.sIx_nat]
  rw [List.take_of_length_le (by rw [List.length_drop]; exact Nat.le_refl _)]
  by_cases h : k ≤ xs.length
  · rw [Nat.min_eq_left h]
  · rw [Nat.min_eq_right (by omega), List.drop_length, List.drop_eq_nil_of_le (by omega)]
theorem o2_tol {xs : List D} {k : Nat} : op2 (.sl false true) (.lst xs) (.int k) = some (.lst (xs.take k), true) := by rw [← cut_to]; rfl
theorem o2_froml {xs : List D} {k : Nat} : op2 (.sl true false) (.lst xs) (.int k) = some (.lst (xs.drop k), true) := by rw [← cut_from]; rfl
theorem intsD_map : ∀ l : List Int, intsD (l.map D.int) = some l
  | [] => rfl
  | i :: l => by rw [List.map_cons, intsD, intsD_map l]; rfl
theorem maxL_mem : ∀ (is : List Int) (i : Int), maxL i is ∈ i :: is := by
  have key : ∀ (is : List Int) (i : Int), is.foldl (fun a b => if a < b then b else a) i ∈ i :: is := by
    intro is
    induction is with
    | nil => intro i; simp
    | cons a is ih =>
      intro i
      have := ih (if i < a then a else i)
      rw [List.foldl_cons]
      rcases List.mem_cons.mp this with h | h
      · rw [h]; split <;> simp
      · simp [h]
  exact key
theorem o1_max {l : List Int} (h : l ≠ []) : ∃ m ∈ l, op1 .max (.lst (l.map D.int)) = some (.int m, false) := by
  cases l with
  | nil => exact absurd rfl h
  | cons i is =>
    refine ⟨maxL i is, maxL_mem is i, ?_⟩
    show (intsD _).bind _ = _
    rw [intsD_map]
    rfl
/-- five bows, not beyond all bounds -/
def wide (r : List (Int × Int)) : Prop := r.length = 5 ∧ ∀ x ∈ r, -(10 ^ 31) < x.1 ∧ x.1 < x.2 ∧ x.2 < 10 ^ 31
theorem wide_map {r : List (Int × Int)} {g : Int × Int → Int × Int} (h : r.length = 5) (hg : ∀ x ∈ r, -(10 ^ 31) < (g x).1 ∧ (g x).1 < (g x).2 ∧ (g x).2 < 10 ^ 31) : wide (r.map g) :=
  ⟨by rw [List.length_map]; exact h, fun y hy => by obtain ⟨x, hx, rfl⟩ := List.mem_map.mp hy; exact hg x hx⟩
theorem map_bw {r : List (Int × Int)} {g : Int × Int → Int × Int} : (r.map g).map bw = r.map fun x => bw (g x) := by rw [List.map_map]; rfl
theorem small_wide {r : List (Int × Int)} (h : small r) : wide r := ⟨h.1, fun x hx => by obtain ⟨a, b, c⟩ := h.2 x hx; omega⟩
theorem spread_o {n : Nat} {s : Bag} {r : List (Int × Int)} (hs : s.ok) (h : small r) : ∃ r' s', callAt P (n + 2) 33 [.ow true s.d, .ow true (.lst (r.map bw))] = some (ringD r', true, [.ow true (Bag.d s'), .sh true (.lst (r.map bw))]) ∧ wide r' ∧ s'.ok := by
  have main : Ok (fun x => ∃ r' s', x = (ringD r', true, [.ow true (Bag.d s'), .sh true (.lst (r.map bw))]) ∧ wide r' ∧ s'.ok) (callAt P (n + 2) 33 [.ow true s.d, .ow true (.lst (r.map bw))]) := by
    refine ok_call f33 rfl (by decide) rfl ?_
    have t1 := call_take (n := n) (P := P) f26 hs (m := 6) (by omega) (by omega)
    have lo := Bag.out_lo (s := s) (m := 6) (by omega)
    have hi := Bag.out_hi (s := s) (m := 6) (by omega)
    have o1 := Bag.nx_ok (m := 6) hs (by omega)
    have l5 : r.length ≤ 100000 := by have := h.1; omega
    generalize s.nx 6 = s1 at *
    generalize s.out 6 = w at *
    by_cases w0 : w = 0
    · subst w0
      simp [spreadDef, List.replicate, t1, l5]
      rw [lcLoop_mM (fun x => bw (10 ^ 25 * x.1 - 10 ^ 29, 10 ^ 25 * x.2 - 10 ^ 29)) (by
        intro x hx
        obtain ⟨z1, z2, z3⟩ := h.2 x hx
        have sa := sml (i := x.1) (by omega) (by omega)
        have sb := sml (i := x.2) (by omega) (by omega)
        simp [lcBody, sa, sb])]
      simp
      exact ⟨r.map fun x => (10 ^ 25 * x.1 - 10 ^ 29, 10 ^ 25 * x.2 - 10 ^ 29), s1, ⟨by unfold ringD; rw [map_bw]; simp, rfl⟩, wide_map h.1 fun x hx => by
        obtain ⟨z1, z2, z3⟩ := h.2 x hx
        simp only; omega, o1⟩
    by_cases w1 : w = 1
    · subst w1
      simp [spreadDef, List.replicate, t1, l5]
      rw [lcLoop_mM (fun x => bw (x.1 * x.1 - 50, x.2 * x.2 - 50)) (by
        intro x hx
        obtain ⟨z1, z2, z3⟩ := h.2 x hx
        have sa := sml (i := x.1) (by omega) (by omega)
        have sb := sml (i := x.2) (by omega) (by omega)
        simp [lcBody, sa, sb])]
      simp
      exact ⟨r.map fun x => (x.1 * x.1 - 50, x.2 * x.2 - 50), s1, ⟨by unfold ringD; rw [map_bw], rfl⟩, wide_map h.1 fun x hx => by
        obtain ⟨z1, z2, z3⟩ := h.2 x hx
        have q1 := sqr z1 z2
        have q2 : x.2 * x.2 ≤ 9 * 9 := Int.mul_le_mul (by omega) (by omega) (by omega) (by omega)
        have q3 : 0 ≤ x.1 * x.1 := Int.mul_nonneg z1 z1
        simp only; omega, o1⟩
    by_cases w2 : w = 2
    · subst w2
      simp [spreadDef, List.replicate, t1, l5]
      rw [lcLoop_mM (fun x => bw (x.1 + x.1 / 3 * 10 ^ 28, x.2 + x.2 / 3 * 10 ^ 28)) (by
        intro x hx
        obtain ⟨z1, z2, z3⟩ := h.2 x hx
        have sa := sml (i := x.1 / 3) (by omega) (by omega)
        have sb := sml (i := x.2 / 3) (by omega) (by omega)
        simp [lcBody, sa, sb])]
      simp
      exact ⟨r.map fun x => (x.1 + x.1 / 3 * 10 ^ 28, x.2 + x.2 / 3 * 10 ^ 28), s1, ⟨by unfold ringD; rw [map_bw]; simp, rfl⟩, wide_map h.1 fun x hx => by
        obtain ⟨z1, z2, z3⟩ := h.2 x hx
        simp only; omega, o1⟩
    · have key : ∀ k : Int, 0 ≤ k → k ≤ 9 → atD [.int 0, .int 6, .int 9] (w - 3) = some (.int k) → Ok (retP 2 fun x => ∃ r' s', x = (ringD r', true, [.ow true (Bag.d s'), .sh true (.lst (r.map bw))]) ∧ wide r' ∧ s'.ok) (exs P (callAt P (n + 1)) [.ow true s.d, .ow true (.lst (r.map bw)), .un, .un, .un, .un] (spreadDef 26).body) := by
        intro k k0 k9 hk
        simp [spreadDef, List.replicate, t1, l5, w0, w1, w2, hk]
        rw [lcLoop_mM (fun x => bw (x.1 - k, x.2 - k)) (by
          intro x hx
          simp [lcBody])]
        simp
        exact ⟨r.map fun x => (x.1 - k, x.2 - k), s1, ⟨by unfold ringD; rw [map_bw], rfl⟩, wide_map h.1 fun x hx => by
          obtain ⟨z1, z2, z3⟩ := h.2 x hx
          simp only; omega, o1⟩
      have : w = 3 ∨ w = 4 ∨ w = 5 := by omega
      rcases this with rfl | rfl | rfl
      · exact key 0 (by omega) (by omega) rfl
      · exact key 6 (by omega) (by omega) rfl
      · exact key 9 (by omega) (by omega) rfl
  obtain ⟨x, e, r', s', rfl, h⟩ := main
  exact ⟨r', s', e, h⟩
end K33

set_option Elab.async false
set_option linter.all false
set_option maxRecDepth 100000
set_option maxHeartbeats 4000000
/-! K33m5: rings moved, and bent. -/
namespace K33
open PySem BK
theorem small_sub {r r' : List (Int × Int)} (h : small r) (h5 : r'.length = 5) (hs : ∀ x ∈ r', x ∈ r) : small r' := ⟨h5, fun x hx => h.2 x (hs x hx)⟩
theorem o1_rev {xs : List D} : op1 .rev (.lst xs) = some (.lst xs.reverse, true) := rfl
theorem E39 {n : Nat} {s : Bag} {r : List (Int × Int)} (hs : s.ok) (h : small r) : ∃ r' s', callAt P (n + 3) 39 [.ow true s.d, .sh false (ringD r)] = some (ringD r', true, [.ow true (Bag.d s'), .sh false (ringD r)]) ∧ wide r' ∧ s'.ok := by
  have main : Ok (fun x => ∃ r' s', x = (ringD r', true, [.ow true (Bag.d s'), .sh false (ringD r)]) ∧ wide r' ∧ s'.ok) (callAt P (n + 3) 39 [.ow true s.d, .sh false (ringD r)]) := by
    refine ok_call e39 rfl (by decide) rfl ?_
    have t1 := call_take (n := n + 1) (P := P) f26 hs (m := 5) (by omega) (by omega)
    have lo1 := Bag.out_lo (s := s) (m := 5) (by omega)
    have hi1 := Bag.out_hi (s := s) (m := 5) (by omega)
    have o1 := Bag.nx_ok (m := 5) hs (by omega)
    generalize s.nx 5 = s1 at *
    generalize s.out 5 = k at *
    have t2 := call_take (n := n + 1) (P := P) f26 o1 (m := 6) (by omega) (by omega)
    have lo2 := Bag.out_lo (s := s1) (m := 6) (by omega)
    have hi2 := Bag.out_hi (s := s1) (m := 6) (by omega)
    have o2 := Bag.nx_ok (m := 6) o1 (by omega)
    generalize s1.nx 6 = s2 at *
    generalize s1.out 6 = w at *
    obtain ⟨k, rfl⟩ := Int.eq_ofNat_of_zero_le lo1
    have h5 := h.1
    have ha : op2 .add (.lst ((r.map bw).drop k)) (.lst ((r.map bw).take k)) = some (.lst ((r.drop k ++ r.take k).map bw), true) := by
      simp
      omega
    have hf : small (r.drop k ++ r.take k) := small_sub h (by simp; omega) fun x hx => by
      rcases List.mem_append.mp hx with z | z
      · exact List.mem_of_mem_drop z
      · exact List.mem_of_mem_take z
    generalize r.drop k ++ r.take k = f at *
    have hf5 := hf.1
    have lf : f.length ≤ 100000 := by omega
    have lr : r.length ≤ 100000 := by omega
    have e1 : op2 (.sl true false) (ringD r) (.int (k : Nat)) = some (.lst ((r.map bw).drop k), true) := o2_froml
    have e2 : op2 (.sl false true) (ringD r) (.int (k : Nat)) = some (.lst ((r.map bw).take k), true) := o2_tol
    have hins : isIns (ringD r) = none := rfl
    by_cases w5 : w = 5
    · subst w5
      have t3 := call_take (n := n + 1) (P := P) f26 o2 (m := 2) (by omega) (by omega)
      have lo3 := Bag.out_lo (s := s2) (m := 2) (by omega)
      have hi3 := Bag.out_hi (s := s2) (m := 2) (by omega)
      have o3 := Bag.nx_ok (m := 2) o2 (by omega)
      generalize s2.nx 2 = s3 at *
      generalize s2.out 2 = u at *
      obtain ⟨m, hm, em⟩ := o1_max (l := r.map fun x => x.2) (by intro z; have := congrArg List.length z; simp at this; simp [this] at h5)
      obtain ⟨x0, hx0, rfl⟩ := List.mem_map.mp hm
      obtain ⟨y1, y2, y3⟩ := h.2 x0 hx0
      rw [List.map_map] at em
      have em' : op1 .max (.lst (r.map fun x => D.int x.2)) = some (.int x0.2, false) := em
      have hsi : ∀ (ρ1 : Rho) (e : E) (ρ : Rho) (b : Bool), seqI P ρ e (some (ringD r, b, ρ1)) = some (r.map bw, ρ1) := fun _ _ _ _ => rfl
      simp [d39, List.replicate, t1, t2, e1, e2, hins, ha]
      simp [hsi, lr]
      rw [lcLoop_mM (fun x => D.int x.2) (by intro x hx; simp [lcBody])]
      simp [em', t3, lf]
      rw [lcLoop_mM (fun x => bw (x.1 + (10 ^ 30 - x0.2 + u), x.2 + (10 ^ 30 - x0.2 + u))) (by intro x hx; simp [lcBody])]
      simp
      exact ⟨f.map fun x => (x.1 + (10 ^ 30 - x0.2 + u), x.2 + (10 ^ 30 - x0.2 + u)), s3, ⟨by unfold ringD; rw [map_bw]; simp, rfl⟩, wide_map hf5 fun x hx => by
        obtain ⟨z1, z2, z3⟩ := hf.2 x hx
        simp only; omega, o3⟩
    by_cases w0 : w = 0
    · subst w0
      simp [d39, List.replicate, t1, t2, e1, e2, hins, ha, o1_rev]
      exact ⟨f.reverse, s2, ⟨by unfold ringD; rw [List.map_reverse], rfl⟩, small_wide (small_sub hf (by simp; omega) (by simp)), o2⟩
    by_cases w1 : w = 1
    · subst w1
      obtain ⟨r', s3, q, hr, o3⟩ := spread_o (n := n) o2 hf
      simp [d39, List.replicate, t1, t2, e1, e2, hins, ha, q]
      exact ⟨r', s3, ⟨rfl, rfl⟩, hr, o3⟩
    by_cases w2 : w = 2
    · subst w2
      simp [d39, List.replicate, t1, t2, e1, e2, hins, ha]
      simp [lf]
      rw [lcLoop_mM (fun x => bw (-x.2, -x.1)) (by intro x hx; simp [lcBody])]
      simp
      exact ⟨f.map fun x => (-x.2, -x.1), s2, ⟨by unfold ringD; rw [map_bw], rfl⟩, wide_map hf5 fun x hx => by
        obtain ⟨z1, z2, z3⟩ := hf.2 x hx
        simp only; omega, o2⟩
    · by_cases w3 : w = 3
      · subst w3
        have hg : ∀ i : Nat, i < 5 → (f.map bw)[i]? = some (bw (f.getD i (0, 0))) := fun i hi => by
          rw [List.getElem?_map, List.getD_eq_getElem?_getD, List.getElem?_eq_getElem (by omega)]
          rfl
        have g0 := hg 0 (by omega)
        have g1 := hg 1 (by omega)
        have g2 := hg 2 (by omega)
        have g3 := hg 3 (by omega)
        have g4 := hg 4 (by omega)
        have sm : small [f.getD 0 (0, 0), f.getD 2 (0, 0), f.getD 4 (0, 0), f.getD 1 (0, 0), f.getD 3 (0, 0)] := small_sub hf rfl fun x hx => by
          have gm : ∀ i, i < 5 → f.getD i (0, 0) ∈ f := fun i hi => by
            rw [List.getD_eq_getElem?_getD, List.getElem?_eq_getElem (by omega)]
            exact List.getElem_mem _
          simp only [List.mem_cons, List.not_mem_nil, or_false] at hx
          rcases hx with rfl | rfl | rfl | rfl | rfl <;> exact gm _ (by omega)
        have a0 : atD (f.map bw) 0 = some (bw (f.getD 0 (0, 0))) := (atD_0).trans g0
        have a1 : atD (f.map bw) 1 = some (bw (f.getD 1 (0, 0))) := (atD_1).trans g1
        have a2 : atD (f.map bw) 2 = some (bw (f.getD 2 (0, 0))) := (atD_2).trans g2
        have a3 : atD (f.map bw) 3 = some (bw (f.getD 3 (0, 0))) := (atD_3).trans g3
        have a4 : atD (f.map bw) 4 = some (bw (f.getD 4 (0, 0))) := (atD_4).trans g4
        generalize hF : f.map bw = F at *
        simp only [atD_0, atD_1, atD_2, atD_3, atD_4] at a0 a1 a2 a3 a4
        simp [d39, List.replicate, t1, t2, e1, e2, hins, ha, a0, a1, a2, a3, a4]
        exact ⟨_, s2, ⟨rfl, rfl⟩, small_wide sm, o2⟩
      · simp [d39, List.replicate, t1, t2, e1, e2, hins, ha, w0, w1, w2, w3, w5]
        exact ⟨f, s2, ⟨rfl, rfl⟩, small_wide hf, o2⟩
  obtain ⟨x, e, r', s', rfl, h⟩ := main
  exact ⟨r', s', e, h⟩
end K33

set_option Elab.async false
set_option linter.all false
set_option maxRecDepth 100000
set_option maxHeartbeats 4000000
/-! K33m6: rings bent. -/
namespace K33
open PySem BK
theorem atI_nat {α : Type} {xs : List α} {i : Nat} : L2.atI xs (i : Int) = xs[i]? := by
  unfold L2.atI L2.ixN
  by_cases h : i < xs.length
  · simp [h]
  · have : ¬ ((i : Int) < xs.length) := by omega
    rw [if_pos (by omega), if_neg this, List.getElem?_eq_none (by omega)]
    rfl
theorem ai0 {α : Type} {xs : List α} : L2.atI xs 0 = xs[0]? := atI_nat (i := 0)
theorem ai1 {α : Type} {xs : List α} : L2.atI xs 1 = xs[1]? := atI_nat (i := 1)
theorem ai2 {α : Type} {xs : List α} : L2.atI xs 2 = xs[2]? := atI_nat (i := 2)
theorem ai3 {α : Type} {xs : List α} : L2.atI xs 3 = xs[3]? := atI_nat (i := 3)
theorem ai4 {α : Type} {xs : List α} : L2.atI xs 4 = xs[4]? := atI_nat (i := 4)
theorem ai5 {α : Type} {xs : List α} : L2.atI xs 5 = xs[5]? := atI_nat (i := 5)
theorem ai6 {α : Type} {xs : List α} : L2.atI xs 6 = xs[6]? := atI_nat (i := 6)
theorem o1_listt {xs : List D} : op1 .list (.tup xs) = some (.lst xs, true) := rfl
theorem o1_tupl {xs : List D} : op1 .tup (.lst xs) = some (.tup xs, false) := rfl
/-- a part of a bent ring -/
def part (x : D) : Prop := dat2 x ∧ x.mild = true ∧ x.bulk ≤ 30 ∧ x.deep ≤ 3
def par0 (x : D) : Prop := part x ∧ x.bulk ≤ 2 ∧ x.deep ≤ 1
theorem mild_int {i : Int} (h1 : -(10 ^ 32) < i) (h2 : i < 10 ^ 32) : (D.int i).mild = true := decide_eq_true (by
  by_cases h0 : i.natAbs = 0
  · rw [h0]; decide
  · exact (Nat.log2_lt h0).mpr (Nat.lt_of_lt_of_le (show i.natAbs < 10 ^ 32 by omega) (by decide)))
theorem mild_Bw {a b : Int} (h1 : -(10 ^ 32) < a) (h2 : a < 10 ^ 32) (h3 : -(10 ^ 32) < b) (h4 : b < 10 ^ 32) : (Bw a b).mild = true := by
  show ((D.int a).mild && ((D.int b).mild && true)) = true
  rw [mild_int h1 h2, mild_int h3 h4]; rfl
theorem part_Bw {a b : Int} (h1 : -(10 ^ 32) < a) (h2 : a < 10 ^ 32) (h3 : -(10 ^ 32) < b) (h4 : b < 10 ^ 32) : part (Bw a b) :=
  ⟨⟨rfl, fun xs e y hy => by cases e; simp at hy; rcases hy with rfl | rfl <;> rfl⟩, mild_Bw h1 h2 h3 h4, by show 0 + 1 + (0 + 1 + 0) ≤ 30; omega, by show max 0 (max 0 0) + 1 ≤ 3; omega⟩
theorem wide_parts {r : List (Int × Int)} (h : wide r) : ∀ x ∈ r.map bw, part x := fun x hx => by
  obtain ⟨y, hy, rfl⟩ := List.mem_map.mp hx
  obtain ⟨z1, z2, z3⟩ := h.2 y hy
  exact part_Bw (by omega) (by omega) (by omega) (by omega)
theorem bulk_bws : ∀ r : List (Int × Int), D.bulks (r.map bw) = 3 * r.length ∧ D.deeps (r.map bw) ≤ 1
  | [] => ⟨rfl, by show 0 ≤ 1; omega⟩
  | x :: r => by
    obtain ⟨h1, h2⟩ := bulk_bws r
    refine ⟨?_, ?_⟩
    · rw [List.map_cons, D.bulks, h1, List.length_cons]
      show (0 + 1 + (0 + 1 + 0)) + 1 + _ = _
      omega
    · rw [List.map_cons, D.deeps]
      show max (max 0 (max 0 0) + 1) _ ≤ 1
      omega
theorem parts_sound : ∀ {xs : List D}, (∀ x ∈ xs, part x) → D.milds xs = true ∧ D.bulks xs ≤ 31 * xs.length ∧ D.deeps xs ≤ 3
  | [], _ => ⟨rfl, by show 0 ≤ _; omega, by show 0 ≤ 3; omega⟩
  | x :: xs, h => by
    obtain ⟨h1, h2, h3⟩ := parts_sound fun y hy => h y (List.mem_cons_of_mem _ hy)
    obtain ⟨_, m, b, d⟩ := h x (List.mem_cons_self ..)
    refine ⟨by rw [D.milds, m, h1]; rfl, by rw [D.bulks, List.length_cons]; omega, by rw [D.deeps]; omega⟩
theorem lst_sound {xs : List D} (h : ∀ x ∈ xs, part x) (hl : xs.length ≤ 20) : (D.lst xs).sound := by
  obtain ⟨h1, h2, h3⟩ := parts_sound h
  exact sound_mild (by rw [D.mild]; exact h1) (by rw [D.bulk]; omega) (by rw [D.deep]; omega)
theorem tup_sound {xs : List D} (h : ∀ x ∈ xs, part x) (hl : xs.length ≤ 20) : (D.tup xs).sound := by
  obtain ⟨h1, h2, h3⟩ := parts_sound h
  exact sound_mild (by rw [D.mild]; exact h1) (by rw [D.bulk]; omega) (by rw [D.deep]; omega)
theorem lst_fine {xs : List D} (h : ∀ x ∈ xs, part x) : (D.lst xs).fine := by
  obtain ⟨h1, h2, h3⟩ := parts_sound h
  exact ⟨by rw [D.mild]; exact h1, by rw [D.deep]; omega⟩
/-- what comes of bending -/
def Thg (d : D) (fr : Bool) : Prop := (∃ xs, d = .lst xs ∧ fr = true ∧ (∀ x ∈ xs, part x) ∧ xs.length ≤ 6) ∨ (d.isi .list = false ∧ d.dat = true ∧ isIns d = none ∧ ∃ x, op1 .repr d = some (.str x, false))
theorem E40 {n : Nat} {s : Bag} {r : List (Int × Int)} (hs : s.ok) (h : wide r) : ∃ d fr s', callAt P (n + 2) 40 [.ow true s.d, .ow true (ringD r)] = some (d, fr, [.ow true (Bag.d s'), .ow true (ringD r)]) ∧ Thg d fr ∧ s'.ok := by
  have main : Ok (fun x => ∃ d fr s', x = (d, fr, [.ow true (Bag.d s'), .ow true (ringD r)]) ∧ Thg d fr ∧ s'.ok) (callAt P (n + 2) 40 [.ow true s.d, .ow true (ringD r)]) := by
    refine ok_call e40 rfl (by decide) rfl ?_
    have t1 := call_take (n := n) (P := P) f26 hs (m := 9) (by omega) (by omega)
    have lo1 := Bag.out_lo (s := s) (m := 9) (by omega)
    have hi1 := Bag.out_hi (s := s) (m := 9) (by omega)
    have o1 := Bag.nx_ok (m := 9) hs (by omega)
    generalize s.nx 9 = s1 at *
    generalize s.out 9 = w at *
    have t2 := call_take (n := n) (P := P) f26 o1 (m := 5) (by omega) (by omega)
    have lo2 := Bag.out_lo (s := s1) (m := 5) (by omega)
    have hi2 := Bag.out_hi (s := s1) (m := 5) (by omega)
    have o2 := Bag.nx_ok (m := 5) o1 (by omega)
    generalize s1.nx 5 = s2 at *
    generalize s1.out 5 = k at *
    obtain ⟨k, rfl⟩ := Int.eq_ofNat_of_zero_le lo2
    have h5 := h.1
    have e0 : op1 .list (ringD r) = some (.lst (r.map bw), true) := rfl
    have hins : isIns (ringD r) = none := rfl
    have kl : k < r.length := by omega
    obtain ⟨x, hx⟩ : ∃ x, x = r[k] := ⟨_, rfl⟩
    have xm : x ∈ r := by rw [hx]; exact List.getElem_mem kl
    obtain ⟨z1, z2, z3⟩ := h.2 x xm
    have ak : atD (r.map bw) (k : Int) = some (bw x) := by rw [atD_nat, List.getElem?_map, List.getElem?_eq_getElem kl, hx]; rfl
    have km1 : ∃ y ∈ r, atD (r.map bw) ((k : Int) - 1) = some (bw y) := by
      by_cases k0 : k = 0
      · subst k0
        have : (r.map bw).length = 5 := by rw [List.length_map]; exact h5
        refine ⟨r[4], List.getElem_mem _, ?_⟩
        unfold atD L2.atI
        rw [this]
        show (r.map bw)[4]? = _
        rw [List.getElem?_map, List.getElem?_eq_getElem (by omega)]
        rfl
      · refine ⟨r[k - 1], List.getElem_mem _, ?_⟩
        rw [show (k : Int) - 1 = ((k - 1 : Nat) : Int) by omega, atD_nat, List.getElem?_map, List.getElem?_eq_getElem (by omega)]
        rfl
    obtain ⟨y, ym, aj⟩ := km1
    have ik : L2.ixN (r.map bw).length (k : Int) = some k := by rw [ixN_nat, if_pos (by rw [List.length_map]; exact kl)]
    have ij : ∃ j, L2.ixN (r.map bw).length ((k : Int) - 1) = some j := by
      rw [List.length_map, h5]
      by_cases k0 : k = 0
      · subst k0; exact ⟨4, rfl⟩
      · rw [show (k : Int) - 1 = ((k - 1 : Nat) : Int) by omega, ixN_nat, if_pos (by omega)]
        exact ⟨_, rfl⟩
    obtain ⟨j, ij⟩ := ij
    have wp := wide_parts h
    obtain ⟨y1, y2, y3⟩ := h.2 y ym
    have px := part_Bw (a := x.1) (b := x.2) (by omega) (by omega) (by omega) (by omega)
    have py := part_Bw (a := y.1) (b := y.2) (by omega) (by omega) (by omega) (by omega)
    have setp : ∀ (i : Nat) (z : D), part z → ∀ u ∈ (r.map bw).set i z, part u := fun i z hz u hu => by
      rcases List.mem_or_eq_of_mem_set hu with q | q
      · exact wp u q
      · rw [q]; exact hz
    have lm : (r.map bw).length = 5 := by rw [List.length_map]; exact h5
    obtain ⟨rb, rd⟩ := bulk_bws r
    generalize hR : r.map bw = R at *
    have fin_ : ∀ (xs : List D) (s' : Bag), (∀ x ∈ xs, part x) → xs.length ≤ 6 → s'.ok → ∃ d fr s'', ((D.lst xs, true, [Sl.ow true s'.d, .ow true (ringD r)]) : D × Bool × List Sl) = (d, fr, [.ow true (Bag.d s''), .ow true (ringD r)]) ∧ Thg d fr ∧ s''.ok := fun xs s' q1 q2 q3 => ⟨_, _, s', rfl, .inl ⟨xs, rfl, rfl, q1, q2⟩, q3⟩
    by_cases w0 : w = 0
    · subst w0
      simp [d40, List.replicate, t1, t2, e0, hins, ak, ik]
      exact by simpa using fin_ (R.set k (Bw x.1 (x.2 + 1))) s2 (setp k _ (part_Bw (by omega) (by omega) (by omega) (by omega))) (by simp [lm]) o2
    by_cases w1 : w = 1
    · subst w1
      simp [d40, List.replicate, t1, t2, e0, hins, ak, ik]
      exact by simpa using fin_ (R.set k (Bw (x.1 - 1) x.2)) s2 (setp k _ (part_Bw (by omega) (by omega) (by omega) (by omega))) (by simp [lm]) o2
    by_cases w2 : w = 2
    · subst w2
      have e1 : op2 (.sl false true) (.lst R) (.int (k : Nat)) = some (.lst (R.take k), true) := o2_tol
      have e2 : op2 (.sl true false) (.lst R) (.int ((k : Int) + 1)) = some (.lst (R.drop (k + 1)), true) := by
        rw [show (k : Int) + 1 = ((k + 1 : Nat) : Int) by omega]; exact o2_froml
      have l2 : min k R.length + (R.length - (k + 1)) ≤ 100000 := by omega
      simp [d40, List.replicate, t1, t2, e0, hins, e1, e2, l2]
      exact by simpa using fin_ (R.take k ++ R.drop (k + 1)) s2 (fun u hu => by
        rcases List.mem_append.mp hu with q | q
        · exact wp u (List.mem_of_mem_take q)
        · exact wp u (List.mem_of_mem_drop q)) (by simp; omega) o2
    by_cases w3 : w = 3
    · subst w3
      have l2 : R.length < 100000 := by omega
      have l3 : k ≤ R.length := by omega
      simp [d40, List.replicate, t1, t2, e0, hins, ak, l2, l3]
      exact by simpa using fin_ (R.take k ++ bw x :: R.drop k) s2 (fun u hu => by
        rcases List.mem_append.mp hu with q | q
        · exact wp u (List.mem_of_mem_take q)
        · rcases List.mem_cons.mp q with q | q
          · rw [q]; exact px
          · exact wp u (List.mem_of_mem_drop q)) (by simp; omega) o2
    by_cases w4 : w = 4
    · subst w4
      have ij' : L2.ixN (R.set k (bw y)).length ((k : Int) - 1) = some j := by rw [List.length_set]; exact ij
      simp [d40, List.replicate, t1, t2, e0, hins, ak, aj, ik, ij]
      exact by simpa using fin_ ((R.set k (bw y)).set j (bw x)) s2 (fun u hu => by
        rcases List.mem_or_eq_of_mem_set hu with q | q
        · exact setp k _ py u q
        · rw [q]; exact px) (by simp [lm]) o2
    by_cases w5 : w = 5
    · subst w5
      have t3 := call_take (n := n) (P := P) f26 o2 (m := 5) (by omega) (by omega)
      have lo3 := Bag.out_lo (s := s2) (m := 5) (by omega)
      have hi3 := Bag.out_hi (s := s2) (m := 5) (by omega)
      have o3 := Bag.nx_ok (m := 5) o2 (by omega)
      generalize s2.nx 5 = s3 at *
      generalize s2.out 5 = u at *
      have step : ∀ v : D, part v → (L2.atI [((.lst [.int x.1, .int x.2], true) : D × Bool), (.non, false), (Bw x.2 x.1, false), (.tup [.int 0, .bl true], false), (bw y, false)] u).map (·.1) = some v → Ok (retP 2 fun x => ∃ d fr s', x = (d, fr, [.ow true (Bag.d s'), .ow true (ringD r)]) ∧ Thg d fr ∧ s'.ok) (exs P (callAt P (n + 1)) [.ow true s.d, .ow true (ringD r), .un, .un, .un, .un] d40.body) := by
        intro v pv hv
        obtain ⟨⟨v', g⟩, hv1, hv2⟩ := Option.map_eq_some_iff.mp hv
        simp only at hv2
        subst hv2
        simp [d40, List.replicate, t1, t2, t3, e0, hins, ak, aj, ik, o1_listt, hv1]
        exact by simpa using fin_ (R.set k v') s3 (setp k _ pv) (by simp [lm]) o3
      have i32 : ∀ i : Int, -(10 ^ 31) < i → i < 10 ^ 31 → (D.int i).mild = true := fun i h1 h2 => mild_int (by omega) (by omega)
      have : u = 0 ∨ u = 1 ∨ u = 2 ∨ u = 3 ∨ u = 4 := by omega
      rcases this with rfl | rfl | rfl | rfl | rfl
      · exact step (.lst [.int x.1, .int x.2]) ⟨⟨rfl, fun xs e => by cases e⟩, by show ((D.int x.1).mild && ((D.int x.2).mild && true)) = true; rw [i32 _ (by omega) (by omega), i32 _ (by omega) (by omega)]; rfl, by show 0 + 1 + (0 + 1 + 0) ≤ 30; omega, by show max 0 (max 0 0) + 1 ≤ 3; omega⟩ (by rw [ai0]; rfl)
      · exact step .non ⟨⟨rfl, fun xs e => by cases e⟩, rfl, by show 0 ≤ 30; omega, by show 0 ≤ 3; omega⟩ (by rw [ai1]; rfl)
      · exact step (Bw x.2 x.1) (part_Bw (by omega) (by omega) (by omega) (by omega)) (by rw [ai2]; rfl)
      · exact step (.tup [.int 0, .bl true]) ⟨⟨rfl, fun xs e y hy => by cases e; simp at hy; rcases hy with rfl | rfl <;> rfl⟩, rfl, by show 0 + 1 + (0 + 1 + 0) ≤ 30; omega, by show max 0 (max 0 0) + 1 ≤ 3; omega⟩ (by rw [ai3]; rfl)
      · exact step (bw y) py (by rw [ai4]; rfl)
    by_cases w6 : w = 6
    · subst w6
      have t3 := call_take (n := n) (P := P) f26 o2 (m := 7) (by omega) (by omega)
      have lo3 := Bag.out_lo (s := s2) (m := 7) (by omega)
      have hi3 := Bag.out_hi (s := s2) (m := 7) (by omega)
      have o3 := Bag.nx_ok (m := 7) o2 (by omega)
      generalize s2.nx 7 = s3 at *
      generalize s2.out 7 = u at *
      have lR : R.length ≤ 99999 := by omega
      have step : ∀ (v : D) (g : Bool), Thg v g → L2.atI [((.tup R, false) : D × Bool), (.non, false), (.dk [] [], true), (.str "ring", false), (.lst [.lst R], true), (.lst (R ++ [Bw 0 1]), true), (.lst [], true)] u = some (v, g) → Ok (retP 2 fun x => ∃ d fr s', x = (d, fr, [.ow true (Bag.d s'), .ow true (ringD r)]) ∧ Thg d fr ∧ s'.ok) (exs P (callAt P (n + 1)) [.ow true s.d, .ow true (ringD r), .un, .un, .un, .un] d40.body) := by
        intro v g pv hv
        simp [d40, List.replicate, t1, t2, t3, e0, hins, o1_tupl, lR, hv]
        cases g with
        | false => exact ⟨_, .inl ⟨s3, ⟨rfl, rfl, rfl⟩, pv, o3⟩⟩
        | true => exact ⟨_, .inr ⟨s3, ⟨rfl, rfl, rfl⟩, pv, o3⟩⟩
      obtain ⟨q1, q2, q3⟩ := parts_sound wp
      have : u = 0 ∨ u = 1 ∨ u = 2 ∨ u = 3 ∨ u = 4 ∨ u = 5 ∨ u = 6 := by omega
      rcases this with rfl | rfl | rfl | rfl | rfl | rfl | rfl
      · exact step (.tup R) false (.inr ⟨rfl, rfl, rfl, (tup_sound wp (by omega)).re⟩) (by rw [ai0]; rfl)
      · exact step .non false (.inr ⟨rfl, rfl, rfl, (sound_smal (d := .non) rfl (by decide) (by decide)).re⟩) (by rw [ai1]; rfl)
      · exact step (.dk [] []) true (.inr ⟨rfl, rfl, rfl, ⟨_, rfl⟩⟩) (by rw [ai2]; rfl)
      · exact step (.str "ring") false (.inr ⟨rfl, rfl, rfl, (sound_smal (d := .str "ring") (by decide +kernel) (by decide +kernel) (by decide)).re⟩) (by rw [ai3]; rfl)
      · exact step (.lst [.lst R]) true (.inl ⟨_, rfl, rfl, fun z hz => by
          rw [List.mem_singleton] at hz
          subst hz
          exact ⟨⟨rfl, fun xs e => by cases e⟩, by rw [D.mild]; exact q1, by rw [D.bulk]; omega, by rw [D.deep]; omega⟩, by simp⟩) (by rw [ai4]; rfl)
      · exact step (.lst (R ++ [Bw 0 1])) true (.inl ⟨_, rfl, rfl, fun z hz => by
          rcases List.mem_append.mp hz with q | q
          · exact wp z q
          · rw [List.mem_singleton] at q
            rw [q]
            exact part_Bw (by omega) (by omega) (by omega) (by omega), by simp [lm]⟩) (by rw [ai5]; rfl)
      · exact step (.lst []) true (.inl ⟨[], rfl, rfl, by simp, by simp⟩) (by rw [ai6]; rfl)
    · simp [d40, List.replicate, t1, t2, e0, hins, w0, w1, w2, w3, w4, w5, w6]
      exact by simpa using fin_ R s2 wp (by omega) o2
  obtain ⟨x, e, d, fr, s', rfl, h⟩ := main
  exact ⟨d, fr, s', e, h⟩
end K33

set_option Elab.async false
set_option linter.all false
set_option maxRecDepth 100000
set_option maxHeartbeats 4000000
/-! K33m7: a thing judged. -/
namespace K33
open PySem BK
/-! rings in lists -/
theorem mild_bws : ∀ {r : List (Int × Int)}, (∀ x ∈ r, -(10 ^ 31) < x.1 ∧ x.1 < x.2 ∧ x.2 < 10 ^ 31) → D.milds (r.map bw) = true
  | [], _ => rfl
  | x :: r, h => by
    obtain ⟨z1, z2, z3⟩ := h x (List.mem_cons_self ..)
    rw [List.map_cons, D.milds, mild_bws fun y hy => h y (List.mem_cons_of_mem _ hy), mild_Bw (by omega) (by omega) (by omega) (by omega)]
    rfl
theorem rings_ok : ∀ {L : List (List (Int × Int))}, (∀ r ∈ L, small r) → D.milds (L.map ringD) = true ∧ D.deeps (L.map ringD) ≤ 2
  | [], _ => ⟨rfl, by show 0 ≤ 2; omega⟩
  | r :: L, h => by
    obtain ⟨h1, h2⟩ := rings_ok fun y hy => h y (List.mem_cons_of_mem _ hy)
    have hr := small_wide (h r (List.mem_cons_self ..))
    obtain ⟨b1, b2⟩ := bulk_bws r
    refine ⟨?_, ?_⟩
    · rw [List.map_cons, D.milds, h1]
      have : (ringD r).mild = true := by unfold ringD; rw [D.mild]; exact mild_bws hr.2
      rw [this]; rfl
    · rw [List.map_cons, D.deeps]
      have : (ringD r).deep ≤ 2 := by unfold ringD; rw [D.deep]; omega
      omega
theorem rings_fine {L : List (List (Int × Int))} (h : ∀ r ∈ L, small r) : (D.lst (L.map ringD)).fine := by
  obtain ⟨h1, h2⟩ := rings_ok h
  exact ⟨by rw [D.mild]; exact h1, by rw [D.deep]; omega⟩
theorem ne_some {d e : D} (h1 : d.fine) (h2 : e.fine) : ∃ b, op2 .ne d e = some (.bl b, false) := by
  obtain ⟨p, p1, p2, _⟩ := fine_py h1
  obtain ⟨q, q1, q2, _⟩ := fine_py h2
  by_cases hs : ∃ x y, d = .str x ∧ e = .str y
  · obtain ⟨x, y, rfl, rfl⟩ := hs
    exact ⟨_, rfl⟩
  have : eqD d e = eqDp d e := by
    cases d <;> first
      | rfl
      | (cases e <;> first
          | rfl
          | exact absurd ⟨_, _, rfl, rfl⟩ hs)
  refine ⟨!PyData.eqv p q, ?_⟩
  have e0 : op2 .ne d e = (eqD d e).map fun k => (.bl (!k), false) := by cases d <;> rfl
  rw [e0, this]
  unfold eqDp
  rw [p1, q1]
  simp only [p2, q2, Bool.and_self, if_true]
  rfl
theorem said_ok : (RI.all fun r => OI.all fun o => match op1 .repr (ringD (cand r o)) with | some (.str x, false) => PyData.strOk x | _ => false) = true := by kernel_rfl
theorem said_ring {r : List (Int × Int)} {o : List Nat} (hr : r ∈ RI) (ho : o ∈ OI) : ∃ x, op1 .repr (ringD (cand r o)) = some (.str x, false) ∧ PyData.strOk x = true := by
  have h := List.all_eq_true.mp (List.all_eq_true.mp said_ok r hr) o ho
  split at h
  · rename_i x e
    exact ⟨x, e, h⟩
  · cases h
theorem said_non : ∃ x, op1 .repr .non = some (.str x, false) ∧ PyData.strOk x = true := ⟨_, rfl, by kernel_rfl⟩
theorem three {x : Str} (h : PyData.strOk x = true) : (D.lst [.str x, .str x, .str x]).fine := by
  refine ⟨?_, by show max 0 (max 0 (max 0 0)) + 1 ≤ 60; omega⟩
  show (PyData.strOk x && (PyData.strOk x && (PyData.strOk x && true))) = true
  rw [h]; rfl
/-! a thing judged by both -/
def restB : Ss := (.cons (.par [(.nm 12), (.nm 13)] (.cons (.ap1 .repr (.var 11)) (.cons (.call 37 (.cons (.var 3) (.cons (.var 11) .nil))) .nil)))
    (.cons (.asg (.one (.nm 9)) (.lst (.cons (.call 24 (.cons (.var 7) (.cons (.var 11) .nil))) (.cons (.call 24 (.cons (.var 7) (.cons (.var 11) .nil))) .nil))))
    (.cons (.iff (.any (.cons (.not (.val (.call 27 (.cons (.var 9) (.cons (.lst (.cons (.var 13) (.cons (.var 13) .nil))) .nil))))) (.cons (.cmp .ne (.ap1 .repr (.var 11)) (.var 12)) .nil)))
    (.cons (.ret (.cst (.bl false)))
    .nil)
    .nil)
    (.cons (.iff (.all (.cons (.val (.isi [.list] (.var 11))) (.cons (.cmp .ne (.var 11) (.lst .nil)) .nil)))
    (.cons (.set 11 (.cst (.int 0)) (.ite (.cmp .ne (.ap2 .idx (.var 11) (.cst (.int 0))) (.tup (.cons (.cst (.int 0)) (.cons (.cst (.int 1)) .nil)))) (.tup (.cons (.cst (.int 0)) (.cons (.cst (.int 1)) .nil))) (.tup (.cons (.cst (.int 0)) (.cons (.cst (.int 2)) .nil)))))
    (.cons (.iff (.not (.val (.call 27 (.cons (.call 24 (.cons (.var 7) (.cons (.var 11) .nil))) (.cons (.call 37 (.cons (.var 3) (.cons (.var 11) .nil))) .nil)))))
    (.cons (.ret (.cst (.bl false)))
    .nil)
    .nil)
    .nil))
    .nil)
    .nil))))
def JB (x0 : Sl) (p : Wy → Bool) (L : List (List (Int × Int))) (ρ : Rho) : Prop := ∃ (s : Bag) (t2 t4 t5 t6 t8 t9 t10 t11 t12 t13 : Sl), s.ok ∧ t2.pin = false ∧ t4.pin = false ∧ t5.pin = false ∧ t6.pin = false ∧ (t8 = .ow false (.lst (L.map ringD)) ∨ t8 = .sh false (.lst (L.map ringD))) ∧ t9.pin = false ∧ t10.pin = false ∧ t11.pin = false ∧ t12.pin = false ∧ t13.pin = false ∧
  ρ = [x0, .ow false s.d, t2, .ow false (.lst ((wset p).map nw)), t4, t5, t6, .ow false (kdW 0 p), t8, t9, t10, t11, t12, t13, .un]
theorem pinL {L : List (List (Int × Int))} {t : Sl} (h : t = .ow false (.lst (L.map ringD)) ∨ t = .sh false (.lst (L.map ringD))) : t.pin = false := by rcases h with rfl | rfl <;> rfl
theorem two_sound {b : Bool} : (D.lst [.bl b, .bl b]).sound := sound_smal rfl (by show 0 + 1 + (0 + 1 + 0) ≤ 9999; omega) (by show max 0 (max 0 0) + 1 ≤ 60; omega)
/-- the rest of a turn, where the thing is a list -/
theorem restL {x0 : Sl} {p : Wy → Bool} {L : List (List (Int × Int))} {s : Bag} {xs : List D} {t2 t4 t5 t6 t8 t9 t10 t12 t13 : Sl} (hs : s.ok) (p2 : t2.pin = false) (p4 : t4.pin = false) (p5 : t5.pin = false) (p6 : t6.pin = false) (h8 : t8 = .ow false (.lst (L.map ringD)) ∨ t8 = .sh false (.lst (L.map ringD))) (p9 : t9.pin = false) (p10 : t10.pin = false) (p12 : t12.pin = false) (p13 : t13.pin = false)
    (hx : ∀ x ∈ xs, part x) (hl : xs.length ≤ 6) : Ok (onlyN (JB x0 p L)) (exs P (callAt P 59) [x0, .ow false s.d, t2, .ow false (.lst ((wset p).map nw)), t4, t5, t6, .ow false (kdW 0 p), t8, t9, t10, .ow false (.lst xs), t12, t13, .un] restB) := by
  obtain ⟨x, hr⟩ := (lst_sound hx (by omega)).re
  have q37 := E37 (n := 55) (p := p) (.inr rfl) (.inr rfl) (fun y hy => (hx y hy).1) (xs := xs) (by omega)
  have q24 := E24 (n := 54) (p := p) (.inr rfl) (.inr rfl) (fun y hy => (hx y hy).1) (xs := xs) (by omega)
  have q27 := call_same (P := P) (n := 58) f27 (a := .ow true (.lst [.bl (ringQ p xs), .bl (ringQ p xs)])) (.inr rfl) (.inl rfl) two_sound
  have hn := o2_nenil (lst_fine hx)
  cases xs with
  | nil =>
    simp [restB, hr, p12, p13, q37, p9, q24, q27, hn]
    exact ⟨s, _, _, _, _, _, _, _, _, _, _, hs, p2, p4, p5, p6, h8, rfl, p10, rfl, rfl, rfl, rfl⟩
  | cons y ys =>
    obtain ⟨b, hb⟩ := ne_some (d := y) (e := Bw 0 1) ⟨(hx y (by simp)).2.1, by have := (hx y (by simp)).2.2.2; omega⟩ ⟨rfl, by decide⟩
    have yi : isIns y = none := fine_ins ⟨(hx y (by simp)).2.1, by have := (hx y (by simp)).2.2.2; omega⟩
    have go : ∀ v : D, part v → v = Bw 0 1 ∨ v = Bw 0 2 → ∃ c, callAt P (55 + 4) 37 [.ow true (.lst ((wset p).map nw)), .ow true (.lst (v :: ys))] = some (.bl c, false, [.ow true (.lst ((wset p).map nw)), .ow true (.lst (v :: ys))]) ∧ callAt P (54 + 5) 24 [.ow true (kdW 0 p), .ow true (.lst (v :: ys))] = some (.bl c, false, [.ow true (kdW 0 p), .ow true (.lst (v :: ys))]) := fun v hv _ => by
      have hx' : ∀ z ∈ v :: ys, part z := fun z hz => by
        rcases List.mem_cons.mp hz with rfl | hz
        · exact hv
        · exact hx z (List.mem_cons_of_mem _ hz)
      exact ⟨ringQ p (v :: ys), E37 (n := 55) (p := p) (.inr rfl) (.inr rfl) (fun y hy => (hx' y hy).1) (by simp at hl ⊢; omega), E24 (n := 54) (p := p) (.inr rfl) (.inr rfl) (fun y hy => (hx' y hy).1) (by simp at hl ⊢; omega)⟩
    cases b with
    | true =>
      obtain ⟨c, c1, c2⟩ := go (Bw 0 1) (part_Bw (by omega) (by omega) (by omega) (by omega)) (.inl rfl)
      have q27' := call_same (P := P) (n := 58) f27 (a := .sh false (.bl c)) (.inl rfl) (.inl rfl) sound_bl
      simp [restB, hr, p12, p13, q37, p9, q24, q27, hn, hb, yi, c1, c2, q27']
      exact ⟨s, _, _, _, _, _, _, _, _, _, _, hs, p2, p4, p5, p6, h8, rfl, p10, rfl, rfl, rfl, rfl⟩
    | false =>
      obtain ⟨c, c1, c2⟩ := go (Bw 0 2) (part_Bw (by omega) (by omega) (by omega) (by omega)) (.inr rfl)
      have q27' := call_same (P := P) (n := 58) f27 (a := .sh false (.bl c)) (.inl rfl) (.inl rfl) sound_bl
      simp [restB, hr, p12, p13, q37, p9, q24, q27, hn, hb, yi, c1, c2, q27']
      exact ⟨s, _, _, _, _, _, _, _, _, _, _, hs, p2, p4, p5, p6, h8, rfl, p10, rfl, rfl, rfl, rfl⟩
/-- .. where it is none -/
theorem restN {x0 : Sl} {p : Wy → Bool} {L : List (List (Int × Int))} {s : Bag} {d : D} {t2 t4 t5 t6 t8 t9 t10 t11 t12 t13 : Sl} (hs : s.ok) (p2 : t2.pin = false) (p4 : t4.pin = false) (p5 : t5.pin = false) (p6 : t6.pin = false) (h8 : t8 = .ow false (.lst (L.map ringD)) ∨ t8 = .sh false (.lst (L.map ringD))) (p9 : t9.pin = false) (p10 : t10.pin = false) (p12 : t12.pin = false) (p13 : t13.pin = false)
    (h11 : t11 = .ow false d ∨ t11 = .sh false d) (h1 : d.isi .list = false) (h2 : d.dat = true) (h3 : isIns d = none) (h4 : ∃ x, op1 .repr d = some (.str x, false)) : Ok (onlyN (JB x0 p L)) (exs P (callAt P 59) [x0, .ow false s.d, t2, .ow false (.lst ((wset p).map nw)), t4, t5, t6, .ow false (kdW 0 p), t8, t9, t10, t11, t12, t13, .un] restB) := by
  obtain ⟨x, hr⟩ := h4
  have hi := dat_okI (P := P) h2
  have q37 := fun (t : Sl) (ht : t = .sh false d ∨ t = .ow true d) => E37n (n := 58) (p := p) (w := .ow true (.lst ((wset p).map nw))) (.inr rfl) ht h1 h2
  have q24 := fun (t : Sl) (ht : t = .sh false d ∨ t = .ow true d) => E24n (n := 58) (p := p) (s := .ow true (kdW 0 p)) (.inr rfl) ht h1 h2
  have q27 := call_same (P := P) (n := 58) f27 (a := .ow true (.lst [.bl false, .bl false])) (.inr rfl) (.inl rfl) two_sound
  rcases h11 with rfl | rfl
  · have a37 := q37 _ (.inr rfl)
    have a24 := q24 _ (.inr rfl)
    simp [restB, hr, h1, h3, hi, p12, p13, a37, p9, a24, q27]
    exact ⟨s, _, _, _, _, _, _, _, _, _, _, hs, p2, p4, p5, p6, h8, rfl, p10, rfl, rfl, rfl, rfl⟩
  · have a37 := q37 _ (.inl rfl)
    have a24 := q24 _ (.inl rfl)
    simp [restB, hr, h1, h3, hi, p12, p13, a37, p9, a24, q27]
    exact ⟨s, _, _, _, _, _, _, _, _, _, _, hs, p2, p4, p5, p6, h8, rfl, p10, rfl, rfl, rfl, rfl⟩
def restA : Ss := (.cons (.asg (.one (.nm 11)) (.call 39 (.cons (.var 1) (.cons (.var 10) .nil))))
    (.cons (.iff (.cmp .eq (.call 26 (.cons (.var 1) (.cons (.cst (.int 2)) .nil))) (.cst (.int 0)))
    (.cons (.asg (.one (.nm 11)) (.call 40 (.cons (.var 1) (.cons (.var 11) .nil))))
    .nil)
    .nil)
    restB))
theorem restA_ok {x0 : Sl} {p : Wy → Bool} {L : List (List (Int × Int))} {s : Bag} {r : List (Int × Int)} {t2 t4 t5 t6 t8 t9 t11 t12 t13 : Sl} (hs : s.ok) (hr : small r) (p2 : t2.pin = false) (p4 : t4.pin = false) (p5 : t5.pin = false) (p6 : t6.pin = false) (h8 : t8 = .ow false (.lst (L.map ringD)) ∨ t8 = .sh false (.lst (L.map ringD))) (p9 : t9.pin = false) (p11 : t11.pin = false) (p12 : t12.pin = false) (p13 : t13.pin = false) : Ok (onlyN (JB x0 p L)) (exs P (callAt P 59) [x0, .ow false s.d, t2, .ow false (.lst ((wset p).map nw)), t4, t5, t6, .ow false (kdW 0 p), t8, t9, .sh false (ringD r), t11, t12, t13, .un] restA) := by
  obtain ⟨r1, s1, q39, w1, ok1⟩ := E39 (n := 56) hs hr
  have t2' := call_take (n := 58) (P := P) f26 ok1 (m := 2) (by omega) (by omega)
  have ok2 := Bag.nx_ok (m := 2) ok1 (by omega)
  generalize s1.nx 2 = s2 at *
  generalize s1.out 2 = w at *
  by_cases hw : w = 0
  · subst hw
    obtain ⟨d, fr, s3, q40, hd, ok3⟩ := E40 (n := 57) ok2 w1
    rcases hd with ⟨xs, rfl, rfl, hx, hl⟩ | ⟨h1, h2, h3, h4⟩
    · have := restL (x0 := x0) (p := p) (L := L) (t10 := .sh false (ringD r)) ok3 p2 p4 p5 p6 h8 p9 rfl p12 p13 hx hl
      simp [restA, q39, p11, t2', q40]
      exact this
    · cases fr with
      | true =>
        have := restN (x0 := x0) (p := p) (L := L) (t10 := .sh false (ringD r)) ok3 p2 p4 p5 p6 h8 p9 rfl p12 p13 (.inl rfl) h1 h2 h3 h4
        simp [restA, q39, p11, t2', q40]
        exact this
      | false =>
        have := restN (x0 := x0) (p := p) (L := L) (t10 := .sh false (ringD r)) ok3 p2 p4 p5 p6 h8 p9 rfl p12 p13 (.inr rfl) h1 h2 h3 h4
        simp [restA, q39, p11, t2', q40]
        exact this
  · have := restL (x0 := x0) (p := p) (L := L) (t10 := .sh false (ringD r)) (xs := r1.map bw) ok2 p2 p4 p5 p6 h8 p9 rfl p12 p13 (wide_parts w1) (by rw [List.length_map, w1.1]; omega)
    simp [restA, q39, p11, t2', hw]
    exact this
end K33

set_option Elab.async false
set_option linter.all false
set_option maxRecDepth 100000
set_option maxHeartbeats 4000000
/-! K33m: the law. -/
namespace K33
open PySem BK
def noD : D → Bool
  | .non => true
  | _ => false
/-- after rounds of telling -/
def JA (x0 : Sl) (p : Wy → Bool) (x : Str) (b : Bool) (k : Nat) (ρ : Rho) : Prop := ∃ (L : List (List (Int × Int))) (s : Bag) (t2 t5 t6 t9 t10 t11 t12 t13 : Sl), (∀ r ∈ L, small r) ∧ L.isEmpty = b ∧ L.length ≤ 14 + k ∧ s.ok ∧ t2.pin = false ∧ t5.pin = false ∧ t6.pin = false ∧ t9.pin = false ∧ t10.pin = false ∧ t11.pin = false ∧ t12.pin = false ∧ t13.pin = false ∧
  ρ = [x0, .ow false s.d, t2, .ow false (.lst ((wset p).map nw)), .ow false (.lst (List.replicate k (.str x))), t5, t6, .ow false (kdW 0 p), .ow false (.lst (L.map ringD)), t9, t10, t11, t12, t13, .un]
def JO (x0 : Sl) (ρ : Rho) : Prop := ∃ (s : Bag) (t2 t3 t4 t5 t6 t7 t8 t9 t10 t11 t12 t13 : Sl), s.ok ∧ t2.pin = false ∧ t3.pin = false ∧ t4.pin = false ∧ t5.pin = false ∧ t6.pin = false ∧ t7.pin = false ∧ t8.pin = false ∧ t9.pin = false ∧ t10.pin = false ∧ t11.pin = false ∧ t12.pin = false ∧ t13.pin = false ∧
  ρ = [x0, .ow false s.d, t2, t3, t4, t5, t6, t7, t8, t9, t10, t11, t12, t13, .un]
theorem math (ns : List Int) (h : ns.length ≤ 63) : ∃ fr os, callAt P 60 lawAt [.sh false (.rl (ns.map D.int))] = some (.bl true, fr, os) := by
  have main : Ok (fun r => ∃ fr os, r = (.bl true, fr, os)) (callAt P (50 + 10) 41 [.sh false (.rl (ns.map D.int))]) := by
    refine ok_call (show P.defs[41]? = some d41 from rfl) rfl (by decide) rfl ?_
    obtain ⟨s, q25, hs⟩ := call_bag (P := P) (n := 50 + 8) f25 h
    simp [d41, List.replicate, q25]
    generalize Sl.sh false (.rl (ns.map D.int)) = x0
    refine ok_forI (JO x0) ⟨s, .un, .un, .un, .un, .un, .un, .un, .un, .un, .un, .un, .un, hs, rfl, rfl, rfl, rfl, rfl, rfl, rfl, rfl, rfl, rfl, rfl, rfl, rfl⟩ ?_ ?_
    · rintro x ρ hx ⟨s, t2, t3, t4, t5, t6, t7, t8, t9, t10, t11, t12, t13, hs, p2, p3, p4, p5, p6, p7, p8, p9, p10, p11, p12, p13, rfl⟩
      obtain ⟨p, s1, q34, ok1⟩ := c_ways_drawn (P := P) (n := 57) f34 f29 f26 hs
      obtain ⟨ms, hk⟩ := kc
      have q10 := c_Kind (P := P) (n := 56) (k := 0) f10 f6 f5 g1 hk (ws := wset p) (.inr rfl) (Nat.le_trans wset_len (by omega))
      have hkd : (kdW 0 fun w => decide (w ∈ wset p)) = kdW 0 p := by congr 1; funext w; exact dec_wset
      rw [hkd] at q10
      have q38 := E38 (n := 58)
      have hki : (kCls 10 ms).init = 10 := rfl
      have kl : KI.length ≤ 100000 := by decide
      have hq : ∀ r, r.length = 5 → callAt P 59 37 [.ow true (.lst ((wset p).map nw)), .sh false (ringD r)] = some (.bl (ringQ p (r.map bw)), false, [.ow true (.lst ((wset p).map nw)), .sh false (ringD r)]) := fun r h5 => E37 (n := 55) (p := p) (.inr rfl) (.inl rfl) (xs := r.map bw) (fun y hy => dat_bws y hy) (by rw [List.length_map]; omega)
      have hq2 : ∀ r, r.length = 5 → callAt P 59 37 [.ow true (.lst ((wset p).map nw)), .ow true (ringD r)] = some (.bl (ringQ p (r.map bw)), false, [.ow true (.lst ((wset p).map nw)), .ow true (ringD r)]) := fun r h5 => E37 (n := 55) (p := p) (.inr rfl) (.inr rfl) (xs := r.map bw) (fun y hy => dat_bws y hy) (by rw [List.length_map]; omega)
      simp [fBody, p2, p3, p7, p8, q34, q10, q38, hk, hki, kl]
      rw [lcLoop_fM (fun r => ringQ p (r.map bw)) ringD (by
        intro r hr
        have q37 := hq r (knownS r hr).1
        cases hv : ringQ p (r.map bw) <;> (rw [hv] at q37; simp [lcBody, q37]))]
      simp [p4, p7, p8]
      obtain ⟨d, fr, q23, hd⟩ := E23 (n := 53) (p := p) (s := .ow true (kdW 0 p)) (.inr rfl)
      have hx : ∃ x, op1 .repr d = some (.str x, false) ∧ PyData.strOk x = true := by
        rcases hd with ⟨rfl, _, _⟩ | ⟨r, hr, o, ho, rfl, _, _⟩
        · exact said_non
        · exact said_ring hr ho
      obtain ⟨x', hre, hxo⟩ := hx
      have hb0 : (KI.filter fun r => ringQ p (r.map bw)).isEmpty = (noD d) := by
        rcases hd with ⟨rfl, _, h0⟩ | ⟨r, hr, o, ho, rfl, _, h0⟩
        · rw [known_iff.mpr h0]; rfl
        · rw [show noD (ringD (cand r o)) = false from rfl, ← Bool.not_eq_true, List.isEmpty_iff]
          intro z
          have := known_iff.mp z r hr o ho
          rw [h0] at this; cases this
      refine ok_forR (n := 3) (JA x0 p x' (noD d)) ⟨KI.filter fun r => ringQ p (r.map bw), s1, .sh false x, t5, t6, t9, t10, t11, t12, t13, fun r hr => knownS r ((List.mem_filter.mp hr).1), hb0, Nat.le_trans (List.length_filter_le _ _) (by decide), ok1, rfl, p5, p6, p9, p10, p11, p12, p13, rfl⟩ ?_ ?_
      · rintro k ρ hk3 ⟨L, s, t2, t5, t6, t9, t10, t11, t12, t13, hL, hb, hl, hs, p2, p5, p6, p9, p10, p11, p12, p13, rfl⟩
        have hk' : k < 100000 := by omega
        have hEq := o2_eqnil (rings_fine hL)
        rcases hd with ⟨rfl, rfl, h0⟩ | ⟨r, hr, o, ho, rfl, rfl, h0⟩
        · have hL0 : L = [] := List.isEmpty_iff.mp hb
          subst hL0
          have nb := nbl (a := true) (b := true)
          have i1 : op1 .isN .non = some (.bl true, false) := rfl
          have i2 : op1 .notN .non = some (.bl false, false) := rfl
          have hE0 : op2 .eq (.lst []) (.lst []) = some (.bl true, false) := hEq
          simp [fBody, p5, p9, q23, hre, hk', hE0, nb, i1, i2]
          exact ⟨[], s, t2, _, t6, _, t10, t11, t12, t13, hL, hb, by simp, hs, p2, rfl, p6, rfl, p10, p11, p12, p13, by rw [List.replicate_succ']; rfl⟩
        · have hcs := candS r hr o ho
          have hn0 : noD (ringD (cand r o)) = false := rfl
          rw [hn0] at *
          generalize cand r o = c at *
          have q37 := hq2 c hcs.1
          rw [h0] at q37
          have hLe : (L.map ringD).isEmpty = false := by rw [List.isEmpty_map]; exact hb
          rw [hLe] at hEq
          have nb := nbl (a := false) (b := false)
          have i1 : op1 .isN (ringD c) = some (.bl false, false) := rfl
          have i2 : op1 .notN (ringD c) = some (.bl true, false) := rfl
          have i3 : op1 .list (ringD c) = some (ringD c, true) := rfl
          have i4 : isIns (ringD c) = none := rfl
          have hl' : L.length < 100000 := by omega
          simp [fBody, p5, p9, q23, hre, hk', hEq, nb, q37, i1, i2, i3, i4, hl']
          rw [show Sl.ow false (ringD c) = .ow false (.lst (c.map bw)) from rfl]
          have hc5 : c.length < 100000 := by rw [hcs.1]; decide
          simp [hc5]
          exact ⟨L ++ [c], s, t2, _, t6, _, t10, t11, t12, t13, fun r hr => by
            rcases List.mem_append.mp hr with q | q
            · exact hL r q
            · rw [List.mem_singleton] at q; rw [q]; exact hcs, by cases L <;> rfl, by rw [List.length_append]; simp; omega, hs, p2, rfl, p6, rfl, p10, p11, p12, p13, by rw [List.replicate_succ', List.map_append]; rfl⟩
      · rintro ρ ⟨L, s, t2, t5, t6, t9, t10, t11, t12, t13, hL, hb, hl, hs, p2, p5, p6, p9, p10, p11, p12, p13, rfl⟩
        have e1 : op2 (.sl false true) (.lst (List.replicate 3 (.str x'))) (.int 1) = some (.lst [.str x'], true) := rfl
        have e2 : op2 .mul (.lst [.str x']) (.int 3) = some (.lst (List.replicate 3 (.str x')), true) := rfl
        have e3 := ne_fine (three hxo)
        have e3' : op2 .ne (.lst (List.replicate 3 (.str x'))) (.lst (List.replicate 3 (.str x'))) = some (.bl false, false) := e3
        generalize List.replicate 3 (D.str x') = sd at *
        simp [e1, e2, e3']
        refine ok_forI (JB x0 p L) ⟨s, t2, .ow false (.lst sd), t5, t6, _, t9, t10, t11, t12, t13, hs, p2, rfl, p5, p6, .inl rfl, p9, p10, p11, p12, p13, rfl⟩ ?_ ?_
        · rintro y ρ hx ⟨s, t2, t4, t5, t6, t8, t9, t10, t11, t12, t13, hs, p2, p4, p5, p6, h8, p9, p10, p11, p12, p13, rfl⟩
          refine Ok.nx ?_
          have hne := o2_nenil (rings_fine hL)
          have t1 := call_take (n := 58) (P := P) f26 hs (m := 3) (by omega) (by omega)
          have ok1 := Bag.nx_ok (m := 3) hs (by omega)
          have lo1 := Bag.out_lo (s := s) (m := 3) (by omega)
          have kk : ∀ s' : Bag, s'.ok → ∃ r s'', callAt P 59 28 [.ow true s'.d, .sh false (.lst (KI.map ringD))] = some (ringD r, false, [.ow true (Bag.d s''), .sh false (.lst (KI.map ringD))]) ∧ small r ∧ s''.ok := fun s' h' => by
            obtain ⟨x, s'', e, hx, ho⟩ := call_one (n := 57) (P := P) (xs := KI.map ringD) f26 f28 h' (by rw [List.length_map]; decide) (by rw [List.length_map]; decide)
            obtain ⟨r, hr, rfl⟩ := List.mem_map.mp hx
            exact ⟨r, s'', e, knownS r hr, ho⟩
          by_cases hL0 : L = []
          · have hLe : (L.map ringD).isEmpty = true := by rw [hL0]; rfl
            rw [hLe] at hne
            obtain ⟨r, s', q28, hr, ok2⟩ := kk s hs
            have := restA_ok (x0 := x0) (p := p) (L := L) (t6 := .sh false y) ok2 hr p2 p4 p5 rfl h8 p9 p11 p12 p13
            rcases h8 with rfl | rfl
            · simp [restA, restB] at this
              simp [fBody, p6, p10, hne, q38, q28]
              exact this
            · simp [restA, restB] at this
              simp [fBody, p6, p10, hne, q38, q28]
              exact this
          · have hLe : (L.map ringD).isEmpty = false := by rw [List.isEmpty_map]; simpa using hL0
            rw [hLe] at hne
            generalize s.nx 3 = s1 at *
            generalize s.out 3 = w at *
            by_cases hw : 0 < w
            · obtain ⟨x, s2, q28, hx, ok2⟩ := call_one (n := 57) (P := P) (xs := L.map ringD) f26 f28 ok1 (by rw [List.length_map]; exact List.length_pos_iff.mpr hL0) (by rw [List.length_map]; omega)
              obtain ⟨r, hr, rfl⟩ := List.mem_map.mp hx
              have := restA_ok (x0 := x0) (p := p) (L := L) (t6 := .sh false y) ok2 (hL r hr) p2 p4 p5 rfl (.inr rfl) p9 p11 p12 p13
              simp [restA, restB] at this
              rcases h8 with rfl | rfl
              · simp [fBody, p6, p10, hne, t1, hw, q28]
                exact this
              · simp [fBody, p6, p10, hne, t1, hw, q28]
                exact this
            · obtain ⟨r, s', q28, hr, ok2⟩ := kk s1 ok1
              have := restA_ok (x0 := x0) (p := p) (L := L) (t6 := .sh false y) ok2 hr p2 p4 p5 rfl h8 p9 p11 p12 p13
              rcases h8 with rfl | rfl
              · simp [restA, restB] at this
                simp [fBody, p6, p10, hne, t1, hw, q38, q28]
                exact this
              · simp [restA, restB] at this
                simp [fBody, p6, p10, hne, t1, hw, q38, q28]
                exact this
        · rintro ρ ⟨s, t2, t4, t5, t6, t8, t9, t10, t11, t12, t13, hs, p2, p4, p5, p6, h8, p9, p10, p11, p12, p13, rfl⟩
          simp
          exact ⟨s, _, _, _, _, _, _, _, _, _, _, _, _, hs, p2, rfl, p4, p5, p6, rfl, pinL h8, p9, p10, p11, p12, p13, rfl⟩
    · rintro ρ ⟨s, t2, t3, t4, t5, t6, t7, t8, t9, t10, t11, t12, t13, hs, p2, p3, p4, p5, p6, p7, p8, p9, p10, p11, p12, p13, rfl⟩
      simp
  obtain ⟨r, e, fr, os, rfl⟩ := main
  exact ⟨fr, os, e⟩
end K33

set_option Elab.async false
set_option maxRecDepth 100000
set_option maxHeartbeats 8000000
namespace K33
open PySem PySem.Spec PyProof.Rows L2 BK
def top (i : Nat) : Stmt := PySem.Challenge.pw_bowkinds_k33_rings_judged.main.body.getD i (.Pass ⟨0, 0, 0, 0⟩)
abbrev st0 : Stmt := top 0
def N0 : List Str := names.getD 0 []
theorem sc0 : FnScope N0 ["k"] (defScope st0) := ⟨rfl, rfl, rfl, by decide +kernel, rfl, by decide +kernel, by decide +kernel⟩
theorem ck0 : chkSs G ⟨N0, defScope st0, fun _ => true⟩ (defBody st0) d0.body = true := by decide +kernel
theorem df0 {K : PySem.W.Frag} {mg : Str → Option Value} {h : Heap} {fa : Addr} (X : K.In h) (Gn : h.Ns mainGlobals mg) {od0 an0 : Option Addr} {sl0 : Array (Option Value)} {oc0 kV0 dc0 pm0 cd0 ct0 : Value} (a : PySem.W.nsIn K mainGlobals "_wall" = some (some (.ref fa)))
    (l0 : K.lookup fa = some ⟨oc0, od0, .func (PySem.W.fnOf "_wall" "_wall" (defArgs st0) (defBody st0) (defScope st0) .none kV0 dc0 pm0 an0 cd0 ct0), sl0⟩) (c0 : PySem.W.codeIn K cd0 "_wall" = true) (k0 : PySem.W.keepIn K (.ref fa) = true) : DF G K mg 0 d0 := by
  have F := fun_mk (st := st0) l0 c0 k0
  exact ⟨⟨"_wall", st0, fa, _, N0, ["k"], F, sc0, F.binds (ps := ["k"]) (fun _ _ _ _ _ _ us hl => match us, hl with | [_], _ => rfl), k0, fun _ => PySem.W.mg_of X Gn a, rfl, rfl, sc0.nd, ck0⟩⟩
abbrev st1 : Stmt := top 5
def N1 : List Str := names.getD 1 []
theorem sc1 : FnScope N1 ["thing"] (defScope st1) := ⟨rfl, rfl, rfl, by decide +kernel, rfl, by decide +kernel, by decide +kernel⟩
theorem ck1 : chkSs G ⟨N1, defScope st1, fun _ => true⟩ (defBody st1) d1.body = true := by decide +kernel
theorem df1 {K : PySem.W.Frag} {mg : Str → Option Value} {h : Heap} {fa : Addr} (X : K.In h) (Gn : h.Ns mainGlobals mg) {od1 an1 : Option Addr} {sl1 : Array (Option Value)} {oc1 kV1 dc1 pm1 cd1 ct1 : Value} (a : PySem.W.nsIn K mainGlobals "is_integer" = some (some (.ref fa)))
    (l1 : K.lookup fa = some ⟨oc1, od1, .func (PySem.W.fnOf "is_integer" "is_integer" (defArgs st1) (defBody st1) (defScope st1) .none kV1 dc1 pm1 an1 cd1 ct1), sl1⟩) (c1 : PySem.W.codeIn K cd1 "is_integer" = true) (k1 : PySem.W.keepIn K (.ref fa) = true) : DF G K mg 1 d1 := by
  have F := fun_mk (st := st1) l1 c1 k1
  exact ⟨⟨"is_integer", st1, fa, _, N1, ["thing"], F, sc1, F.binds (ps := ["thing"]) (fun _ _ _ _ _ _ us hl => match us, hl with | [_], _ => rfl), k1, fun _ => PySem.W.mg_of X Gn a, rfl, rfl, sc1.nd, ck1⟩⟩
abbrev st2 : Stmt := top 6
def N2 : List Str := names.getD 2 []
theorem sc2 : FnScope N2 ["thing"] (defScope st2) := ⟨rfl, rfl, rfl, by decide +kernel, rfl, by decide +kernel, by decide +kernel⟩
theorem ck2 : chkSs G ⟨N2, defScope st2, fun _ => true⟩ (defBody st2) d2.body = true := by decide +kernel
theorem df2 {K : PySem.W.Frag} {mg : Str → Option Value} {h : Heap} {fa : Addr} (X : K.In h) (Gn : h.Ns mainGlobals mg) {od2 an2 : Option Addr} {sl2 : Array (Option Value)} {oc2 kV2 dc2 pm2 cd2 ct2 : Value} (a : PySem.W.nsIn K mainGlobals "is_place" = some (some (.ref fa)))
    (l2 : K.lookup fa = some ⟨oc2, od2, .func (PySem.W.fnOf "is_place" "is_place" (defArgs st2) (defBody st2) (defScope st2) .none kV2 dc2 pm2 an2 cd2 ct2), sl2⟩) (c2 : PySem.W.codeIn K cd2 "is_place" = true) (k2 : PySem.W.keepIn K (.ref fa) = true) : DF G K mg 2 d2 := by
  have F := fun_mk (st := st2) l2 c2 k2
  exact ⟨⟨"is_place", st2, fa, _, N2, ["thing"], F, sc2, F.binds (ps := ["thing"]) (fun _ _ _ _ _ _ us hl => match us, hl with | [_], _ => rfl), k2, fun _ => PySem.W.mg_of X Gn a, rfl, rfl, sc2.nd, ck2⟩⟩
abbrev st3 : Stmt := top 7
def N3 : List Str := names.getD 3 []
theorem sc3 : FnScope N3 ["thing"] (defScope st3) := ⟨rfl, rfl, rfl, by decide +kernel, rfl, by decide +kernel, by decide +kernel⟩
theorem ck3 : chkSs G ⟨N3, defScope st3, fun _ => true⟩ (defBody st3) d3.body = true := by decide +kernel
theorem df3 {K : PySem.W.Frag} {mg : Str → Option Value} {h : Heap} {fa : Addr} (X : K.In h) (Gn : h.Ns mainGlobals mg) {od3 an3 : Option Addr} {sl3 : Array (Option Value)} {oc3 kV3 dc3 pm3 cd3 ct3 : Value} (a : PySem.W.nsIn K mainGlobals "is_bow" = some (some (.ref fa)))
    (l3 : K.lookup fa = some ⟨oc3, od3, .func (PySem.W.fnOf "is_bow" "is_bow" (defArgs st3) (defBody st3) (defScope st3) .none kV3 dc3 pm3 an3 cd3 ct3), sl3⟩) (c3 : PySem.W.codeIn K cd3 "is_bow" = true) (k3 : PySem.W.keepIn K (.ref fa) = true) : DF G K mg 3 d3 := by
  have F := fun_mk (st := st3) l3 c3 k3
  exact ⟨⟨"is_bow", st3, fa, _, N3, ["thing"], F, sc3, F.binds (ps := ["thing"]) (fun _ _ _ _ _ _ us hl => match us, hl with | [_], _ => rfl), k3, fun _ => PySem.W.mg_of X Gn a, rfl, rfl, sc3.nd, ck3⟩⟩
abbrev st4 : Stmt := top 8
def N4 : List Str := names.getD 4 []
theorem sc4 : FnScope N4 ["thing"] (defScope st4) := ⟨rfl, rfl, rfl, by decide +kernel, rfl, by decide +kernel, by decide +kernel⟩
theorem ck4 : chkSs G ⟨N4, defScope st4, fun _ => true⟩ (defBody st4) d4.body = true := by decide +kernel
theorem df4 {K : PySem.W.Frag} {mg : Str → Option Value} {h : Heap} {fa : Addr} (X : K.In h) (Gn : h.Ns mainGlobals mg) {od4 an4 : Option Addr} {sl4 : Array (Option Value)} {oc4 kV4 dc4 pm4 cd4 ct4 : Value} (a : PySem.W.nsIn K mainGlobals "are_bows" = some (some (.ref fa)))
    (l4 : K.lookup fa = some ⟨oc4, od4, .func (PySem.W.fnOf "are_bows" "are_bows" (defArgs st4) (defBody st4) (defScope st4) .none kV4 dc4 pm4 an4 cd4 ct4), sl4⟩) (c4 : PySem.W.codeIn K cd4 "are_bows" = true) (k4 : PySem.W.keepIn K (.ref fa) = true) : DF G K mg 4 d4 := by
  have F := fun_mk (st := st4) l4 c4 k4
  exact ⟨⟨"are_bows", st4, fa, _, N4, ["thing"], F, sc4, F.binds (ps := ["thing"]) (fun _ _ _ _ _ _ us hl => match us, hl with | [_], _ => rfl), k4, fun _ => PySem.W.mg_of X Gn a, rfl, rfl, sc4.nd, ck4⟩⟩
abbrev st5 : Stmt := top 9
def N5 : List Str := names.getD 5 []
theorem sc5 : FnScope N5 ["thing"] (defScope st5) := ⟨rfl, rfl, rfl, by decide +kernel, rfl, by decide +kernel, by decide +kernel⟩
theorem ck5 : chkSs G ⟨N5, defScope st5, fun _ => true⟩ (defBody st5) d5.body = true := by decide +kernel
theorem df5 {K : PySem.W.Frag} {mg : Str → Option Value} {h : Heap} {fa : Addr} (X : K.In h) (Gn : h.Ns mainGlobals mg) {od5 an5 : Option Addr} {sl5 : Array (Option Value)} {oc5 kV5 dc5 pm5 cd5 ct5 : Value} (a : PySem.W.nsIn K mainGlobals "is_way" = some (some (.ref fa)))
    (l5 : K.lookup fa = some ⟨oc5, od5, .func (PySem.W.fnOf "is_way" "is_way" (defArgs st5) (defBody st5) (defScope st5) .none kV5 dc5 pm5 an5 cd5 ct5), sl5⟩) (c5 : PySem.W.codeIn K cd5 "is_way" = true) (k5 : PySem.W.keepIn K (.ref fa) = true) : DF G K mg 5 d5 := by
  have F := fun_mk (st := st5) l5 c5 k5
  exact ⟨⟨"is_way", st5, fa, _, N5, ["thing"], F, sc5, F.binds (ps := ["thing"]) (fun _ _ _ _ _ _ us hl => match us, hl with | [_], _ => rfl), k5, fun _ => PySem.W.mg_of X Gn a, rfl, rfl, sc5.nd, ck5⟩⟩
abbrev st6 : Stmt := top 10
def N6 : List Str := names.getD 6 []
theorem sc6 : FnScope N6 ["thing"] (defScope st6) := ⟨rfl, rfl, rfl, by decide +kernel, rfl, by decide +kernel, by decide +kernel⟩
theorem ck6 : chkSs G ⟨N6, defScope st6, fun _ => true⟩ (defBody st6) d6.body = true := by decide +kernel
theorem df6 {K : PySem.W.Frag} {mg : Str → Option Value} {h : Heap} {fa : Addr} (X : K.In h) (Gn : h.Ns mainGlobals mg) {od6 an6 : Option Addr} {sl6 : Array (Option Value)} {oc6 kV6 dc6 pm6 cd6 ct6 : Value} (a : PySem.W.nsIn K mainGlobals "are_ways" = some (some (.ref fa)))
    (l6 : K.lookup fa = some ⟨oc6, od6, .func (PySem.W.fnOf "are_ways" "are_ways" (defArgs st6) (defBody st6) (defScope st6) .none kV6 dc6 pm6 an6 cd6 ct6), sl6⟩) (c6 : PySem.W.codeIn K cd6 "are_ways" = true) (k6 : PySem.W.keepIn K (.ref fa) = true) : DF G K mg 6 d6 := by
  have F := fun_mk (st := st6) l6 c6 k6
  exact ⟨⟨"are_ways", st6, fa, _, N6, ["thing"], F, sc6, F.binds (ps := ["thing"]) (fun _ _ _ _ _ _ us hl => match us, hl with | [_], _ => rfl), k6, fun _ => PySem.W.mg_of X Gn a, rfl, rfl, sc6.nd, ck6⟩⟩
abbrev st7 : Stmt := top 12
def N7 : List Str := names.getD 7 []
theorem sc7 : FnScope N7 ["one", "other"] (defScope st7) := ⟨rfl, rfl, rfl, by decide +kernel, rfl, by decide +kernel, by decide +kernel⟩
theorem ck7 : chkSs G ⟨N7, defScope st7, fun _ => true⟩ (defBody st7) d7.body = true := by decide +kernel
theorem df7 {K : PySem.W.Frag} {mg : Str → Option Value} {h : Heap} {fa : Addr} (X : K.In h) (Gn : h.Ns mainGlobals mg) {od7 an7 : Option Addr} {sl7 : Array (Option Value)} {oc7 kV7 dc7 pm7 cd7 ct7 : Value} (a : PySem.W.nsIn K mainGlobals "direction_of" = some (some (.ref fa)))
    (l7 : K.lookup fa = some ⟨oc7, od7, .func (PySem.W.fnOf "direction_of" "direction_of" (defArgs st7) (defBody st7) (defScope st7) .none kV7 dc7 pm7 an7 cd7 ct7), sl7⟩) (c7 : PySem.W.codeIn K cd7 "direction_of" = true) (k7 : PySem.W.keepIn K (.ref fa) = true) : DF G K mg 7 d7 := by
  have F := fun_mk (st := st7) l7 c7 k7
  exact ⟨⟨"direction_of", st7, fa, _, N7, ["one", "other"], F, sc7, F.binds (ps := ["one", "other"]) (fun _ _ _ _ _ _ us hl => match us, hl with | [_, _], _ => rfl), k7, fun _ => PySem.W.mg_of X Gn a, rfl, rfl, sc7.nd, ck7⟩⟩
abbrev st8 : Stmt := top 13
def N8 : List Str := names.getD 8 []
theorem sc8 : FnScope N8 ["end", "its_end"] (defScope st8) := ⟨rfl, rfl, rfl, by decide +kernel, rfl, by decide +kernel, by decide +kernel⟩
theorem ck8 : chkSs G ⟨N8, defScope st8, fun _ => true⟩ (defBody st8) d8.body = true := by decide +kernel
theorem df8 {K : PySem.W.Frag} {mg : Str → Option Value} {h : Heap} {fa : Addr} (X : K.In h) (Gn : h.Ns mainGlobals mg) {od8 an8 : Option Addr} {sl8 : Array (Option Value)} {oc8 kV8 dc8 pm8 cd8 ct8 : Value} (a : PySem.W.nsIn K mainGlobals "_direction_from_one_begin" = some (some (.ref fa)))
    (l8 : K.lookup fa = some ⟨oc8, od8, .func (PySem.W.fnOf "_direction_from_one_begin" "_direction_from_one_begin" (defArgs st8) (defBody st8) (defScope st8) .none kV8 dc8 pm8 an8 cd8 ct8), sl8⟩) (c8 : PySem.W.codeIn K cd8 "_direction_from_one_begin" = true) (k8 : PySem.W.keepIn K (.ref fa) = true) : DF G K mg 8 d8 := by
  have F := fun_mk (st := st8) l8 c8 k8
  exact ⟨⟨"_direction_from_one_begin", st8, fa, _, N8, ["end", "its_end"], F, sc8, F.binds (ps := ["end", "its_end"]) (fun _ _ _ _ _ _ us hl => match us, hl with | [_, _], _ => rfl), k8, fun _ => PySem.W.mg_of X Gn a, rfl, rfl, sc8.nd, ck8⟩⟩
abbrev st9 : Stmt := top 14
def N9 : List Str := names.getD 9 []
theorem sc9 : FnScope N9 ["one", "other"] (defScope st9) := ⟨rfl, rfl, rfl, by decide +kernel, rfl, by decide +kernel, by decide +kernel⟩
theorem ck9 : chkSs G ⟨N9, defScope st9, fun _ => true⟩ (defBody st9) d9.body = true := by decide +kernel
theorem df9 {K : PySem.W.Frag} {mg : Str → Option Value} {h : Heap} {fa : Addr} (X : K.In h) (Gn : h.Ns mainGlobals mg) {od9 an9 : Option Addr} {sl9 : Array (Option Value)} {oc9 kV9 dc9 pm9 cd9 ct9 : Value} (a : PySem.W.nsIn K mainGlobals "way_of" = some (some (.ref fa)))
    (l9 : K.lookup fa = some ⟨oc9, od9, .func (PySem.W.fnOf "way_of" "way_of" (defArgs st9) (defBody st9) (defScope st9) .none kV9 dc9 pm9 an9 cd9 ct9), sl9⟩) (c9 : PySem.W.codeIn K cd9 "way_of" = true) (k9 : PySem.W.keepIn K (.ref fa) = true) : DF G K mg 9 d9 := by
  have F := fun_mk (st := st9) l9 c9 k9
  exact ⟨⟨"way_of", st9, fa, _, N9, ["one", "other"], F, sc9, F.binds (ps := ["one", "other"]) (fun _ _ _ _ _ _ us hl => match us, hl with | [_, _], _ => rfl), k9, fun _ => PySem.W.mg_of X Gn a, rfl, rfl, sc9.nd, ck9⟩⟩
abbrev st10 : Stmt := inClass (top 19) 0
def N10 : List Str := names.getD 10 []
theorem sc10 : FnScope N10 ["self", "ways"] (defScope st10) := ⟨rfl, rfl, rfl, by decide +kernel, rfl, by decide +kernel, by decide +kernel⟩
theorem ck10 : chkSs G ⟨N10, defScope st10, fun _ => true⟩ (defBody st10) d10.body = true := by decide +kernel
abbrev st11 : Stmt := inClass (top 19) 1
def N11 : List Str := names.getD 11 []
theorem sc11 : FnScope N11 ["self", "other"] (defScope st11) := ⟨rfl, rfl, rfl, by decide +kernel, rfl, by decide +kernel, by decide +kernel⟩
theorem ck11 : chkSs G ⟨N11, defScope st11, fun _ => true⟩ (defBody st11) d11.body = true := by decide +kernel
abbrev st12 : Stmt := inClass (top 19) 2
def N12 : List Str := names.getD 12 []
theorem sc12 : FnScope N12 ["self"] (defScope st12) := ⟨rfl, rfl, rfl, by decide +kernel, rfl, by decide +kernel, by decide +kernel⟩
theorem ck12 : chkSs G ⟨N12, defScope st12, fun _ => true⟩ (defBody st12) d12.body = true := by decide +kernel
abbrev st13 : Stmt := inClass (top 19) 3
def N13 : List Str := names.getD 13 []
theorem sc13 : FnScope N13 ["self"] (defScope st13) := ⟨rfl, rfl, rfl, by decide +kernel, rfl, by decide +kernel, by decide +kernel⟩
theorem ck13 : chkSs G ⟨N13, defScope st13, fun _ => true⟩ (defBody st13) d13.body = true := by decide +kernel
abbrev st14 : Stmt := inClass (top 19) 4
def N14 : List Str := names.getD 14 []
theorem sc14 : FnScope N14 ["self", "thing"] (defScope st14) := ⟨rfl, rfl, rfl, by decide +kernel, rfl, by decide +kernel, by decide +kernel⟩
theorem ck14 : chkSs G ⟨N14, defScope st14, fun _ => true⟩ (defBody st14) d14.body = true := by decide +kernel
abbrev st15 : Stmt := inClass (top 19) 5
def N15 : List Str := names.getD 15 []
theorem sc15 : FnScope N15 ["self"] (defScope st15) := ⟨rfl, rfl, rfl, by decide +kernel, rfl, by decide +kernel, by decide +kernel⟩
theorem ck15 : chkSs G ⟨N15, defScope st15, fun _ => true⟩ (defBody st15) d15.body = true := by decide +kernel
abbrev st16 : Stmt := inClass (top 19) 6
def N16 : List Str := names.getD 16 []
theorem sc16 : FnScope N16 ["self", "other"] (defScope st16) := ⟨rfl, rfl, rfl, by decide +kernel, rfl, by decide +kernel, by decide +kernel⟩
theorem ck16 : chkSs G ⟨N16, defScope st16, fun _ => true⟩ (defBody st16) d16.body = true := by decide +kernel
abbrev st17 : Stmt := inClass (top 19) 7
def N17 : List Str := names.getD 17 []
theorem sc17 : FnScope N17 ["self", "other"] (defScope st17) := ⟨rfl, rfl, rfl, by decide +kernel, rfl, by decide +kernel, by decide +kernel⟩
theorem ck17 : chkSs G ⟨N17, defScope st17, fun _ => true⟩ (defBody st17) d17.body = true := by decide +kernel
abbrev st18 : Stmt := inClass (top 19) 8
def N18 : List Str := names.getD 18 []
theorem sc18 : FnScope N18 ["self", "other"] (defScope st18) := ⟨rfl, rfl, rfl, by decide +kernel, rfl, by decide +kernel, by decide +kernel⟩
theorem ck18 : chkSs G ⟨N18, defScope st18, fun _ => true⟩ (defBody st18) d18.body = true := by decide +kernel
abbrev st19 : Stmt := inClass (top 19) 9
def N19 : List Str := names.getD 19 []
theorem sc19 : FnScope N19 ["self"] (defScope st19) := ⟨rfl, rfl, rfl, by decide +kernel, rfl, by decide +kernel, by decide +kernel⟩
theorem ck19 : chkSs G ⟨N19, defScope st19, fun _ => true⟩ (defBody st19) d19.body = true := by decide +kernel
abbrev st20 : Stmt := inClass (top 19) 10
def N20 : List Str := names.getD 20 []
theorem sc20 : FnScope N20 ["self"] (defScope st20) := ⟨rfl, rfl, rfl, by decide +kernel, rfl, by decide +kernel, by decide +kernel⟩
theorem ck20 : chkSs G ⟨N20, defScope st20, fun _ => true⟩ (defBody st20) d20.body = true := by decide +kernel
abbrev st21 : Stmt := inClass (top 19) 11
def N21 : List Str := names.getD 21 []
theorem sc21 : FnScope N21 ["self", "one", "other"] (defScope st21) := ⟨rfl, rfl, rfl, by decide +kernel, rfl, by decide +kernel, by decide +kernel⟩
theorem ck21 : chkSs G ⟨N21, defScope st21, fun _ => true⟩ (defBody st21) d21.body = true := by decide +kernel
abbrev st22 : Stmt := inClass (top 19) 12
def N22 : List Str := names.getD 22 []
theorem sc22 : FnScope N22 ["self", "other"] (defScope st22) := ⟨rfl, rfl, rfl, by decide +kernel, rfl, by decide +kernel, by decide +kernel⟩
theorem ck22 : chkSs G ⟨N22, defScope st22, fun _ => true⟩ (defBody st22) d22.body = true := by decide +kernel
abbrev st23 : Stmt := top 23
def N23 : List Str := names.getD 23 []
theorem sc23 : FnScope N23 ["kind"] (defScope st23) := ⟨rfl, rfl, rfl, by decide +kernel, rfl, by decide +kernel, by decide +kernel⟩
theorem ck23 : chkSs G ⟨N23, defScope st23, fun _ => true⟩ (defBody st23) d23.body = true := by decide +kernel
theorem df23 {K : PySem.W.Frag} {mg : Str → Option Value} {h : Heap} {fa : Addr} (X : K.In h) (Gn : h.Ns mainGlobals mg) {od23 an23 : Option Addr} {sl23 : Array (Option Value)} {oc23 kV23 dc23 pm23 cd23 ct23 : Value} (a : PySem.W.nsIn K mainGlobals "ring_for" = some (some (.ref fa)))
    (l23 : K.lookup fa = some ⟨oc23, od23, .func (PySem.W.fnOf "ring_for" "ring_for" (defArgs st23) (defBody st23) (defScope st23) .none kV23 dc23 pm23 an23 cd23 ct23), sl23⟩) (c23 : PySem.W.codeIn K cd23 "ring_for" = true) (k23 : PySem.W.keepIn K (.ref fa) = true) : DF G K mg 23 d23 := by
  have F := fun_mk (st := st23) l23 c23 k23
  exact ⟨⟨"ring_for", st23, fa, _, N23, ["kind"], F, sc23, F.binds (ps := ["kind"]) (fun _ _ _ _ _ _ us hl => match us, hl with | [_], _ => rfl), k23, fun _ => PySem.W.mg_of X Gn a, rfl, rfl, sc23.nd, ck23⟩⟩
abbrev st24 : Stmt := top 24
def N24 : List Str := names.getD 24 []
theorem sc24 : FnScope N24 ["kind", "thing"] (defScope st24) := ⟨rfl, rfl, rfl, by decide +kernel, rfl, by decide +kernel, by decide +kernel⟩
theorem ck24 : chkSs G ⟨N24, defScope st24, fun _ => true⟩ (defBody st24) d24.body = true := by decide +kernel
theorem df24 {K : PySem.W.Frag} {mg : Str → Option Value} {h : Heap} {fa : Addr} (X : K.In h) (Gn : h.Ns mainGlobals mg) {od24 an24 : Option Addr} {sl24 : Array (Option Value)} {oc24 kV24 dc24 pm24 cd24 ct24 : Value} (a : PySem.W.nsIn K mainGlobals "is_ring" = some (some (.ref fa)))
    (l24 : K.lookup fa = some ⟨oc24, od24, .func (PySem.W.fnOf "is_ring" "is_ring" (defArgs st24) (defBody st24) (defScope st24) .none kV24 dc24 pm24 an24 cd24 ct24), sl24⟩) (c24 : PySem.W.codeIn K cd24 "is_ring" = true) (k24 : PySem.W.keepIn K (.ref fa) = true) : DF G K mg 24 d24 := by
  have F := fun_mk (st := st24) l24 c24 k24
  exact ⟨⟨"is_ring", st24, fa, _, N24, ["kind", "thing"], F, sc24, F.binds (ps := ["kind", "thing"]) (fun _ _ _ _ _ _ us hl => match us, hl with | [_, _], _ => rfl), k24, fun _ => PySem.W.mg_of X Gn a, rfl, rfl, sc24.nd, ck24⟩⟩
abbrev st25 : Stmt := top 26
def N25 : List Str := names.getD 25 []
theorem sc25 : FnScope N25 ["_law_script"] (defScope st25) := ⟨rfl, rfl, rfl, by decide +kernel, rfl, by decide +kernel, by decide +kernel⟩
theorem ck25 : chkSs G ⟨N25, defScope st25, fun _ => true⟩ (defBody st25) d25.body = true := by decide +kernel
theorem df25 {K : PySem.W.Frag} {mg : Str → Option Value} {h : Heap} {fa : Addr} (X : K.In h) (Gn : h.Ns mainGlobals mg) {od25 an25 : Option Addr} {sl25 : Array (Option Value)} {oc25 kV25 dc25 pm25 cd25 ct25 : Value} (a : PySem.W.nsIn K mainGlobals "_law_bag" = some (some (.ref fa)))
    (l25 : K.lookup fa = some ⟨oc25, od25, .func (PySem.W.fnOf "_law_bag" "_law_bag" (defArgs st25) (defBody st25) (defScope st25) .none kV25 dc25 pm25 an25 cd25 ct25), sl25⟩) (c25 : PySem.W.codeIn K cd25 "_law_bag" = true) (k25 : PySem.W.keepIn K (.ref fa) = true) : DF G K mg 25 d25 := by
  have F := fun_mk (st := st25) l25 c25 k25
  exact ⟨⟨"_law_bag", st25, fa, _, N25, ["_law_script"], F, sc25, F.binds (ps := ["_law_script"]) (fun _ _ _ _ _ _ us hl => match us, hl with | [_], _ => rfl), k25, fun _ => PySem.W.mg_of X Gn a, rfl, rfl, sc25.nd, ck25⟩⟩
abbrev st26 : Stmt := top 27
def N26 : List Str := names.getD 26 []
theorem sc26 : FnScope N26 ["_law_bag_here", "_law_many"] (defScope st26) := ⟨rfl, rfl, rfl, by decide +kernel, rfl, by decide +kernel, by decide +kernel⟩
theorem ck26 : chkSs G ⟨N26, defScope st26, fun _ => true⟩ (defBody st26) d26.body = true := by decide +kernel
theorem df26 {K : PySem.W.Frag} {mg : Str → Option Value} {h : Heap} {fa : Addr} (X : K.In h) (Gn : h.Ns mainGlobals mg) {od26 an26 : Option Addr} {sl26 : Array (Option Value)} {oc26 kV26 dc26 pm26 cd26 ct26 : Value} (a : PySem.W.nsIn K mainGlobals "_law_take" = some (some (.ref fa)))
    (l26 : K.lookup fa = some ⟨oc26, od26, .func (PySem.W.fnOf "_law_take" "_law_take" (defArgs st26) (defBody st26) (defScope st26) .none kV26 dc26 pm26 an26 cd26 ct26), sl26⟩) (c26 : PySem.W.codeIn K cd26 "_law_take" = true) (k26 : PySem.W.keepIn K (.ref fa) = true) : DF G K mg 26 d26 := by
  have F := fun_mk (st := st26) l26 c26 k26
  exact ⟨⟨"_law_take", st26, fa, _, N26, ["_law_bag_here", "_law_many"], F, sc26, F.binds (ps := ["_law_bag_here", "_law_many"]) (fun _ _ _ _ _ _ us hl => match us, hl with | [_, _], _ => rfl), k26, fun _ => PySem.W.mg_of X Gn a, rfl, rfl, sc26.nd, ck26⟩⟩
abbrev st27 : Stmt := top 28
def N27 : List Str := names.getD 27 []
theorem sc27 : FnScope N27 ["_law_found", "_law_due"] (defScope st27) := ⟨rfl, rfl, rfl, by decide +kernel, rfl, by decide +kernel, by decide +kernel⟩
theorem ck27 : chkSs G ⟨N27, defScope st27, fun _ => true⟩ (defBody st27) d27.body = true := by decide +kernel
theorem df27 {K : PySem.W.Frag} {mg : Str → Option Value} {h : Heap} {fa : Addr} (X : K.In h) (Gn : h.Ns mainGlobals mg) {od27 an27 : Option Addr} {sl27 : Array (Option Value)} {oc27 kV27 dc27 pm27 cd27 ct27 : Value} (a : PySem.W.nsIn K mainGlobals "_law_alike" = some (some (.ref fa)))
    (l27 : K.lookup fa = some ⟨oc27, od27, .func (PySem.W.fnOf "_law_alike" "_law_alike" (defArgs st27) (defBody st27) (defScope st27) .none kV27 dc27 pm27 an27 cd27 ct27), sl27⟩) (c27 : PySem.W.codeIn K cd27 "_law_alike" = true) (k27 : PySem.W.keepIn K (.ref fa) = true) : DF G K mg 27 d27 := by
  have F := fun_mk (st := st27) l27 c27 k27
  exact ⟨⟨"_law_alike", st27, fa, _, N27, ["_law_found", "_law_due"], F, sc27, F.binds (ps := ["_law_found", "_law_due"]) (fun _ _ _ _ _ _ us hl => match us, hl with | [_, _], _ => rfl), k27, fun _ => PySem.W.mg_of X Gn a, rfl, rfl, sc27.nd, ck27⟩⟩
abbrev st28 : Stmt := top 29
def N28 : List Str := names.getD 28 []
theorem sc28 : FnScope N28 ["_law_bag_here", "_law_things"] (defScope st28) := ⟨rfl, rfl, rfl, by decide +kernel, rfl, by decide +kernel, by decide +kernel⟩
theorem ck28 : chkSs G ⟨N28, defScope st28, fun _ => true⟩ (defBody st28) d28.body = true := by decide +kernel
theorem df28 {K : PySem.W.Frag} {mg : Str → Option Value} {h : Heap} {fa : Addr} (X : K.In h) (Gn : h.Ns mainGlobals mg) {od28 an28 : Option Addr} {sl28 : Array (Option Value)} {oc28 kV28 dc28 pm28 cd28 ct28 : Value} (a : PySem.W.nsIn K mainGlobals "_law_one" = some (some (.ref fa)))
    (l28 : K.lookup fa = some ⟨oc28, od28, .func (PySem.W.fnOf "_law_one" "_law_one" (defArgs st28) (defBody st28) (defScope st28) .none kV28 dc28 pm28 an28 cd28 ct28), sl28⟩) (c28 : PySem.W.codeIn K cd28 "_law_one" = true) (k28 : PySem.W.keepIn K (.ref fa) = true) : DF G K mg 28 d28 := by
  have F := fun_mk (st := st28) l28 c28 k28
  exact ⟨⟨"_law_one", st28, fa, _, N28, ["_law_bag_here", "_law_things"], F, sc28, F.binds (ps := ["_law_bag_here", "_law_things"]) (fun _ _ _ _ _ _ us hl => match us, hl with | [_, _], _ => rfl), k28, fun _ => PySem.W.mg_of X Gn a, rfl, rfl, sc28.nd, ck28⟩⟩
abbrev st29 : Stmt := top 30
def N29 : List Str := names.getD 29 []
theorem sc29 : FnScope N29 [] (defScope st29) := ⟨rfl, rfl, rfl, by decide +kernel, rfl, by decide +kernel, by decide +kernel⟩
theorem ck29 : chkSs G ⟨N29, defScope st29, fun _ => true⟩ (defBody st29) d29.body = true := by decide +kernel
theorem df29 {K : PySem.W.Frag} {mg : Str → Option Value} {h : Heap} {fa : Addr} (X : K.In h) (Gn : h.Ns mainGlobals mg) {od29 an29 : Option Addr} {sl29 : Array (Option Value)} {oc29 kV29 dc29 pm29 cd29 ct29 : Value} (a : PySem.W.nsIn K mainGlobals "_law_all_ways" = some (some (.ref fa)))
    (l29 : K.lookup fa = some ⟨oc29, od29, .func (PySem.W.fnOf "_law_all_ways" "_law_all_ways" (defArgs st29) (defBody st29) (defScope st29) .none kV29 dc29 pm29 an29 cd29 ct29), sl29⟩) (c29 : PySem.W.codeIn K cd29 "_law_all_ways" = true) (k29 : PySem.W.keepIn K (.ref fa) = true) : DF G K mg 29 d29 := by
  have F := fun_mk (st := st29) l29 c29 k29
  exact ⟨⟨"_law_all_ways", st29, fa, _, N29, [], F, sc29, F.binds (ps := []) (fun _ _ _ _ _ _ us hl => match us, hl with | [], _ => rfl), k29, fun _ => PySem.W.mg_of X Gn a, rfl, rfl, sc29.nd, ck29⟩⟩
abbrev st30 : Stmt := top 31
def N30 : List Str := names.getD 30 []
theorem sc30 : FnScope N30 ["_law_one_here", "_law_other"] (defScope st30) := ⟨rfl, rfl, rfl, by decide +kernel, rfl, by decide +kernel, by decide +kernel⟩
theorem ck30 : chkSs G ⟨N30, defScope st30, fun _ => true⟩ (defBody st30) d30.body = true := by decide +kernel
theorem df30 {K : PySem.W.Frag} {mg : Str → Option Value} {h : Heap} {fa : Addr} (X : K.In h) (Gn : h.Ns mainGlobals mg) {od30 an30 : Option Addr} {sl30 : Array (Option Value)} {oc30 kV30 dc30 pm30 cd30 ct30 : Value} (a : PySem.W.nsIn K mainGlobals "_law_direction" = some (some (.ref fa)))
    (l30 : K.lookup fa = some ⟨oc30, od30, .func (PySem.W.fnOf "_law_direction" "_law_direction" (defArgs st30) (defBody st30) (defScope st30) .none kV30 dc30 pm30 an30 cd30 ct30), sl30⟩) (c30 : PySem.W.codeIn K cd30 "_law_direction" = true) (k30 : PySem.W.keepIn K (.ref fa) = true) : DF G K mg 30 d30 := by
  have F := fun_mk (st := st30) l30 c30 k30
  exact ⟨⟨"_law_direction", st30, fa, _, N30, ["_law_one_here", "_law_other"], F, sc30, F.binds (ps := ["_law_one_here", "_law_other"]) (fun _ _ _ _ _ _ us hl => match us, hl with | [_, _], _ => rfl), k30, fun _ => PySem.W.mg_of X Gn a, rfl, rfl, sc30.nd, ck30⟩⟩
abbrev st31 : Stmt := top 32
def N31 : List Str := names.getD 31 []
theorem sc31 : FnScope N31 [] (defScope st31) := ⟨rfl, rfl, rfl, by decide +kernel, rfl, by decide +kernel, by decide +kernel⟩
theorem ck31 : chkSs G ⟨N31, defScope st31, fun _ => true⟩ (defBody st31) d31.body = true := by decide +kernel
theorem df31 {K : PySem.W.Frag} {mg : Str → Option Value} {h : Heap} {fa : Addr} (X : K.In h) (Gn : h.Ns mainGlobals mg) {od31 an31 : Option Addr} {sl31 : Array (Option Value)} {oc31 kV31 dc31 pm31 cd31 ct31 : Value} (a : PySem.W.nsIn K mainGlobals "_law_pairs_of_words" = some (some (.ref fa)))
    (l31 : K.lookup fa = some ⟨oc31, od31, .func (PySem.W.fnOf "_law_pairs_of_words" "_law_pairs_of_words" (defArgs st31) (defBody st31) (defScope st31) .none kV31 dc31 pm31 an31 cd31 ct31), sl31⟩) (c31 : PySem.W.codeIn K cd31 "_law_pairs_of_words" = true) (k31 : PySem.W.keepIn K (.ref fa) = true) : DF G K mg 31 d31 := by
  have F := fun_mk (st := st31) l31 c31 k31
  exact ⟨⟨"_law_pairs_of_words", st31, fa, _, N31, [], F, sc31, F.binds (ps := []) (fun _ _ _ _ _ _ us hl => match us, hl with | [], _ => rfl), k31, fun _ => PySem.W.mg_of X Gn a, rfl, rfl, sc31.nd, ck31⟩⟩
abbrev st32 : Stmt := top 33
def N32 : List Str := names.getD 32 []
theorem sc32 : FnScope N32 ["_law_one_here", "_law_other"] (defScope st32) := ⟨rfl, rfl, rfl, by decide +kernel, rfl, by decide +kernel, by decide +kernel⟩
theorem ck32 : chkSs G ⟨N32, defScope st32, fun _ => true⟩ (defBody st32) d32.body = true := by decide +kernel
theorem df32 {K : PySem.W.Frag} {mg : Str → Option Value} {h : Heap} {fa : Addr} (X : K.In h) (Gn : h.Ns mainGlobals mg) {od32 an32 : Option Addr} {sl32 : Array (Option Value)} {oc32 kV32 dc32 pm32 cd32 ct32 : Value} (a : PySem.W.nsIn K mainGlobals "_law_way" = some (some (.ref fa)))
    (l32 : K.lookup fa = some ⟨oc32, od32, .func (PySem.W.fnOf "_law_way" "_law_way" (defArgs st32) (defBody st32) (defScope st32) .none kV32 dc32 pm32 an32 cd32 ct32), sl32⟩) (c32 : PySem.W.codeIn K cd32 "_law_way" = true) (k32 : PySem.W.keepIn K (.ref fa) = true) : DF G K mg 32 d32 := by
  have F := fun_mk (st := st32) l32 c32 k32
  exact ⟨⟨"_law_way", st32, fa, _, N32, ["_law_one_here", "_law_other"], F, sc32, F.binds (ps := ["_law_one_here", "_law_other"]) (fun _ _ _ _ _ _ us hl => match us, hl with | [_, _], _ => rfl), k32, fun _ => PySem.W.mg_of X Gn a, rfl, rfl, sc32.nd, ck32⟩⟩
abbrev st33 : Stmt := top 34
def N33 : List Str := names.getD 33 []
theorem sc33 : FnScope N33 ["_law_bag_here", "_law_bows"] (defScope st33) := ⟨rfl, rfl, rfl, by decide +kernel, rfl, by decide +kernel, by decide +kernel⟩
theorem ck33 : chkSs G ⟨N33, defScope st33, fun _ => true⟩ (defBody st33) d33.body = true := by decide +kernel
theorem df33 {K : PySem.W.Frag} {mg : Str → Option Value} {h : Heap} {fa : Addr} (X : K.In h) (Gn : h.Ns mainGlobals mg) {od33 an33 : Option Addr} {sl33 : Array (Option Value)} {oc33 kV33 dc33 pm33 cd33 ct33 : Value} (a : PySem.W.nsIn K mainGlobals "_law_spread" = some (some (.ref fa)))
    (l33 : K.lookup fa = some ⟨oc33, od33, .func (PySem.W.fnOf "_law_spread" "_law_spread" (defArgs st33) (defBody st33) (defScope st33) .none kV33 dc33 pm33 an33 cd33 ct33), sl33⟩) (c33 : PySem.W.codeIn K cd33 "_law_spread" = true) (k33 : PySem.W.keepIn K (.ref fa) = true) : DF G K mg 33 d33 := by
  have F := fun_mk (st := st33) l33 c33 k33
  exact ⟨⟨"_law_spread", st33, fa, _, N33, ["_law_bag_here", "_law_bows"], F, sc33, F.binds (ps := ["_law_bag_here", "_law_bows"]) (fun _ _ _ _ _ _ us hl => match us, hl with | [_, _], _ => rfl), k33, fun _ => PySem.W.mg_of X Gn a, rfl, rfl, sc33.nd, ck33⟩⟩
abbrev st34 : Stmt := top 35
def N34 : List Str := names.getD 34 []
theorem sc34 : FnScope N34 ["_law_bag_here"] (defScope st34) := ⟨rfl, rfl, rfl, by decide +kernel, rfl, by decide +kernel, by decide +kernel⟩
theorem ck34 : chkSs G ⟨N34, defScope st34, fun _ => true⟩ (defBody st34) d34.body = true := by decide +kernel
theorem df34 {K : PySem.W.Frag} {mg : Str → Option Value} {h : Heap} {fa : Addr} (X : K.In h) (Gn : h.Ns mainGlobals mg) {od34 an34 : Option Addr} {sl34 : Array (Option Value)} {oc34 kV34 dc34 pm34 cd34 ct34 : Value} (a : PySem.W.nsIn K mainGlobals "_law_ways_drawn" = some (some (.ref fa)))
    (l34 : K.lookup fa = some ⟨oc34, od34, .func (PySem.W.fnOf "_law_ways_drawn" "_law_ways_drawn" (defArgs st34) (defBody st34) (defScope st34) .none kV34 dc34 pm34 an34 cd34 ct34), sl34⟩) (c34 : PySem.W.codeIn K cd34 "_law_ways_drawn" = true) (k34 : PySem.W.keepIn K (.ref fa) = true) : DF G K mg 34 d34 := by
  have F := fun_mk (st := st34) l34 c34 k34
  exact ⟨⟨"_law_ways_drawn", st34, fa, _, N34, ["_law_bag_here"], F, sc34, F.binds (ps := ["_law_bag_here"]) (fun _ _ _ _ _ _ us hl => match us, hl with | [_], _ => rfl), k34, fun _ => PySem.W.mg_of X Gn a, rfl, rfl, sc34.nd, ck34⟩⟩
abbrev st35 : Stmt := top 36
def N35 : List Str := names.getD 35 []
theorem sc35 : FnScope N35 ["_law_ways", "_law_bows", "_law_i", "_law_j"] (defScope st35) := ⟨rfl, rfl, rfl, by decide +kernel, rfl, by decide +kernel, by decide +kernel⟩
theorem ck35 : chkSs G ⟨N35, defScope st35, fun _ => true⟩ (defBody st35) d35.body = true := by decide +kernel
theorem df35 {K : PySem.W.Frag} {mg : Str → Option Value} {h : Heap} {fa : Addr} (X : K.In h) (Gn : h.Ns mainGlobals mg) {od35 an35 : Option Addr} {sl35 : Array (Option Value)} {oc35 kV35 dc35 pm35 cd35 ct35 : Value} (a : PySem.W.nsIn K mainGlobals "_law_lets" = some (some (.ref fa)))
    (l35 : K.lookup fa = some ⟨oc35, od35, .func (PySem.W.fnOf "_law_lets" "_law_lets" (defArgs st35) (defBody st35) (defScope st35) .none kV35 dc35 pm35 an35 cd35 ct35), sl35⟩) (c35 : PySem.W.codeIn K cd35 "_law_lets" = true) (k35 : PySem.W.keepIn K (.ref fa) = true) : DF G K mg 35 d35 := by
  have F := fun_mk (st := st35) l35 c35 k35
  exact ⟨⟨"_law_lets", st35, fa, _, N35, ["_law_ways", "_law_bows", "_law_i", "_law_j"], F, sc35, F.binds (ps := ["_law_ways", "_law_bows", "_law_i", "_law_j"]) (fun _ _ _ _ _ _ us hl => match us, hl with | [_, _, _, _], _ => rfl), k35, fun _ => PySem.W.mg_of X Gn a, rfl, rfl, sc35.nd, ck35⟩⟩
abbrev st36 : Stmt := top 37
def N36 : List Str := names.getD 36 []
theorem sc36 : FnScope N36 ["_law_thing"] (defScope st36) := ⟨rfl, rfl, rfl, by decide +kernel, rfl, by decide +kernel, by decide +kernel⟩
theorem ck36 : chkSs G ⟨N36, defScope st36, fun _ => true⟩ (defBody st36) d36.body = true := by decide +kernel
theorem df36 {K : PySem.W.Frag} {mg : Str → Option Value} {h : Heap} {fa : Addr} (X : K.In h) (Gn : h.Ns mainGlobals mg) {od36 an36 : Option Addr} {sl36 : Array (Option Value)} {oc36 kV36 dc36 pm36 cd36 ct36 : Value} (a : PySem.W.nsIn K mainGlobals "_law_is_whole_number" = some (some (.ref fa)))
    (l36 : K.lookup fa = some ⟨oc36, od36, .func (PySem.W.fnOf "_law_is_whole_number" "_law_is_whole_number" (defArgs st36) (defBody st36) (defScope st36) .none kV36 dc36 pm36 an36 cd36 ct36), sl36⟩) (c36 : PySem.W.codeIn K cd36 "_law_is_whole_number" = true) (k36 : PySem.W.keepIn K (.ref fa) = true) : DF G K mg 36 d36 := by
  have F := fun_mk (st := st36) l36 c36 k36
  exact ⟨⟨"_law_is_whole_number", st36, fa, _, N36, ["_law_thing"], F, sc36, F.binds (ps := ["_law_thing"]) (fun _ _ _ _ _ _ us hl => match us, hl with | [_], _ => rfl), k36, fun _ => PySem.W.mg_of X Gn a, rfl, rfl, sc36.nd, ck36⟩⟩
abbrev st37 : Stmt := top 38
def N37 : List Str := names.getD 37 []
theorem sc37 : FnScope N37 ["_law_ways", "_law_thing"] (defScope st37) := ⟨rfl, rfl, rfl, by decide +kernel, rfl, by decide +kernel, by decide +kernel⟩
theorem ck37 : chkSs G ⟨N37, defScope st37, fun _ => true⟩ (defBody st37) d37.body = true := by decide +kernel
theorem df37 {K : PySem.W.Frag} {mg : Str → Option Value} {h : Heap} {fa : Addr} (X : K.In h) (Gn : h.Ns mainGlobals mg) {od37 an37 : Option Addr} {sl37 : Array (Option Value)} {oc37 kV37 dc37 pm37 cd37 ct37 : Value} (a : PySem.W.nsIn K mainGlobals "_law_is_ring_of" = some (some (.ref fa)))
    (l37 : K.lookup fa = some ⟨oc37, od37, .func (PySem.W.fnOf "_law_is_ring_of" "_law_is_ring_of" (defArgs st37) (defBody st37) (defScope st37) .none kV37 dc37 pm37 an37 cd37 ct37), sl37⟩) (c37 : PySem.W.codeIn K cd37 "_law_is_ring_of" = true) (k37 : PySem.W.keepIn K (.ref fa) = true) : DF G K mg 37 d37 := by
  have F := fun_mk (st := st37) l37 c37 k37
  exact ⟨⟨"_law_is_ring_of", st37, fa, _, N37, ["_law_ways", "_law_thing"], F, sc37, F.binds (ps := ["_law_ways", "_law_thing"]) (fun _ _ _ _ _ _ us hl => match us, hl with | [_, _], _ => rfl), k37, fun _ => PySem.W.mg_of X Gn a, rfl, rfl, sc37.nd, ck37⟩⟩
abbrev st38 : Stmt := top 39
def N38 : List Str := names.getD 38 []
theorem sc38 : FnScope N38 [] (defScope st38) := ⟨rfl, rfl, rfl, by decide +kernel, rfl, by decide +kernel, by decide +kernel⟩
theorem ck38 : chkSs G ⟨N38, defScope st38, fun _ => true⟩ (defBody st38) d38.body = true := by decide +kernel
theorem df38 {K : PySem.W.Frag} {mg : Str → Option Value} {h : Heap} {fa : Addr} (X : K.In h) (Gn : h.Ns mainGlobals mg) {od38 an38 : Option Addr} {sl38 : Array (Option Value)} {oc38 kV38 dc38 pm38 cd38 ct38 : Value} (a : PySem.W.nsIn K mainGlobals "_law_known_rings" = some (some (.ref fa)))
    (l38 : K.lookup fa = some ⟨oc38, od38, .func (PySem.W.fnOf "_law_known_rings" "_law_known_rings" (defArgs st38) (defBody st38) (defScope st38) .none kV38 dc38 pm38 an38 cd38 ct38), sl38⟩) (c38 : PySem.W.codeIn K cd38 "_law_known_rings" = true) (k38 : PySem.W.keepIn K (.ref fa) = true) : DF G K mg 38 d38 := by
  have F := fun_mk (st := st38) l38 c38 k38
  exact ⟨⟨"_law_known_rings", st38, fa, _, N38, [], F, sc38, F.binds (ps := []) (fun _ _ _ _ _ _ us hl => match us, hl with | [], _ => rfl), k38, fun _ => PySem.W.mg_of X Gn a, rfl, rfl, sc38.nd, ck38⟩⟩
abbrev st39 : Stmt := top 40
def N39 : List Str := names.getD 39 []
theorem sc39 : FnScope N39 ["_law_bag_here", "_law_bows"] (defScope st39) := ⟨rfl, rfl, rfl, by decide +kernel, rfl, by decide +kernel, by decide +kernel⟩
theorem ck39 : chkSs G ⟨N39, defScope st39, fun _ => true⟩ (defBody st39) d39.body = true := by decide +kernel
theorem df39 {K : PySem.W.Frag} {mg : Str → Option Value} {h : Heap} {fa : Addr} (X : K.In h) (Gn : h.Ns mainGlobals mg) {od39 an39 : Option Addr} {sl39 : Array (Option Value)} {oc39 kV39 dc39 pm39 cd39 ct39 : Value} (a : PySem.W.nsIn K mainGlobals "_law_moved_ring" = some (some (.ref fa)))
    (l39 : K.lookup fa = some ⟨oc39, od39, .func (PySem.W.fnOf "_law_moved_ring" "_law_moved_ring" (defArgs st39) (defBody st39) (defScope st39) .none kV39 dc39 pm39 an39 cd39 ct39), sl39⟩) (c39 : PySem.W.codeIn K cd39 "_law_moved_ring" = true) (k39 : PySem.W.keepIn K (.ref fa) = true) : DF G K mg 39 d39 := by
  have F := fun_mk (st := st39) l39 c39 k39
  exact ⟨⟨"_law_moved_ring", st39, fa, _, N39, ["_law_bag_here", "_law_bows"], F, sc39, F.binds (ps := ["_law_bag_here", "_law_bows"]) (fun _ _ _ _ _ _ us hl => match us, hl with | [_, _], _ => rfl), k39, fun _ => PySem.W.mg_of X Gn a, rfl, rfl, sc39.nd, ck39⟩⟩
abbrev st40 : Stmt := top 41
def N40 : List Str := names.getD 40 []
theorem sc40 : FnScope N40 ["_law_bag_here", "_law_bows"] (defScope st40) := ⟨rfl, rfl, rfl, by decide +kernel, rfl, by decide +kernel, by decide +kernel⟩
theorem ck40 : chkSs G ⟨N40, defScope st40, fun _ => true⟩ (defBody st40) d40.body = true := by decide +kernel
theorem df40 {K : PySem.W.Frag} {mg : Str → Option Value} {h : Heap} {fa : Addr} (X : K.In h) (Gn : h.Ns mainGlobals mg) {od40 an40 : Option Addr} {sl40 : Array (Option Value)} {oc40 kV40 dc40 pm40 cd40 ct40 : Value} (a : PySem.W.nsIn K mainGlobals "_law_bent_ring" = some (some (.ref fa)))
    (l40 : K.lookup fa = some ⟨oc40, od40, .func (PySem.W.fnOf "_law_bent_ring" "_law_bent_ring" (defArgs st40) (defBody st40) (defScope st40) .none kV40 dc40 pm40 an40 cd40 ct40), sl40⟩) (c40 : PySem.W.codeIn K cd40 "_law_bent_ring" = true) (k40 : PySem.W.keepIn K (.ref fa) = true) : DF G K mg 40 d40 := by
  have F := fun_mk (st := st40) l40 c40 k40
  exact ⟨⟨"_law_bent_ring", st40, fa, _, N40, ["_law_bag_here", "_law_bows"], F, sc40, F.binds (ps := ["_law_bag_here", "_law_bows"]) (fun _ _ _ _ _ _ us hl => match us, hl with | [_, _], _ => rfl), k40, fun _ => PySem.W.mg_of X Gn a, rfl, rfl, sc40.nd, ck40⟩⟩
abbrev st41 : Stmt := top 42
def N41 : List Str := names.getD 41 []
theorem sc41 : FnScope N41 ["_law_script"] (defScope st41) := ⟨rfl, rfl, rfl, by decide +kernel, rfl, by decide +kernel, by decide +kernel⟩
theorem ck41 : chkSs G ⟨N41, defScope st41, fun _ => true⟩ (defBody st41) d41.body = true := by decide +kernel
theorem df41 {K : PySem.W.Frag} {mg : Str → Option Value} {h : Heap} {fa : Addr} (X : K.In h) (Gn : h.Ns mainGlobals mg) {od41 an41 : Option Addr} {sl41 : Array (Option Value)} {oc41 kV41 dc41 pm41 cd41 ct41 : Value} (a : PySem.W.nsIn K mainGlobals "law" = some (some (.ref fa)))
    (l41 : K.lookup fa = some ⟨oc41, od41, .func (PySem.W.fnOf "law" "law" (defArgs st41) (defBody st41) (defScope st41) .none kV41 dc41 pm41 an41 cd41 ct41), sl41⟩) (c41 : PySem.W.codeIn K cd41 "law" = true) (k41 : PySem.W.keepIn K (.ref fa) = true) : DF G K mg 41 d41 ∧ LawF G K mg 41 "_law_script" := by
  have F := fun_mk (st := st41) l41 c41 k41
  exact ⟨⟨⟨"law", st41, fa, _, N41, ["_law_script"], F, sc41, F.binds (ps := ["_law_script"]) (fun _ _ _ _ _ _ us hl => match us, hl with | [_], _ => rfl), k41, fun _ => PySem.W.mg_of X Gn a, rfl, rfl, sc41.nd, ck41⟩⟩, ⟨"law", st41, fa, _, N41, d41, rfl, PySem.W.mg_of X Gn a, F, sc41, rfl, rfl, sc41.nd, ck41, fun s u => .of_eq rfl⟩⟩
def cn (l : List Addr) : Nat → Addr := fun i => l.getD i 0
theorem cf0 {K : PySem.W.Frag} {mg : Str → Option Value} {h : Heap} {C0 : Addr} {zc : ClassData} {f10 : Addr} {od10 an10 : Option Addr} {sl10 : Array (Option Value)} {oc10 kV10 dc10 pm10 cd10 ct10 : Value} {f11 : Addr} {od11 an11 : Option Addr} {sl11 : Array (Option Value)} {oc11 kV11 dc11 pm11 cd11 ct11 : Value} {f12 : Addr} {od12 an12 : Option Addr} {sl12 : Array (Option Value)} {oc12 kV12 dc12 pm12 cd12 ct12 : Value} {f13 : Addr} {od13 an13 : Option Addr} {sl13 : Array (Option Value)} {oc13 kV13 dc13 pm13 cd13 ct13 : Value} {f14 : Addr} {od14 an14 : Option Addr} {sl14 : Array (Option Value)} {oc14 kV14 dc14 pm14 cd14 ct14 : Value} {f15 : Addr} {od15 an15 : Option Addr} {sl15 : Array (Option Value)} {oc15 kV15 dc15 pm15 cd15 ct15 : Value} {f16 : Addr} {od16 an16 : Option Addr} {sl16 : Array (Option Value)} {oc16 kV16 dc16 pm16 cd16 ct16 : Value} {f17 : Addr} {od17 an17 : Option Addr} {sl17 : Array (Option Value)} {oc17 kV17 dc17 pm17 cd17 ct17 : Value} {f18 : Addr} {od18 an18 : Option Addr} {sl18 : Array (Option Value)} {oc18 kV18 dc18 pm18 cd18 ct18 : Value} {f19 : Addr} {od19 an19 : Option Addr} {sl19 : Array (Option Value)} {oc19 kV19 dc19 pm19 cd19 ct19 : Value} {f20 : Addr} {od20 an20 : Option Addr} {sl20 : Array (Option Value)} {oc20 kV20 dc20 pm20 cd20 ct20 : Value} {f21 : Addr} {od21 an21 : Option Addr} {sl21 : Array (Option Value)} {oc21 kV21 dc21 pm21 cd21 ct21 : Value} {f22 : Addr} {od22 an22 : Option Addr} {sl22 : Array (Option Value)} {oc22 kV22 dc22 pm22 cd22 ct22 : Value} (X : K.In h) (Gn : h.Ns mainGlobals mg) (aC : PySem.W.nsIn K mainGlobals "Kind" = some (some (.ref C0)))
    (pg : PySem.W.plainGet K C0 Str.empty = true)
    (hd : PySem.W.hasDictIn K C0 = true)
    (po : PySem.W.plainOver K C0 = true)
    (sa : PySem.W.findIn K (.ref C0) "__setattr__" = some (some (.builtin "object.__setattr__")))
    (mk : PySem.W.makesIn K C0 = true)
    (kc : PySem.W.keepIn K (.ref C0) = true)
    (sf : PySem.W.selfFirst K C0 = true)
    (nq : PySem.W.noSeq K C0 = true)
    (ne : PySem.W.findIn K (.ref C0) "__ne__" = some (some (.builtin "object.__ne__")))
    (ob : PySem.W.mroIn K C0 (.type "object") = some true)
    (kx : PySem.W.findIn K (.ref C0) "__class__" = some (some (.builtin "object.__class__")))
    (ty : PySem.W.typeIn K (.ref C0) = some (.type "type"))
    (cs : PySem.W.clsIn K C0 = some zc)
    (kg : PySem.W.specialIn K (.builtin "object.__class__") "__get__" = some (some (.builtin "getset_descriptor.__get__")))
    (kt : PySem.W.takesIn K (.builtin "object.__class__") = some true)
    (na0 : PySem.W.findIn K (.ref C0) "_ways" = some none)
    (b_NoneType : PySem.W.subIn K (.type "NoneType") (.ref C0) = some false)
    (b_bool : PySem.W.subIn K (.type "bool") (.ref C0) = some false)
    (b_int : PySem.W.subIn K (.type "int") (.ref C0) = some false)
    (b_str : PySem.W.subIn K (.type "str") (.ref C0) = some false)
    (b_list : PySem.W.subIn K (.type "list") (.ref C0) = some false)
    (b_tuple : PySem.W.subIn K (.type "tuple") (.ref C0) = some false)
    (b_dict : PySem.W.subIn K (.type "dict") (.ref C0) = some false)
    (t_bool : PySem.W.subIn K (.ref C0) (.type "bool") = some false)
    (t_int : PySem.W.subIn K (.ref C0) (.type "int") = some false)
    (t_str : PySem.W.subIn K (.ref C0) (.type "str") = some false)
    (t_list : PySem.W.subIn K (.ref C0) (.type "list") = some false)
    (t_tuple : PySem.W.subIn K (.ref C0) (.type "tuple") = some false)
    (t_dict : PySem.W.subIn K (.ref C0) (.type "dict") = some false)
    (f10_ : PySem.W.findIn K (.ref C0) "__init__" = some (some (.ref f10)))
    (i10 : PySem.W.isFn K (.ref f10) = true)
    (l10 : K.lookup f10 = some ⟨oc10, od10, .func (PySem.W.fnOf "__init__" "Kind.__init__" (defArgs st10) (defBody st10) (defScope st10) .none kV10 dc10 pm10 an10 cd10 ct10), sl10⟩) (c10 : PySem.W.codeIn K cd10 "Kind.__init__" = true) (k10 : PySem.W.keepIn K (.ref f10) = true)
    (f11_ : PySem.W.findIn K (.ref C0) "__eq__" = some (some (.ref f11)))
    (i11 : PySem.W.isFn K (.ref f11) = true)
    (n11 : PySem.W.fnIn K f11 = true)
    (l11 : K.lookup f11 = some ⟨oc11, od11, .func (PySem.W.fnOf "__eq__" "Kind.__eq__" (defArgs st11) (defBody st11) (defScope st11) .none kV11 dc11 pm11 an11 cd11 ct11), sl11⟩) (c11 : PySem.W.codeIn K cd11 "Kind.__eq__" = true) (k11 : PySem.W.keepIn K (.ref f11) = true)
    (f12_ : PySem.W.findIn K (.ref C0) "__len__" = some (some (.ref f12)))
    (i12 : PySem.W.isFn K (.ref f12) = true)
    (n12 : PySem.W.fnIn K f12 = true)
    (l12 : K.lookup f12 = some ⟨oc12, od12, .func (PySem.W.fnOf "__len__" "Kind.__len__" (defArgs st12) (defBody st12) (defScope st12) .none kV12 dc12 pm12 an12 cd12 ct12), sl12⟩) (c12 : PySem.W.codeIn K cd12 "Kind.__len__" = true) (k12 : PySem.W.keepIn K (.ref f12) = true)
    (f13_ : PySem.W.findIn K (.ref C0) "__iter__" = some (some (.ref f13)))
    (i13 : PySem.W.isFn K (.ref f13) = true)
    (n13 : PySem.W.fnIn K f13 = true)
    (l13 : K.lookup f13 = some ⟨oc13, od13, .func (PySem.W.fnOf "__iter__" "Kind.__iter__" (defArgs st13) (defBody st13) (defScope st13) .none kV13 dc13 pm13 an13 cd13 ct13), sl13⟩) (c13 : PySem.W.codeIn K cd13 "Kind.__iter__" = true) (k13 : PySem.W.keepIn K (.ref f13) = true)
    (f14_ : PySem.W.findIn K (.ref C0) "__contains__" = some (some (.ref f14)))
    (i14 : PySem.W.isFn K (.ref f14) = true)
    (n14 : PySem.W.fnIn K f14 = true)
    (l14 : K.lookup f14 = some ⟨oc14, od14, .func (PySem.W.fnOf "__contains__" "Kind.__contains__" (defArgs st14) (defBody st14) (defScope st14) .none kV14 dc14 pm14 an14 cd14 ct14), sl14⟩) (c14 : PySem.W.codeIn K cd14 "Kind.__contains__" = true) (k14 : PySem.W.keepIn K (.ref f14) = true)
    (f15_ : PySem.W.findIn K (.ref C0) "__invert__" = some (some (.ref f15)))
    (i15 : PySem.W.isFn K (.ref f15) = true)
    (n15 : PySem.W.fnIn K f15 = true)
    (l15 : K.lookup f15 = some ⟨oc15, od15, .func (PySem.W.fnOf "__invert__" "Kind.__invert__" (defArgs st15) (defBody st15) (defScope st15) .none kV15 dc15 pm15 an15 cd15 ct15), sl15⟩) (c15 : PySem.W.codeIn K cd15 "Kind.__invert__" = true) (k15 : PySem.W.keepIn K (.ref f15) = true)
    (f16_ : PySem.W.findIn K (.ref C0) "__or__" = some (some (.ref f16)))
    (i16 : PySem.W.isFn K (.ref f16) = true)
    (n16 : PySem.W.fnIn K f16 = true)
    (l16 : K.lookup f16 = some ⟨oc16, od16, .func (PySem.W.fnOf "__or__" "Kind.__or__" (defArgs st16) (defBody st16) (defScope st16) .none kV16 dc16 pm16 an16 cd16 ct16), sl16⟩) (c16 : PySem.W.codeIn K cd16 "Kind.__or__" = true) (k16 : PySem.W.keepIn K (.ref f16) = true)
    (f17_ : PySem.W.findIn K (.ref C0) "__and__" = some (some (.ref f17)))
    (i17 : PySem.W.isFn K (.ref f17) = true)
    (n17 : PySem.W.fnIn K f17 = true)
    (l17 : K.lookup f17 = some ⟨oc17, od17, .func (PySem.W.fnOf "__and__" "Kind.__and__" (defArgs st17) (defBody st17) (defScope st17) .none kV17 dc17 pm17 an17 cd17 ct17), sl17⟩) (c17 : PySem.W.codeIn K cd17 "Kind.__and__" = true) (k17 : PySem.W.keepIn K (.ref f17) = true)
    (f18_ : PySem.W.findIn K (.ref C0) "__sub__" = some (some (.ref f18)))
    (i18 : PySem.W.isFn K (.ref f18) = true)
    (n18 : PySem.W.fnIn K f18 = true)
    (l18 : K.lookup f18 = some ⟨oc18, od18, .func (PySem.W.fnOf "__sub__" "Kind.__sub__" (defArgs st18) (defBody st18) (defScope st18) .none kV18 dc18 pm18 an18 cd18 ct18), sl18⟩) (c18 : PySem.W.codeIn K cd18 "Kind.__sub__" = true) (k18 : PySem.W.keepIn K (.ref f18) = true)
    (f19_ : PySem.W.findIn K (.ref C0) "ways" = some (some (.ref f19)))
    (i19 : PySem.W.isFn K (.ref f19) = true)
    (n19 : PySem.W.fnIn K f19 = true)
    (l19 : K.lookup f19 = some ⟨oc19, od19, .func (PySem.W.fnOf "ways" "Kind.ways" (defArgs st19) (defBody st19) (defScope st19) .none kV19 dc19 pm19 an19 cd19 ct19), sl19⟩) (c19 : PySem.W.codeIn K cd19 "Kind.ways" = true) (k19 : PySem.W.keepIn K (.ref f19) = true)
    (f20_ : PySem.W.findIn K (.ref C0) "turned" = some (some (.ref f20)))
    (i20 : PySem.W.isFn K (.ref f20) = true)
    (n20 : PySem.W.fnIn K f20 = true)
    (l20 : K.lookup f20 = some ⟨oc20, od20, .func (PySem.W.fnOf "turned" "Kind.turned" (defArgs st20) (defBody st20) (defScope st20) .none kV20 dc20 pm20 an20 cd20 ct20), sl20⟩) (c20 : PySem.W.codeIn K cd20 "Kind.turned" = true) (k20 : PySem.W.keepIn K (.ref f20) = true)
    (f21_ : PySem.W.findIn K (.ref C0) "lets" = some (some (.ref f21)))
    (i21 : PySem.W.isFn K (.ref f21) = true)
    (n21 : PySem.W.fnIn K f21 = true)
    (l21 : K.lookup f21 = some ⟨oc21, od21, .func (PySem.W.fnOf "lets" "Kind.lets" (defArgs st21) (defBody st21) (defScope st21) .none kV21 dc21 pm21 an21 cd21 ct21), sl21⟩) (c21 : PySem.W.codeIn K cd21 "Kind.lets" = true) (k21 : PySem.W.keepIn K (.ref f21) = true)
    (f22_ : PySem.W.findIn K (.ref C0) "inside_of" = some (some (.ref f22)))
    (i22 : PySem.W.isFn K (.ref f22) = true)
    (n22 : PySem.W.fnIn K f22 = true)
    (l22 : K.lookup f22 = some ⟨oc22, od22, .func (PySem.W.fnOf "inside_of" "Kind.inside_of" (defArgs st22) (defBody st22) (defScope st22) .none kV22 dc22 pm22 an22 cd22 ct22), sl22⟩) (c22 : PySem.W.codeIn K cd22 "Kind.inside_of" = true) (k22 : PySem.W.keepIn K (.ref f22) = true) :
    CF G K mg (cn [C0]) 0 cls0 := by
  refine { mgC := PySem.W.mg_of X Gn aC, cls := ⟨pg, hd, po, sa⟩, made := ⟨d10, "Kind.__init__", st10, f10, _, N10, ["self", "ways"], rfl, ⟨mk, f10_, i10, kc⟩, fun_mk (st := st10) l10 c10 k10, sc10, (fun_mk (st := st10) l10 c10 k10).binds (ps := ["self", "ways"]) (fun _ _ _ _ _ _ us hl => match us, hl with | [_, _], _ => rfl), rfl, rfl, sc10.nd, ck10⟩, ms := fun m g hm => ?_, na := fun n hn => ?_, sf := sf, nq := nq, ne := ne, ob := ob, is := ⟨kx, kg, kt, fun t ht => ?_, fun n hn => ?_⟩, it := fun n hn => by cases hn; exact ⟨_, "Kind.__iter__", st13, f13, _, N13, ["self"], f13_, i13, fun_mk (st := st13) l13 c13 k13, sc13, (fun_mk (st := st13) l13 c13 k13).binds (ps := ["self"]) (fun _ _ _ _ _ _ us hl => match us, hl with | [_], _ => rfl), rfl, by decide +kernel, by decide +kernel⟩ }
  · have hm' : (cls0.ms.lookup m) = some g := hm
    have := mem_lk hm'
    simp only [List.mem_cons, List.not_mem_nil, or_false, Prod.mk.injEq] at this
    rcases this with ⟨rfl, rfl⟩ | ⟨rfl, rfl⟩ | ⟨rfl, rfl⟩ | ⟨rfl, rfl⟩ | ⟨rfl, rfl⟩ | ⟨rfl, rfl⟩ | ⟨rfl, rfl⟩ | ⟨rfl, rfl⟩ | ⟨rfl, rfl⟩ | ⟨rfl, rfl⟩ | ⟨rfl, rfl⟩ | ⟨rfl, rfl⟩
    · exact ⟨d11, "Kind.__eq__", st11, f11, _, N11, ["self", "other"], rfl, ⟨⟨f11_, i11, k11⟩, n11⟩, fun_mk (st := st11) l11 c11 k11, sc11, (fun_mk (st := st11) l11 c11 k11).binds (ps := ["self", "other"]) (fun _ _ _ _ _ _ us hl => match us, hl with | [_, _], _ => rfl), rfl, rfl, sc11.nd, ck11⟩
    · exact ⟨d12, "Kind.__len__", st12, f12, _, N12, ["self"], rfl, ⟨⟨f12_, i12, k12⟩, n12⟩, fun_mk (st := st12) l12 c12 k12, sc12, (fun_mk (st := st12) l12 c12 k12).binds (ps := ["self"]) (fun _ _ _ _ _ _ us hl => match us, hl with | [_], _ => rfl), rfl, rfl, sc12.nd, ck12⟩
    · exact ⟨d13, "Kind.__iter__", st13, f13, _, N13, ["self"], rfl, ⟨⟨f13_, i13, k13⟩, n13⟩, fun_mk (st := st13) l13 c13 k13, sc13, (fun_mk (st := st13) l13 c13 k13).binds (ps := ["self"]) (fun _ _ _ _ _ _ us hl => match us, hl with | [_], _ => rfl), rfl, rfl, sc13.nd, ck13⟩
    · exact ⟨d14, "Kind.__contains__", st14, f14, _, N14, ["self", "thing"], rfl, ⟨⟨f14_, i14, k14⟩, n14⟩, fun_mk (st := st14) l14 c14 k14, sc14, (fun_mk (st := st14) l14 c14 k14).binds (ps := ["self", "thing"]) (fun _ _ _ _ _ _ us hl => match us, hl with | [_, _], _ => rfl), rfl, rfl, sc14.nd, ck14⟩
    · exact ⟨d15, "Kind.__invert__", st15, f15, _, N15, ["self"], rfl, ⟨⟨f15_, i15, k15⟩, n15⟩, fun_mk (st := st15) l15 c15 k15, sc15, (fun_mk (st := st15) l15 c15 k15).binds (ps := ["self"]) (fun _ _ _ _ _ _ us hl => match us, hl with | [_], _ => rfl), rfl, rfl, sc15.nd, ck15⟩
    · exact ⟨d16, "Kind.__or__", st16, f16, _, N16, ["self", "other"], rfl, ⟨⟨f16_, i16, k16⟩, n16⟩, fun_mk (st := st16) l16 c16 k16, sc16, (fun_mk (st := st16) l16 c16 k16).binds (ps := ["self", "other"]) (fun _ _ _ _ _ _ us hl => match us, hl with | [_, _], _ => rfl), rfl, rfl, sc16.nd, ck16⟩
    · exact ⟨d17, "Kind.__and__", st17, f17, _, N17, ["self", "other"], rfl, ⟨⟨f17_, i17, k17⟩, n17⟩, fun_mk (st := st17) l17 c17 k17, sc17, (fun_mk (st := st17) l17 c17 k17).binds (ps := ["self", "other"]) (fun _ _ _ _ _ _ us hl => match us, hl with | [_, _], _ => rfl), rfl, rfl, sc17.nd, ck17⟩
    · exact ⟨d18, "Kind.__sub__", st18, f18, _, N18, ["self", "other"], rfl, ⟨⟨f18_, i18, k18⟩, n18⟩, fun_mk (st := st18) l18 c18 k18, sc18, (fun_mk (st := st18) l18 c18 k18).binds (ps := ["self", "other"]) (fun _ _ _ _ _ _ us hl => match us, hl with | [_, _], _ => rfl), rfl, rfl, sc18.nd, ck18⟩
    · exact ⟨d19, "Kind.ways", st19, f19, _, N19, ["self"], rfl, ⟨⟨f19_, i19, k19⟩, n19⟩, fun_mk (st := st19) l19 c19 k19, sc19, (fun_mk (st := st19) l19 c19 k19).binds (ps := ["self"]) (fun _ _ _ _ _ _ us hl => match us, hl with | [_], _ => rfl), rfl, rfl, sc19.nd, ck19⟩
    · exact ⟨d20, "Kind.turned", st20, f20, _, N20, ["self"], rfl, ⟨⟨f20_, i20, k20⟩, n20⟩, fun_mk (st := st20) l20 c20 k20, sc20, (fun_mk (st := st20) l20 c20 k20).binds (ps := ["self"]) (fun _ _ _ _ _ _ us hl => match us, hl with | [_], _ => rfl), rfl, rfl, sc20.nd, ck20⟩
    · exact ⟨d21, "Kind.lets", st21, f21, _, N21, ["self", "one", "other"], rfl, ⟨⟨f21_, i21, k21⟩, n21⟩, fun_mk (st := st21) l21 c21 k21, sc21, (fun_mk (st := st21) l21 c21 k21).binds (ps := ["self", "one", "other"]) (fun _ _ _ _ _ _ us hl => match us, hl with | [_, _, _], _ => rfl), rfl, rfl, sc21.nd, ck21⟩
    · exact ⟨d22, "Kind.inside_of", st22, f22, _, N22, ["self", "other"], rfl, ⟨⟨f22_, i22, k22⟩, n22⟩, fun_mk (st := st22) l22 c22 k22, sc22, (fun_mk (st := st22) l22 c22 k22).binds (ps := ["self", "other"]) (fun _ _ _ _ _ _ us hl => match us, hl with | [_, _], _ => rfl), rfl, rfl, sc22.nd, ck22⟩
  · have := (List.contains_iff_mem (a := n)).mp hn
    simp only [List.mem_cons, List.not_mem_nil, or_false] at this
    rcases this with rfl
    · exact na0
  · cases t with
    | int => exact kitRT (by decide +kernel) t_int
    | bool => exact kitRT (by decide +kernel) t_bool
    | str => exact kitRT (by decide +kernel) t_str
    | list => exact kitRT (by decide +kernel) t_list
    | tuple => exact kitRT (by decide +kernel) t_tuple
    | dict => exact kitRT (by decide +kernel) t_dict
    | own e =>
      match e, ht with
      | 0, _ => exact kitSelf
      | e + 1, ht => exact absurd ht (by simp [tyOk, G, P])
  · simp only [tyNs, List.mem_cons, List.not_mem_nil, or_false] at hn
    rcases hn with rfl | rfl | rfl | rfl | rfl | rfl | rfl
    · exact kitTR cs ty b_NoneType
    · exact kitTR cs ty b_bool
    · exact kitTR cs ty b_int
    · exact kitTR cs ty b_str
    · exact kitTR cs ty b_list
    · exact kitTR cs ty b_tuple
    · exact kitTR cs ty b_dict
theorem fin {P0 : Program} {w : World} {K : PySem.W.Frag} {mg : Str → Option Value} {h : Heap} {fa : Addr} {C0 : Addr} (KX : K.In h) (Gn : h.Ns mainGlobals mg) (hmg : mg "law" = some (.ref fa)) (D0 : DF G K mg 0 d0) (D1 : DF G K mg 1 d1) (D2 : DF G K mg 2 d2) (D3 : DF G K mg 3 d3) (D4 : DF G K mg 4 d4) (D5 : DF G K mg 5 d5) (D6 : DF G K mg 6 d6) (D7 : DF G K mg 7 d7) (D8 : DF G K mg 8 d8) (D9 : DF G K mg 9 d9) (D23 : DF G K mg 23 d23) (D24 : DF G K mg 24 d24) (D25 : DF G K mg 25 d25) (D26 : DF G K mg 26 d26) (D27 : DF G K mg 27 d27) (D28 : DF G K mg 28 d28) (D29 : DF G K mg 29 d29) (D30 : DF G K mg 30 d30) (D31 : DF G K mg 31 d31) (D32 : DF G K mg 32 d32) (D33 : DF G K mg 33 d33) (D34 : DF G K mg 34 d34) (D35 : DF G K mg 35 d35) (D36 : DF G K mg 36 d36) (D37 : DF G K mg 37 d37) (D38 : DF G K mg 38 d38) (D39 : DF G K mg 39 d39) (D40 : DF G K mg 40 d40) (D41 : DF G K mg 41 d41 ∧ LawF G K mg 41 "_law_script") (K0 : CF G K mg (cn [C0]) 0 cls0) (o_abs : mg "abs" = none) (o_all : mg "all" = none) (o_bool : mg "bool" = none) (o_int : mg "int" = none) (o_isinstance : mg "isinstance" = none) (o_iter : mg "iter" = none) (o_len : mg "len" = none) (o_list : mg "list" = none) (o_max : mg "max" = none) (o_range : mg "range" = none) (o_repr : mg "repr" = none) (o_str : mg "str" = none) (o_tuple : mg "tuple" = none) (g0 : Gl ⟨K, w, (cn [C0])⟩ mg ("FARTHEST", gld0)) (g1 : Gl ⟨K, w, (cn [C0])⟩ mg ("WAYS", gld1)) (g2 : Gl ⟨K, w, (cn [C0])⟩ mg ("WAYS_BY_DIRECTION", gld2)) (g3 : Gl ⟨K, w, (cn [C0])⟩ mg ("RINGS", gld3)) (g4 : Gl ⟨K, w, (cn [C0])⟩ mg ("RING_ORDERS", gld4)) :
    ∃ fd : FuncData, (∀ (s : Shared) (u : Value), BindsTo s fd { pos := [u] } [("_law_script", u)]) ∧ ∀ base : Heap, K.In base → base.Ns mainGlobals mg → FnG P0 w K mg base 120 fa fd ["_law_script"] (spAny K w P 60 lawAt) := by
  obtain ⟨fd, h1, h2⟩ := law_end (G := G) (n := 60) KX Gn hmg ⟨fun _ => D0, fun _ => D1, fun _ => D2, fun _ => D3, fun _ => D4, fun _ => D5, fun _ => D6, fun _ => D7, fun _ => D8, fun _ => D9, fun q => absurd q (by decide), fun q => absurd q (by decide), fun q => absurd q (by decide), fun q => absurd q (by decide), fun q => absurd q (by decide), fun q => absurd q (by decide), fun q => absurd q (by decide), fun q => absurd q (by decide), fun q => absurd q (by decide), fun q => absurd q (by decide), fun q => absurd q (by decide), fun q => absurd q (by decide), fun q => absurd q (by decide), fun _ => D23, fun _ => D24, fun _ => D25, fun _ => D26, fun _ => D27, fun _ => D28, fun _ => D29, fun _ => D30, fun _ => D31, fun _ => D32, fun _ => D33, fun _ => D34, fun _ => D35, fun _ => D36, fun _ => D37, fun _ => D38, fun _ => D39, fun _ => D40, fun _ => D41.1, trivial⟩ ⟨K0, trivial⟩ ⟨o_abs, o_all, o_bool, o_int, o_isinstance, o_iter, o_len, o_list, o_max, o_range, o_repr, o_str, o_tuple, trivial⟩ ⟨g0, g1, g2, g3, g4, trivial⟩ D41.2
  exact ⟨fd, h1, fun base b1 b2 => (h2 base b1 b2).any⟩
end K33

set_option Elab.async false
set_option maxRecDepth 100000
namespace K33
open PySem PySem.Spec PyProof.Rows L2 BK
theorem walk {l : PySem.W.OpenLaw} {q : Program} {loose : List Str} {XP : (Str → Option Value) → Heap → Prop} {YP : World → Heap → Prop} {d : DefRec} {K : Params → PySem.W.Frag} (hn : l.most = some 63) (hdf : d.params.defaults = [])
    (hY : ∀ (w : World) (h : Heap), YP w h → (K w.params).In h)
    (F : ∀ (w : World) (mg : Str → Option Value) (fa : Addr) (h : Heap), (K w.params).In h → h.Ns mainGlobals mg → mg d.name = some (.ref fa) →
      ∃ fd : FuncData, (∀ (s : Shared) (u : Value), BindsTo s fd { pos := [u] } [("_law_script", u)]) ∧ ∀ base : Heap, (K w.params).In base → base.Ns mainGlobals mg → FnG l.prog w (K w.params) mg base 120 fa fd ["_law_script"] (spAny (K w.params) w P 60 lawAt)) :
    PySem.W.WalkO q loose XP YP l.row.toRowW d [] (fun f vs => PySem.call f vs) :=
  walk_ofG (n := 63) (k := 120) (x := "_law_script") (sp := fun w => spAny (K w.params) w P 60 lawAt) hn (by decide) hdf ⟨rfl, by decide, by decide⟩ hY F fun w H a ns hl hO hS => by
    obtain ⟨fr, os, e⟩ := math ns hl
    exact fun cn => law_sp hO hS e
end K33
open PySem PySem.W PyProof.Rows
set_option maxRecDepth 100000 in
set_option maxHeartbeats 0 in
theorem PySem.Challenge.cw_bowkinds_k33_rings_judged_holds : PySem.Challenge.rw_bowkinds_k33_rings_judged.Holds := by
  w_on; o_law; k_head; (case hw => w_witness2)
  k_fill
  refine K33.walk (l := PySem.Challenge.rw_bowkinds_k33_rings_judged) rfl rfl (fun w h Y => PySem.W.kIn_of Y) ?F
  case F =>
    intro w mg fa h KX Gn hmg
    refine' K33.fin (w := w) KX Gn hmg ?D0 ?D1 ?D2 ?D3 ?D4 ?D5 ?D6 ?D7 ?D8 ?D9 ?D23 ?D24 ?D25 ?D26 ?D27 ?D28 ?D29 ?D30 ?D31 ?D32 ?D33 ?D34 ?D35 ?D36 ?D37 ?D38 ?D39 ?D40 ?D41 ?K0 ?o_abs ?o_all ?o_bool ?o_int ?o_isinstance ?o_iter ?o_len ?o_list ?o_max ?o_range ?o_repr ?o_str ?o_tuple ?cst0 ?cst1 ?cst2 ?cst3 ?cst4
    case K0 =>
      refine' K33.cf0 KX Gn ?aC ?pg ?hd ?po ?sa ?mk ?kc ?sf ?nq ?ne ?ob ?kx ?ty ?cs ?kg ?kt ?na0 ?b_NoneType ?b_bool ?b_int ?b_str ?b_list ?b_tuple ?b_dict ?t_bool ?t_int ?t_str ?t_list ?t_tuple ?t_dict ?f10_ ?i10 ?l10 ?c10 ?k10 ?f11_ ?i11 ?n11 ?l11 ?c11 ?k11 ?f12_ ?i12 ?n12 ?l12 ?c12 ?k12 ?f13_ ?i13 ?n13 ?l13 ?c13 ?k13 ?f14_ ?i14 ?n14 ?l14 ?c14 ?k14 ?f15_ ?i15 ?n15 ?l15 ?c15 ?k15 ?f16_ ?i16 ?n16 ?l16 ?c16 ?k16 ?f17_ ?i17 ?n17 ?l17 ?c17 ?k17 ?f18_ ?i18 ?n18 ?l18 ?c18 ?k18 ?f19_ ?i19 ?n19 ?l19 ?c19 ?k19 ?f20_ ?i20 ?n20 ?l20 ?c20 ?k20 ?f21_ ?i21 ?n21 ?l21 ?c21 ?k21 ?f22_ ?i22 ?n22 ?l22 ?c22 ?k22
      (case aC => k_is)
      (case pg => k_is)
      (case hd => k_is)
      (case po => k_is)
      (case sa => k_is)
      (case mk => k_is)
      (case kc => k_is)
      (case sf => k_is)
      (case nq => k_is)
      (case ne => k_is)
      (case ob => k_is)
      (case kx => k_is)
      (case ty => k_is)
      (case cs => k_is)
      (case kg => k_is)
      (case kt => k_is)
      (case na0 => k_is)
      (case b_NoneType => k_is)
      (case b_bool => k_is)
      (case b_int => k_is)
      (case b_str => k_is)
      (case b_list => k_is)
      (case b_tuple => k_is)
      (case b_dict => k_is)
      (case t_bool => k_is)
      (case t_int => k_is)
      (case t_str => k_is)
      (case t_list => k_is)
      (case t_tuple => k_is)
      (case t_dict => k_is)
      (case f10_ => k_is)
      (case i10 => k_is)
      (case l10 => k_is)
      (case c10 => k_is)
      (case k10 => k_is)
      (case f11_ => k_is)
      (case i11 => k_is)
      (case n11 => k_is)
      (case l11 => k_is)
      (case c11 => k_is)
      (case k11 => k_is)
      (case f12_ => k_is)
      (case i12 => k_is)
      (case n12 => k_is)
      (case l12 => k_is)
      (case c12 => k_is)
      (case k12 => k_is)
      (case f13_ => k_is)
      (case i13 => k_is)
      (case n13 => k_is)
      (case l13 => k_is)
      (case c13 => k_is)
      (case k13 => k_is)
      (case f14_ => k_is)
      (case i14 => k_is)
      (case n14 => k_is)
      (case l14 => k_is)
      (case c14 => k_is)
      (case k14 => k_is)
      (case f15_ => k_is)
      (case i15 => k_is)
      (case n15 => k_is)
      (case l15 => k_is)
      (case c15 => k_is)
      (case k15 => k_is)
      (case f16_ => k_is)
      (case i16 => k_is)
      (case n16 => k_is)
      (case l16 => k_is)
      (case c16 => k_is)
      (case k16 => k_is)
      (case f17_ => k_is)
      (case i17 => k_is)
      (case n17 => k_is)
      (case l17 => k_is)
      (case c17 => k_is)
      (case k17 => k_is)
      (case f18_ => k_is)
      (case i18 => k_is)
      (case n18 => k_is)
      (case l18 => k_is)
      (case c18 => k_is)
      (case k18 => k_is)
      (case f19_ => k_is)
      (case i19 => k_is)
      (case n19 => k_is)
      (case l19 => k_is)
      (case c19 => k_is)
      (case k19 => k_is)
      (case f20_ => k_is)
      (case i20 => k_is)
      (case n20 => k_is)
      (case l20 => k_is)
      (case c20 => k_is)
      (case k20 => k_is)
      (case f21_ => k_is)
      (case i21 => k_is)
      (case n21 => k_is)
      (case l21 => k_is)
      (case c21 => k_is)
      (case k21 => k_is)
      (case f22_ => k_is)
      (case i22 => k_is)
      (case n22 => k_is)
      (case l22 => k_is)
      (case c22 => k_is)
      (case k22 => k_is)
    case D0 =>
      refine' K33.df0 KX Gn ?a ?l0 ?c0 ?k0
      (case a => k_is)
      (case l0 => k_is)
      (case c0 => k_is)
      (case k0 => k_is)
    case D1 =>
      refine' K33.df1 KX Gn ?a ?l1 ?c1 ?k1
      (case a => k_is)
      (case l1 => k_is)
      (case c1 => k_is)
      (case k1 => k_is)
    case D2 =>
      refine' K33.df2 KX Gn ?a ?l2 ?c2 ?k2
      (case a => k_is)
      (case l2 => k_is)
      (case c2 => k_is)
      (case k2 => k_is)
    case D3 =>
      refine' K33.df3 KX Gn ?a ?l3 ?c3 ?k3
      (case a => k_is)
      (case l3 => k_is)
      (case c3 => k_is)
      (case k3 => k_is)
    case D4 =>
      refine' K33.df4 KX Gn ?a ?l4 ?c4 ?k4
      (case a => k_is)
      (case l4 => k_is)
      (case c4 => k_is)
      (case k4 => k_is)
    case D5 =>
      refine' K33.df5 KX Gn ?a ?l5 ?c5 ?k5
      (case a => k_is)
      (case l5 => k_is)
      (case c5 => k_is)
      (case k5 => k_is)
    case D6 =>
      refine' K33.df6 KX Gn ?a ?l6 ?c6 ?k6
      (case a => k_is)
      (case l6 => k_is)
      (case c6 => k_is)
      (case k6 => k_is)
    case D7 =>
      refine' K33.df7 KX Gn ?a ?l7 ?c7 ?k7
      (case a => k_is)
      (case l7 => k_is)
      (case c7 => k_is)
      (case k7 => k_is)
    case D8 =>
      refine' K33.df8 KX Gn ?a ?l8 ?c8 ?k8
      (case a => k_is)
      (case l8 => k_is)
      (case c8 => k_is)
      (case k8 => k_is)
    case D9 =>
      refine' K33.df9 KX Gn ?a ?l9 ?c9 ?k9
      (case a => k_is)
      (case l9 => k_is)
      (case c9 => k_is)
      (case k9 => k_is)
    case D23 =>
      refine' K33.df23 KX Gn ?a ?l23 ?c23 ?k23
      (case a => k_is)
      (case l23 => k_is)
      (case c23 => k_is)
      (case k23 => k_is)
    case D24 =>
      refine' K33.df24 KX Gn ?a ?l24 ?c24 ?k24
      (case a => k_is)
      (case l24 => k_is)
      (case c24 => k_is)
      (case k24 => k_is)
    case D25 =>
      refine' K33.df25 KX Gn ?a ?l25 ?c25 ?k25
      (case a => k_is)
      (case l25 => k_is)
      (case c25 => k_is)
      (case k25 => k_is)
    case D26 =>
      refine' K33.df26 KX Gn ?a ?l26 ?c26 ?k26
      (case a => k_is)
      (case l26 => k_is)
      (case c26 => k_is)
      (case k26 => k_is)
    case D27 =>
      refine' K33.df27 KX Gn ?a ?l27 ?c27 ?k27
      (case a => k_is)
      (case l27 => k_is)
      (case c27 => k_is)
      (case k27 => k_is)
    case D28 =>
      refine' K33.df28 KX Gn ?a ?l28 ?c28 ?k28
      (case a => k_is)
      (case l28 => k_is)
      (case c28 => k_is)
      (case k28 => k_is)
    case D29 =>
      refine' K33.df29 KX Gn ?a ?l29 ?c29 ?k29
      (case a => k_is)
      (case l29 => k_is)
      (case c29 => k_is)
      (case k29 => k_is)
    case D30 =>
      refine' K33.df30 KX Gn ?a ?l30 ?c30 ?k30
      (case a => k_is)
      (case l30 => k_is)
      (case c30 => k_is)
      (case k30 => k_is)
    case D31 =>
      refine' K33.df31 KX Gn ?a ?l31 ?c31 ?k31
      (case a => k_is)
      (case l31 => k_is)
      (case c31 => k_is)
      (case k31 => k_is)
    case D32 =>
      refine' K33.df32 KX Gn ?a ?l32 ?c32 ?k32
      (case a => k_is)
      (case l32 => k_is)
      (case c32 => k_is)
      (case k32 => k_is)
    case D33 =>
      refine' K33.df33 KX Gn ?a ?l33 ?c33 ?k33
      (case a => k_is)
      (case l33 => k_is)
      (case c33 => k_is)
      (case k33 => k_is)
    case D34 =>
      refine' K33.df34 KX Gn ?a ?l34 ?c34 ?k34
      (case a => k_is)
      (case l34 => k_is)
      (case c34 => k_is)
      (case k34 => k_is)
    case D35 =>
      refine' K33.df35 KX Gn ?a ?l35 ?c35 ?k35
      (case a => k_is)
      (case l35 => k_is)
      (case c35 => k_is)
      (case k35 => k_is)
    case D36 =>
      refine' K33.df36 KX Gn ?a ?l36 ?c36 ?k36
      (case a => k_is)
      (case l36 => k_is)
      (case c36 => k_is)
      (case k36 => k_is)
    case D37 =>
      refine' K33.df37 KX Gn ?a ?l37 ?c37 ?k37
      (case a => k_is)
      (case l37 => k_is)
      (case c37 => k_is)
      (case k37 => k_is)
    case D38 =>
      refine' K33.df38 KX Gn ?a ?l38 ?c38 ?k38
      (case a => k_is)
      (case l38 => k_is)
      (case c38 => k_is)
      (case k38 => k_is)
    case D39 =>
      refine' K33.df39 KX Gn ?a ?l39 ?c39 ?k39
      (case a => k_is)
      (case l39 => k_is)
      (case c39 => k_is)
      (case k39 => k_is)
    case D40 =>
      refine' K33.df40 KX Gn ?a ?l40 ?c40 ?k40
      (case a => k_is)
      (case l40 => k_is)
      (case c40 => k_is)
      (case k40 => k_is)
    case D41 =>
      refine' K33.df41 KX Gn ?a ?l41 ?c41 ?k41
      (case a => k_is)
      (case l41 => k_is)
      (case c41 => k_is)
      (case k41 => k_is)
    case o_abs =>
      refine PySem.W.mg_none_of KX Gn ?_
      k_is
    case o_all =>
      refine PySem.W.mg_none_of KX Gn ?_
      k_is
    case o_bool =>
      refine PySem.W.mg_none_of KX Gn ?_
      k_is
    case o_int =>
      refine PySem.W.mg_none_of KX Gn ?_
      k_is
    case o_isinstance =>
      refine PySem.W.mg_none_of KX Gn ?_
      k_is
    case o_iter =>
      refine PySem.W.mg_none_of KX Gn ?_
      k_is
    case o_len =>
      refine PySem.W.mg_none_of KX Gn ?_
      k_is
    case o_list =>
      refine PySem.W.mg_none_of KX Gn ?_
      k_is
    case o_max =>
      refine PySem.W.mg_none_of KX Gn ?_
      k_is
    case o_range =>
      refine PySem.W.mg_none_of KX Gn ?_
      k_is
    case o_repr =>
      refine PySem.W.mg_none_of KX Gn ?_
      k_is
    case o_str =>
      refine PySem.W.mg_none_of KX Gn ?_
      k_is
    case o_tuple =>
      refine PySem.W.mg_none_of KX Gn ?_
      k_is
    case cst0 =>
      refine' BK.gl_val KX Gn ?a ?c
      (case a => k_is)
      (case c => exact by kernel_rfl)
    case cst1 =>
      refine' BK.gl_val KX Gn ?a ?c
      (case a => k_is)
      (case c => exact by kernel_rfl)
    case cst2 =>
      refine' BK.gl_kd KX Gn ?xat ?xlk ?xlit ?xlow ?xk ?xv
      (case xat => k_is)
      (case xlk => k_is)
      (case xlit => exact ⟨⟨_, _, rfl, rfl⟩, ⟨_, _, rfl, rfl⟩, ⟨_, _, rfl, rfl⟩, ⟨_, _, rfl, rfl⟩, ⟨_, _, rfl, rfl⟩, ⟨_, _, rfl, rfl⟩, ⟨_, _, rfl, rfl⟩, ⟨_, _, rfl, rfl⟩, ⟨_, _, rfl, rfl⟩, ⟨_, _, rfl, rfl⟩, ⟨_, _, rfl, rfl⟩, ⟨_, _, rfl, rfl⟩, ⟨_, _, rfl, rfl⟩, trivial⟩)
      (case xlow => rfl)
      (case xk => exact by kernel_rfl)
      (case xv => exact by kernel_rfl)
    case cst3 =>
      refine' BK.gl_val KX Gn ?a ?c
      (case a => k_is)
      (case c => exact by kernel_rfl)
    case cst4 =>
      refine' BK.gl_val KX Gn ?a ?c
      (case a => k_is)
      (case c => exact by kernel_rfl)

