/- A part of a way to reckon what a Go program does without its memory (AvA). -/
import GoSem.Step
import Derived.Calls
import Derived.Below
import Derived.Orders
import Derived.WalkKit
import Derived.Laws.MakeOwn
import Derived.Laws.StructEq
namespace Go.Av
open Go
set_option autoImplicit false
set_option linter.all false

/-- What a value is, with no memory: what lies behind it is in it; what is the call's own goes by a number. -/
inductive V where
  | bool (b : Bool)
  | int (k : IntKind) (n : Int)
  | str (s : List UInt8)
  | agg (cs : List V)
  | tup (vs : List V)
  | nilsl
  | sl (n : Nat) (xs : List V)
  | slx (n : Nat) (xs : List V)
  | own (g len : Nat)
  | nilp
  | ref (cs : List V)
  | ptr (g off : Nat)
  | eptr (g len i off : Nat)
  | cut (g len i j : Nat)
  | nilfn
  | fn (f : FuncId) (first caps : List V)
  | nilmap
  | map (g : Nat)
  | it (g : Nat)
  | junk
  deriving Inhabited

inductive Entry where
  | box (cs : List V)
  | row (E n : Nat) (xs : List V)
  | ibox (cs : List V)
  | irow (n : Nat) (xs : List V)
  | map (kvs : List (V × V))
  | siter (s : List UInt8) (pos : Nat)
  | resv
  | gone
  deriving Inhabited

def V.cells : V → List V
  | .agg cs => cs
  | v => [v]

inductive Opd where
  | t (i : Nat)
  | c (v : V)
  deriving Inhabited

/-- What an operation is, its types settled. -/
inductive AOp where
  | mv (x : Opd)
  | nck (x : Opd)
  | pick (c a b : Opd)
  | box (x : Opd)
  | alloc (cs : List V)
  | build (cs : List V) (parts : List (Nat × Nat × Opd))
  | bsl (n : Nat) (agg : Bool) (parts : List Opd)
  | mks (E n : Nat) (agg : Bool) (zero : List V) (by_ : Nat) (len cap : Opd)
  | load (n : Nat) (agg : Bool) (x : Opd)
  | store (n : Nat) (a x : Opd)
  | bin (op : BinOp) (x y : Opd)
  | binb (neg : Bool) (x y : Opd)
  | cnil (kind : Nat) (neg : Bool) (x y : Opd)
  | cnild (kind : Nat) (neg : Bool) (x y : Opd)
  | eqa (neg : Bool) (ks : List Nat) (x y : Opd)
  | un (op : UnOp) (x : Opd)
  | fad (off : Nat) (x : Opd)
  | fld (off n : Nat) (agg : Bool) (x : Opd)
  | iad (n : Nat) (agg : Bool) (x i : Opd)
  | iaa (len n : Nat) (x i : Opd)
  | ixs (x i : Opd)
  | ixa (len n : Nat) (agg : Bool) (x i : Opd)
  | cvi (k : IntKind) (x : Opd)
  | cvs (x : Opd)
  | b2s (x : Opd)
  | mkfn (f : FuncId) (first caps : List Opd)
  | mkm
  | mput (g : Bool) (ks : List Nat) (x k v : Opd)
  | mget (g : Bool) (ks : List Nat) (zero : V) (ok : Bool) (x k : Opd)
  | mdel (g : Bool) (ks : List Nat) (x k : Opd)
  | len (kind : Nat) (x : Opd)
  | app (E n by_ : Nat) (agg : Bool) (x y : Opd)
  | apps (E by_ : Nat) (x y : Opd)
  | copy (n : Nat) (x y : Opd)
  | slc (n : Nat) (x : Opd) (lo hi mx : Option Opd)
  | sls (x : Opd) (lo hi : Option Opd)
  | call (f : Opd) (args : List Opd)
  | dcall (f : Opd) (args : List Opd)
  | mcall (f x : Opd) (args : List Opd)
  | pcall (f : Opd) (args : List Opd)
  | alcR (j : Nat) (cs : List V)
  | bslm (n : Nat) (agg : Bool) (parts : List Opd)
  | slcm (n : Nat) (x : Opd) (lo hi mx : Option Opd)
  | mnx (isMin : Bool) (args : List Opd)
  | rng (x : Opd)
  | nxt (str : Bool) (x : Opd)
  | ext (x : Opd) (i : Nat)
  | bad
  deriving Inhabited

structure AO where
  dst : Option Nat
  op : AOp
  guard : Option (Nat × Bool)
  deriving Inhabited

inductive AC where
  | skip
  | ops (l : List AO)
  | draw (l : List AO)
  | seq (a b : AC)
  | cond (x : Opd) (a b : AC)
  | block (id : Nat) (a : AC)
  | loop (a : AC)
  | exit (id : Nat)
  | scope (a : AC)
  | ret
  | wk (a : AC)
  | drawX (bx : List (List V)) (ps : List (Nat × Nat)) (l : List AO)
  | bad
  deriving Inhabited

/-! ### Code, its types settled -/
mutual
def vOf : Value → Option V
  | .bool b => some (.bool b)
  | .int k n => some (.int k n)
  | .string s => some (.str s.data.toList)
  | .pointer none => some .nilp
  | .slice none 0 0 => some .nilsl
  | .nilFunc => some .nilfn
  | .map none => some .nilmap
  | .func (.func f) ⟨a⟩ ⟨b⟩ => match vsOf a, vsOf b with | some x, some y => some (.fn f x y) | _, _ => none
  | .agg ⟨cs⟩ => match vsOf cs with | some x => some (.agg x) | _ => none
  | .tuple ⟨cs⟩ => match vsOf cs with | some x => some (.tup x) | _ => none
  | _ => none
def vsOf : List Value → Option (List V)
  | [] => some []
  | v :: l => match vOf v, vsOf l with | some x, some y => some (x :: y) | _, _ => none
end

def cOpd : Operand → Option Opd
  | .tmp t => some (.t t)
  | .const v => (vOf v).map .c
  | .global _ => none
  | .func f => some (.c (.fn f [] []))
def cOpds : List Operand → Option (List Opd)
  | [] => some []
  | x :: l => match cOpd x, cOpds l with | some a, some b => some (a :: b) | _, _ => none
def cOpt : Option Operand → Option (Option Opd)
  | none => some none
  | some x => (cOpd x).map some
def isAggT (P : Program) (t : TypeId) : Bool := match P.underlying t with | some (.struct _) | some (.array _ _) => true | _ => false
/-- Sizes that are told: none, if there is no such type. -/
def sizeT (P : Program) (t : TypeId) : Option Nat := (P.info? t).map (·.size)
/-- Is a value of a type one cell, or a row of them? -/
def tyOk (P : Program) (t : TypeId) (n : Nat) : Bool := (P.underlying t).isSome && (isAggT P t || n == 1)
def zeroT (P : Program) (t : TypeId) : Option V := ((P.info? t).bind (·.zero)).bind vOf
/-- A row's parts in order, one for each place. -/
def inOrder : Nat → List (Nat × Operand) → Option (List Opd)
  | _, [] => some []
  | i, (j, x) :: l => if i = j then match cOpd x, inOrder (i + 1) l with | some a, some b => some (a :: b) | _, _ => none else none
def cParts (P : Program) (fs : Array Field) : List (Nat × Operand) → Option (List (Nat × Nat × Opd))
  | [] => some []
  | (i, x) :: l =>
    match fs[i]? with
    | some f => match sizeT P f.type, cOpd x, cParts P fs l with | some n, some a, some b => some ((f.offset, n, a) :: b) | _, _, _ => none
    | none => none
def cPartsA (n len : Nat) : List (Nat × Operand) → Option (List (Nat × Nat × Opd))
  | [] => some []
  | (i, x) :: l => if i < len then match cOpd x, cPartsA n len l with | some a, some b => some ((i * n, n, a) :: b) | _, _ => none else none
/-- What each cell of a type is, whose equality is that of its cells, one by one: a truth (0), a number (1), a text (2). -/
def flatF (f : TypeId → Option (List Nat)) : List Nat → List Field → Option (List Nat)
  | acc, [] => some acc
  | acc, x :: fs => if x.offset = acc.length ∧ x.name ≠ "_" then (match f x.type with | some l => flatF f (acc ++ l) fs | none => none) else none
def flatK (P : Program) : Nat → TypeId → Option (List Nat)
  | 0, _ => none
  | d + 1, t =>
    match P.underlying t, sizeT P t with
    | some .bool, some 1 => some [0]
    | some (.int _), some 1 => some [1]
    | some .string, some 1 => some [2]
    | some (.struct fs), some n => if P.stoodInHeld t then none else (match flatF (flatK P d) [] fs.toList with | some l => if l.length = n then some l else none | none => none)
    | some (.array len e), some n => (match flatK P d e with | some l => if len * l.length = n then some (List.replicate len l).flatten else none | none => none)
    | _, _ => none
def cOp (P : Program) (o : Oper) : Option AOp :=
  match o.op with
  | .move x | .assign x => (cOpd x).map .mv
  | .nilCheck x => (cOpd x).map .nck
  | .pick c a b => match cOpd c, cOpd a, cOpd b with | some c, some a, some b => some (.pick c a b) | _, _, _ => none
  | .box _ x => (cOpd x).map .box
  | .alloc t => (zeroT P t).map fun z => .alloc z.cells
  | .build t parts =>
    match P.underlying t, zeroT P t with
    | some (.struct fs), some z => if fs.all (fun f => (sizeT P f.type).isSome) then (cParts P fs parts.toList).map (.build z.cells) else none
    | some (.array len e), some z => match sizeT P e with | some n => (cPartsA n len parts.toList).map (.build z.cells) | none => none
    | _, _ => none
  | .buildSlice t len parts =>
    match P.underlying t with
    | some (.slice e) => match sizeT P e, inOrder 0 parts.toList with
      | some n, some l => if l.length = len ∧ len * n ≤ 2 ^ 24 ∧ 0 < n ∧ tyOk P e n = true ∧ (zeroT P e).isSome = true then some (.bsl n (isAggT P e) l) else none
      | _, _ => none
    | _ => none
  | .makeSlice t l c =>
    match P.underlying t with
    | some (.slice e) => match P.info? e, zeroT P e, cOpd l, cOpd c with
      | some i, some z, some l, some c => if z.cells.length = i.size ∧ 0 < i.size ∧ tyOk P e i.size = true then some (.mks e i.size (isAggT P e) z.cells i.bytes l c) else none
      | _, _, _, _ => none
    | _ => none
  | .load t x => match sizeT P t, cOpd x with | some n, some x => if tyOk P t n then some (.load n (isAggT P t) x) else none | _, _ => none
  | .store t a x => match sizeT P t, cOpd a, cOpd x with | some n, some a, some x => some (.store n a x) | _, _, _ => none
  | .binOp op t x y _ =>
    match cOpd x, cOpd y with
    | some x, some y =>
      match P.underlying t with
      | some (.struct _) | some (.array _ _) => if P.eqGuardType P.depth t then none else (match flatK P 20 t, op with | some n, .eql => some (.eqa false n x y) | some n, .neq => some (.eqa true n x y) | _, _ => none)
      | some (.int _) | some .string => some (.bin op x y)
      | some .bool => (match op with | .eql => some (.binb false x y) | .neq => some (.binb true x y) | _ => none)
      | some (.slice _) => (match op with | .eql => some (.cnil 0 false x y) | .neq => some (.cnil 0 true x y) | _ => none)
      | some (.pointer _) => (match op with | .eql => some (.cnil 1 false x y) | .neq => some (.cnil 1 true x y) | _ => none)
      | some (.map _ _) => (match op with | .eql => some (.cnil 2 false x y) | .neq => some (.cnil 2 true x y) | _ => none)
      | some (.func ..) => (match op with | .eql => some (.cnil 3 false x y) | .neq => some (.cnil 3 true x y) | _ => none)
      | _ => none
    | _, _ => none
  | .unOp op _ x => (cOpd x).map (.un op)
  | .convert src dst x =>
    match cOpd x, P.underlying src, P.underlying dst with
    | some x, some (.int _), some (.int k) => some (.cvi k x)
    | some x, some .string, some .string => some (.cvs x)
    | some x, some (.slice e), some .string => (match P.underlying e with | some (.int .u8) => some (.b2s x) | _ => none)
    | _, _, _ => none
  | .makeFunc (.func f) first caps => match cOpds first.toList, cOpds caps.toList with | some a, some b => some (.mkfn f a b) | _, _ => none
  | .makeMap t none => (match P.underlying t with | some (.map _ _) => some .mkm | _ => none)
  | .slice t x lo hi mx =>
    match P.underlying t, cOpd x, cOpt lo, cOpt hi, cOpt mx with
    | some .string, some x, some lo, some hi, some none => some (.sls x lo hi)
    | some (.slice e), some x, some lo, some hi, some mx => (sizeT P e).map fun n => .slc n x lo hi mx
    | _, _, _, _, _ => none
  | .fieldAddr t x f =>
    match P.underlying t, cOpd x with
    | some (.struct fs), some x => match fs[f]? with | some g => (match sizeT P g.type with | some (_ + 1) => some (.fad g.offset x) | _ => none) | none => none
    | _, _ => none
  | .field t x f =>
    match P.underlying t, cOpd x with
    | some (.struct fs), some x => match fs[f]? with | some g => (match sizeT P g.type with | some n => if tyOk P g.type n then some (.fld g.offset n (isAggT P g.type) x) else none | none => none) | none => none
    | _, _ => none
  | .indexAddr t x i =>
    match P.underlying t, cOpd x, cOpd i with
    | some (.slice e), some x, some i => (match sizeT P e with | some (n + 1) => if tyOk P e (n + 1) then some (.iad (n + 1) (isAggT P e) x i) else none | _ => none)
    | some (.array len e), some x, some i => (match sizeT P e with | some (n + 1) => some (.iaa len (n + 1) x i) | _ => none)
    | _, _, _ => none
  | .index t x i =>
    match P.underlying t, cOpd x, cOpd i with
    | some .string, some x, some i => some (.ixs x i)
    | some (.array len e), some x, some i => (match sizeT P e with | some n => if tyOk P e n then some (.ixa len n (isAggT P e) x i) else none | none => none)
    | _, _, _ => none
  | .lookup t x i ok =>
    match P.underlying t, cOpd x, cOpd i with
    | some (.map k e), some x, some i => (match flatK P 20 k, zeroT P e with | some ks, some z => some (.mget (isAggT P k) ks z ok x i) | _, _ => none)
    | _, _, _ => none
  | .mapUpdate t m k x | .insert t m k x =>
    match P.underlying t, cOpd m, cOpd k, cOpd x with
    | some (.map kt _), some m, some k, some x => (match flatK P 20 kt with | some ks => some (.mput (isAggT P kt) ks m k x) | none => none)
    | _, _, _, _ => none
  | .range t x => match P.underlying t, cOpd x with | some .string, some x => some (.rng x) | _, _ => none
  | .next it s => (cOpd it).map (.nxt s)
  | .extract t i => (cOpd t).map fun x => .ext x i
  | .call { callee := .builtin b, args, argTypes } =>
    match cOpds args.toList with
    | none => none
    | some l =>
      match b, l, argTypes.toList with
      | .len, [x], [t] => (match P.underlying t with | some .string => some (.len 0 x) | some (.slice _) => some (.len 1 x) | some (.map _ _) => some (.len 2 x) | _ => none)
      | .append, [x, y], [s, t] =>
        match P.underlying s with
        | some (.slice e) =>
          match P.info? e, (P.info? e).bind (·.zero), P.underlying t with
          | some i, some z, some (.slice _) => if z.cells.size = i.size ∧ 0 < i.size ∧ t = s ∧ tyOk P e i.size = true then some (.app e i.size i.bytes (isAggT P e) x y) else none
          | some i, some z, some .string => if z.cells.size = i.size ∧ i.size = 1 then some (.apps e i.bytes x y) else none
          | _, _, _ => none
        | _ => none
      | .copy, [x, y], [s, _] => match P.underlying s with | some (.slice e) => (sizeT P e).map fun n => .copy n x y | _ => none
      | .delete, [x, k], [t, _] => match P.underlying t with | some (.map kt _) => (match flatK P 20 kt with | some ks => some (.mdel (isAggT P kt) ks x k) | none => none) | _ => none
      | .min, _, t :: _ => match P.underlying t with | some (.int _) => some (.mnx true l) | _ => none
      | .max, _, t :: _ => match P.underlying t with | some (.int _) => some (.mnx false l) | _ => none
      | _, _, _ => none
  | .call { callee := .value f, args, .. } => match cOpd f, cOpds args.toList with | some f, some l => some (.call f l) | _, _ => none
  | _ => none
def cGuard (ops : Array Oper) : Option (Nat × Bool) → Option (Option (Nat × Bool))
  | none => some none
  | some (j, b) => match (ops[j]?).bind (·.dst) with | some d => some (some (d, b)) | none => none
def cOps (P : Program) (ops : Array Oper) : List Oper → Option (List AO)
  | [] => some []
  | o :: l => match cOp P o, cGuard ops o.guard, cOps P ops l with | some a, some g, some r => some (⟨o.dst, a, g⟩ :: r) | _, _, _ => none
/-! ### What may be done in any order -/
/-- How calls are told there: whether what they bring holds for any memory; which of them change what their first argument leads to. -/
structure Md where
  p : Bool
  m : AOp → Bool
def drC (m p : Bool) (f : Opd) : List Opd → AOp
  | [] => bif p then .pcall f [] else .dcall f []
  | x :: a => bif m then .mcall f x a else bif p then .pcall f (x :: a) else .dcall f (x :: a)
def AO.dr (p : Md) (o : AO) : AO :=
  match o.op with
  | .call f a => { o with op := drC (p.m o.op) p.p f a }
  | .bsl n g l => { o with op := .bslm n g l }
  | .slc n x a b c => { o with op := .slcm n x a b c }
  | .cnil k b x y => { o with op := .cnild k b x y }
  | _ => o
def optL : Option Opd → List Opd
  | none => []
  | some x => [x]
/-- What it looks at. -/
def AOp.opds : AOp → List Opd
  | .mv x | .nck x | .box x | .un _ x | .fad _ x | .fld _ _ _ x | .cvi _ x | .cvs x | .b2s x | .len _ x | .ext x _ | .load _ _ x => [x]
  | .pick a b c => [a, b, c]
  | .build _ ps => ps.map (·.2.2)
  | .bslm _ _ l | .mnx _ l => l
  | .mks _ _ _ _ _ l c => [l, c]
  | .bin _ x y | .binb _ x y | .cnil _ _ x y | .cnild _ _ x y | .eqa _ _ x y | .iad _ _ x y | .iaa _ _ x y | .ixs x y | .ixa _ _ _ x y | .mget _ _ _ _ x y => [x, y]
  | .mkfn _ a b => a ++ b
  | .slcm _ x a b c => x :: (optL a ++ (optL b ++ optL c))
  | .sls x a b => x :: (optL a ++ optL b)
  | .dcall f l | .pcall f l => f :: l
  | .mcall f x l => f :: x :: l
  | .store _ x y | .app _ _ _ _ x y | .apps _ _ x y | .copy _ x y => [x, y]
  | .mput _ _ a b c => [a, b, c]
  | .rng x | .nxt _ x => [x]
  | _ => []
def gid : V → Option Nat
  | .own g _ | .ptr g _ | .eptr g _ _ _ | .cut g _ _ _ | .map g | .it g => some g
  | _ => none
def constOk : List Opd → Bool
  | [] => true
  | .t _ :: l => constOk l
  | .c v :: l => (gid v).isNone && constOk l
/-- Only reads (1), or lays something down behind what there is (2), or has nothing to do with memory (3), or writes (4). -/
def AOp.cls : AOp → Nat
  | .mv _ | .un .. | .fld .. | .cvi .. | .cvs _ | .ext .. | .pick .. | .build .. | .bslm .. | .mnx .. | .bin .. | .binb .. | .cnild .. | .eqa .. | .ixs .. | .ixa .. | .mkfn .. | .sls .. | .pcall .. => 3
  | .nck _ | .fad .. | .b2s _ | .len .. | .load .. | .iad .. | .iaa .. | .mget .. | .slcm .. => 1
  | .box _ | .alloc _ | .mkm | .mks .. | .dcall .. => 2
  | .store .. | .app .. | .apps .. | .copy .. | .mput .. | .rng _ | .nxt .. | .mcall .. => 4
  | .alcR .. => 5
  | _ => 0
/-- Does what one does to memory matter for the other? -/
def hcl1 (a b : Nat) : Bool := (Nat.beq a 4 && (Nat.beq b 4 || (Nat.beq b 2 || Nat.beq b 5))) || (Nat.beq a 2 && (Nat.beq b 2 || Nat.beq b 5))
def hcl (a b : Nat) : Bool := hcl1 a b || hcl1 b a
def tmpsOf : List Opd → List Nat
  | [] => []
  | .t i :: l => i :: tmpsOf l
  | .c _ :: l => tmpsOf l
def AO.rds (o : AO) : List Nat := match o.guard with | some (t, _) => t :: tmpsOf o.op.opds | none => tmpsOf o.op.opds
def hasN : List Nat → Nat → Bool
  | [], _ => false
  | x :: l, y => Nat.beq x y || hasN l y
/-- Does one look at what the other gives, or give it, too? -/
def AO.clash (x y : AO) : Bool :=
  (match x.dst with | some d => hasN y.rds d || (match y.dst with | some d' => Nat.beq d d' | none => false) | none => false) ||
  (match y.dst with | some d => hasN x.rds d | none => false) || hcl x.op.cls y.op.cls
/-- What each must wait for. -/
def waitE (acc : List (List Nat)) : List Edge → List Nat
  | [] => []
  | e :: l => if Region.binds .any e then e.on :: ((acc[e.on]?.getD []) ++ waitE acc l) else waitE acc l
def waitA (acc : List (List Nat)) : List Oper → List (List Nat)
  | [] => acc
  | o :: l => waitA (acc ++ [(waitE acc o.after.toList).eraseDups]) l
/-- Each waits for one that stands before it. -/
def edgeOk (w : List (List Nat)) (i : Nat) : List Edge → Bool
  | [] => true
  | e :: l => (!Region.binds .any e || Nat.blt e.on i) && edgeOk w i l
/-- Whatever is told to be waited for is an edge's, or is waited for by one. -/
def waitOk (w : List (List Nat)) (es : List Edge) : List Nat → Bool
  | [] => true
  | j :: l => es.any (fun e => Region.binds .any e && (Nat.beq e.on j || hasN ((w[e.on]?).getD []) j)) && waitOk w es l
def pairOk (w : List Nat) (y : AO) : Nat → List AO → Bool
  | _, [] => true
  | i, x :: l => (!x.clash y || hasN w i) && pairOk w y (i + 1) l
/-- Where it changes what there is: none, if what is there stays. -/
def wOpd : AOp → Option Opd
  | .store _ x _ | .app _ _ _ _ x _ | .apps _ _ x _ | .copy _ x _ | .mput _ _ x _ _ | .nxt _ x | .mcall _ x _ => some x
  | _ => none
def wSlot (o : AOp) : Option Nat := match wOpd o with | some (.t u) => some u | _ => none
/-- Is a slot written from a place on? -/
def wrFrom (t : Nat) : List AO → Bool
  | [] => false
  | o :: l => (match o.dst with | some d => Nat.beq d t | none => false) || wrFrom t l
def hasP : List (Nat × Nat) → Nat → Nat → Bool
  | [], _, _ => false
  | (a, b) :: l, t, u => (Nat.beq a t && Nat.beq b u) || hasP l t u
/-- A look, and a change, that stand in no order: the look's places are told apart from the change's. -/
def sepTs (ps : List (Nat × Nat)) (lx : List AO) (u : Nat) : List Nat → Bool
  | [] => true
  | t :: ts => (hasP ps t u && !wrFrom t lx) && sepTs ps lx u ts
def sepPair (ps : List (Nat × Nat)) (x : AO) (lx : List AO) (y : AO) (ly : List AO) : Bool :=
  match wSlot y.op with
  | none => true
  | some u => !wrFrom u ly && sepTs ps lx u (tmpsOf x.op.opds)
/-- All that stand behind, against one. -/
def sepAll1 (ps : List (Nat × Nat)) (w : List (List Nat)) (x : AO) (lx : List AO) (i : Nat) : Nat → List AO → Bool
  | _, [] => true
  | j, y :: ly => (!(Nat.beq x.op.cls 1 && Nat.beq y.op.cls 4) || (hasN ((w[j]?).getD []) i || sepPair ps x lx y (y :: ly))) &&
      ((!(Nat.beq x.op.cls 4 && Nat.beq y.op.cls 1) || (hasN ((w[j]?).getD []) i || sepPair ps y (y :: ly) x lx)) && sepAll1 ps w x lx i (j + 1) ly)
def sepChk (ps : List (Nat × Nat)) (w : List (List Nat)) : Nat → List AO → Bool
  | _, [] => true
  | i, x :: l => sepAll1 ps w x (x :: l) i (i + 1) l && sepChk ps w (i + 1) l
/-- The pairs that are told apart. -/
def sepG (u : Option Nat) (ts : List Nat) : List (Nat × Nat) := match u with | some u => ts.map fun t => (t, u) | none => []
def sepGo1 (w : List (List Nat)) (x : AO) (i : Nat) : Nat → List AO → List (Nat × Nat)
  | _, [] => []
  | j, y :: ly => (bif (Nat.beq x.op.cls 1 && Nat.beq y.op.cls 4) && !hasN ((w[j]?).getD []) i then sepG (wSlot y.op) (tmpsOf x.op.opds) else []) ++
      ((bif (Nat.beq x.op.cls 4 && Nat.beq y.op.cls 1) && !hasN ((w[j]?).getD []) i then sepG (wSlot x.op) (tmpsOf y.op.opds) else []) ++ sepGo1 w x i (j + 1) ly)
def sepGo (w : List (List Nat)) : Nat → List AO → List (Nat × Nat)
  | _, [] => []
  | i, x :: l => sepGo1 w x i (i + 1) l ++ sepGo w (i + 1) l
/-! New variables, in any order: their numbers are told ahead. -/
def alcO (j : Nat) (o : AO) : AO := match o.op, o.guard with | .alloc cs, none => { o with op := .alcR j cs } | _, _ => o
def isAlc (o : AO) : Bool := match o.op with | .alcR .. => true | _ => false
def alcM : Nat → List AO → List AO
  | _, [] => []
  | j, o :: l => alcO j o :: alcM (bif isAlc (alcO j o) then j + 1 else j) l
def alcL : List AO → List (List V)
  | [] => []
  | o :: l => match o.op with | .alcR _ cs => cs :: alcL l | _ => alcL l
/-- They come in order, are wanted, and stand ahead of all that change what there is, or lay something down. -/
def alcNum : Nat → List AO → Bool
  | _, [] => true
  | n, o :: l => match o.op with | .alcR j _ => (Nat.beq j n && o.guard.isNone) && alcNum (n + 1) l | _ => alcNum n l
def alcF1 (w : List (List Nat)) (i : Nat) : Nat → List AO → Bool
  | _, [] => true
  | j, y :: l => (!(Nat.beq y.op.cls 2 || Nat.beq y.op.cls 4) || hasN ((w[j]?).getD []) i) && alcF1 w i (j + 1) l
def alcFst (w : List (List Nat)) : Nat → List AO → Bool
  | _, [] => true
  | i, x :: l => (!isAlc x || alcF1 w i (i + 1) l) && alcFst w (i + 1) l
def alcNone : List AO → Bool
  | [] => true
  | x :: l => !isAlc x && alcNone l
/-- Ahead of the first of them nothing is changed. -/
def alcAhead : List AO → Bool
  | [] => true
  | x :: l => (!(Nat.beq x.op.cls 2 || Nat.beq x.op.cls 4) || alcNone l) && alcAhead l
def drawGo (w : List (List Nat)) : Nat → List AO → List Oper → List AO → Bool
  | _, _, [], [] => true
  | i, before, o :: os, a :: as =>
    Nat.ble 1 a.op.cls && (constOk a.op.opds && (edgeOk w i o.after.toList && (waitOk w o.after.toList ((w[i]?).getD []) && (pairOk ((w[i]?).getD []) a 0 before && drawGo w (i + 1) (before ++ [a]) os as))))
  | _, _, _, _ => false
def drawOk (ps : List (Nat × Nat)) (ops : List Oper) (l : List AO) : Bool := drawGo (waitA [] ops) 0 [] ops l && (sepChk ps (waitA [] ops) 0 l && (alcNum 0 l && (alcFst (waitA [] ops) 0 l && alcAhead l)))
/-- How a region is done whose operations may be done in any order: so that it is simplest. -/
def drawPs (ops : List Oper) (l : List AO) : List (Nat × Nat) := (sepGo (waitA [] ops) 0 l).eraseDups
/-- Does a function's first argument lead to a variable? -/
def isPtr1 (P : Program) (g : FuncId) : Bool := match P.funcs[g]? with | some fn => (match fn.params[0]? with | some t => (match zeroT P t with | some .nilp => true | _ => false) | none => false) | none => false
def isPC (P : Program) : AOp → Bool
  | .call (.c (.fn g [] [])) (_ :: _) => isPtr1 P g
  | _ => false
def drawB (p : Md) (ops : List Oper) (l : List AO) (r : AC) : AC :=
  if alcNone (l.map (AO.dr p)) && drawOk [] ops (l.map (AO.dr p)) then .draw (l.map (AO.dr p)) else r
def drawD (p : Md) (ops : List Oper) (l : List AO) (r : AC) : AC :=
  if alcNone (l.map (AO.dr p)) && drawOk (drawPs ops (l.map (AO.dr p))) ops (l.map (AO.dr p)) then .drawX [] (drawPs ops (l.map (AO.dr p))) (l.map (AO.dr p)) else r
def drawE (p : Md) (ops : List Oper) (l : List AO) (r : AC) : AC :=
  if alcNone (l.map (AO.dr p)) && drawOk (drawPs ops (alcM 0 (l.map (AO.dr p)))) ops (alcM 0 (l.map (AO.dr p))) then .drawX (alcL (alcM 0 (l.map (AO.dr p)))) (drawPs ops (alcM 0 (l.map (AO.dr p)))) (alcM 0 (l.map (AO.dr p))) else r
def drawT (m : AOp → Bool) (ops : List Oper) (l : List AO) : AC :=
  drawB ⟨false, m⟩ ops l (drawB ⟨true, m⟩ ops l (drawD ⟨false, m⟩ ops l (drawD ⟨true, m⟩ ops l (drawE ⟨false, m⟩ ops l (drawE ⟨true, m⟩ ops l .bad)))))
def drawC (m : AOp → Bool) (ops : List Oper) (l : List AO) : AC := bif l.any (fun o => m o.op) then drawT m ops l else drawT (fun _ => false) ops l
def comp (P : Program) : Code → Option AC
  | .skip => some .skip
  | .region _ ops false => match cOps P ops ops.toList with | some l => some (.ops l) | none => some .bad
  | .region _ ops true => match cOps P ops ops.toList with | some l => if P.follows .mixedOrders then some (drawC (isPC P) ops.toList l) else some .bad | none => some .bad
  | .seq a b => match comp P a, comp P b with | some x, some y => some (.seq x y) | _, _ => none
  | .cond c a b => match cOpd c, comp P a, comp P b with | some c, some x, some y => some (.cond c x y) | _, _, _ => none
  | .block id a => (comp P a).map (.block id)
  | .loop a => (comp P a).map .loop
  | .exit id => some (.exit id)
  | .scope a => (comp P a).map .scope
  | .label _ => some .skip
  | .ret => some .ret
  | _ => some .bad
end Go.Av
namespace Go.Av
open Go Go.RowKit
set_option autoImplicit false
set_option linter.all false

/-! ### What stands for what -/
inductive Shp where
  | box | row (n len : Nat) | map | it | resv | gone
def Entry.shp : Entry → Shp
  | .box _ | .ibox _ => .box
  | .row _ n xs | .irow n xs => .row n xs.length
  | .map _ => .map
  | .siter _ _ => .it
  | .resv => .resv
  | .gone => .gone
def Entry.owned : Entry → Bool
  | .box _ | .row .. | .map _ | .siter .. => true
  | _ => false

/-- What is looked at when a value is read: the world, the blocks that are not to be read, and what goes by a number. -/
structure Rd where
  w : World
  av : Nat → Prop
  sh : Nat → Option Shp
  β : Nat → Option (Nat × Nat)
def Rd.deep (R : Rd) : Rd := { R with sh := fun _ => none }
def cellsAt (w : World) (b o : Nat) (cells : List Value) : Prop := ∀ (k : Nat) (c : Value), cells[k]? = some c → w.cell? ⟨b, o + k, none⟩ = some c

mutual
def VRep (R : Rd) : V → Value → Prop
  | .bool b, v => v = .bool b
  | .int k n, v => v = .int k n
  | .str s, v => v = .string ⟨s.toArray⟩
  | .agg cs, v => ∃ ds : List Value, v = .agg ds.toArray ∧ CRep R cs ds
  | .tup cs, v => ∃ ds : List Value, v = .tuple ds.toArray ∧ CRep R cs ds
  | .nilsl, v => v = .slice none 0 0
  | .sl n xs, v => (xs = [] ∧ ∃ a cap, v = .slice a 0 cap) ∨
      ∃ b o cap cells, v = .slice (some ⟨b, o, none⟩) xs.length cap ∧ xs.length ≤ cap ∧ ¬ R.av b ∧ b < R.w.heap.size ∧ cellsAt R.w b o cells ∧ ERep R.deep n xs cells
  | .slx n xs, v => (xs = [] ∧ ∃ a, v = .slice a 0 0) ∨
      ∃ b o cells, v = .slice (some ⟨b, o, none⟩) xs.length xs.length ∧ ¬ R.av b ∧ b < R.w.heap.size ∧ cellsAt R.w b o cells ∧ ERep R.deep n xs cells
  | .own g len, v => v.oneCell' = true ∧ match R.sh g with
      | some (.row _ l) => len ≤ l ∧ (len = l → (R.β g = none ∧ ∃ a, v = .slice a 0 0) ∨ ∃ b c, R.β g = some (b, c) ∧ v = .slice (some ⟨b, 0, none⟩) len c)
      | some .gone => True
      | _ => False
  | .nilp, v => v = .pointer none
  | .ref cs, v => ∃ b o cells, v = .pointer (some ⟨b, o, none⟩) ∧ ¬ R.av b ∧ b < R.w.heap.size ∧ cellsAt R.w b o cells ∧ CRep R.deep cs cells
  | .ptr g off, v => v.oneCell' = true ∧ match R.sh g with
      | some .box => ∃ b c, R.β g = some (b, c) ∧ v = .pointer (some ⟨b, off, none⟩)
      | some .gone => True
      | _ => False
  | .eptr g len i off, v => v.oneCell' = true ∧ match R.sh g with
      | some (.row n l) => len ≤ l ∧ (len = l → ∃ b c, R.β g = some (b, c) ∧ v = .pointer (some ⟨b, i * n + off, none⟩))
      | some .gone => True
      | _ => False
  | .cut g len i j, v => v.oneCell' = true ∧ match R.sh g with
      | some (.row n l) => len ≤ l ∧ (len = l → (i ≤ j ∧ j ≤ len) ∧ ∃ b c o, R.β g = some (b, c) ∧ len ≤ c ∧ v = .slice (some ⟨b, o, none⟩) (j - i) (c - i) ∧ (i < j → o = i * n))
      | some .gone => True
      | _ => False
  | .nilfn, v => v = .nilFunc
  | .fn f a b, v => ∃ x y : List Value, v = .func (.func f) x.toArray y.toArray ∧ CRep R a x ∧ CRep R b y
  | .nilmap, v => v = .map none
  | .map g, v => v.oneCell' = true ∧ match R.sh g with
      | some .map => ∃ b c, R.β g = some (b, c) ∧ v = .map (some b)
      | some .gone => True
      | _ => False
  | .it g, v => v.oneCell' = true ∧ match R.sh g with
      | some .it => ∃ b c, R.β g = some (b, c) ∧ v = .pointer (some ⟨b, 0, none⟩)
      | some .gone => True
      | _ => False
  | .junk, _ => True
def CRep (R : Rd) : List V → List Value → Prop
  | [], ds => ds = []
  | c :: cs, ds => ∃ d r, ds = d :: r ∧ VRep R c d ∧ CRep R cs r
/-- A row's elements: each is so many cells. -/
def ERep (R : Rd) (n : Nat) : List V → List Value → Prop
  | [], ds => ds = []
  | x :: xs, ds => ∃ v r, ds = v.cells.toList ++ r ∧ v.cells.size = n ∧ (x ≠ .junk ∧ ∀ u ∈ v.cells.toList, u.oneCell' = true) ∧ VRep R x v ∧ ERep R n xs r
end

/-! ### What is the call's own -/
structure Ctx where
  w : World
  β : Nat → Option (Nat × Nat)
  H : List Entry
  F : Nat → Prop
def Ctx.sh (C : Ctx) (g : Nat) : Option Shp := (C.H[g]?).map Entry.shp
def Ctx.own (C : Ctx) (b : Nat) : Prop := ∃ g e c, C.H[g]? = some e ∧ e.owned = true ∧ C.β g = some (b, c)
def Ctx.av (C : Ctx) (b : Nat) : Prop := C.own b ∨ C.F b
def Ctx.R (C : Ctx) : Rd := ⟨C.w, C.av, C.sh, C.β⟩

/-- A map's entries. -/
def MRep (R : Rd) : List (V × V) → List MapEntry → Prop
  | [], es => es = []
  | (k, x) :: l, es => ∃ e r, es = e :: r ∧ VRep R k e.key ∧ VRep R x e.val ∧ MRep R l r

def EntRep (C : Ctx) (g : Nat) : Entry → Prop
  | .box cs => ∃ b c cur E, C.β g = some (b, c) ∧ C.w.heap[b]? = some (.cells cur E (0, 0)) ∧ CRep C.R cs cur.toList
  | .ibox cs => ∃ b c cells, C.β g = some (b, c) ∧ ¬ C.av b ∧ b < C.w.heap.size ∧ cellsAt C.w b 0 cells ∧ CRep C.R.deep cs cells
  | .row E n xs => (C.β g = none ∧ xs = []) ∨ ∃ b cap cur cells, C.β g = some (b, cap) ∧ C.w.heap[b]? = some (.cells cur E (0, 0)) ∧ cur.size = cap * n ∧ xs.length ≤ cap ∧ cap ≤ maxLen ∧
      cur.toList.take (xs.length * n) = cells ∧ ERep C.R.deep n xs cells
  | .irow n xs => (C.β g = none ∧ xs = []) ∨ ∃ b cap cells, C.β g = some (b, cap) ∧ ¬ C.av b ∧ b < C.w.heap.size ∧ xs.length ≤ cap ∧ cellsAt C.w b 0 cells ∧ ERep C.R.deep n xs cells
  | .map kvs => ∃ b c es clock, C.β g = some (b, c) ∧ C.w.heap[b]? = some (.map es clock) ∧ MRep C.R kvs es.toList
  | .siter s pos => ∃ b c, C.β g = some (b, c) ∧ C.w.heap[b]? = some (.stringIter ⟨s.toArray⟩ pos)
  | .resv => True
  | .gone => True

structure HRep (C : Ctx) : Prop where
  ent : ∀ g e, C.H[g]? = some e → EntRep C g e
  inj : ∀ g g' e e' b c c', C.H[g]? = some e → C.H[g']? = some e' → e.owned = true → e'.owned = true → C.β g = some (b, c) → C.β g' = some (b, c') → g = g'
  nF : ∀ b, C.own b → ¬ C.F b
  ltF : ∀ b, C.F b → b < C.w.heap.size

def STr : Shp → Shp → Option (Nat × Nat) → Option (Nat × Nat) → Prop
  | .resv, _, _, _ => True
  | .gone, s, _, _ => s = .gone
  | .box, s, x, y => (s = .box ∧ y = x) ∨ s = .gone
  | .row n l, s, x, y => (∃ l', s = .row n l' ∧ l ≤ l' ∧ (l = l' → y = x)) ∨ s = .gone
  | .map, s, x, y => (s = .map ∧ y = x) ∨ s = .gone
  | .it, s, x, y => (s = .it ∧ y = x) ∨ s = .gone

/-- What may become of what there is. -/
structure Tr (C C' : Ctx) : Prop where
  os : C'.w.os = C.w.os
  tape : C'.w.tape = C.w.tape
  output : C'.w.output = C.w.output
  size : C.w.heap.size ≤ C'.w.heap.size
  F : C'.F = C.F
  keep : ∀ b, b < C.w.heap.size → ¬ C.own b → C'.w.heap[b]? = C.w.heap[b]? ∧ ¬ C'.own b
  ids : ∀ g s, C.sh g = some s → ∃ s', C'.sh g = some s' ∧ STr s s' (C.β g) (C'.β g)

/-- The part of it that a value's reading needs. -/
structure RTr (R R' : Rd) : Prop where
  size : R.w.heap.size ≤ R'.w.heap.size
  keep : ∀ b, b < R.w.heap.size → ¬ R.av b → R'.w.heap[b]? = R.w.heap[b]? ∧ ¬ R'.av b
  ids : ∀ g s, R.sh g = some s → ∃ s', R'.sh g = some s' ∧ STr s s' (R.β g) (R'.β g)

theorem RTr.deep {R R' : Rd} (h : RTr R R') : RTr R.deep R'.deep := ⟨h.size, h.keep, fun g s hs => by cases hs⟩
theorem cellsAt_of_block {w w' : World} {b o : Nat} {cells : List Value} (h : w'.heap[b]? = w.heap[b]?) (hc : cellsAt w b o cells) : cellsAt w' b o cells :=
  fun k c hk => (World.cell?_of_block (w := w) h).trans (hc k c hk)

mutual
theorem VRep_tr {R R' : Rd} (h : RTr R R') : ∀ (x : V) (v : Value), VRep R x v → VRep R' x v
  | .bool _, _, hv => by simpa only [VRep] using hv
  | .int _ _, _, hv => by simpa only [VRep] using hv
  | .str _, _, hv => by simpa only [VRep] using hv
  | .agg cs, _, hv => by
    simp only [VRep] at hv ⊢
    obtain ⟨ds, rfl, hc⟩ := hv
    exact ⟨ds, rfl, CRep_tr h cs ds hc⟩
  | .tup cs, _, hv => by
    simp only [VRep] at hv ⊢
    obtain ⟨ds, rfl, hc⟩ := hv
    exact ⟨ds, rfl, CRep_tr h cs ds hc⟩
  | .nilsl, _, hv => by simpa only [VRep] using hv
  | .sl n xs, _, hv => by
    simp only [VRep] at hv ⊢
    rcases hv with hv | ⟨b, o, cap, cells, rfl, h1, h2, h3, h4, h5⟩
    · exact .inl hv
    · obtain ⟨k1, k2⟩ := h.keep b h3 h2
      exact .inr ⟨b, o, cap, cells, rfl, h1, k2, Nat.lt_of_lt_of_le h3 h.size, cellsAt_of_block k1 h4, ERep_tr h.deep n xs cells h5⟩
  | .slx n xs, _, hv => by
    simp only [VRep] at hv ⊢
    rcases hv with hv | ⟨b, o, cells, rfl, h2, h3, h4, h5⟩
    · exact .inl hv
    · obtain ⟨k1, k2⟩ := h.keep b h3 h2
      exact .inr ⟨b, o, cells, rfl, k2, Nat.lt_of_lt_of_le h3 h.size, cellsAt_of_block k1 h4, ERep_tr h.deep n xs cells h5⟩
  | .own g len, v, hv => by
    simp only [VRep] at hv ⊢
    refine ⟨hv.1, ?_⟩
    replace hv := hv.2
    cases hs : R.sh g with
    | none => rw [hs] at hv; exact hv.elim
    | some s =>
      rw [hs] at hv
      obtain ⟨s', hs', ht⟩ := h.ids g s hs
      rw [hs']
      cases s <;> simp only [STr] at ht <;> try exact hv.elim
      · rename_i n l
        rcases ht with ⟨l', rfl, hl, he⟩ | rfl
        · refine ⟨Nat.le_trans hv.1 hl, fun e => ?_⟩
          have : l = l' := by have := hv.1; omega
          subst this
          rw [he rfl]
          exact hv.2 e
        · trivial
      · subst ht; trivial
  | .nilp, _, hv => by simpa only [VRep] using hv
  | .ref cs, _, hv => by
    simp only [VRep] at hv ⊢
    obtain ⟨b, o, cells, rfl, h2, h3, h4, h5⟩ := hv
    obtain ⟨k1, k2⟩ := h.keep b h3 h2
    exact ⟨b, o, cells, rfl, k2, Nat.lt_of_lt_of_le h3 h.size, cellsAt_of_block k1 h4, CRep_tr h.deep cs cells h5⟩
  | .ptr g off, v, hv => by
    simp only [VRep] at hv ⊢
    refine ⟨hv.1, ?_⟩
    replace hv := hv.2
    cases hs : R.sh g with
    | none => rw [hs] at hv; exact hv.elim
    | some s =>
      rw [hs] at hv
      obtain ⟨s', hs', ht⟩ := h.ids g s hs
      rw [hs']
      cases s <;> simp only [STr] at ht <;> try exact hv.elim
      · rcases ht with ⟨rfl, he⟩ | rfl
        · rw [he]; exact hv
        · trivial
      · subst ht; trivial
  | .eptr g len i off, v, hv => by
    simp only [VRep] at hv ⊢
    refine ⟨hv.1, ?_⟩
    replace hv := hv.2
    cases hs : R.sh g with
    | none => rw [hs] at hv; exact hv.elim
    | some s =>
      rw [hs] at hv
      obtain ⟨s', hs', ht⟩ := h.ids g s hs
      rw [hs']
      cases s <;> simp only [STr] at ht <;> try exact hv.elim
      · rename_i n l
        rcases ht with ⟨l', rfl, hl, he⟩ | rfl
        · refine ⟨Nat.le_trans hv.1 hl, fun e => ?_⟩
          have : l = l' := by have := hv.1; omega
          subst this
          rw [he rfl]
          exact hv.2 e
        · trivial
      · subst ht; trivial
  | .cut g len i j, v, hv => by
    simp only [VRep] at hv ⊢
    refine ⟨hv.1, ?_⟩
    replace hv := hv.2
    cases hs : R.sh g with
    | none => rw [hs] at hv; exact hv.elim
    | some s =>
      rw [hs] at hv
      obtain ⟨s', hs', ht⟩ := h.ids g s hs
      rw [hs']
      cases s <;> simp only [STr] at ht <;> try exact hv.elim
      · rename_i n l
        rcases ht with ⟨l', rfl, hl, he⟩ | rfl
        · refine ⟨Nat.le_trans hv.1 hl, fun e => ?_⟩
          have : l = l' := by have := hv.1; omega
          subst this
          rw [he rfl]
          exact hv.2 e
        · trivial
      · subst ht; trivial
  | .nilfn, _, hv => by simpa only [VRep] using hv
  | .fn f a b, _, hv => by
    simp only [VRep] at hv ⊢
    obtain ⟨x, y, rfl, h1, h2⟩ := hv
    exact ⟨x, y, rfl, CRep_tr h a x h1, CRep_tr h b y h2⟩
  | .nilmap, _, hv => by simpa only [VRep] using hv
  | .map g, v, hv => by
    simp only [VRep] at hv ⊢
    refine ⟨hv.1, ?_⟩
    replace hv := hv.2
    cases hs : R.sh g with
    | none => rw [hs] at hv; exact hv.elim
    | some s =>
      rw [hs] at hv
      obtain ⟨s', hs', ht⟩ := h.ids g s hs
      rw [hs']
      cases s <;> simp only [STr] at ht <;> try exact hv.elim
      · rcases ht with ⟨rfl, he⟩ | rfl
        · rw [he]; exact hv
        · trivial
      · subst ht; trivial
  | .it g, v, hv => by
    simp only [VRep] at hv ⊢
    refine ⟨hv.1, ?_⟩
    replace hv := hv.2
    cases hs : R.sh g with
    | none => rw [hs] at hv; exact hv.elim
    | some s =>
      rw [hs] at hv
      obtain ⟨s', hs', ht⟩ := h.ids g s hs
      rw [hs']
      cases s <;> simp only [STr] at ht <;> try exact hv.elim
      · rcases ht with ⟨rfl, he⟩ | rfl
        · rw [he]; exact hv
        · trivial
      · subst ht; trivial
  | .junk, _, _ => by simp only [VRep]
theorem CRep_tr {R R' : Rd} (h : RTr R R') : ∀ (cs : List V) (ds : List Value), CRep R cs ds → CRep R' cs ds
  | [], _, hv => by simpa only [CRep] using hv
  | c :: cs, ds, hv => by
    simp only [CRep] at hv ⊢
    obtain ⟨d, r, rfl, h1, h2⟩ := hv
    exact ⟨d, r, rfl, VRep_tr h c d h1, CRep_tr h cs r h2⟩
theorem ERep_tr {R R' : Rd} (h : RTr R R') (n : Nat) : ∀ (cs : List V) (ds : List Value), ERep R n cs ds → ERep R' n cs ds
  | [], _, hv => by simpa only [ERep] using hv
  | c :: cs, ds, hv => by
    simp only [ERep] at hv ⊢
    obtain ⟨d, r, rfl, h0, hj, h1, h2⟩ := hv
    exact ⟨d, r, rfl, h0, hj, VRep_tr h c d h1, ERep_tr h n cs r h2⟩
end
theorem MRep_tr {R R' : Rd} (h : RTr R R') : ∀ (kvs : List (V × V)) (es : List MapEntry), MRep R kvs es → MRep R' kvs es
  | [], _, hv => hv
  | (k, x) :: l, es, hv => by
    obtain ⟨e, r, rfl, h1, h2, h3⟩ := hv
    exact ⟨e, r, rfl, VRep_tr h _ _ h1, VRep_tr h _ _ h2, MRep_tr h l r h3⟩

theorem Tr.R {C C' : Ctx} (h : Tr C C') : RTr C.R C'.R :=
  ⟨h.size, fun b hb hn => by
    have hn' : ¬ C.own b := fun k => hn (.inl k)
    obtain ⟨k1, k2⟩ := h.keep b hb hn'
    refine ⟨k1, fun k => ?_⟩
    rcases k with k | k
    · exact k2 k
    · exact hn (.inr (by have := h.F; rw [this] at k; exact k)), h.ids⟩
theorem STr.refl (s : Shp) (x : Option (Nat × Nat)) : STr s s x x := by
  cases s <;> simp [STr]
theorem STr.trans {a b c : Shp} {x y z : Option (Nat × Nat)} (h : STr a b x y) (k : STr b c y z) : STr a c x z := by
  cases a <;> simp only [STr] at h ⊢
  · rcases h with ⟨rfl, rfl⟩ | rfl
    · simpa only [STr] using k
    · simp only [STr] at k; exact .inr k
  · rcases h with ⟨l', rfl, hl, he⟩ | rfl
    · simp only [STr] at k
      rcases k with ⟨l2, rfl, hl2, he2⟩ | rfl
      · refine .inl ⟨l2, rfl, Nat.le_trans hl hl2, fun e => ?_⟩
        rw [he2 (by omega), he (by omega)]
      · exact .inr rfl
    · simp only [STr] at k; exact .inr k
  · rcases h with ⟨rfl, rfl⟩ | rfl
    · simpa only [STr] using k
    · simp only [STr] at k; exact .inr k
  · rcases h with ⟨rfl, rfl⟩ | rfl
    · simpa only [STr] using k
    · simp only [STr] at k; exact .inr k
  · subst h; simpa only [STr] using k
theorem Tr.refl (C : Ctx) : Tr C C := ⟨rfl, rfl, rfl, Nat.le_refl _, rfl, fun _ _ h => ⟨rfl, h⟩, fun g s h => ⟨s, h, STr.refl _ _⟩⟩
theorem Tr.trans {A B C : Ctx} (h : Tr A B) (k : Tr B C) : Tr A C :=
  ⟨k.os.trans h.os, k.tape.trans h.tape, k.output.trans h.output, Nat.le_trans h.size k.size, k.F.trans h.F,
   fun b hb hn => by
    obtain ⟨a1, a2⟩ := h.keep b hb hn
    obtain ⟨b1, b2⟩ := k.keep b (Nat.lt_of_lt_of_le hb h.size) a2
    exact ⟨b1.trans a1, b2⟩,
   fun g s hs => by
    obtain ⟨s1, h1, t1⟩ := h.ids g s hs
    obtain ⟨s2, h2, t2⟩ := k.ids g s1 h1
    exact ⟨s2, h2, t1.trans t2⟩⟩
end Go.Av
namespace Go.Av
open Go Go.RowKit
set_option autoImplicit false
set_option linter.all false

theorem av_alloc_old (w : World) (o : Obj) (i : Nat) (h : i < w.heap.size) : (w.alloc o).heap[i]? = w.heap[i]? := by
  simp only [World.alloc]; rw [Array.getElem?_push, if_neg (by omega)]
theorem av_alloc_new (w : World) (o : Obj) : (w.alloc o).heap[w.heap.size]? = some o := by
  simp only [World.alloc]; exact Array.getElem?_push_size
theorem not_own_of_not_av {C : Ctx} {b : Nat} (h : ¬ C.av b) : ¬ C.own b := fun k => h (.inl k)
theorem EntRep.keep {C C' : Ctx} {g : Nat} {e : Entry} (ht : Tr C C') (h : EntRep C g e) (hβ : C'.β g = C.β g)
    (hw : e.owned = true → ∀ b c, C.β g = some (b, c) → C'.w.heap[b]? = C.w.heap[b]?) : EntRep C' g e := by
  cases e with
  | box cs =>
    obtain ⟨b, c, cur, E, h1, h2, h3⟩ := h
    exact ⟨b, c, cur, E, hβ.trans h1, (hw rfl b c h1).trans h2, CRep_tr ht.R _ _ h3⟩
  | ibox cs =>
    obtain ⟨b, c, cells, h1, h2, h3, h4, h5⟩ := h
    obtain ⟨k1, k2⟩ := ht.R.keep b h3 h2
    exact ⟨b, c, cells, hβ.trans h1, k2, Nat.lt_of_lt_of_le h3 ht.size, cellsAt_of_block k1 h4, CRep_tr ht.R.deep _ _ h5⟩
  | row E n xs =>
    rcases h with ⟨h1, h2⟩ | ⟨b, cap, cur, cells, h1, h2, h3, h4, h5, h6, h7⟩
    · exact .inl ⟨hβ.trans h1, h2⟩
    · exact .inr ⟨b, cap, cur, cells, hβ.trans h1, (hw rfl b cap h1).trans h2, h3, h4, h5, h6, ERep_tr ht.R.deep _ _ _ h7⟩
  | irow n xs =>
    rcases h with ⟨h1, h2⟩ | ⟨b, cap, cells, h1, h2, h3, h4, h5, h6⟩
    · exact .inl ⟨hβ.trans h1, h2⟩
    · obtain ⟨k1, k2⟩ := ht.R.keep b h3 h2
      exact .inr ⟨b, cap, cells, hβ.trans h1, k2, Nat.lt_of_lt_of_le h3 ht.size, h4, cellsAt_of_block k1 h5, ERep_tr ht.R.deep _ _ _ h6⟩
  | map kvs =>
    obtain ⟨b, c, es, clock, h1, h2, h3⟩ := h
    exact ⟨b, c, es, clock, hβ.trans h1, (hw rfl b c h1).trans h2, MRep_tr ht.R _ _ h3⟩
  | siter s pos =>
    obtain ⟨b, c, h1, h2⟩ := h
    exact ⟨b, c, hβ.trans h1, (hw rfl b c h1).trans h2⟩
  | resv => trivial
  | gone => trivial

theorem own_lt {C : Ctx} (h : HRep C) {b : Nat} (hb : C.own b) : b < C.w.heap.size := by
  obtain ⟨g, e, c, h1, h2, h3⟩ := hb
  have he := h.ent g e h1
  cases e with
  | box cs =>
    obtain ⟨b', c', cur, E, k1, k2, _⟩ := he
    rw [h3] at k1; cases k1
    exact (Array.getElem?_eq_some_iff.1 k2).1
  | row E n xs =>
    rcases he with ⟨k1, _⟩ | ⟨b', c', cur, cells, k1, k2, _⟩
    · rw [h3] at k1; cases k1
    · rw [h3] at k1; cases k1
      exact (Array.getElem?_eq_some_iff.1 k2).1
  | map kvs =>
    obtain ⟨b', c', es, clock, k1, k2, _⟩ := he
    rw [h3] at k1; cases k1
    exact (Array.getElem?_eq_some_iff.1 k2).1
  | siter s pos =>
    obtain ⟨b', c', k1, k2⟩ := he
    rw [h3] at k1; cases k1
    exact (Array.getElem?_eq_some_iff.1 k2).1
  | ibox cs => cases h2
  | irow n xs => cases h2
  | resv => cases h2
  | gone => cases h2

/-- The world's count of draws has gone on: nothing else. -/
def Ctx.drew (C : Ctx) : Ctx := { C with w := C.w.drew }
theorem drew_tr (C : Ctx) : Tr C C.drew := ⟨rfl, rfl, rfl, Nat.le_refl _, rfl, fun _ _ h => ⟨rfl, h⟩, fun g s h => ⟨s, h, STr.refl _ _⟩⟩
theorem drew_rep {C : Ctx} (h : HRep C) : HRep C.drew :=
  ⟨fun g e he => (h.ent g e he).keep (drew_tr C) rfl (fun _ _ _ _ => rfl), h.inj, h.nF, h.ltF⟩

/-- A new block, of the call's own, with a number of its own. -/
def Ctx.push (C : Ctx) (o : Obj) (c : Nat) (e : Entry) : Ctx :=
  ⟨C.w.alloc o, fun g => if g = C.H.length then some (C.w.heap.size, c) else C.β g, C.H ++ [e], C.F⟩
section push
variable {C : Ctx} {o : Obj} {c : Nat} {e : Entry}
theorem push_get_old {g : Nat} (h : g < C.H.length) : (C.push o c e).H[g]? = C.H[g]? := List.getElem?_append_left h
theorem push_get_new : (C.push o c e).H[C.H.length]? = some e := by simp [Ctx.push]
theorem push_cases {g : Nat} {e' : Entry} (h : (C.push o c e).H[g]? = some e') : (g < C.H.length ∧ C.H[g]? = some e') ∨ (g = C.H.length ∧ e' = e) := by
  rcases Nat.lt_trichotomy g C.H.length with h1 | h1 | h1
  · exact .inl ⟨h1, (push_get_old h1).symm.trans h⟩
  · subst h1
    rw [push_get_new] at h
    exact .inr ⟨rfl, (Option.some.inj h).symm⟩
  · simp only [Ctx.push] at h
    rw [List.getElem?_append_right (by omega)] at h
    have : g - C.H.length = (g - C.H.length - 1) + 1 := by omega
    rw [this] at h
    simp at h
theorem push_beta_old {g : Nat} (h : g < C.H.length) : (C.push o c e).β g = C.β g := by
  simp only [Ctx.push]; rw [if_neg (by omega)]
theorem push_beta_new : (C.push o c e).β C.H.length = some (C.w.heap.size, c) := by simp [Ctx.push]
theorem push_own {b : Nat} (h : (C.push o c e).own b) : C.own b ∨ b = C.w.heap.size := by
  obtain ⟨g, e', c', h1, h2, h3⟩ := h
  rcases push_cases h1 with ⟨k1, k2⟩ | ⟨rfl, rfl⟩
  · rw [push_beta_old k1] at h3
    exact .inl ⟨g, e', c', k2, h2, h3⟩
  · rw [push_beta_new] at h3
    cases h3
    exact .inr rfl
theorem push_tr : Tr C (C.push o c e) :=
  ⟨rfl, rfl, rfl, by simp [Ctx.push], rfl, fun b hb hn => ⟨av_alloc_old C.w o b hb, fun k => by
    rcases push_own k with k | k
    · exact hn k
    · omega⟩, fun g s hs => by
    have hg : g < C.H.length := by
      rcases Nat.lt_or_ge g C.H.length with h | h
      · exact h
      · simp [Ctx.sh, List.getElem?_eq_none h] at hs
    refine ⟨s, ?_, ?_⟩
    · simp only [Ctx.sh, push_get_old hg]; exact hs
    · rw [push_beta_old hg]; exact STr.refl _ _⟩
theorem push_rep (h : HRep C) (he : EntRep (C.push o c e) C.H.length e) : HRep (C.push o c e) := by
  have hF : ¬ C.F C.w.heap.size := fun k => by have := h.ltF _ k; omega
  refine ⟨fun g e' hg => ?_, ?_, ?_, fun b hb => Nat.lt_of_lt_of_le (h.ltF b hb) push_tr.size⟩
  · rcases push_cases hg with ⟨k1, k2⟩ | ⟨rfl, rfl⟩
    · refine (h.ent g e' k2).keep push_tr (push_beta_old k1) (fun ho b c' hb => ?_)
      exact av_alloc_old C.w o b (own_lt h ⟨g, e', c', k2, ho, hb⟩)
    · exact he
  · intro g g' e1 e2 b c1 c2 h1 h2 o1 o2 b1 b2
    rcases push_cases h1 with ⟨k1, k2⟩ | ⟨rfl, rfl⟩
    · rw [push_beta_old k1] at b1
      rcases push_cases h2 with ⟨m1, m2⟩ | ⟨rfl, rfl⟩
      · rw [push_beta_old m1] at b2
        exact h.inj g g' e1 e2 b c1 c2 k2 m2 o1 o2 b1 b2
      · rw [push_beta_new] at b2
        cases b2
        exact absurd (own_lt h ⟨g, e1, c1, k2, o1, b1⟩) (by omega)
    · rw [push_beta_new] at b1
      cases b1
      rcases push_cases h2 with ⟨m1, m2⟩ | ⟨rfl, rfl⟩
      · rw [push_beta_old m1] at b2
        exact absurd (own_lt h ⟨g', e2, c2, m2, o2, b2⟩) (by omega)
      · rfl
  · intro b hb
    rcases push_own hb with k | rfl
    · exact h.nF b k
    · exact hF
end push

/-- An entry is another one, and so is the world, but for blocks that are not its own. -/
def Ctx.turn (C : Ctx) (w : World) (g : Nat) (x : Option (Nat × Nat)) (e : Entry) : Ctx :=
  ⟨w, fun j => if j = g then x else C.β j, C.H.set g e, C.F⟩
section turn
variable {C : Ctx} {w : World} {g : Nat} {x : Option (Nat × Nat)} {e e' : Entry}
theorem turn_get_old {j : Nat} (h : j ≠ g) : (C.turn w g x e').H[j]? = C.H[j]? := by
  simp only [Ctx.turn]; exact List.getElem?_set_ne (Ne.symm h)
theorem turn_get_new (he : C.H[g]? = some e) : (C.turn w g x e').H[g]? = some e' := by
  have : g < C.H.length := (List.getElem?_eq_some_iff.1 he).1
  simp [Ctx.turn, this]
theorem turn_beta_old {j : Nat} (h : j ≠ g) : (C.turn w g x e').β j = C.β j := by simp [Ctx.turn, h]
theorem turn_beta_new : (C.turn w g x e').β g = x := by simp [Ctx.turn]
theorem turn_own {b : Nat} (he : C.H[g]? = some e) (h : (C.turn w g x e').own b) : (∃ j e1 c, j ≠ g ∧ C.H[j]? = some e1 ∧ e1.owned = true ∧ C.β j = some (b, c)) ∨ (e'.owned = true ∧ ∃ c, x = some (b, c)) := by
  obtain ⟨j, e1, c, h1, h2, h3⟩ := h
  by_cases hj : j = g
  · subst hj
    rw [turn_get_new he] at h1
    cases h1
    rw [turn_beta_new] at h3
    exact .inr ⟨h2, c, h3⟩
  · rw [turn_get_old hj] at h1
    rw [turn_beta_old hj] at h3
    exact .inl ⟨j, e1, c, hj, h1, h2, h3⟩
/-- What must be shown of such a turn. -/
structure Turns (C : Ctx) (w : World) (g : Nat) (x : Option (Nat × Nat)) (e e' : Entry) : Prop where
  get : C.H[g]? = some e
  os : w.os = C.w.os
  tape : w.tape = C.w.tape
  output : w.output = C.w.output
  size : C.w.heap.size ≤ w.heap.size
  block : ∀ b, b < C.w.heap.size → (e.owned = true → ∀ c, C.β g ≠ some (b, c)) → w.heap[b]? = C.w.heap[b]?
  str : STr e.shp e'.shp (C.β g) x
  new : e'.owned = true → ∀ b c, x = some (b, c) → (e.owned = true ∧ ∃ c', C.β g = some (b, c')) ∨ C.w.heap.size ≤ b
theorem turn_tr (h : HRep C) (t : Turns C w g x e e') : Tr C (C.turn w g x e') := by
  refine ⟨t.os, t.tape, t.output, t.size, rfl, fun b hb hn => ⟨t.block b hb (fun ho c hc => hn ⟨g, e, c, t.get, ho, hc⟩), fun k => ?_⟩, fun j s hs => ?_⟩
  · rcases turn_own t.get k with ⟨j, e1, c, _, h1, h2, h3⟩ | ⟨ho, c, hx⟩
    · exact hn ⟨j, e1, c, h1, h2, h3⟩
    · rcases t.new ho b c hx with ⟨k1, c', k2⟩ | k1
      · exact hn ⟨g, e, c', t.get, k1, k2⟩
      · omega
  · by_cases hj : j = g
    · subst hj
      simp only [Ctx.sh, t.get, Option.map_some, Option.some.injEq] at hs
      subst hs
      exact ⟨e'.shp, by simp only [Ctx.sh, turn_get_new t.get, Option.map_some], by rw [turn_beta_new]; exact t.str⟩
    · refine ⟨s, by simp only [Ctx.sh, turn_get_old hj]; exact hs, by rw [turn_beta_old hj]; exact STr.refl _ _⟩
theorem turn_rep (h : HRep C) (t : Turns C w g x e e') (he : EntRep (C.turn w g x e') g e') : HRep (C.turn w g x e') := by
  have ht := turn_tr h t
  have hnew : e'.owned = true → ∀ b c, x = some (b, c) → ∀ j e1 c1, j ≠ g → C.H[j]? = some e1 → e1.owned = true → C.β j = some (b, c1) → False := by
    intro ho b c hx j e1 c1 hj h1 h2 h3
    rcases t.new ho b c hx with ⟨k1, c', k2⟩ | k1
    · exact hj (h.inj j g e1 e b c1 c' h1 t.get h2 k1 h3 k2)
    · have := own_lt h ⟨j, e1, c1, h1, h2, h3⟩
      omega
  refine ⟨fun j e1 hj => ?_, ?_, ?_, fun b hb => Nat.lt_of_lt_of_le (h.ltF b hb) t.size⟩
  · by_cases e2 : j = g
    · subst e2
      rw [turn_get_new t.get] at hj
      cases hj
      exact he
    · rw [turn_get_old e2] at hj
      refine (h.ent j e1 hj).keep ht (turn_beta_old e2) (fun ho b c hb => ?_)
      refine t.block b (own_lt h ⟨j, e1, c, hj, ho, hb⟩) (fun k1 c' k2 => e2 (h.inj j g e1 e b c c' hj t.get ho k1 hb k2))
  · intro j j' e1 e2 b c1 c2 h1 h2 o1 o2 b1 b2
    by_cases k1 : j = g
    · subst k1
      by_cases k2 : j' = j
      · exact k2.symm
      · rw [turn_get_new t.get] at h1
        cases h1
        rw [turn_get_old k2] at h2
        rw [turn_beta_old k2] at b2
        rw [turn_beta_new] at b1
        exact (hnew o1 b c1 b1 j' e2 c2 k2 h2 o2 b2).elim
    · by_cases k2 : j' = g
      · subst k2
        rw [turn_get_new t.get] at h2
        cases h2
        rw [turn_get_old k1] at h1
        rw [turn_beta_old k1] at b1
        rw [turn_beta_new] at b2
        exact (hnew o2 b c2 b2 j e1 c1 k1 h1 o1 b1).elim
      · rw [turn_get_old k1] at h1
        rw [turn_get_old k2] at h2
        rw [turn_beta_old k1] at b1
        rw [turn_beta_old k2] at b2
        exact h.inj j j' e1 e2 b c1 c2 h1 h2 o1 o2 b1 b2
  · intro b hb hF
    rcases turn_own t.get hb with ⟨j, e1, c, _, h1, h2, h3⟩ | ⟨ho, c, hx⟩
    · exact h.nF b ⟨j, e1, c, h1, h2, h3⟩ hF
    · rcases t.new ho b c hx with ⟨k1, c', k2⟩ | k1
      · exact h.nF b ⟨g, e, c', t.get, k1, k2⟩ hF
      · have := h.ltF b hF
        omega
end turn
end Go.Av
namespace Go.Av
open Go Go.RowKit
set_option autoImplicit false
set_option linter.all false

/-! ### The reckoning -/
inductive Ex where
  | norm | exit (id : Nat) | ret
abbrev K1 := List V → List Entry → Prop
abbrev KV := V → List Entry → Prop
abbrev KQ := Ex → List V → List Entry → Prop

def nth : List V → Nat → V
  | [], _ => .junk
  | a :: _, 0 => a
  | _ :: l, n+1 => nth l n
def setAt : List V → Nat → V → List V
  | [], _, _ => []
  | _ :: l, 0, v => v :: l
  | a :: l, n+1, v => a :: setAt l n v
def ev (e : List V) : Opd → V
  | .t i => nth e i
  | .c v => v
def evs (e : List V) : List Opd → List V
  | [] => []
  | x :: l => ev e x :: evs e l
def evo (e : List V) : Option Opd → Option V
  | none => none
  | some x => some (ev e x)
def evp (e : List V) : List (Nat × Nat × Opd) → List (Nat × Nat × V)
  | [] => []
  | (a, n, x) :: l => (a, n, ev e x) :: evp e l
def undefV : V := .tup []
/-- A part of cells, as a value. -/
def part (n : Nat) (agg : Bool) (cs : List V) : V := bif agg then .agg (cs.take n) else nth cs 0
def lenEq : List V → Nat → Bool
  | [], 0 => true
  | _ :: l, n+1 => lenEq l n
  | _, _ => false
/-- Cells with others laid over some of them: none, if they do not fit. -/
def putC : List V → Nat → Nat → List V → Option (List V)
  | cs, 0, 0, [] => some cs
  | _ :: cs, 0, n+1, v :: vs => (putC cs 0 n vs).map (v :: ·)
  | c :: cs, o+1, n, vs => (putC cs o n vs).map (c :: ·)
  | _, _, _, _ => none
/-- A value's cells: none, if nothing is known of it. -/
def cellsO : V → Option (List V)
  | .junk => none
  | .agg cs => some cs
  | v => some [v]
def putO (cs : List V) (o n : Nat) : Option (List V) → Option (List V)
  | some vs => putC cs o n vs
  | none => none
def bldO : List V → List (Nat × Nat × V) → Option (List V)
  | cs, [] => some cs
  | cs, (o, n, v) :: l => match putO cs o n (cellsO v) with | some cs' => bldO cs' l | none => none
def boxK (r : Option (List V)) (H : List Entry) (k : V → List Entry → Prop) : Prop := match r with | some cs => k (.ptr H.length 0) (H ++ [.box cs]) | none => False
/-- Is a value one cell? -/
def atom : V → Bool
  | .agg _ | .tup _ | .junk => false
  | _ => true
def atoms : List V → Bool
  | [] => true
  | x :: l => atom x && atoms l
/-- Is a value one element of a row? -/
def okEl (n : Nat) : Bool → V → Bool
  | true, .agg cs => lenEq cs n && atoms cs
  | false, v => atom v && n == 1
  | _, _ => false
def okEls (n : Nat) (g : Bool) : List V → Bool
  | [] => true
  | x :: l => okEl n g x && okEls n g l
/-- May a value be stored? -/
def okC : V → Bool
  | .agg cs => atoms cs
  | v => atom v
/- No number in it. -/
mutual
def noid : V → Bool
  | .agg cs => noids cs
  | .tup cs => noids cs
  | .fn _ a b => noids a && noids b
  | .own .. | .ptr .. | .eptr .. | .cut .. | .map _ | .it _ => false
  | _ => true
def noids : List V → Bool
  | [] => true
  | x :: l => noid x && noids l
end
/-- What a list holds, whose elements are so many cells each. -/
def listOf (n : Nat) (H : List Entry) : V → Option (List V)
  | .sl m xs | .slx m xs => if m = n then some xs else none
  | .nilsl => some []
  | .own g len => match H[g]? with
    | some (.row _ m xs) | some (.irow m xs) => if m = n ∧ xs.length = len then some xs else none
    | _ => none
  | .cut g len i j => match H[g]? with
    | some (.row _ m xs) => if m = n ∧ xs.length = len then some ((xs.take j).drop i) else none
    | _ => none
  | _ => none
def u8V (b : UInt8) : V := .int .u8 (b.toNat : Int)
def strEls : V → Option (List V)
  | .str s => some (s.map u8V)
  | _ => none
def u8Of : V → UInt8
  | .int _ n => UInt8.ofNat n.toNat
  | _ => 0
def isU8 : V → Bool
  | .int .u8 _ => true
  | _ => false
def allU8 : List V → Bool
  | [] => true
  | x :: l => isU8 x && allU8 l
def atomEq : Nat → V → V → Option Bool
  | 0, .bool a, .bool b => some (a == b)
  | 1, .int p a, .int q b => if p = q then some (a == b) else none
  | 2, .str a, .str b => some (a == b)
  | _, _, _ => none
def cellsEq : List Nat → List V → List V → Option Bool
  | [], [], [] => some true
  | k :: ks, a :: l, b :: m => match atomEq k a b, cellsEq ks l m with | some x, some y => some (x && y) | _, _ => none
  | _, _, _ => none
def valEq : Bool → List Nat → V → V → Option Bool
  | true, ks, .agg a, .agg b => cellsEq ks a b
  | false, ks, x, y => cellsEq ks [x] [y]
  | _, _, _, _ => none
/-- The place of a key: none if a key cannot be told apart. -/
def kpos (g : Bool) (ks : List Nat) (k : V) : List (V × V) → Option (Option Nat)
  | [] => some none
  | (a, _) :: l => match valEq g ks k a with
    | some true => some (some 0)
    | some false => (kpos g ks k l).map (Option.map (· + 1))
    | none => none
def kval : List (V × V) → Nat → V
  | [], _ => .junk
  | (_, x) :: _, 0 => x
  | _ :: l, n + 1 => kval l n

/-- A number of a variable, or of a row's element, that is still there. -/
def isBox : Option Entry → Bool
  | some (.box _) | some (.ibox _) => true
  | _ => false
def rowN : Option Entry → Nat
  | some (.row _ n _) | some (.irow n _) => n
  | _ => 0
def isRow (len : Nat) (e : Option Entry) (A : Prop) : Prop := match e with | some (.row _ _ xs) | some (.irow _ xs) => len = xs.length ∧ A | _ => False
def nckB (b : Bool) (x : V) (H : List Entry) (k : KV) : Prop := match b with | true => k x H | false => False
def nckK (x : V) (H : List Entry) (k : KV) : Prop :=
  match x with | .ref cs => k (.ref cs) H | .ptr g o => nckB (isBox H[g]?) (.ptr g o) H k | .fn f a b => k (.fn f a b) H | _ => False
def pickK (c a b : V) (H : List Entry) (k : KV) : Prop := match c with | .bool t => bif t then k a H else k b H | _ => False
def bldK (r : Option (List V)) (H : List Entry) (k : KV) : Prop := match r with | some cs => k (.agg cs) H | none => False
/-! What of one's own lies in a value is given up: it is only read from then on. -/
def fzsW (f : List Entry → V → V × List Entry) : List Entry → List V → List V × List Entry
  | H, [] => ([], H)
  | H, x :: l => ((f H x).1 :: (fzsW f (f H x).2 l).1, (fzsW f (f H x).2 l).2)
def fzRow (g len : Nat) (H : List Entry) : Option Entry → V × List Entry
  | some (.row _ n xs) => if xs.length = len then (.sl n xs, H.set g (.irow n xs)) else (.own g len, H)
  | some (.irow n xs) => if xs.length = len then (.sl n xs, H) else (.own g len, H)
  | _ => (.own g len, H)
def fzPut (g : Nat) (H0 : List Entry) (r : List V × List Entry) : V × List Entry :=
  match r.2[g]?, noids r.1 with
  | some (.box _), true => (.ref r.1, r.2.set g (.ibox r.1))
  | _, _ => (.ptr g 0, H0)
def fzBox (f : List Entry → List V → List V × List Entry) (g : Nat) (H : List Entry) : Option Entry → V × List Entry
  | some (.box cs) => fzPut g H (f H cs)
  | some (.ibox cs) => (.ref cs, H)
  | _ => (.ptr g 0, H)
def fz : Nat → List Entry → V → V × List Entry
  | 0, H, v => (v, H)
  | d + 1, H, .agg cs => (.agg (fzsW (fz d) H cs).1, (fzsW (fz d) H cs).2)
  | d + 1, H, .tup cs => (.tup (fzsW (fz d) H cs).1, (fzsW (fz d) H cs).2)
  | _ + 1, H, .own g len => fzRow g len H H[g]?
  | d + 1, H, .ptr g 0 => fzBox (fzsW (fz d)) g H H[g]?
  | d + 1, H, .fn f a b => (.fn f (fzsW (fz d) H a).1 (fzsW (fz d) (fzsW (fz d) H a).2 b).1, (fzsW (fz d) (fzsW (fz d) H a).2 b).2)
  | _, H, v => (v, H)
def bslK (n : Nat) (ok : Bool) (xs : List V) (H : List Entry) (k : KV) : Prop := match ok with | true => k (.slx n xs) H | false => False
def bslF (n : Nat) (g : Bool) (nd : Bool) (xs : List V) (H : List Entry) (k : KV) : Prop :=
  match nd with
  | true => bslK n (okEls n g xs) xs H k
  | false => bslK n (okEls n g (fzsW (fz 8) H xs).1 && noids (fzsW (fz 8) H xs).1) (fzsW (fz 8) H xs).1 (fzsW (fz 8) H xs).2 k
def mksK (E n : Nat) (g : Bool) (zero : List V) (bt : Nat) (l c : V) (H : List Entry) (k : KV) : Prop :=
  match l, c, okEl n g (part n g zero) && noid (part n g zero) with
  | .int _ a, .int _ b, true => (0 ≤ a ∧ a ≤ b ∧ b * bt ≤ 140737488355328 ∧ b ≤ 140737488355328) ∧ k (.own H.length a.toNat) (H ++ [.row E n (List.replicate a.toNat (part n g zero))])
  | _, _, _ => False
def loadH (n : Nat) (g : Bool) (off : Nat) (e : Option Entry) (H : List Entry) (k : KV) : Prop :=
  match e with
  | some (.box cs) | some (.ibox cs) => off + n ≤ cs.length ∧ k (part n g (cs.drop off)) H
  | _ => False
def loadE (n : Nat) (g : Bool) (len i off : Nat) (e : Option Entry) (H : List Entry) (k : KV) : Prop :=
  match e with
  | some (.row _ m xs) | some (.irow m xs) => (len = xs.length ∧ i < xs.length ∧ off + n ≤ m) ∧ k (part n g ((nth xs i).cells.drop off)) H
  | _ => False
def loadK (n : Nat) (g : Bool) (x : V) (H : List Entry) (k : KV) : Prop :=
  match x with
  | .ref cs => n ≤ cs.length ∧ k (part n g cs) H
  | .ptr j off => loadH n g off H[j]? H k
  | .eptr j len i off => loadE n g len i off H[j]? H k
  | _ => False
def storeH (n : Nat) (j off : Nat) (v : V) (e : Option Entry) (H : List Entry) (k : KV) : Prop :=
  match e with
  | some (.box cs) => match putO cs off n (cellsO v), okC v with | some cs', true => k undefV (H.set j (.box cs')) | _, _ => False
  | _ => False
def unc : V → List V → V
  | .agg _, cs => .agg cs
  | _, cs => nth cs 0
def storeE (n : Nat) (j len i off : Nat) (v : V) (e : Option Entry) (H : List Entry) (k : KV) : Prop :=
  match e with
  | some (.row E m xs) => (len = xs.length ∧ i < xs.length) ∧ match putO (nth xs i).cells off n (cellsO v), okC v, noid v with
    | some cs', true, true => unc (nth xs i) cs' ≠ .junk ∧ k undefV (H.set j (.row E m (xs.set i (unc (nth xs i) cs'))))
    | _, _, _ => False
  | _ => False
def storeK (n : Nat) (a v : V) (H : List Entry) (k : KV) : Prop :=
  match a with
  | .ptr j off => storeH n j off v H[j]? H k
  | .eptr j len i off => storeE n j len i off v H[j]? H k
  | _ => False
def binK (op : BinOp) (x y : V) (H : List Entry) (k : KV) : Prop :=
  match x, y with
  | .int q a, .int r b =>
    match op with
    | .shl => 0 ≤ b ∧ k (.int q (q.wrap (a * 2 ^ (min b.toNat q.bits)))) H
    | .shr => 0 ≤ b ∧ k (.int q (a.fdiv (2 ^ (min b.toNat q.bits)))) H
    | .add => q = r ∧ k (.int q (q.wrap (a + b))) H
    | .sub => q = r ∧ k (.int q (q.wrap (a - b))) H
    | .mul => q = r ∧ k (.int q (q.wrap (a * b))) H
    | .quo => (q = r ∧ b ≠ 0) ∧ k (.int q (q.wrap (a.tdiv b))) H
    | .rem => (q = r ∧ b ≠ 0) ∧ k (.int q (a.tmod b)) H
    | .and => q = r ∧ k (.int q (q.wrap (BitVec.ofInt q.bits a &&& BitVec.ofInt q.bits b).toNat)) H
    | .or => q = r ∧ k (.int q (q.wrap (BitVec.ofInt q.bits a ||| BitVec.ofInt q.bits b).toNat)) H
    | .xor => q = r ∧ k (.int q (q.wrap (BitVec.ofInt q.bits a ^^^ BitVec.ofInt q.bits b).toNat)) H
    | .andNot => q = r ∧ k (.int q (q.wrap (BitVec.ofInt q.bits a &&& ~~~ (BitVec.ofInt q.bits b)).toNat)) H
    | .eql => q = r ∧ k (.bool (a == b)) H
    | .neq => q = r ∧ k (.bool (a != b)) H
    | .lss => q = r ∧ k (.bool (decide (a < b))) H
    | .leq => q = r ∧ k (.bool (decide (a ≤ b))) H
    | .gtr => q = r ∧ k (.bool (decide (b < a))) H
    | .geq => q = r ∧ k (.bool (decide (b ≤ a))) H
  | .str a, .str b =>
    match op with
    | .eql => k (.bool (a == b)) H
    | .neq => k (.bool (a != b)) H
    | .add => a.length + b.length ≤ 9223372036854775807 ∧ k (.str (a ++ b)) H
    | .lss => k (.bool (Op.bytesLess a b)) H
    | .leq => k (.bool (Op.bytesLess a b || a == b)) H
    | .gtr => k (.bool (!(Op.bytesLess a b || a == b))) H
    | .geq => k (.bool (!Op.bytesLess a b)) H
    | _ => False
  | _, _ => False
def binbK (neg : Bool) (x y : V) (H : List Entry) (k : KV) : Prop :=
  match x, y with
  | .bool a, .bool b => k (.bool (if neg then a != b else a == b)) H
  | _, _ => False
/-- Held against nil. -/
def isNil (kind : Nat) : V → V → Option Bool
  | .nilsl, .nilsl => if kind = 0 then some true else none
  | .nilp, .nilp => if kind = 1 then some true else none
  | .nilmap, .nilmap => if kind = 2 then some true else none
  | .nilfn, .nilfn => if kind = 3 then some true else none
  | .sl _ (_ :: _), .nilsl => if kind = 0 then some false else none
  | .slx _ (_ :: _), .nilsl => if kind = 0 then some false else none
  | .ref _, .nilp => if kind = 1 then some false else none
  | .fn _ _ _, .nilfn => if kind = 3 then some false else none
  | _, _ => none
def eqaK (neg : Bool) (r : Option Bool) (H : List Entry) (k : KV) : Prop := match r with | some b => k (.bool (if neg then !b else b)) H | none => False
/-- Held against nil: of what is empty it is not known. -/
def cnilK (kind : Nat) (neg : Bool) (x y : V) (H : List Entry) (k : KV) : Prop :=
  match x, y with
  | .sl _ [], .nilsl => kind = 0 ∧ ∀ b, k (.bool b) H
  | .slx _ [], .nilsl => kind = 0 ∧ ∀ b, k (.bool b) H
  | .own g 0, .nilsl => kind = 0 ∧ isRow 0 H[g]? (∀ b, k (.bool b) H)
  | .own g (n + 1), .nilsl => kind = 0 ∧ isRow (n + 1) H[g]? (k (.bool neg) H)
  | _, _ => eqaK neg (isNil kind x y) H k
def eqaO (ks : List Nat) : V → V → Option Bool
  | .agg a, .agg b => cellsEq ks a b
  | _, _ => none
def unK (op : UnOp) (x : V) (H : List Entry) (k : KV) : Prop :=
  match op, x with
  | .neg, .int q a => k (.int q (q.wrap (0 - a))) H
  | .xor, .int q a => k (.int q (q.wrap (BitVec.ofInt q.bits (if q.signed then -1 else q.max) ^^^ BitVec.ofInt q.bits a).toNat)) H
  | .not, .bool b => k (.bool (!b)) H
  | _, _ => False
def fadK (off : Nat) (x : V) (H : List Entry) (k : KV) : Prop :=
  match x with | .ref cs => k (.ref (cs.drop off)) H | .ptr g o => nckB (isBox H[g]?) (.ptr g (o + off)) H k | .eptr g l i o => isRow l H[g]? (k (.eptr g l i (o + off)) H) | _ => False
def fldK (off n : Nat) (g : Bool) (x : V) (H : List Entry) (k : KV) : Prop := match x with | .agg cs => off + n ≤ cs.length ∧ k (part n g (cs.drop off)) H | _ => False
def iadK (n : Nat) (x i : V) (H : List Entry) (k : KV) : Prop :=
  match x, i with
  | .sl m xs, .int _ j => (m = n ∧ 0 ≤ j ∧ j < xs.length) ∧ k (.ref (nth xs j.toNat).cells) H
  | .slx m xs, .int _ j => (m = n ∧ 0 ≤ j ∧ j < xs.length) ∧ k (.ref (nth xs j.toNat).cells) H
  | .own g len, .int _ j => (0 ≤ j ∧ j < len) ∧ isRow len H[g]? (rowN H[g]? = n ∧ k (.eptr g len j.toNat 0) H)
  | .cut g len a b, .int _ j => (0 ≤ j ∧ j < (b - a : Nat)) ∧ isRow len H[g]? (rowN H[g]? = n ∧ k (.eptr g len (a + j.toNat) 0) H)
  | _, _ => False
def iaaK (len n : Nat) (x i : V) (H : List Entry) (k : KV) : Prop :=
  match x, i with
  | .ref cs, .int _ j => (0 ≤ j ∧ j < len) ∧ k (.ref (cs.drop (j.toNat * n))) H
  | .ptr g o, .int _ j => (0 ≤ j ∧ j < len) ∧ nckB (isBox H[g]?) (.ptr g (o + j.toNat * n)) H k
  | _, _ => False
def octet (s : List UInt8) (i : Nat) : Int := ((s.getD i 0).toNat : Int)
def ixsK (x i : V) (H : List Entry) (k : KV) : Prop :=
  match x, i with
  | .str s, .int _ j => (0 ≤ j ∧ j < s.length) ∧ k (.int .u8 (octet s j.toNat)) H
  | _, _ => False
def ixaK (len n : Nat) (g : Bool) (x i : V) (H : List Entry) (k : KV) : Prop :=
  match x, i with
  | .agg cs, .int _ j => (0 ≤ j ∧ j < len ∧ len * n ≤ cs.length) ∧ k (part n g (cs.drop (j.toNat * n))) H
  | _, _ => False
def cviK (q : IntKind) (x : V) (H : List Entry) (k : KV) : Prop := match x with | .int _ a => k (.int q (q.wrap a)) H | _ => False
def cvsK (x : V) (H : List Entry) (k : KV) : Prop := match x with | .str s => k (.str s) H | _ => False
def b2sK (r : Option (List V)) (H : List Entry) (k : KV) : Prop := match r with | some xs => allU8 xs = true ∧ k (.str (xs.map u8Of)) H | none => False
def mputP (r : Option (Option Nat)) (kvs : List (V × V)) (j : Nat) (key v : V) (H : List Entry) (k : KV) : Prop :=
  match r with
  | some (some i) => k undefV (H.set j (.map (kvs.set i (key, v))))
  | some none => k undefV (H.set j (.map (kvs ++ [(key, v)])))
  | none => False
def mputE (g : Bool) (ks : List Nat) (ok : Option Bool) (j : Nat) (key v : V) (e : Option Entry) (H : List Entry) (k : KV) : Prop :=
  match ok, e with | some true, some (.map kvs) => mputP (kpos g ks key kvs) kvs j key v H k | _, _ => False
def mputK (g : Bool) (ks : List Nat) (m key v : V) (H : List Entry) (k : KV) : Prop := match m with | .map j => mputE g ks (valEq g ks key key) j key v H[j]? H k | _ => False
def mgetP (r : Option (Option Nat)) (kvs : List (V × V)) (zero : V) (ok : Bool) (H : List Entry) (k : KV) : Prop :=
  match r with
  | some (some i) => k (bif ok then .tup [kval kvs i, .bool true] else kval kvs i) H
  | some none => k (bif ok then .tup [zero, .bool false] else zero) H
  | none => False
def mgetE (g : Bool) (ks : List Nat) (eq : Option Bool) (zero : V) (ok : Bool) (key : V) (e : Option Entry) (H : List Entry) (k : KV) : Prop :=
  match eq, e with | some true, some (.map kvs) => mgetP (kpos g ks key kvs) kvs zero ok H k | _, _ => False
def mgetN (eq : Option Bool) (zero : V) (ok : Bool) (H : List Entry) (k : KV) : Prop :=
  match eq with | some true => k (bif ok then .tup [zero, .bool false] else zero) H | _ => False
def mgetK (g : Bool) (ks : List Nat) (zero : V) (ok : Bool) (m key : V) (H : List Entry) (k : KV) : Prop :=
  match m with | .map j => mgetE g ks (valEq g ks key key) zero ok key H[j]? H k | .nilmap => mgetN (valEq g ks key key) zero ok H k | _ => False
def lenH (e : Option Entry) (H : List Entry) (k : KV) : Prop := match e with | some (.map kvs) => k (.int .i64 kvs.length) H | _ => False
def lenK (kind : Nat) (v : V) (H : List Entry) (k : KV) : Prop :=
  match kind, v with
  | 0, .str s => k (.int .i64 s.length) H
  | 1, .sl _ xs => k (.int .i64 xs.length) H
  | 1, .slx _ xs => k (.int .i64 xs.length) H
  | 1, .nilsl => k (.int .i64 0) H
  | 1, .own g n => isRow n H[g]? (k (.int .i64 n) H)
  | 1, .cut g n a b => isRow n H[g]? (k (.int .i64 (b - a : Nat)) H)
  | 2, .nilmap => k (.int .i64 0) H
  | 2, .map j => lenH H[j]? H k
  | _, _ => False
def appH (E n bt g len : Nat) (r : Option (List V)) (e : Option Entry) (H : List Entry) (k : KV) : Prop :=
  match e, r with
  | some (.row E' m xs), some ys => (E' = E ∧ m = n ∧ len = xs.length ∧ (xs.length + ys.length) * bt ≤ 140737488355328 ∧ xs.length + ys.length ≤ 140737488355328) ∧
      k (.own g (xs ++ ys).length) (H.set g (.row E n (xs ++ ys)))
  | _, _ => False
def appN (E n bt : Nat) (xs : List V) (r : Option (List V)) (H : List Entry) (k : KV) : Prop :=
  match r with
  | some ys => ((xs ≠ [] → ys ≠ []) ∧ (xs.length + ys.length) * bt ≤ 140737488355328 ∧ xs.length + ys.length ≤ 140737488355328) ∧
      k (.own H.length (xs ++ ys).length) (H ++ [.row E n (xs ++ ys)])
  | none => False
/-- The elements are so many cells each. -/
def okL (n : Nat) (m : Nat) : Prop := m = n
def appK (E n bt : Nat) (x : V) (r : Option (List V)) (H : List Entry) (k : KV) : Prop :=
  match x with
  | .own g len => appH E n bt g len r H[g]? H k
  | .nilsl => appN E n bt [] r H k
  | .slx m xs => m = n ∧ appN E n bt xs r H k
  | _ => False
def copyH (n : Nat) (g len : Nat) (r : Option (List V)) (e : Option Entry) (H : List Entry) (k : KV) : Prop :=
  match e, r with
  | some (.row E m xs), some ys => (m = n ∧ len = xs.length) ∧
      k (.int .i64 ((min ys.length xs.length : Nat) : Int)) (H.set g (.row E m (ys.take xs.length ++ xs.drop ys.length)))
  | _, _ => False
def copyC (n : Nat) (g len i j : Nat) (r : Option (List V)) (e : Option Entry) (H : List Entry) (k : KV) : Prop :=
  match e, r with
  | some (.row E m xs), some ys => (m = n ∧ len = xs.length) ∧
      k (.int .i64 ((min ys.length (j - i) : Nat) : Int)) (H.set g (.row E m (xs.take i ++ (ys.take (j - i) ++ xs.drop (i + min ys.length (j - i))))))
  | _, _ => False
def copyK (n : Nat) (x : V) (r : Option (List V)) (H : List Entry) (k : KV) : Prop :=
  match x with
  | .own g len => copyH n g len r H[g]? H k
  | .cut g len i j => copyC n g len i j r H[g]? H k
  | _ => False
def loI : Option V → Option Int
  | none => some 0
  | some (.int _ j) => some j
  | _ => none
def hiI (len : Nat) : Option V → Option Int
  | none => some len
  | some (.int _ j) => some j
  | _ => none
def hiS : Option V → Option Int
  | some (.int _ j) => some j
  | _ => none
def cutK (mk : List V → V) (xs : List V) (lo hi : Option Int) (H : List Entry) (k : KV) : Prop :=
  match lo, hi with
  | some a, some b => (0 ≤ a ∧ a ≤ b ∧ b ≤ xs.length) ∧ k (mk ((xs.take b.toNat).drop a.toNat)) H
  | _, _ => False
def cutX (n : Nat) (xs : List V) (lo hi mx : Option Int) (H : List Entry) (k : KV) : Prop :=
  match lo, hi, mx with
  | some a, some b, some c => (0 ≤ a ∧ a ≤ b ∧ b = c ∧ b ≤ xs.length) ∧ k (.slx n ((xs.take b.toNat).drop a.toNat)) H
  | _, _, _ => False
/-- A part of a row of one's own. -/
def cutC (g len : Nat) (lo hi : Option Int) (H : List Entry) (k : KV) : Prop :=
  match lo, hi with
  | some a, some b => (0 ≤ a ∧ a ≤ b ∧ b ≤ len ∧ 0 < len) ∧ k (.cut g len a.toNat b.toNat) H
  | _, _ => False
/-- A row of one's own is cut: it is frozen then; or, its beginning, it is still one's own, by a new number; or it is looked at in part. -/
def cutO (n g len : Nat) (e : Option Entry) (lo hi : Option Int) (H : List Entry) (k : KV) : Prop :=
  match e with
  | some (.row E m xs) => (m = n ∧ len = xs.length) ∧ (cutK (.sl n) xs lo hi (H.set g (.irow n xs)) k ∨
      match lo, hi with
      | some 0, some b => (0 ≤ b ∧ b ≤ xs.length) ∧ k (.own H.length b.toNat) (H.set g .gone ++ [.row E n (xs.take b.toNat)])
      | _, _ => False) ∨ (m = n ∧ len = xs.length) ∧ cutC g len lo hi H k
  | some (.irow m xs) => (m = n ∧ len = xs.length) ∧ cutK (.sl n) xs lo hi H k
  | _ => False
def slcK (n : Nat) (x : V) (lo hi mx : Option V) (H : List Entry) (k : KV) : Prop :=
  match x, mx with
  | .sl m xs, none => m = n ∧ cutK (.sl n) xs (loI lo) (hiI xs.length hi) H k
  | .slx m xs, none => m = n ∧ cutK (.sl n) xs (loI lo) (hiI xs.length hi) H k
  | .sl m xs, some c => m = n ∧ cutX n xs (loI lo) (hiS hi) (hiS (some c)) H k
  | .slx m xs, some c => m = n ∧ cutX n xs (loI lo) (hiS hi) (hiS (some c)) H k
  | .nilsl, none => (loI lo = some 0 ∧ hiI 0 hi = some 0) ∧ k .nilsl H
  | .own g len, none => cutO n g len H[g]? (loI lo) (hiI len hi) H k
  | _, _ => False
def slsK (x : V) (lo hi : Option V) (H : List Entry) (k : KV) : Prop :=
  match x with
  | .str s => (match loI lo, hiI s.length hi with
    | some a, some b => (0 ≤ a ∧ a ≤ b ∧ b ≤ s.length) ∧ k (.str ((s.take b.toNat).drop a.toNat)) H
    | _, _ => False)
  | _ => False
def mnxI (m : Bool) : List V → Option (IntKind × Int)
  | [.int q a, .int r b] => if q = r then some (q, if m then (if b < a then b else a) else (if b > a then b else a)) else none
  | _ => none
def mnxK (r : Option (IntKind × Int)) (H : List Entry) (k : KV) : Prop := match r with | some (q, a) => k (.int q a) H | none => False
def rngK (x : V) (H : List Entry) (k : KV) : Prop := match x with | .str s => k (.it H.length) (H ++ [.siter s 0]) | _ => False
def nxtH (j : Nat) (e : Option Entry) (H : List Entry) (k : KV) : Prop :=
  match e with
  | some (.siter s pos) => bif decide (pos < s.length) then
      k (.tup [.bool true, .int .i64 pos, .int .i32 (Utf8.decode ⟨s.toArray⟩ pos).1]) (H.set j (.siter s (pos + (Utf8.decode ⟨s.toArray⟩ pos).2)))
      else k (.tup [.bool false]) H
  | _ => False
def nxtK (str : Bool) (x : V) (H : List Entry) (k : KV) : Prop := match str, x with | true, .it j => nxtH j H[j]? H k | _, _ => False
def extK (i : Nat) (x : V) (H : List Entry) (k : KV) : Prop := match x with | .tup vs => i < vs.length ∧ k (nth vs i) H | _ => False

/-- A call: whoever calls with such arguments comes back, and what comes back meets K. -/
def ACall (P : Program) (f : FuncId) (args : List V) (H : List Entry) (K : KV) : Prop :=
  ∀ (C : Ctx) (vals : List Value), C.H = H → HRep C → CRep C.R args vals →
    Calls P f vals.toArray C.w fun e w' => ∃ (C' : Ctx) (x : V) (v : Value), e = .returned v ∧ C'.w = w' ∧ Tr C C' ∧ HRep C' ∧ VRep C'.R x v ∧ K x C'.H
/-- A function that has a body of its own. -/
def hasBody (P : Program) (f : FuncId) : Bool := match P.funcs[f]? with | some fn => fn.name != "runtime.NumGoroutine" && fn.body.isSome | none => false
/-- A call: whoever calls with such arguments comes back, and what comes back meets K; the function has a body. -/
def BCall (P : Program) (f : FuncId) (args : List V) (H : List Entry) (K : KV) : Prop := hasBody P f = true ∧ ACall P f args H K
def callK (P : Program) (f : V) (args : List V) (H : List Entry) (k : KV) : Prop :=
  match f with | .fn g a b => BCall P g (a ++ (args ++ b)) H k | _ => False

/-- A call among what is done in any order: what it brings is told, and so is what it lays down behind what there was. -/
def DCall (P : Program) (f : FuncId) (args : List V) (H : List Entry) (K : KV) : Prop := ∃ v rows, BCall P f args H (fun v' H' => v' = v ∧ H' = H ++ rows) ∧ K v (H ++ rows)
def dcallK (P : Program) (f : V) (args : List V) (H : List Entry) (k : KV) : Prop :=
  match f with | .fn g a b => DCall P g (a ++ (args ++ b)) H k | _ => False

/-- What a change leaves as it was. -/
def Off (x : V) (H H' : List Entry) : Prop := H.length ≤ H'.length ∧ ∀ g, g < H.length → gid x ≠ some g → H'[g]? = H[g]?
/-- A call among what is done in any order, that changes what its first argument leads to, and nothing else. -/
def MCall (P : Program) (f : FuncId) (x : V) (args : List V) (H : List Entry) (K : KV) : Prop := ∃ v H', BCall P f args H (fun v' H'' => v' = v ∧ H'' = H') ∧ Off x H H' ∧ K v H'
def mcallK (P : Program) (f : V) (x : V) (args : List V) (H : List Entry) (k : KV) : Prop :=
  match f with | .fn g a b => MCall P g x (a ++ (x :: args ++ b)) H k | _ => False

/-- A call that brings a value, whatever there is, and leaves what there is as it was. -/
def PCall (P : Program) (f : FuncId) (args : List V) (H : List Entry) (K : KV) : Prop := ∃ v, (∀ H' : List Entry, BCall P f args H' (fun v' H'' => v' = v ∧ H'' = H')) ∧ K v H
def pcallK (P : Program) (f : V) (args : List V) (H : List Entry) (k : KV) : Prop :=
  match f with | .fn g a b => PCall P g (a ++ (args ++ b)) H k | _ => False

/-- A list whose elements have no numbers: nothing becomes of what there is. -/
def bslm (n : Nat) (g : Bool) (nd : Bool) (xs : List V) (H : List Entry) (k : KV) : Prop := match nd with | true => bslK n (okEls n g xs) xs H k | false => False
def cutM (n g len : Nat) (e : Option Entry) (lo hi : Option Int) (H : List Entry) (k : KV) : Prop :=
  match e with
  | some (.row _ m xs) => (m = n ∧ len = xs.length) ∧ cutC g len lo hi H k
  | some (.irow m xs) => (m = n ∧ len = xs.length) ∧ cutK (.sl n) xs lo hi H k
  | _ => False
def slcM (n : Nat) (x : V) (lo hi mx : Option V) (H : List Entry) (k : KV) : Prop :=
  match x, mx with
  | .own g len, none => cutM n g len H[g]? (loI lo) (hiI len hi) H k
  | .own _ _, some _ => False
  | _, _ => slcK n x lo hi mx H k

def step (P : Program) (o : AOp) (e : List V) (H : List Entry) (k : KV) : Prop :=
  match o with
  | .mv x => k (ev e x) H
  | .nck x => nckK (ev e x) H k
  | .pick c a b => pickK (ev e c) (ev e a) (ev e b) H k
  | .box x => boxK (cellsO (ev e x)) H k
  | .alloc cs => k (.ptr H.length 0) (H ++ [.box cs])
  | .build cs ps => bldK (bldO cs (evp e ps)) H k
  | .bsl n g l => bslF n g (noids (evs e l)) (evs e l) H k
  | .mks E n g z bt l c => mksK E n g z bt (ev e l) (ev e c) H k
  | .load n g x => loadK n g (ev e x) H k
  | .store n a x => storeK n (ev e a) (ev e x) H k
  | .bin op x y => binK op (ev e x) (ev e y) H k
  | .binb neg x y => binbK neg (ev e x) (ev e y) H k
  | .cnil kind neg x y => cnilK kind neg (ev e x) (ev e y) H k
  | .cnild kind neg x y => eqaK neg (isNil kind (ev e x) (ev e y)) H k
  | .eqa neg ks x y => eqaK neg (eqaO ks (ev e x) (ev e y)) H k
  | .un op x => unK op (ev e x) H k
  | .fad off x => fadK off (ev e x) H k
  | .fld off n g x => fldK off n g (ev e x) H k
  | .iad n _ x i => iadK n (ev e x) (ev e i) H k
  | .iaa len n x i => iaaK len n (ev e x) (ev e i) H k
  | .ixs x i => ixsK (ev e x) (ev e i) H k
  | .ixa len n g x i => ixaK len n g (ev e x) (ev e i) H k
  | .cvi q x => cviK q (ev e x) H k
  | .cvs x => cvsK (ev e x) H k
  | .b2s x => b2sK (listOf 1 H (ev e x)) H k
  | .mkfn f a b => k (.fn f (evs e a) (evs e b)) H
  | .mkm => k (.map H.length) (H ++ [.map []])
  | .mput g ks m a b => mputK g ks (ev e m) (ev e a) (ev e b) H k
  | .mget g ks z ok m a => mgetK g ks z ok (ev e m) (ev e a) H k
  | .mdel _ _ _ _ => False
  | .len kind x => lenK kind (ev e x) H k
  | .app E n bt _ x y => appK E n bt (ev e x) (listOf n H (ev e y)) H k
  | .apps E bt x y => appK E 1 bt (ev e x) (strEls (ev e y)) H k
  | .copy n x y => copyK n (ev e x) (listOf n H (ev e y)) H k
  | .slc n x lo hi mx => slcK n (ev e x) (evo e lo) (evo e hi) (evo e mx) H k
  | .sls x lo hi => slsK (ev e x) (evo e lo) (evo e hi) H k
  | .call f args => callK P (ev e f) (evs e args) H k
  | .bslm n g l => bslm n g (noids (evs e l)) (evs e l) H k
  | .slcm n x lo hi mx => slcM n (ev e x) (evo e lo) (evo e hi) (evo e mx) H k
  | .dcall f args => dcallK P (ev e f) (evs e args) H k
  | .mcall f x args => mcallK P (ev e f) (ev e x) (evs e args) H k
  | .pcall f args => pcallK P (ev e f) (evs e args) H k
  | .alcR _ _ => False
  | .mnx m l => mnxK (mnxI m (evs e l)) H k
  | .rng x => rngK (ev e x) H k
  | .nxt s x => nxtK s (ev e x) H k
  | .ext x i => extK i (ev e x) H k
  | .bad => False
end Go.Av
namespace Go.Av
open Go Go.RowKit
set_option autoImplicit false
set_option linter.all false

/-! ### Values, and their cells -/
section
variable {R : Rd}
theorem CRep_nil : CRep R [] [] := by simp [CRep]
theorem CRep_cons {c : V} {cs : List V} {d : Value} {ds : List Value} (h : VRep R c d) (h2 : CRep R cs ds) : CRep R (c :: cs) (d :: ds) := by
  simp only [CRep]; exact ⟨d, ds, rfl, h, h2⟩
theorem CRep_length : ∀ {cs : List V} {ds : List Value}, CRep R cs ds → cs.length = ds.length
  | [], ds, h => by simp only [CRep] at h; subst h; rfl
  | c :: cs, ds, h => by
    simp only [CRep] at h
    obtain ⟨d, r, rfl, _, h2⟩ := h
    simp [CRep_length h2]
theorem CRep_get : ∀ {cs : List V} {ds : List Value} (i : Nat) (d : Value), CRep R cs ds → ds[i]? = some d → VRep R (nth cs i) d
  | [], ds, i, d, h, hd => by simp only [CRep] at h; subst h; simp at hd
  | c :: cs, ds, i, d, h, hd => by
    simp only [CRep] at h
    obtain ⟨d', r, rfl, h1, h2⟩ := h
    cases i with
    | zero => simp at hd; subst hd; exact h1
    | succ i => simp only [List.getElem?_cons_succ] at hd; exact CRep_get i d h2 hd
theorem nth_out : ∀ {cs : List V} {i : Nat}, cs.length ≤ i → nth cs i = .junk
  | [], _, _ => rfl
  | c :: cs, 0, h => by simp at h
  | c :: cs, i + 1, h => nth_out (cs := cs) (i := i) (by simpa using h)
theorem CRep_nth {cs : List V} {ds : List Value} (i : Nat) (h : CRep R cs ds) : VRep R (nth cs i) (ds.getD i undef) := by
  cases hd : ds[i]? with
  | none =>
    rw [nth_out (by rw [CRep_length h]; exact List.getElem?_eq_none_iff.1 hd)]
    simp only [VRep]
  | some d => rw [List.getD_eq_getElem?_getD, hd]; exact CRep_get i d h hd
theorem CRep_drop : ∀ {cs : List V} {ds : List Value} (n : Nat), CRep R cs ds → CRep R (cs.drop n) (ds.drop n)
  | cs, ds, 0, h => h
  | [], ds, n + 1, h => by simp only [CRep] at h; subst h; simp [CRep]
  | c :: cs, ds, n + 1, h => by
    simp only [CRep] at h
    obtain ⟨d', r, rfl, h1, h2⟩ := h
    simpa using CRep_drop n h2
theorem CRep_take : ∀ {cs : List V} {ds : List Value} (n : Nat), CRep R cs ds → CRep R (cs.take n) (ds.take n)
  | cs, ds, 0, h => by simp [CRep]
  | [], ds, n + 1, h => by simp only [CRep] at h; subst h; simp [CRep]
  | c :: cs, ds, n + 1, h => by
    simp only [CRep] at h
    obtain ⟨d', r, rfl, h1, h2⟩ := h
    simpa using CRep_cons h1 (CRep_take n h2)
theorem CRep_append : ∀ {cs cs' : List V} {ds ds' : List Value}, CRep R cs ds → CRep R cs' ds' → CRep R (cs ++ cs') (ds ++ ds')
  | [], _, ds, _, h, h' => by simp only [CRep] at h; subst h; exact h'
  | c :: cs, _, ds, _, h, h' => by
    simp only [CRep] at h
    obtain ⟨d', r, rfl, h1, h2⟩ := h
    exact CRep_cons h1 (CRep_append h2 h')
theorem CRep_set : ∀ {e : List V} {ds : List Value} (i : Nat) {x : V} {v : Value}, CRep R e ds → VRep R x v → CRep R (setAt e i x) (ds.set i v)
  | [], ds, i, x, v, h, _ => by simp only [CRep] at h; subst h; simp [setAt, CRep]
  | c :: e, ds, 0, x, v, h, hv => by
    simp only [CRep] at h
    obtain ⟨d', r, rfl, h1, h2⟩ := h
    simpa [setAt] using CRep_cons hv h2
  | c :: e, ds, i + 1, x, v, h, hv => by
    simp only [CRep] at h
    obtain ⟨d', r, rfl, h1, h2⟩ := h
    simpa [setAt] using CRep_cons h1 (CRep_set i h2 hv)
theorem VRep_int {k : IntKind} {n : Int} {v : Value} : VRep R (.int k n) v ↔ v = .int k n := by simp only [VRep]
theorem VRep_bool {b : Bool} {v : Value} : VRep R (.bool b) v ↔ v = .bool b := by simp only [VRep]
theorem VRep_str {s : List UInt8} {v : Value} : VRep R (.str s) v ↔ v = .string ⟨s.toArray⟩ := by simp only [VRep]
theorem VRep_undef : VRep R undefV undef := by simp [undefV, undef, VRep, CRep]
theorem VRep_junk {v : Value} : VRep R .junk v := by simp only [VRep]

/-- A value's cells stand for its cells. -/
theorem cells_rep {x : V} {v : Value} (h : VRep R x v) (hx : x ≠ .junk) : CRep R x.cells v.cells.toList := by
  have one : ∀ {v : Value}, VRep R x v → v.oneCell' = true → x.cells = [x] → CRep R x.cells v.cells.toList := by
    intro v h h1 h2
    rw [h2]
    cases v <;> simp [Value.oneCell'] at h1 <;> exact CRep_cons h CRep_nil
  cases x with
  | agg cs =>
    simp only [VRep] at h
    obtain ⟨ds, rfl, hc⟩ := h
    simpa [V.cells, Value.cells] using hc
  | tup cs =>
    have h' := h
    simp only [VRep] at h
    obtain ⟨ds, rfl, hc⟩ := h
    simpa [V.cells, Value.cells] using CRep_cons h' CRep_nil
  | junk => exact absurd rfl hx
  | own g l => exact one h (by simp only [VRep] at h; exact h.1) rfl
  | ptr g l => exact one h (by simp only [VRep] at h; exact h.1) rfl
  | eptr g l => exact one h (by simp only [VRep] at h; exact h.1) rfl
  | cut g l => exact one h (by simp only [VRep] at h; exact h.1) rfl
  | map g => exact one h (by simp only [VRep] at h; exact h.1) rfl
  | it g => exact one h (by simp only [VRep] at h; exact h.1) rfl
  | bool b => exact one h (by simp only [VRep] at h; subst h; rfl) rfl
  | int k n => exact one h (by simp only [VRep] at h; subst h; rfl) rfl
  | str k => exact one h (by simp only [VRep] at h; subst h; rfl) rfl
  | nilsl => exact one h (by simp only [VRep] at h; subst h; rfl) rfl
  | sl n xs => exact one h (by simp only [VRep] at h; rcases h with ⟨_, _, _, rfl⟩ | ⟨_, _, _, _, rfl, _⟩ <;> rfl) rfl
  | slx n xs => exact one h (by simp only [VRep] at h; rcases h with ⟨_, _, rfl⟩ | ⟨_, _, _, rfl, _⟩ <;> rfl) rfl
  | nilp => exact one h (by simp only [VRep] at h; subst h; rfl) rfl
  | ref cs => exact one h (by simp only [VRep] at h; obtain ⟨_, _, _, rfl, _⟩ := h; rfl) rfl
  | nilfn => exact one h (by simp only [VRep] at h; subst h; rfl) rfl
  | fn f a b => exact one h (by simp only [VRep] at h; obtain ⟨_, _, rfl, _⟩ := h; rfl) rfl
  | nilmap => exact one h (by simp only [VRep] at h; subst h; rfl) rfl

theorem lenEq_iff : ∀ {l : List V} {n : Nat}, lenEq l n = true ↔ l.length = n
  | [], 0 => by simp [lenEq]
  | [], n + 1 => by simp [lenEq]
  | _ :: l, 0 => by simp [lenEq]
  | _ :: l, n + 1 => by simp [lenEq, lenEq_iff (l := l)]
/-- Cells laid over others. -/
theorem putC_rep : ∀ {cs : List V} {o n : Nat} {vs cs' : List V} {ds es : List Value}, putC cs o n vs = some cs' → CRep R cs ds → CRep R vs es →
    es.length = n ∧ o + n ≤ ds.length ∧ CRep R cs' (ds.take o ++ es ++ ds.drop (o + n))
  | cs, 0, 0, [], cs', ds, es, h, hc, hv => by
    simp only [putC] at h
    cases h
    simp only [CRep] at hv
    subst hv
    exact ⟨rfl, Nat.zero_le _, by simpa using hc⟩
  | [], 0, n + 1, _, cs', ds, es, h, hc, hv => by simp [putC] at h
  | [], o + 1, n, _, cs', ds, es, h, hc, hv => by simp [putC] at h
  | [], 0, 0, _ :: _, cs', ds, es, h, hc, hv => by simp [putC] at h
  | c :: cs, 0, 0, v :: vs, cs', ds, es, h, hc, hv => by simp [putC] at h
  | c :: cs, 0, n + 1, [], cs', ds, es, h, hc, hv => by simp [putC] at h
  | c :: cs, 0, n + 1, v :: vs, cs', ds, es, h, hc, hv => by
    simp only [putC, Option.map_eq_some_iff] at h
    obtain ⟨r, hr, rfl⟩ := h
    simp only [CRep] at hc hv
    obtain ⟨d, ds, rfl, h1, h2⟩ := hc
    obtain ⟨e, es, rfl, h3, h4⟩ := hv
    obtain ⟨k1, k2, k3⟩ := putC_rep hr h2 h4
    refine ⟨by simp [k1], by simp; omega, ?_⟩
    have := CRep_cons h3 k3
    simpa [show 0 + (n + 1) = n + 1 by omega] using this
  | c :: cs, o + 1, n, vs, cs', ds, es, h, hc, hv => by
    simp only [putC, Option.map_eq_some_iff] at h
    obtain ⟨r, hr, rfl⟩ := h
    simp only [CRep] at hc
    obtain ⟨d, ds, rfl, h1, h2⟩ := hc
    obtain ⟨k1, k2, k3⟩ := putC_rep hr h2 hv
    refine ⟨k1, by simp; omega, ?_⟩
    have := CRep_cons h1 k3
    simpa [show o + 1 + n = (o + n) + 1 by omega] using this
end

/-! ### Constants, and operands -/
mutual
theorem vOf_rep {R : Rd} : ∀ (v : Value) (x : V), vOf v = some x → VRep R x v ∧ x ≠ .junk
  | .bool b, x, h => by simp only [vOf, Option.some.injEq] at h; subst h; simp [VRep]
  | .int k n, x, h => by simp only [vOf, Option.some.injEq] at h; subst h; simp [VRep]
  | .string s, x, h => by simp only [vOf, Option.some.injEq] at h; subst h; simp [VRep]
  | .pointer none, x, h => by simp only [vOf, Option.some.injEq] at h; subst h; simp [VRep]
  | .slice none 0 0, x, h => by simp only [vOf, Option.some.injEq] at h; subst h; simp [VRep]
  | .nilFunc, x, h => by simp only [vOf, Option.some.injEq] at h; subst h; simp [VRep]
  | .map none, x, h => by simp only [vOf, Option.some.injEq] at h; subst h; simp [VRep]
  | .func (.func f) ⟨a⟩ ⟨b⟩, x, h => by
    simp only [vOf] at h
    split at h
    · rename_i p q h1 h2
      cases h
      exact ⟨by simp only [VRep]; exact ⟨a, b, rfl, vsOf_rep a p h1, vsOf_rep b q h2⟩, by simp⟩
    · cases h
  | .agg ⟨cs⟩, x, h => by
    simp only [vOf] at h
    split at h
    · rename_i p h1
      cases h
      exact ⟨by simp only [VRep]; exact ⟨cs, rfl, vsOf_rep cs p h1⟩, by simp⟩
    · cases h
  | .tuple ⟨cs⟩, x, h => by
    simp only [vOf] at h
    split at h
    · rename_i p h1
      cases h
      exact ⟨by simp only [VRep]; exact ⟨cs, rfl, vsOf_rep cs p h1⟩, by simp⟩
    · cases h
  | .float .., x, h => by simp [vOf] at h
  | .complex .., x, h => by simp [vOf] at h
  | .pointer (some _), x, h => by simp [vOf] at h
  | .slice (some _) _ _, x, h => by simp [vOf] at h
  | .slice none (n+1) _, x, h => by simp [vOf] at h
  | .slice none 0 (n+1), x, h => by simp [vOf] at h
  | .map (some _), x, h => by simp [vOf] at h
  | .chan _, x, h => by simp [vOf] at h
  | .func (.method _) _ _, x, h => by simp [vOf] at h
  | .func (.methodOf _ _) _ _, x, h => by simp [vOf] at h
  | .func (.via ..) _ _, x, h => by simp [vOf] at h
  | .func (.yield _) _ _, x, h => by simp [vOf] at h
  | .iface .., x, h => by simp [vOf] at h
  | .nilIface, x, h => by simp [vOf] at h
theorem vsOf_rep {R : Rd} : ∀ (l : List Value) (xs : List V), vsOf l = some xs → CRep R xs l
  | [], xs, h => by simp only [vsOf, Option.some.injEq] at h; subst h; simp [CRep]
  | v :: l, xs, h => by
    simp only [vsOf] at h
    split at h
    · rename_i p q h1 h2
      cases h
      exact CRep_cons (vOf_rep v p h1).1 (vsOf_rep l q h2)
    · cases h
end

section
variable {R : Rd} {a : Act} {e : List V}
theorem opd_rep {x : Operand} {o : Opd} (hx : cOpd x = some o) (hE : CRep R e a.tmps.toList) : VRep R (ev e o) (a.eval x) := by
  cases x with
  | tmp t =>
    simp only [cOpd, Option.some.injEq] at hx
    subst hx
    have := CRep_nth t hE
    simpa [ev, Act.eval, Array.getD_eq_getD_getElem?, List.getD_eq_getElem?_getD] using this
  | const v =>
    simp only [cOpd, Option.map_eq_some_iff] at hx
    obtain ⟨y, hy, rfl⟩ := hx
    exact (vOf_rep v y hy).1
  | global g => simp [cOpd] at hx
  | func f =>
    simp only [cOpd, Option.some.injEq] at hx
    subst hx
    simp only [ev, VRep, Act.eval]
    exact ⟨[], [], rfl, CRep_nil, CRep_nil⟩
theorem opds_rep : ∀ {xs : List Operand} {os : List Opd}, cOpds xs = some os → CRep R e a.tmps.toList → CRep R (evs e os) (xs.map a.eval)
  | [], os, hx, hE => by simp only [cOpds, Option.some.injEq] at hx; subst hx; simp [evs, CRep]
  | x :: xs, os, hx, hE => by
    simp only [cOpds] at hx
    split at hx
    · rename_i p q h1 h2
      cases hx
      exact CRep_cons (opd_rep h1 hE) (opds_rep h2 hE)
    · cases hx
theorem zero_rep {P : Program} {t : TypeId} {z : V} (h : zeroT P t = some z) : ∃ i v, P.info? t = some i ∧ i.zero = some v ∧ VRep R z v ∧ z ≠ .junk ∧ CRep R z.cells v.cells.toList := by
  unfold zeroT at h
  cases hi : P.info? t with
  | none => simp [hi] at h
  | some i =>
    cases hz : i.zero with
    | none => simp [hi, hz] at h
    | some v =>
      simp only [hi, hz, Option.bind_some] at h
      obtain ⟨h1, h2⟩ := vOf_rep (R := R) v z h
      exact ⟨i, v, rfl, hz, h1, h2, cells_rep h1 h2⟩
end
end Go.Av
namespace Go.Av
open Go Go.RowKit
set_option autoImplicit false
set_option linter.all false

/-- A step is carried out, and what comes of it meets K. -/
def Does (P : Program) (s : Sem Value) (C : Ctx) (K : KV) : Prop :=
  ∃ (C' : Ctx) (x : V) (v : Value), s.run P C.w = .ok v C'.w ∧ Tr C C' ∧ HRep C' ∧ VRep C'.R x v ∧ K x C'.H
def DoesU (P : Program) (s : Sem Unit) (C : Ctx) (K : KV) : Prop :=
  ∃ (C' : Ctx), s.run P C.w = .ok () C'.w ∧ Tr C C' ∧ HRep C' ∧ K undefV C'.H
section
variable {P : Program} {C : Ctx} {K : KV}
theorem Does.pure {s : Sem Value} {x : V} {v : Value} (hC : HRep C) (h : s.run P C.w = .ok v C.w) (hv : VRep C.R x v) (hk : K x C.H) : Does P s C K := ⟨C, x, v, h, Tr.refl C, hC, hv, hk⟩
theorem run_underlying' {t : TypeId} {d : TypeDesc} {w : World} (h : P.underlying t = some d) : (underlying t).run P w = .ok d w := by
  unfold underlying; simp [h]
theorem run_sizeOf {t : TypeId} {n : Nat} {w : World} (h : sizeT P t = some n) : (sizeOf t).run P w = .ok n w := by
  unfold sizeT at h
  cases hi : P.info? t with
  | none => simp [hi] at h
  | some i => simp [hi] at h; subst h; simp [sizeOf, typeInfo, hi]
theorem run_isAgg {t : TypeId} {n : Nat} {w : World} (h : sizeT P t = some n) (hu : (P.underlying t).isSome = true) : (isAgg t).run P w = .ok (isAggT P t) w := by
  unfold isAgg isAggT
  obtain ⟨d, hd⟩ := Option.isSome_iff_exists.1 hu
  simp only [Sem.run_bind, run_underlying' hd, Result.andThen_ok, hd]
  cases d <;> rfl
/-- A number of which there is an entry. -/
theorem sh_of {j : Nat} {e : Entry} (h : C.H[j]? = some e) : C.sh j = some e.shp := by simp [Ctx.sh, h]
theorem ptr_at {j off : Nat} {e : Entry} {v : Value} (hv : VRep C.R (.ptr j off) v) (he : C.H[j]? = some e) (hs : e.shp = .box) : ∃ b c, C.β j = some (b, c) ∧ v = .pointer (some ⟨b, off, none⟩) := by
  simp only [VRep, Ctx.R, sh_of he, hs] at hv
  exact hv.2
theorem own_at {j len n : Nat} {e : Entry} {v : Value} {xs : List V} (hv : VRep C.R (.own j len) v) (he : C.H[j]? = some e) (hs : e.shp = .row n xs.length) (hl : len = xs.length) :
    (C.β j = none ∧ ∃ a, v = .slice a 0 0) ∨ ∃ b c, C.β j = some (b, c) ∧ v = .slice (some ⟨b, 0, none⟩) len c := by
  simp only [VRep, Ctx.R, sh_of he, hs] at hv
  exact hv.2.2 hl
theorem eptr_at {j len i off n : Nat} {e : Entry} {v : Value} {xs : List V} (hv : VRep C.R (.eptr j len i off) v) (he : C.H[j]? = some e) (hs : e.shp = .row n xs.length) (hl : len = xs.length) :
    ∃ b c, C.β j = some (b, c) ∧ v = .pointer (some ⟨b, i * n + off, none⟩) := by
  simp only [VRep, Ctx.R, sh_of he, hs] at hv
  exact hv.2.2 hl
theorem cut_at {j len i k n : Nat} {e : Entry} {v : Value} {xs : List V} (hv : VRep C.R (.cut j len i k) v) (he : C.H[j]? = some e) (hs : e.shp = .row n xs.length) (hl : len = xs.length) :
    (i ≤ k ∧ k ≤ len) ∧ ∃ b c o, C.β j = some (b, c) ∧ len ≤ c ∧ v = .slice (some ⟨b, o, none⟩) (k - i) (c - i) ∧ (i < k → o = i * n) := by
  simp only [VRep, Ctx.R, sh_of he, hs] at hv
  exact hv.2.2 hl
theorem map_at {j : Nat} {e : Entry} {v : Value} (hv : VRep C.R (.map j) v) (he : C.H[j]? = some e) (hs : e.shp = .map) : ∃ b c, C.β j = some (b, c) ∧ v = .map (some b) := by
  simp only [VRep, Ctx.R, sh_of he, hs] at hv
  exact hv.2
theorem it_at {j : Nat} {e : Entry} {v : Value} (hv : VRep C.R (.it j) v) (he : C.H[j]? = some e) (hs : e.shp = .it) : ∃ b c, C.β j = some (b, c) ∧ v = .pointer (some ⟨b, 0, none⟩) := by
  simp only [VRep, Ctx.R, sh_of he, hs] at hv
  exact hv.2

/-! New blocks -/
theorem newVar_does {t : TypeId} {v : Value} {cs : List V} (hC : HRep C) (hv : CRep C.R cs v.cells.toList) (hk : K (.ptr C.H.length 0) (C.H ++ [.box cs])) :
    Does P (do Pure.pure (Value.pointer (some (← newVar t v)))) C K := by
  refine ⟨C.push (.cells v.cells t) 0 (.box cs), .ptr C.H.length 0, .pointer (some ⟨C.w.heap.size, 0, none⟩), ?_, push_tr, push_rep hC ?_, ?_, hk⟩
  · simp [newVar, newRow, Ctx.push]
  · refine ⟨C.w.heap.size, 0, v.cells, t, push_beta_new, av_alloc_new C.w _, CRep_tr push_tr.R _ _ hv⟩
  · simp only [VRep, Ctx.R]
    refine ⟨rfl, ?_⟩
    rw [sh_of push_get_new]
    exact ⟨_, _, push_beta_new, rfl⟩

/-! Loads -/
theorem cellsAt_load {w : World} {b o : Nat} {cells : List Value} (h : cellsAt w b o cells) (off n : Nat) :
    ∀ (j : Nat) (c : Value), ((cells.drop off).take n)[j]? = some c → w.cell? ((⟨b, o + off, none⟩ : Addr).add j) = some c := by
  intro j c hc
  rw [Addr.add_lit]
  rw [List.getElem?_take] at hc
  split at hc
  · rw [List.getElem?_drop] at hc
    have := h _ _ hc
    rwa [← Nat.add_assoc] at this
  · cases hc
theorem load_cells {t : TypeId} {n off b o : Nat} {cells : List Value} {cs : List V} (hs : sizeT P t = some n) (hu : (P.underlying t).isSome = true) (h1 : isAggT P t = false → n = 1) (hc : cellsAt C.w b o cells) (hr : CRep C.R cs cells) (hn : off + n ≤ cs.length) :
    ∃ v, (Instr.loadAt t (.pointer (some ⟨b, o + off, none⟩))).run P C.w = .ok v C.w ∧ VRep C.R (part n (isAggT P t) (cs.drop off)) v := by
  have hl := CRep_length hr
  have hld := run_loadCells_list (P := P) C.w ⟨b, o + off, none⟩ ((cells.drop off).take n) (cellsAt_load hc off n)
  have hlen : ((cells.drop off).take n).length = n := by simp; omega
  rw [hlen] at hld
  cases hg : isAggT P t with
  | true =>
    refine ⟨.agg ((cells.drop off).take n).toArray, ?_, ?_⟩
    · simp [Instr.loadAt, Instr.sureAddr, loadVar, run_isAgg hs hu, hg, run_sizeOf hs, hld]
    · simp only [part, cond_true, VRep]
      exact ⟨_, rfl, CRep_take n (CRep_drop off hr)⟩
  | false =>
    have e1 := h1 hg
    subst e1
    have hlt : off < cells.length := by omega
    refine ⟨cells[off], ?_, ?_⟩
    · have := hc off _ (List.getElem?_eq_getElem hlt)
      simp [Instr.loadAt, Instr.sureAddr, loadVar, run_isAgg hs hu, hg, this]
    · simp only [part, cond_false]
      exact CRep_get 0 _ (CRep_drop off hr) (by simp [List.getElem?_drop, hlt])
theorem cellsAt_row {w : World} {b : Nat} {cur : Array Value} {E : TypeId} {fr : Nat × Nat} (h : w.heap[b]? = some (.cells cur E fr)) : cellsAt w b 0 cur.toList := by
  intro k c hc
  rw [cell_of_row w b _ cur E fr h, Nat.zero_add]
  simpa using hc
theorem ERep_length {R : Rd} {n : Nat} : ∀ {xs : List V} {cells : List Value}, ERep R n xs cells → cells.length = xs.length * n
  | [], cells, h => by simp only [ERep] at h; subst h; simp
  | x :: xs, cells, h => by
    simp only [ERep] at h
    obtain ⟨v, r, rfl, h1, _, _, h3⟩ := h
    simp [ERep_length h3, h1, Nat.add_mul, Nat.add_comm]
theorem ERep_at {R : Rd} {n : Nat} : ∀ {xs : List V} {cells : List Value} (i : Nat), ERep R n xs cells → i < xs.length →
    ∃ v, v.cells.toList = (cells.drop (i * n)).take n ∧ v.cells.size = n ∧ nth xs i ≠ .junk ∧ VRep R (nth xs i) v
  | [], cells, i, h, hi => by simp at hi
  | x :: xs, cells, 0, h, hi => by
    simp only [ERep] at h
    obtain ⟨v, r, rfl, h1, hj, h2, h3⟩ := h
    exact ⟨v, by simp [h1], h1, hj.1, h2⟩
  | x :: xs, cells, i + 1, h, hi => by
    simp only [ERep] at h
    obtain ⟨v, r, rfl, h1, hj, h2, h3⟩ := h
    obtain ⟨u, k1, k2, k3⟩ := ERep_at i h3 (by simpa using hi)
    refine ⟨u, ?_, k2, k3⟩
    rw [k1, Nat.add_mul, Nat.one_mul, Nat.add_comm (i * n) n, ← List.drop_drop, List.drop_left' (by simpa using h1)]
theorem cellsAt_drop {w : World} {b o : Nat} {cells : List Value} (h : cellsAt w b o cells) (m n : Nat) : cellsAt w b (o + m) ((cells.drop m).take n) := by
  intro k c hc
  rw [List.getElem?_take] at hc
  split at hc
  · rw [List.getElem?_drop] at hc
    rw [Nat.add_assoc]
    exact h _ _ hc
  · cases hc
/-- What is read with no number in it is read with numbers as well. -/
theorem RTr_deep (R : Rd) : RTr R.deep R := ⟨Nat.le_refl _, fun _ _ h => ⟨rfl, h⟩, fun g s h => by cases h⟩
end
end Go.Av
namespace Go.Av
open Go Go.RowKit
set_option autoImplicit false
set_option linter.all false
section
variable {P : Program} {C : Ctx} {K : KV}
theorem tyOk_parts {t : TypeId} {n : Nat} (h : tyOk P t n = true) : (P.underlying t).isSome = true ∧ (isAggT P t = false → n = 1) := by
  unfold tyOk at h
  simp only [Bool.and_eq_true, Bool.or_eq_true, beq_iff_eq] at h
  exact ⟨h.1, fun hf => by rcases h.2 with h2 | h2; (· rw [hf] at h2; cases h2); exact h2⟩
theorem deepC {cs : List V} {ds : List Value} (h : CRep C.R.deep cs ds) : CRep C.R cs ds := CRep_tr (RTr_deep _) _ _ h
theorem deepV {x : V} {v : Value} (h : VRep C.R.deep x v) : VRep C.R x v := VRep_tr (RTr_deep _) _ _ h
/-- What is only read. -/
def Reads (P : Program) (s : Sem Value) (C : Ctx) (K : KV) : Prop := ∃ (x : V) (v : Value), s.run P C.w = .ok v C.w ∧ VRep C.R x v ∧ K x C.H
theorem Reads.does {s : Sem Value} (hC : HRep C) (h : Reads P s C K) : Does P s C K := by
  obtain ⟨x, v, h1, h2, h3⟩ := h
  exact Does.pure hC h1 h2 h3
theorem load_reads {t : TypeId} {n : Nat} {x : V} {v : Value} (hs : sizeT P t = some n) (ht : tyOk P t n = true) (hC : HRep C) (hv : VRep C.R x v) (hk : loadK n (isAggT P t) x C.H K) :
    Reads P (Instr.loadAt t v) C K := by
  obtain ⟨hu, h1⟩ := tyOk_parts ht
  unfold loadK at hk
  split at hk
  · rename_i cs
    simp only [VRep] at hv
    obtain ⟨b, o, cells, rfl, _, _, hc, hr⟩ := hv
    obtain ⟨u, h2, h3⟩ := load_cells (C := C) (off := 0) hs hu h1 hc (deepC hr) (by omega)
    exact ⟨_, u, h2, h3, hk.2⟩
  · rename_i j off
    unfold loadH at hk
    split at hk
    · rename_i cs he
      obtain ⟨b, c, hb, rfl⟩ := ptr_at hv he rfl
      obtain ⟨b', c', cur, E, k1, k2, k3⟩ := hC.ent j _ he
      rw [hb] at k1; cases k1
      obtain ⟨u, h2, h3⟩ := load_cells (C := C) (o := 0) hs hu h1 (cellsAt_row k2) k3 hk.1
      rw [Nat.zero_add] at h2
      exact ⟨_, u, h2, h3, hk.2⟩
    · rename_i cs he
      obtain ⟨b, c, hb, rfl⟩ := ptr_at hv he rfl
      obtain ⟨b', c', cells, k1, _, _, k4, k5⟩ := hC.ent j _ he
      rw [hb] at k1; cases k1
      obtain ⟨u, h2, h3⟩ := load_cells (C := C) (o := 0) hs hu h1 k4 (deepC k5) hk.1
      rw [Nat.zero_add] at h2
      exact ⟨_, u, h2, h3, hk.2⟩
    · exact hk.elim
  · rename_i j len i off
    unfold loadE at hk
    have key : ∀ {m : Nat} {xs : List V} {cells : List Value} {b : Nat}, cellsAt C.w b 0 cells → ERep C.R.deep m xs cells → (len = xs.length ∧ i < xs.length ∧ off + n ≤ m) ∧ K (part n (isAggT P t) ((nth xs i).cells.drop off)) C.H →
        v = .pointer (some ⟨b, i * m + off, none⟩) → Reads P (Instr.loadAt t v) C K := by
      intro m xs cells b hc hr hk hv
      subst hv
      obtain ⟨u, e1, e2, e3, e4⟩ := ERep_at i hr hk.1.2.1
      have hcr := cells_rep e4 e3
      rw [e1] at hcr
      have hl := CRep_length hcr
      have hul : u.cells.toList.length = m := by simpa using e2
      rw [e1] at hul
      have hc2 := cellsAt_drop hc (i * m) m
      obtain ⟨z, h2, h3⟩ := load_cells (C := C) (off := off) hs hu h1 hc2 (deepC hcr) (by omega)
      simp only [Nat.zero_add] at h2
      exact ⟨_, z, h2, h3, hk.2⟩
    split at hk
    · rename_i E m xs he
      obtain ⟨b, c, hb, hv⟩ := eptr_at hv he rfl hk.1.1
      rcases hC.ent j _ he with ⟨k1, k2⟩ | ⟨b', cap, cur, cells, k1, k2, k3, k4, k5, k6, k7⟩
      · rw [hb] at k1; cases k1
      · rw [hb] at k1; cases k1
        refine key (b := b) (cells := cells) ?_ k7 hk hv
        have := cellsAt_row k2
        intro k c hk
        rw [← k6, List.getElem?_take] at hk
        split at hk
        · exact this k c hk
        · cases hk
    · rename_i m xs he
      obtain ⟨b, c, hb, hv⟩ := eptr_at hv he rfl hk.1.1
      rcases hC.ent j _ he with ⟨k1, k2⟩ | ⟨b', cap, cells, k1, _, _, _, k5, k7⟩
      · rw [hb] at k1; cases k1
      · rw [hb] at k1; cases k1
        exact key (b := b) (cells := cells) k5 k7 hk hv
    · exact hk.elim
  · exact hk.elim

/-! Places of parts -/
theorem load_does {t : TypeId} {n : Nat} {x : V} {v : Value} (hs : sizeT P t = some n) (ht : tyOk P t n = true) (hC : HRep C) (hv : VRep C.R x v) (hk : loadK n (isAggT P t) x C.H K) :
    Does P (Instr.loadAt t v) C K := (load_reads hs ht hC hv hk).does hC
theorem box_at {j o : Nat} {x : V} {v : Value} (hv : VRep C.R (.ptr j o) v) (hk : nckB (isBox C.H[j]?) x C.H K) :
    ∃ b c, C.R.β j = some (b, c) ∧ v = .pointer (some ⟨b, o, none⟩) ∧ C.R.sh j = some .box ∧ K x C.H := by
  cases he : C.H[j]? with
  | none => rw [he] at hk; exact hk.elim
  | some e =>
    rw [he] at hk
    have hs : e.shp = .box := by cases e <;> first | rfl | exact hk.elim
    obtain ⟨b, c, hb, rfl⟩ := ptr_at hv he hs
    refine ⟨b, c, hb, rfl, by simp [Ctx.R, Ctx.sh, he, hs], ?_⟩
    cases e <;> first | exact hk | exact hk.elim
theorem isRow_at {j len : Nat} {A : Prop} (hk : isRow len C.H[j]? A) : ∃ e n xs, C.H[j]? = some e ∧ e.shp = .row n xs.length ∧ len = xs.length ∧ A ∧ ((∃ E, e = .row E n xs) ∨ e = .irow n xs) := by
  cases he : C.H[j]? with
  | none => rw [he] at hk; exact hk.elim
  | some e =>
    rw [he] at hk
    cases e with
    | row E n xs => exact ⟨_, n, xs, rfl, rfl, hk.1, hk.2, .inl ⟨E, rfl⟩⟩
    | irow n xs => exact ⟨_, n, xs, rfl, rfl, hk.1, hk.2, .inr rfl⟩
    | _ => exact hk.elim
theorem el_at {j len i o : Nat} {v : Value} {A : Prop} (hv : VRep C.R (.eptr j len i o) v) (hk : isRow len C.H[j]? A) :
    ∃ m b c, C.R.β j = some (b, c) ∧ v = .pointer (some ⟨b, i * m + o, none⟩) ∧ C.R.sh j = some (.row m len) ∧ A := by
  obtain ⟨e, n, xs, he, hs, hl, hA, _⟩ := isRow_at hk
  obtain ⟨b, c, hb, rfl⟩ := eptr_at hv he hs hl
  exact ⟨n, b, c, hb, rfl, by simp [Ctx.R, Ctx.sh, he, hs, hl], hA⟩
theorem fad_does {s : TypeId} {fs : Array Field} {g : Field} {f n : Nat} {x : V} {v : Value} (hu : P.underlying s = some (.struct fs)) (hf : fs[f]? = some g) (hn : sizeT P g.type = some (n + 1)) (hC : HRep C)
    (hv : VRep C.R x v) (hk : fadK g.offset x C.H K) : Does P (Instr.fieldAt s v f) C K := by
  have run : ∀ (b o : Nat), (Instr.fieldAt s (.pointer (some ⟨b, o, none⟩)) f).run P C.w = .ok (.pointer (some ⟨b, o + g.offset, none⟩)) C.w := by
    intro b o
    simp [Instr.fieldAt, run_underlying' hu, hf, Instr.sureAddr, fieldPlace, run_sizeOf hn, Addr.add_lit]
  unfold fadK at hk
  split at hk
  · rename_i cs
    simp only [VRep] at hv
    obtain ⟨b, o, cells, rfl, h1, h2, hc, hr⟩ := hv
    refine Does.pure hC (run b o) ?_ hk
    simp only [VRep]
    refine ⟨b, o + g.offset, cells.drop g.offset, rfl, h1, h2, ?_, CRep_drop _ hr⟩
    intro k c hk
    rw [List.getElem?_drop] at hk
    rw [Nat.add_assoc]
    exact hc _ _ hk
  · rename_i j o
    obtain ⟨b, c, hb, rfl, hsh, hk⟩ := box_at hv hk
    refine Does.pure hC (run b o) ?_ hk
    simp only [VRep, hsh]
    exact ⟨rfl, b, c, hb, rfl⟩
  · rename_i j len i o
    obtain ⟨m, b, c, hb, rfl, hsh, hk⟩ := el_at hv hk
    refine Does.pure hC (run b _) ?_ hk
    simp only [VRep, hsh]
    exact ⟨rfl, Nat.le_refl _, fun _ => ⟨b, c, hb, by simp [Nat.add_assoc]⟩⟩
  · exact hk.elim
end
end Go.Av
