/- A part of a way to reckon what a Go program does without its memory (AvA). -/
import GoSem.Step
namespace Go.Av
open Go
set_option autoImplicit false
set_option linter.all false

/-- What a value is, with no memory: what lies behind it is in it; what is the call's own goes by a number. -/
inductive V where
  | bool (b : Bool)
  | int (k : IntKind) (n : Int)
  | str (s : List UInt8)
  | agg (cs : List V)
  | tup (vs : List V)
  | nilsl
  | sl (n : Nat) (xs : List V)
  | slx (n : Nat) (xs : List V)
  | own (g len : Nat)
  | nilp
  | ref (cs : List V)
  | ptr (g off : Nat)
  | eptr (g len i off : Nat)
  | nilfn
  | fn (f : FuncId) (first caps : List V)
  | nilmap
  | map (g : Nat)
  | it (g : Nat)
  | junk
  deriving Inhabited

inductive Entry where
  | box (cs : List V)
  | row (E n : Nat) (xs : List V)
  | ibox (cs : List V)
  | irow (n : Nat) (xs : List V)
  | map (kvs : List (V × V))
  | siter (s : List UInt8) (pos : Nat)
  | resv
  | gone
  deriving Inhabited

def V.cells : V → List V
  | .agg cs => cs
  | v => [v]

inductive Opd where
  | t (i : Nat)
  | c (v : V)
  deriving Inhabited

/-- What an operation is, its types settled. -/
inductive AOp where
  | mv (x : Opd)
  | nck (x : Opd)
  | pick (c a b : Opd)
  | box (x : Opd)
  | alloc (cs : List V)
  | build (cs : List V) (parts : List (Nat × Nat × Opd))
  | bsl (n : Nat) (agg : Bool) (parts : List Opd)
  | mks (E n : Nat) (agg : Bool) (zero : List V) (by_ : Nat) (len cap : Opd)
  | load (n : Nat) (agg : Bool) (x : Opd)
  | store (n : Nat) (a x : Opd)
  | bin (op : BinOp) (x y : Opd)
  | binb (neg : Bool) (x y : Opd)
  | cnil (kind : Nat) (neg : Bool) (x y : Opd)
  | cnild (kind : Nat) (neg : Bool) (x y : Opd)
  | eqa (neg : Bool) (ks : List Nat) (x y : Opd)
  | un (op : UnOp) (x : Opd)
  | fad (off : Nat) (x : Opd)
  | fld (off n : Nat) (agg : Bool) (x : Opd)
  | iad (n : Nat) (agg : Bool) (x i : Opd)
  | iaa (len n : Nat) (x i : Opd)
  | ixs (x i : Opd)
  | ixa (len n : Nat) (agg : Bool) (x i : Opd)
  | cvi (k : IntKind) (x : Opd)
  | cvs (x : Opd)
  | b2s (x : Opd)
  | mkfn (f : FuncId) (first caps : List Opd)
  | mkm
  | mput (g : Bool) (ks : List Nat) (x k v : Opd)
  | mget (g : Bool) (ks : List Nat) (zero : V) (ok : Bool) (x k : Opd)
  | mdel (g : Bool) (ks : List Nat) (x k : Opd)
  | len (kind : Nat) (x : Opd)
  | app (E n by_ : Nat) (agg : Bool) (x y : Opd)
  | apps (E by_ : Nat) (x y : Opd)
  | copy (n : Nat) (x y : Opd)
  | slc (n : Nat) (x : Opd) (lo hi mx : Option Opd)
  | sls (x : Opd) (lo hi : Option Opd)
  | call (f : Opd) (args : List Opd)
  | dcall (f : Opd) (args : List Opd)
  | bslm (n : Nat) (agg : Bool) (parts : List Opd)
  | slcm (n : Nat) (x : Opd) (lo hi mx : Option Opd)
  | mnx (isMin : Bool) (args : List Opd)
  | rng (x : Opd)
  | nxt (str : Bool) (x : Opd)
  | ext (x : Opd) (i : Nat)
  | bad
  deriving Inhabited

structure AO where
  dst : Option Nat
  op : AOp
  guard : Option (Nat × Bool)
  deriving Inhabited

inductive AC where
  | skip
  | ops (l : List AO)
  | draw (l : List AO)
  | seq (a b : AC)
  | cond (x : Opd) (a b : AC)
  | block (id : Nat) (a : AC)
  | loop (a : AC)
  | exit (id : Nat)
  | scope (a : AC)
  | ret
  | wk (a : AC)
  | bad
  deriving Inhabited

/-! ### Code, its types settled -/
mutual
def vOf : Value → Option V
  | .bool b => some (.bool b)
  | .int k n => some (.int k n)
  | .string s => some (.str s.data.toList)
  | .pointer none => some .nilp
  | .slice none 0 0 => some .nilsl
  | .nilFunc => some .nilfn
  | .map none => some .nilmap
  | .func (.func f) ⟨a⟩ ⟨b⟩ => match vsOf a, vsOf b with | some x, some y => some (.fn f x y) | _, _ => none
  | .agg ⟨cs⟩ => match vsOf cs with | some x => some (.agg x) | _ => none
  | .tuple ⟨cs⟩ => match vsOf cs with | some x => some (.tup x) | _ => none
  | _ => none
def vsOf : List Value → Option (List V)
  | [] => some []
  | v :: l => match vOf v, vsOf l with | some x, some y => some (x :: y) | _, _ => none
end

def cOpd : Operand → Option Opd
  | .tmp t => some (.t t)
  | .const v => (vOf v).map .c
  | .global _ => none
  | .func f => some (.c (.fn f [] []))
def cOpds : List Operand → Option (List Opd)
  | [] => some []
  | x :: l => match cOpd x, cOpds l with | some a, some b => some (a :: b) | _, _ => none
def cOpt : Option Operand → Option (Option Opd)
  | none => some none
  | some x => (cOpd x).map some
def isAggT (P : Program) (t : TypeId) : Bool := match P.underlying t with | some (.struct _) | some (.array _ _) => true | _ => false
/-- Sizes that are told: none, if there is no such type. -/
def sizeT (P : Program) (t : TypeId) : Option Nat := (P.info? t).map (·.size)
/-- Is a value of a type one cell, or a row of them? -/
def tyOk (P : Program) (t : TypeId) (n : Nat) : Bool := (P.underlying t).isSome && (isAggT P t || n == 1)
def zeroT (P : Program) (t : TypeId) : Option V := ((P.info? t).bind (·.zero)).bind vOf
/-- A row's parts in order, one for each place. -/
def inOrder : Nat → List (Nat × Operand) → Option (List Opd)
  | _, [] => some []
  | i, (j, x) :: l => if i = j then match cOpd x, inOrder (i + 1) l with | some a, some b => some (a :: b) | _, _ => none else none
def cParts (P : Program) (fs : Array Field) : List (Nat × Operand) → Option (List (Nat × Nat × Opd))
  | [] => some []
  | (i, x) :: l =>
    match fs[i]? with
    | some f => match sizeT P f.type, cOpd x, cParts P fs l with | some n, some a, some b => some ((f.offset, n, a) :: b) | _, _, _ => none
    | none => none
def cPartsA (n len : Nat) : List (Nat × Operand) → Option (List (Nat × Nat × Opd))
  | [] => some []
  | (i, x) :: l => if i < len then match cOpd x, cPartsA n len l with | some a, some b => some ((i * n, n, a) :: b) | _, _ => none else none
/-- What each cell of a type is, whose equality is that of its cells, one by one: a truth (0), a number (1), a text (2). -/
def flatF (f : TypeId → Option (List Nat)) : List Nat → List Field → Option (List Nat)
  | acc, [] => some acc
  | acc, x :: fs => if x.offset = acc.length ∧ x.name ≠ "_" then (match f x.type with | some l => flatF f (acc ++ l) fs | none => none) else none
def flatK (P : Program) : Nat → TypeId → Option (List Nat)
  | 0, _ => none
  | d + 1, t =>
    match P.underlying t, sizeT P t with
    | some .bool, some 1 => some [0]
    | some (.int _), some 1 => some [1]
    | some .string, some 1 => some [2]
    | some (.struct fs), some n => if P.stoodInHeld t then none else (match flatF (flatK P d) [] fs.toList with | some l => if l.length = n then some l else none | none => none)
    | some (.array len e), some n => (match flatK P d e with | some l => if len * l.length = n then some (List.replicate len l).flatten else none | none => none)
    | _, _ => none
def cOp (P : Program) (o : Oper) : Option AOp :=
  match o.op with
  | .move x | .assign x => (cOpd x).map .mv
  | .nilCheck x => (cOpd x).map .nck
  | .pick c a b => match cOpd c, cOpd a, cOpd b with | some c, some a, some b => some (.pick c a b) | _, _, _ => none
  | .box _ x => (cOpd x).map .box
  | .alloc t => (zeroT P t).map fun z => .alloc z.cells
  | .build t parts =>
    match P.underlying t, zeroT P t with
    | some (.struct fs), some z => if fs.all (fun f => (sizeT P f.type).isSome) then (cParts P fs parts.toList).map (.build z.cells) else none
    | some (.array len e), some z => match sizeT P e with | some n => (cPartsA n len parts.toList).map (.build z.cells) | none => none
    | _, _ => none
  | .buildSlice t len parts =>
    match P.underlying t with
    | some (.slice e) => match sizeT P e, inOrder 0 parts.toList with
      | some n, some l => if l.length = len ∧ len * n ≤ 2 ^ 24 ∧ 0 < n ∧ tyOk P e n = true ∧ (zeroT P e).isSome = true then some (.bsl n (isAggT P e) l) else none
      | _, _ => none
    | _ => none
  | .makeSlice t l c =>
    match P.underlying t with
    | some (.slice e) => match P.info? e, zeroT P e, cOpd l, cOpd c with
      | some i, some z, some l, some c => if z.cells.length = i.size ∧ 0 < i.size ∧ tyOk P e i.size = true then some (.mks e i.size (isAggT P e) z.cells i.bytes l c) else none
      | _, _, _, _ => none
    | _ => none
  | .load t x => match sizeT P t, cOpd x with | some n, some x => if tyOk P t n then some (.load n (isAggT P t) x) else none | _, _ => none
  | .store t a x => match sizeT P t, cOpd a, cOpd x with | some n, some a, some x => some (.store n a x) | _, _, _ => none
  | .binOp op t x y _ =>
    match cOpd x, cOpd y with
    | some x, some y =>
      match P.underlying t with
      | some (.struct _) | some (.array _ _) => if P.eqGuardType P.depth t then none else (match flatK P 20 t, op with | some n, .eql => some (.eqa false n x y) | some n, .neq => some (.eqa true n x y) | _, _ => none)
      | some (.int _) | some .string => some (.bin op x y)
      | some .bool => (match op with | .eql => some (.binb false x y) | .neq => some (.binb true x y) | _ => none)
      | some (.slice _) => (match op with | .eql => some (.cnil 0 false x y) | .neq => some (.cnil 0 true x y) | _ => none)
      | some (.pointer _) => (match op with | .eql => some (.cnil 1 false x y) | .neq => some (.cnil 1 true x y) | _ => none)
      | some (.map _ _) => (match op with | .eql => some (.cnil 2 false x y) | .neq => some (.cnil 2 true x y) | _ => none)
      | some (.func ..) => (match op with | .eql => some (.cnil 3 false x y) | .neq => some (.cnil 3 true x y) | _ => none)
      | _ => none
    | _, _ => none
  | .unOp op _ x => (cOpd x).map (.un op)
  | .convert src dst x =>
    match cOpd x, P.underlying src, P.underlying dst with
    | some x, some (.int _), some (.int k) => some (.cvi k x)
    | some x, some .string, some .string => some (.cvs x)
    | some x, some (.slice e), some .string => (match P.underlying e with | some (.int .u8) => some (.b2s x) | _ => none)
    | _, _, _ => none
  | .makeFunc (.func f) first caps => match cOpds first.toList, cOpds caps.toList with | some a, some b => some (.mkfn f a b) | _, _ => none
  | .makeMap t none => (match P.underlying t with | some (.map _ _) => some .mkm | _ => none)
  | .slice t x lo hi mx =>
    match P.underlying t, cOpd x, cOpt lo, cOpt hi, cOpt mx with
    | some .string, some x, some lo, some hi, some none => some (.sls x lo hi)
    | some (.slice e), some x, some lo, some hi, some mx => (sizeT P e).map fun n => .slc n x lo hi mx
    | _, _, _, _, _ => none
  | .fieldAddr t x f =>
    match P.underlying t, cOpd x with
    | some (.struct fs), some x => match fs[f]? with | some g => (match sizeT P g.type with | some (_ + 1) => some (.fad g.offset x) | _ => none) | none => none
    | _, _ => none
  | .field t x f =>
    match P.underlying t, cOpd x with
    | some (.struct fs), some x => match fs[f]? with | some g => (match sizeT P g.type with | some n => if tyOk P g.type n then some (.fld g.offset n (isAggT P g.type) x) else none | none => none) | none => none
    | _, _ => none
  | .indexAddr t x i =>
    match P.underlying t, cOpd x, cOpd i with
    | some (.slice e), some x, some i => (match sizeT P e with | some (n + 1) => if tyOk P e (n + 1) then some (.iad (n + 1) (isAggT P e) x i) else none | _ => none)
    | some (.array len e), some x, some i => (match sizeT P e with | some (n + 1) => some (.iaa len (n + 1) x i) | _ => none)
    | _, _, _ => none
  | .index t x i =>
    match P.underlying t, cOpd x, cOpd i with
    | some .string, some x, some i => some (.ixs x i)
    | some (.array len e), some x, some i => (match sizeT P e with | some n => if tyOk P e n then some (.ixa len n (isAggT P e) x i) else none | none => none)
    | _, _, _ => none
  | .lookup t x i ok =>
    match P.underlying t, cOpd x, cOpd i with
    | some (.map k e), some x, some i => (match flatK P 20 k, zeroT P e with | some ks, some z => some (.mget (isAggT P k) ks z ok x i) | _, _ => none)
    | _, _, _ => none
  | .mapUpdate t m k x | .insert t m k x =>
    match P.underlying t, cOpd m, cOpd k, cOpd x with
    | some (.map kt _), some m, some k, some x => (match flatK P 20 kt with | some ks => some (.mput (isAggT P kt) ks m k x) | none => none)
    | _, _, _, _ => none
  | .range t x => match P.underlying t, cOpd x with | some .string, some x => some (.rng x) | _, _ => none
  | .next it s => (cOpd it).map (.nxt s)
  | .extract t i => (cOpd t).map fun x => .ext x i
  | .call { callee := .builtin b, args, argTypes } =>
    match cOpds args.toList with
    | none => none
    | some l =>
      match b, l, argTypes.toList with
      | .len, [x], [t] => (match P.underlying t with | some .string => some (.len 0 x) | some (.slice _) => some (.len 1 x) | some (.map _ _) => some (.len 2 x) | _ => none)
      | .append, [x, y], [s, t] =>
        match P.underlying s with
        | some (.slice e) =>
          match P.info? e, (P.info? e).bind (·.zero), P.underlying t with
          | some i, some z, some (.slice _) => if z.cells.size = i.size ∧ 0 < i.size ∧ t = s ∧ tyOk P e i.size = true then some (.app e i.size i.bytes (isAggT P e) x y) else none
          | some i, some z, some .string => if z.cells.size = i.size ∧ i.size = 1 then some (.apps e i.bytes x y) else none
          | _, _, _ => none
        | _ => none
      | .copy, [x, y], [s, _] => match P.underlying s with | some (.slice e) => (sizeT P e).map fun n => .copy n x y | _ => none
      | .delete, [x, k], [t, _] => match P.underlying t with | some (.map kt _) => (match flatK P 20 kt with | some ks => some (.mdel (isAggT P kt) ks x k) | none => none) | _ => none
      | .min, _, t :: _ => match P.underlying t with | some (.int _) => some (.mnx true l) | _ => none
      | .max, _, t :: _ => match P.underlying t with | some (.int _) => some (.mnx false l) | _ => none
      | _, _, _ => none
  | .call { callee := .value f, args, .. } => match cOpd f, cOpds args.toList with | some f, some l => some (.call f l) | _, _ => none
  | _ => none
def cGuard (ops : Array Oper) : Option (Nat × Bool) → Option (Option (Nat × Bool))
  | none => some none
  | some (j, b) => match (ops[j]?).bind (·.dst) with | some d => some (some (d, b)) | none => none
def cOps (P : Program) (ops : Array Oper) : List Oper → Option (List AO)
  | [] => some []
  | o :: l => match cOp P o, cGuard ops o.guard, cOps P ops l with | some a, some g, some r => some (⟨o.dst, a, g⟩ :: r) | _, _, _ => none
/-! ### What may be done in any order -/
def AO.dr (o : AO) : AO :=
  match o.op with
  | .call f a => { o with op := .dcall f a }
  | .bsl n g l => { o with op := .bslm n g l }
  | .slc n x a b c => { o with op := .slcm n x a b c }
  | .cnil k b x y => { o with op := .cnild k b x y }
  | _ => o
def optL : Option Opd → List Opd
  | none => []
  | some x => [x]
/-- What it looks at. -/
def AOp.opds : AOp → List Opd
  | .mv x | .nck x | .box x | .un _ x | .fad _ x | .fld _ _ _ x | .cvi _ x | .cvs x | .b2s x | .len _ x | .ext x _ | .load _ _ x => [x]
  | .pick a b c => [a, b, c]
  | .build _ ps => ps.map (·.2.2)
  | .bslm _ _ l | .mnx _ l => l
  | .mks _ _ _ _ _ l c => [l, c]
  | .bin _ x y | .binb _ x y | .cnil _ _ x y | .cnild _ _ x y | .eqa _ _ x y | .iad _ _ x y | .iaa _ _ x y | .ixs x y | .ixa _ _ _ x y | .mget _ _ _ _ x y => [x, y]
  | .mkfn _ a b => a ++ b
  | .slcm _ x a b c => x :: (optL a ++ (optL b ++ optL c))
  | .sls x a b => x :: (optL a ++ optL b)
  | .dcall f l => f :: l
  | .store _ x y | .app _ _ _ _ x y | .apps _ _ x y | .copy _ x y => [x, y]
  | .mput _ _ a b c => [a, b, c]
  | .rng x | .nxt _ x => [x]
  | _ => []
def gid : V → Option Nat
  | .own g _ | .ptr g _ | .eptr g _ _ _ | .map g | .it g => some g
  | _ => none
def constOk : List Opd → Bool
  | [] => true
  | .t _ :: l => constOk l
  | .c v :: l => (gid v).isNone && constOk l
/-- Only reads (1), or lays something down behind what there is (2), or has nothing to do with memory (3), or writes (4). -/
def AOp.cls : AOp → Nat
  | .mv _ | .un .. | .fld .. | .cvi .. | .cvs _ | .ext .. | .pick .. | .build .. | .bslm .. | .mnx .. | .bin .. | .binb .. | .cnild .. | .eqa .. | .ixs .. | .ixa .. | .mkfn .. | .sls .. => 3
  | .nck _ | .fad .. | .b2s _ | .len .. | .load .. | .iad .. | .iaa .. | .mget .. | .slcm .. => 1
  | .box _ | .alloc _ | .mkm | .mks .. | .dcall .. => 2
  | .store .. | .app .. | .apps .. | .copy .. | .mput .. | .rng _ | .nxt .. => 4
  | _ => 0
/-- Does what one does to memory matter for the other? -/
def hcl (a b : Nat) : Bool := (Nat.beq a 4 && !Nat.beq b 3) || ((Nat.beq b 4 && !Nat.beq a 3) || (Nat.beq a 2 && Nat.beq b 2))
def tmpsOf : List Opd → List Nat
  | [] => []
  | .t i :: l => i :: tmpsOf l
  | .c _ :: l => tmpsOf l
def AO.rds (o : AO) : List Nat := match o.guard with | some (t, _) => t :: tmpsOf o.op.opds | none => tmpsOf o.op.opds
def hasN : List Nat → Nat → Bool
  | [], _ => false
  | x :: l, y => Nat.beq x y || hasN l y
/-- Does one look at what the other gives, or give it, too? -/
def AO.clash (x y : AO) : Bool :=
  (match x.dst with | some d => hasN y.rds d || (match y.dst with | some d' => Nat.beq d d' | none => false) | none => false) ||
  (match y.dst with | some d => hasN x.rds d | none => false) || hcl x.op.cls y.op.cls
/-- What each must wait for. -/
def waitE (acc : List (List Nat)) : List Edge → List Nat
  | [] => []
  | e :: l => if Region.binds .any e then e.on :: ((acc[e.on]?.getD []) ++ waitE acc l) else waitE acc l
def waitA (acc : List (List Nat)) : List Oper → List (List Nat)
  | [] => acc
  | o :: l => waitA (acc ++ [(waitE acc o.after.toList).eraseDups]) l
/-- Each waits for one that stands before it. -/
def edgeOk (w : List (List Nat)) (i : Nat) : List Edge → Bool
  | [] => true
  | e :: l => (!Region.binds .any e || Nat.blt e.on i) && edgeOk w i l
/-- Whatever is told to be waited for is an edge's, or is waited for by one. -/
def waitOk (w : List (List Nat)) (es : List Edge) : List Nat → Bool
  | [] => true
  | j :: l => es.any (fun e => Region.binds .any e && (Nat.beq e.on j || hasN ((w[e.on]?).getD []) j)) && waitOk w es l
def pairOk (w : List Nat) (y : AO) : Nat → List AO → Bool
  | _, [] => true
  | i, x :: l => (!x.clash y || hasN w i) && pairOk w y (i + 1) l
def drawGo (w : List (List Nat)) : Nat → List AO → List Oper → List AO → Bool
  | _, _, [], [] => true
  | i, before, o :: os, a :: as =>
    Nat.ble 1 a.op.cls && (constOk a.op.opds && (edgeOk w i o.after.toList && (waitOk w o.after.toList ((w[i]?).getD []) && (pairOk ((w[i]?).getD []) a 0 before && drawGo w (i + 1) (before ++ [a]) os as))))
  | _, _, _, _ => false
def drawOk (ops : List Oper) (l : List AO) : Bool := drawGo (waitA [] ops) 0 [] ops l
def comp (P : Program) : Code → Option AC
  | .skip => some .skip
  | .region _ ops false => (cOps P ops ops.toList).map .ops
  | .region _ ops true => match cOps P ops ops.toList with | some l => if P.follows .mixedOrders && drawOk ops.toList (l.map AO.dr) then some (.draw (l.map AO.dr)) else none | none => none
  | .seq a b => match comp P a, comp P b with | some x, some y => some (.seq x y) | _, _ => none
  | .cond c a b => match cOpd c, comp P a, comp P b with | some c, some x, some y => some (.cond c x y) | _, _, _ => none
  | .block id a => (comp P a).map (.block id)
  | .loop a => (comp P a).map .loop
  | .exit id => some (.exit id)
  | .scope a => (comp P a).map .scope
  | .label _ => some .skip
  | .ret => some .ret
  | _ => none
end Go.Av
