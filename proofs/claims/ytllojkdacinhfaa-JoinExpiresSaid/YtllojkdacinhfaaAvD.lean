/- A part of a way to reckon what a Go program does without its memory (AvD). -/
import Derived.Test.YtllojkdacinhfaaAvC
namespace Go.Av
open Go Go.RowKit
set_option autoImplicit false
set_option linter.all false

/-! ### The reckoning -/
inductive Ex where
  | norm | exit (id : Nat) | ret
abbrev K1 := List V → List Entry → Prop
abbrev KV := V → List Entry → Prop
abbrev KQ := Ex → List V → List Entry → Prop

def nth : List V → Nat → V
  | [], _ => .junk
  | a :: _, 0 => a
  | _ :: l, n+1 => nth l n
def setAt : List V → Nat → V → List V
  | [], _, _ => []
  | _ :: l, 0, v => v :: l
  | a :: l, n+1, v => a :: setAt l n v
def ev (e : List V) : Opd → V
  | .t i => nth e i
  | .c v => v
def evs (e : List V) : List Opd → List V
  | [] => []
  | x :: l => ev e x :: evs e l
def evo (e : List V) : Option Opd → Option V
  | none => none
  | some x => some (ev e x)
def evp (e : List V) : List (Nat × Nat × Opd) → List (Nat × Nat × V)
  | [] => []
  | (a, n, x) :: l => (a, n, ev e x) :: evp e l
def undefV : V := .tup []
/-- A part of cells, as a value. -/
def part (n : Nat) (agg : Bool) (cs : List V) : V := bif agg then .agg (cs.take n) else nth cs 0
def lenEq : List V → Nat → Bool
  | [], 0 => true
  | _ :: l, n+1 => lenEq l n
  | _, _ => false
/-- Cells with others laid over some of them: none, if they do not fit. -/
def putC : List V → Nat → Nat → List V → Option (List V)
  | cs, 0, 0, [] => some cs
  | _ :: cs, 0, n+1, v :: vs => (putC cs 0 n vs).map (v :: ·)
  | c :: cs, o+1, n, vs => (putC cs o n vs).map (c :: ·)
  | _, _, _, _ => none
/-- A value's cells: none, if nothing is known of it. -/
def cellsO : V → Option (List V)
  | .junk => none
  | .agg cs => some cs
  | v => some [v]
def putO (cs : List V) (o n : Nat) : Option (List V) → Option (List V)
  | some vs => putC cs o n vs
  | none => none
def bldO : List V → List (Nat × Nat × V) → Option (List V)
  | cs, [] => some cs
  | cs, (o, n, v) :: l => match putO cs o n (cellsO v) with | some cs' => bldO cs' l | none => none
def boxK (r : Option (List V)) (H : List Entry) (k : V → List Entry → Prop) : Prop := match r with | some cs => k (.ptr H.length 0) (H ++ [.box cs]) | none => False
/-- Is a value one cell? -/
def atom : V → Bool
  | .agg _ | .tup _ | .junk => false
  | _ => true
def atoms : List V → Bool
  | [] => true
  | x :: l => atom x && atoms l
/-- Is a value one element of a row? -/
def okEl (n : Nat) : Bool → V → Bool
  | true, .agg cs => lenEq cs n && atoms cs
  | false, v => atom v && n == 1
  | _, _ => false
def okEls (n : Nat) (g : Bool) : List V → Bool
  | [] => true
  | x :: l => okEl n g x && okEls n g l
/-- May a value be stored? -/
def okC : V → Bool
  | .agg cs => atoms cs
  | v => atom v
/- No number in it. -/
mutual
def noid : V → Bool
  | .agg cs => noids cs
  | .tup cs => noids cs
  | .fn _ a b => noids a && noids b
  | .own .. | .ptr .. | .eptr .. | .map _ | .it _ => false
  | _ => true
def noids : List V → Bool
  | [] => true
  | x :: l => noid x && noids l
end
/-- What a list holds, whose elements are so many cells each. -/
def listOf (n : Nat) (H : List Entry) : V → Option (List V)
  | .sl m xs | .slx m xs => if m = n then some xs else none
  | .nilsl => some []
  | .own g len => match H[g]? with
    | some (.row _ m xs) | some (.irow m xs) => if m = n ∧ xs.length = len then some xs else none
    | _ => none
  | _ => none
def u8V (b : UInt8) : V := .int .u8 (b.toNat : Int)
def strEls : V → Option (List V)
  | .str s => some (s.map u8V)
  | _ => none
def u8Of : V → UInt8
  | .int _ n => UInt8.ofNat n.toNat
  | _ => 0
def isU8 : V → Bool
  | .int .u8 _ => true
  | _ => false
def allU8 : List V → Bool
  | [] => true
  | x :: l => isU8 x && allU8 l
def atomEq : Nat → V → V → Option Bool
  | 0, .bool a, .bool b => some (a == b)
  | 1, .int p a, .int q b => if p = q then some (a == b) else none
  | 2, .str a, .str b => some (a == b)
  | _, _, _ => none
def cellsEq : List Nat → List V → List V → Option Bool
  | [], [], [] => some true
  | k :: ks, a :: l, b :: m => match atomEq k a b, cellsEq ks l m with | some x, some y => some (x && y) | _, _ => none
  | _, _, _ => none
def valEq : Bool → List Nat → V → V → Option Bool
  | true, ks, .agg a, .agg b => cellsEq ks a b
  | false, ks, x, y => cellsEq ks [x] [y]
  | _, _, _, _ => none
/-- The place of a key: none if a key cannot be told apart. -/
def kpos (g : Bool) (ks : List Nat) (k : V) : List (V × V) → Option (Option Nat)
  | [] => some none
  | (a, _) :: l => match valEq g ks k a with
    | some true => some (some 0)
    | some false => (kpos g ks k l).map (Option.map (· + 1))
    | none => none
def kval : List (V × V) → Nat → V
  | [], _ => .junk
  | (_, x) :: _, 0 => x
  | _ :: l, n + 1 => kval l n

/-- A number of a variable, or of a row's element, that is still there. -/
def isBox : Option Entry → Bool
  | some (.box _) | some (.ibox _) => true
  | _ => false
def rowN : Option Entry → Nat
  | some (.row _ n _) | some (.irow n _) => n
  | _ => 0
def isRow (len : Nat) (e : Option Entry) (A : Prop) : Prop := match e with | some (.row _ _ xs) | some (.irow _ xs) => len = xs.length ∧ A | _ => False
def nckB (b : Bool) (x : V) (H : List Entry) (k : KV) : Prop := match b with | true => k x H | false => False
def nckK (x : V) (H : List Entry) (k : KV) : Prop :=
  match x with | .ref cs => k (.ref cs) H | .ptr g o => nckB (isBox H[g]?) (.ptr g o) H k | .fn f a b => k (.fn f a b) H | _ => False
def pickK (c a b : V) (H : List Entry) (k : KV) : Prop := match c with | .bool t => bif t then k a H else k b H | _ => False
def bldK (r : Option (List V)) (H : List Entry) (k : KV) : Prop := match r with | some cs => k (.agg cs) H | none => False
/-! What of one's own lies in a value is given up: it is only read from then on. -/
def fzsW (f : List Entry → V → V × List Entry) : List Entry → List V → List V × List Entry
  | H, [] => ([], H)
  | H, x :: l => ((f H x).1 :: (fzsW f (f H x).2 l).1, (fzsW f (f H x).2 l).2)
def fzRow (g len : Nat) (H : List Entry) : Option Entry → V × List Entry
  | some (.row _ n xs) => if xs.length = len then (.sl n xs, H.set g (.irow n xs)) else (.own g len, H)
  | some (.irow n xs) => if xs.length = len then (.sl n xs, H) else (.own g len, H)
  | _ => (.own g len, H)
def fzPut (g : Nat) (H0 : List Entry) (r : List V × List Entry) : V × List Entry :=
  match r.2[g]?, noids r.1 with
  | some (.box _), true => (.ref r.1, r.2.set g (.ibox r.1))
  | _, _ => (.ptr g 0, H0)
def fzBox (f : List Entry → List V → List V × List Entry) (g : Nat) (H : List Entry) : Option Entry → V × List Entry
  | some (.box cs) => fzPut g H (f H cs)
  | some (.ibox cs) => (.ref cs, H)
  | _ => (.ptr g 0, H)
def fz : Nat → List Entry → V → V × List Entry
  | 0, H, v => (v, H)
  | d + 1, H, .agg cs => (.agg (fzsW (fz d) H cs).1, (fzsW (fz d) H cs).2)
  | d + 1, H, .tup cs => (.tup (fzsW (fz d) H cs).1, (fzsW (fz d) H cs).2)
  | _ + 1, H, .own g len => fzRow g len H H[g]?
  | d + 1, H, .ptr g 0 => fzBox (fzsW (fz d)) g H H[g]?
  | d + 1, H, .fn f a b => (.fn f (fzsW (fz d) H a).1 (fzsW (fz d) (fzsW (fz d) H a).2 b).1, (fzsW (fz d) (fzsW (fz d) H a).2 b).2)
  | _, H, v => (v, H)
def bslK (n : Nat) (ok : Bool) (xs : List V) (H : List Entry) (k : KV) : Prop := match ok with | true => k (.slx n xs) H | false => False
def bslF (n : Nat) (g : Bool) (nd : Bool) (xs : List V) (H : List Entry) (k : KV) : Prop :=
  match nd with
  | true => bslK n (okEls n g xs) xs H k
  | false => bslK n (okEls n g (fzsW (fz 8) H xs).1 && noids (fzsW (fz 8) H xs).1) (fzsW (fz 8) H xs).1 (fzsW (fz 8) H xs).2 k
def mksK (E n : Nat) (g : Bool) (zero : List V) (bt : Nat) (l c : V) (H : List Entry) (k : KV) : Prop :=
  match l, c, okEl n g (part n g zero) && noid (part n g zero) with
  | .int _ a, .int _ b, true => (0 ≤ a ∧ a ≤ b ∧ b * bt ≤ 140737488355328 ∧ b ≤ 140737488355328) ∧ k (.own H.length a.toNat) (H ++ [.row E n (List.replicate a.toNat (part n g zero))])
  | _, _, _ => False
def loadH (n : Nat) (g : Bool) (off : Nat) (e : Option Entry) (H : List Entry) (k : KV) : Prop :=
  match e with
  | some (.box cs) | some (.ibox cs) => off + n ≤ cs.length ∧ k (part n g (cs.drop off)) H
  | _ => False
def loadE (n : Nat) (g : Bool) (len i off : Nat) (e : Option Entry) (H : List Entry) (k : KV) : Prop :=
  match e with
  | some (.row _ m xs) | some (.irow m xs) => (len = xs.length ∧ i < xs.length ∧ off + n ≤ m) ∧ k (part n g ((nth xs i).cells.drop off)) H
  | _ => False
def loadK (n : Nat) (g : Bool) (x : V) (H : List Entry) (k : KV) : Prop :=
  match x with
  | .ref cs => n ≤ cs.length ∧ k (part n g cs) H
  | .ptr j off => loadH n g off H[j]? H k
  | .eptr j len i off => loadE n g len i off H[j]? H k
  | _ => False
def storeH (n : Nat) (j off : Nat) (v : V) (e : Option Entry) (H : List Entry) (k : KV) : Prop :=
  match e with
  | some (.box cs) => match putO cs off n (cellsO v), okC v with | some cs', true => k undefV (H.set j (.box cs')) | _, _ => False
  | _ => False
def unc : V → List V → V
  | .agg _, cs => .agg cs
  | _, cs => nth cs 0
def storeE (n : Nat) (j len i off : Nat) (v : V) (e : Option Entry) (H : List Entry) (k : KV) : Prop :=
  match e with
  | some (.row E m xs) => (len = xs.length ∧ i < xs.length) ∧ match putO (nth xs i).cells off n (cellsO v), okC v, noid v with
    | some cs', true, true => unc (nth xs i) cs' ≠ .junk ∧ k undefV (H.set j (.row E m (xs.set i (unc (nth xs i) cs'))))
    | _, _, _ => False
  | _ => False
def storeK (n : Nat) (a v : V) (H : List Entry) (k : KV) : Prop :=
  match a with
  | .ptr j off => storeH n j off v H[j]? H k
  | .eptr j len i off => storeE n j len i off v H[j]? H k
  | _ => False
def binK (op : BinOp) (x y : V) (H : List Entry) (k : KV) : Prop :=
  match x, y with
  | .int q a, .int r b =>
    match op with
    | .shl => 0 ≤ b ∧ k (.int q (q.wrap (a * 2 ^ (min b.toNat q.bits)))) H
    | .shr => 0 ≤ b ∧ k (.int q (a.fdiv (2 ^ (min b.toNat q.bits)))) H
    | .add => q = r ∧ k (.int q (q.wrap (a + b))) H
    | .sub => q = r ∧ k (.int q (q.wrap (a - b))) H
    | .mul => q = r ∧ k (.int q (q.wrap (a * b))) H
    | .quo => (q = r ∧ b ≠ 0) ∧ k (.int q (q.wrap (a.tdiv b))) H
    | .rem => (q = r ∧ b ≠ 0) ∧ k (.int q (a.tmod b)) H
    | .and => q = r ∧ k (.int q (q.wrap (BitVec.ofInt q.bits a &&& BitVec.ofInt q.bits b).toNat)) H
    | .or => q = r ∧ k (.int q (q.wrap (BitVec.ofInt q.bits a ||| BitVec.ofInt q.bits b).toNat)) H
    | .xor => q = r ∧ k (.int q (q.wrap (BitVec.ofInt q.bits a ^^^ BitVec.ofInt q.bits b).toNat)) H
    | .andNot => q = r ∧ k (.int q (q.wrap (BitVec.ofInt q.bits a &&& ~~~ (BitVec.ofInt q.bits b)).toNat)) H
    | .eql => q = r ∧ k (.bool (a == b)) H
    | .neq => q = r ∧ k (.bool (a != b)) H
    | .lss => q = r ∧ k (.bool (decide (a < b))) H
    | .leq => q = r ∧ k (.bool (decide (a ≤ b))) H
    | .gtr => q = r ∧ k (.bool (decide (b < a))) H
    | .geq => q = r ∧ k (.bool (decide (b ≤ a))) H
  | .str a, .str b =>
    match op with
    | .eql => k (.bool (a == b)) H
    | .neq => k (.bool (a != b)) H
    | .add => a.length + b.length ≤ 9223372036854775807 ∧ k (.str (a ++ b)) H
    | .lss => k (.bool (Op.bytesLess a b)) H
    | .leq => k (.bool (Op.bytesLess a b || a == b)) H
    | .gtr => k (.bool (!(Op.bytesLess a b || a == b))) H
    | .geq => k (.bool (!Op.bytesLess a b)) H
    | _ => False
  | _, _ => False
def binbK (neg : Bool) (x y : V) (H : List Entry) (k : KV) : Prop :=
  match x, y with
  | .bool a, .bool b => k (.bool (if neg then a != b else a == b)) H
  | _, _ => False
/-- Held against nil. -/
def isNil (kind : Nat) : V → V → Option Bool
  | .nilsl, .nilsl => if kind = 0 then some true else none
  | .nilp, .nilp => if kind = 1 then some true else none
  | .nilmap, .nilmap => if kind = 2 then some true else none
  | .nilfn, .nilfn => if kind = 3 then some true else none
  | .sl _ (_ :: _), .nilsl => if kind = 0 then some false else none
  | .slx _ (_ :: _), .nilsl => if kind = 0 then some false else none
  | .ref _, .nilp => if kind = 1 then some false else none
  | .fn _ _ _, .nilfn => if kind = 3 then some false else none
  | _, _ => none
def eqaK (neg : Bool) (r : Option Bool) (H : List Entry) (k : KV) : Prop := match r with | some b => k (.bool (if neg then !b else b)) H | none => False
/-- Held against nil: of what is empty it is not known. -/
def cnilK (kind : Nat) (neg : Bool) (x y : V) (H : List Entry) (k : KV) : Prop :=
  match x, y with
  | .sl _ [], .nilsl => kind = 0 ∧ ∀ b, k (.bool b) H
  | .slx _ [], .nilsl => kind = 0 ∧ ∀ b, k (.bool b) H
  | .own g 0, .nilsl => kind = 0 ∧ isRow 0 H[g]? (∀ b, k (.bool b) H)
  | .own g (n + 1), .nilsl => kind = 0 ∧ isRow (n + 1) H[g]? (k (.bool neg) H)
  | _, _ => eqaK neg (isNil kind x y) H k
def eqaO (ks : List Nat) : V → V → Option Bool
  | .agg a, .agg b => cellsEq ks a b
  | _, _ => none
def unK (op : UnOp) (x : V) (H : List Entry) (k : KV) : Prop :=
  match op, x with
  | .neg, .int q a => k (.int q (q.wrap (0 - a))) H
  | .xor, .int q a => k (.int q (q.wrap (BitVec.ofInt q.bits (if q.signed then -1 else q.max) ^^^ BitVec.ofInt q.bits a).toNat)) H
  | .not, .bool b => k (.bool (!b)) H
  | _, _ => False
def fadK (off : Nat) (x : V) (H : List Entry) (k : KV) : Prop :=
  match x with | .ref cs => k (.ref (cs.drop off)) H | .ptr g o => nckB (isBox H[g]?) (.ptr g (o + off)) H k | .eptr g l i o => isRow l H[g]? (k (.eptr g l i (o + off)) H) | _ => False
def fldK (off n : Nat) (g : Bool) (x : V) (H : List Entry) (k : KV) : Prop := match x with | .agg cs => off + n ≤ cs.length ∧ k (part n g (cs.drop off)) H | _ => False
def iadK (n : Nat) (x i : V) (H : List Entry) (k : KV) : Prop :=
  match x, i with
  | .sl m xs, .int _ j => (m = n ∧ 0 ≤ j ∧ j < xs.length) ∧ k (.ref (nth xs j.toNat).cells) H
  | .slx m xs, .int _ j => (m = n ∧ 0 ≤ j ∧ j < xs.length) ∧ k (.ref (nth xs j.toNat).cells) H
  | .own g len, .int _ j => (0 ≤ j ∧ j < len) ∧ isRow len H[g]? (rowN H[g]? = n ∧ k (.eptr g len j.toNat 0) H)
  | _, _ => False
def iaaK (len n : Nat) (x i : V) (H : List Entry) (k : KV) : Prop :=
  match x, i with
  | .ref cs, .int _ j => (0 ≤ j ∧ j < len) ∧ k (.ref (cs.drop (j.toNat * n))) H
  | .ptr g o, .int _ j => (0 ≤ j ∧ j < len) ∧ nckB (isBox H[g]?) (.ptr g (o + j.toNat * n)) H k
  | _, _ => False
def octet (s : List UInt8) (i : Nat) : Int := ((s.getD i 0).toNat : Int)
def ixsK (x i : V) (H : List Entry) (k : KV) : Prop :=
  match x, i with
  | .str s, .int _ j => (0 ≤ j ∧ j < s.length) ∧ k (.int .u8 (octet s j.toNat)) H
  | _, _ => False
def ixaK (len n : Nat) (g : Bool) (x i : V) (H : List Entry) (k : KV) : Prop :=
  match x, i with
  | .agg cs, .int _ j => (0 ≤ j ∧ j < len ∧ len * n ≤ cs.length) ∧ k (part n g (cs.drop (j.toNat * n))) H
  | _, _ => False
def cviK (q : IntKind) (x : V) (H : List Entry) (k : KV) : Prop := match x with | .int _ a => k (.int q (q.wrap a)) H | _ => False
def cvsK (x : V) (H : List Entry) (k : KV) : Prop := match x with | .str s => k (.str s) H | _ => False
def b2sK (r : Option (List V)) (H : List Entry) (k : KV) : Prop := match r with | some xs => allU8 xs = true ∧ k (.str (xs.map u8Of)) H | none => False
def mputP (r : Option (Option Nat)) (kvs : List (V × V)) (j : Nat) (key v : V) (H : List Entry) (k : KV) : Prop :=
  match r with
  | some (some i) => k undefV (H.set j (.map (kvs.set i (key, v))))
  | some none => k undefV (H.set j (.map (kvs ++ [(key, v)])))
  | none => False
def mputE (g : Bool) (ks : List Nat) (ok : Option Bool) (j : Nat) (key v : V) (e : Option Entry) (H : List Entry) (k : KV) : Prop :=
  match ok, e with | some true, some (.map kvs) => mputP (kpos g ks key kvs) kvs j key v H k | _, _ => False
def mputK (g : Bool) (ks : List Nat) (m key v : V) (H : List Entry) (k : KV) : Prop := match m with | .map j => mputE g ks (valEq g ks key key) j key v H[j]? H k | _ => False
def mgetP (r : Option (Option Nat)) (kvs : List (V × V)) (zero : V) (ok : Bool) (H : List Entry) (k : KV) : Prop :=
  match r with
  | some (some i) => k (bif ok then .tup [kval kvs i, .bool true] else kval kvs i) H
  | some none => k (bif ok then .tup [zero, .bool false] else zero) H
  | none => False
def mgetE (g : Bool) (ks : List Nat) (eq : Option Bool) (zero : V) (ok : Bool) (key : V) (e : Option Entry) (H : List Entry) (k : KV) : Prop :=
  match eq, e with | some true, some (.map kvs) => mgetP (kpos g ks key kvs) kvs zero ok H k | _, _ => False
def mgetN (eq : Option Bool) (zero : V) (ok : Bool) (H : List Entry) (k : KV) : Prop :=
  match eq with | some true => k (bif ok then .tup [zero, .bool false] else zero) H | _ => False
def mgetK (g : Bool) (ks : List Nat) (zero : V) (ok : Bool) (m key : V) (H : List Entry) (k : KV) : Prop :=
  match m with | .map j => mgetE g ks (valEq g ks key key) zero ok key H[j]? H k | .nilmap => mgetN (valEq g ks key key) zero ok H k | _ => False
def lenH (e : Option Entry) (H : List Entry) (k : KV) : Prop := match e with | some (.map kvs) => k (.int .i64 kvs.length) H | _ => False
def lenK (kind : Nat) (v : V) (H : List Entry) (k : KV) : Prop :=
  match kind, v with
  | 0, .str s => k (.int .i64 s.length) H
  | 1, .sl _ xs => k (.int .i64 xs.length) H
  | 1, .slx _ xs => k (.int .i64 xs.length) H
  | 1, .nilsl => k (.int .i64 0) H
  | 1, .own g n => isRow n H[g]? (k (.int .i64 n) H)
  | 2, .nilmap => k (.int .i64 0) H
  | 2, .map j => lenH H[j]? H k
  | _, _ => False
def appH (E n bt g len : Nat) (r : Option (List V)) (e : Option Entry) (H : List Entry) (k : KV) : Prop :=
  match e, r with
  | some (.row E' m xs), some ys => (E' = E ∧ m = n ∧ len = xs.length ∧ (xs.length + ys.length) * bt ≤ 140737488355328 ∧ xs.length + ys.length ≤ 140737488355328) ∧
      k (.own g (xs ++ ys).length) (H.set g (.row E n (xs ++ ys)))
  | _, _ => False
def appN (E n bt : Nat) (xs : List V) (r : Option (List V)) (H : List Entry) (k : KV) : Prop :=
  match r with
  | some ys => ((xs ≠ [] → ys ≠ []) ∧ (xs.length + ys.length) * bt ≤ 140737488355328 ∧ xs.length + ys.length ≤ 140737488355328) ∧
      k (.own H.length (xs ++ ys).length) (H ++ [.row E n (xs ++ ys)])
  | none => False
/-- The elements are so many cells each. -/
def okL (n : Nat) (m : Nat) : Prop := m = n
def appK (E n bt : Nat) (x : V) (r : Option (List V)) (H : List Entry) (k : KV) : Prop :=
  match x with
  | .own g len => appH E n bt g len r H[g]? H k
  | .nilsl => appN E n bt [] r H k
  | .slx m xs => m = n ∧ appN E n bt xs r H k
  | _ => False
def copyH (n : Nat) (g len : Nat) (r : Option (List V)) (e : Option Entry) (H : List Entry) (k : KV) : Prop :=
  match e, r with
  | some (.row E m xs), some ys => (m = n ∧ len = xs.length) ∧
      k (.int .i64 ((min ys.length xs.length : Nat) : Int)) (H.set g (.row E m (ys.take xs.length ++ xs.drop ys.length)))
  | _, _ => False
def copyK (n : Nat) (x : V) (r : Option (List V)) (H : List Entry) (k : KV) : Prop :=
  match x with
  | .own g len => copyH n g len r H[g]? H k
  | _ => False
def loI : Option V → Option Int
  | none => some 0
  | some (.int _ j) => some j
  | _ => none
def hiI (len : Nat) : Option V → Option Int
  | none => some len
  | some (.int _ j) => some j
  | _ => none
def hiS : Option V → Option Int
  | some (.int _ j) => some j
  | _ => none
def cutK (mk : List V → V) (xs : List V) (lo hi : Option Int) (H : List Entry) (k : KV) : Prop :=
  match lo, hi with
  | some a, some b => (0 ≤ a ∧ a ≤ b ∧ b ≤ xs.length) ∧ k (mk ((xs.take b.toNat).drop a.toNat)) H
  | _, _ => False
def cutX (n : Nat) (xs : List V) (lo hi mx : Option Int) (H : List Entry) (k : KV) : Prop :=
  match lo, hi, mx with
  | some a, some b, some c => (0 ≤ a ∧ a ≤ b ∧ b = c ∧ b ≤ xs.length) ∧ k (.slx n ((xs.take b.toNat).drop a.toNat)) H
  | _, _, _ => False
/-- A row of one's own is cut: it is frozen then; or, its beginning, it is still one's own, by a new number. -/
def cutO (n g len : Nat) (e : Option Entry) (lo hi : Option Int) (H : List Entry) (k : KV) : Prop :=
  match e with
  | some (.row E m xs) => (m = n ∧ len = xs.length) ∧ (cutK (.sl n) xs lo hi (H.set g (.irow n xs)) k ∨
      match lo, hi with
      | some 0, some b => (0 ≤ b ∧ b ≤ xs.length) ∧ k (.own H.length b.toNat) (H.set g .gone ++ [.row E n (xs.take b.toNat)])
      | _, _ => False)
  | some (.irow m xs) => (m = n ∧ len = xs.length) ∧ cutK (.sl n) xs lo hi H k
  | _ => False
def slcK (n : Nat) (x : V) (lo hi mx : Option V) (H : List Entry) (k : KV) : Prop :=
  match x, mx with
  | .sl m xs, none => m = n ∧ cutK (.sl n) xs (loI lo) (hiI xs.length hi) H k
  | .slx m xs, none => m = n ∧ cutK (.sl n) xs (loI lo) (hiI xs.length hi) H k
  | .sl m xs, some c => m = n ∧ cutX n xs (loI lo) (hiS hi) (hiS (some c)) H k
  | .nilsl, none => (loI lo = some 0 ∧ hiI 0 hi = some 0) ∧ k .nilsl H
  | .own g len, none => cutO n g len H[g]? (loI lo) (hiI len hi) H k
  | _, _ => False
def slsK (x : V) (lo hi : Option V) (H : List Entry) (k : KV) : Prop :=
  match x with
  | .str s => (match loI lo, hiI s.length hi with
    | some a, some b => (0 ≤ a ∧ a ≤ b ∧ b ≤ s.length) ∧ k (.str ((s.take b.toNat).drop a.toNat)) H
    | _, _ => False)
  | _ => False
def mnxI (m : Bool) : List V → Option (IntKind × Int)
  | [.int q a, .int r b] => if q = r then some (q, if m then (if b < a then b else a) else (if b > a then b else a)) else none
  | _ => none
def mnxK (r : Option (IntKind × Int)) (H : List Entry) (k : KV) : Prop := match r with | some (q, a) => k (.int q a) H | none => False
def rngK (x : V) (H : List Entry) (k : KV) : Prop := match x with | .str s => k (.it H.length) (H ++ [.siter s 0]) | _ => False
def nxtH (j : Nat) (e : Option Entry) (H : List Entry) (k : KV) : Prop :=
  match e with
  | some (.siter s pos) => bif decide (pos < s.length) then
      k (.tup [.bool true, .int .i64 pos, .int .i32 (Utf8.decode ⟨s.toArray⟩ pos).1]) (H.set j (.siter s (pos + (Utf8.decode ⟨s.toArray⟩ pos).2)))
      else k (.tup [.bool false]) H
  | _ => False
def nxtK (str : Bool) (x : V) (H : List Entry) (k : KV) : Prop := match str, x with | true, .it j => nxtH j H[j]? H k | _, _ => False
def extK (i : Nat) (x : V) (H : List Entry) (k : KV) : Prop := match x with | .tup vs => i < vs.length ∧ k (nth vs i) H | _ => False

/-- A call: whoever calls with such arguments comes back, and what comes back meets K. -/
def ACall (P : Program) (f : FuncId) (args : List V) (H : List Entry) (K : KV) : Prop :=
  ∀ (C : Ctx) (vals : List Value), C.H = H → HRep C → CRep C.R args vals →
    Calls P f vals.toArray C.w fun e w' => ∃ (C' : Ctx) (x : V) (v : Value), e = .returned v ∧ C'.w = w' ∧ Tr C C' ∧ HRep C' ∧ VRep C'.R x v ∧ K x C'.H
/-- A function that has a body of its own. -/
def hasBody (P : Program) (f : FuncId) : Bool := match P.funcs[f]? with | some fn => fn.name != "runtime.NumGoroutine" && fn.body.isSome | none => false
/-- A call: whoever calls with such arguments comes back, and what comes back meets K; the function has a body. -/
def BCall (P : Program) (f : FuncId) (args : List V) (H : List Entry) (K : KV) : Prop := hasBody P f = true ∧ ACall P f args H K
def callK (P : Program) (f : V) (args : List V) (H : List Entry) (k : KV) : Prop :=
  match f with | .fn g a b => BCall P g (a ++ (args ++ b)) H k | _ => False

/-- A call among what is done in any order: what it brings is told, and so is what it lays down behind what there was. -/
def DCall (P : Program) (f : FuncId) (args : List V) (H : List Entry) (K : KV) : Prop := ∃ v rows, BCall P f args H (fun v' H' => v' = v ∧ H' = H ++ rows) ∧ K v (H ++ rows)
def dcallK (P : Program) (f : V) (args : List V) (H : List Entry) (k : KV) : Prop :=
  match f with | .fn g a b => DCall P g (a ++ (args ++ b)) H k | _ => False

/-- A list whose elements have no numbers: nothing becomes of what there is. -/
def bslm (n : Nat) (g : Bool) (nd : Bool) (xs : List V) (H : List Entry) (k : KV) : Prop := match nd with | true => bslK n (okEls n g xs) xs H k | false => False
def cutM (n len : Nat) (e : Option Entry) (lo hi : Option Int) (H : List Entry) (k : KV) : Prop :=
  match e with
  | some (.irow m xs) => (m = n ∧ len = xs.length) ∧ cutK (.sl n) xs lo hi H k
  | _ => False
def slcM (n : Nat) (x : V) (lo hi mx : Option V) (H : List Entry) (k : KV) : Prop :=
  match x, mx with
  | .own g len, none => cutM n len H[g]? (loI lo) (hiI len hi) H k
  | .own _ _, some _ => False
  | _, _ => slcK n x lo hi mx H k

def step (P : Program) (o : AOp) (e : List V) (H : List Entry) (k : KV) : Prop :=
  match o with
  | .mv x => k (ev e x) H
  | .nck x => nckK (ev e x) H k
  | .pick c a b => pickK (ev e c) (ev e a) (ev e b) H k
  | .box x => boxK (cellsO (ev e x)) H k
  | .alloc cs => k (.ptr H.length 0) (H ++ [.box cs])
  | .build cs ps => bldK (bldO cs (evp e ps)) H k
  | .bsl n g l => bslF n g (noids (evs e l)) (evs e l) H k
  | .mks E n g z bt l c => mksK E n g z bt (ev e l) (ev e c) H k
  | .load n g x => loadK n g (ev e x) H k
  | .store n a x => storeK n (ev e a) (ev e x) H k
  | .bin op x y => binK op (ev e x) (ev e y) H k
  | .binb neg x y => binbK neg (ev e x) (ev e y) H k
  | .cnil kind neg x y => cnilK kind neg (ev e x) (ev e y) H k
  | .cnild kind neg x y => eqaK neg (isNil kind (ev e x) (ev e y)) H k
  | .eqa neg ks x y => eqaK neg (eqaO ks (ev e x) (ev e y)) H k
  | .un op x => unK op (ev e x) H k
  | .fad off x => fadK off (ev e x) H k
  | .fld off n g x => fldK off n g (ev e x) H k
  | .iad n _ x i => iadK n (ev e x) (ev e i) H k
  | .iaa len n x i => iaaK len n (ev e x) (ev e i) H k
  | .ixs x i => ixsK (ev e x) (ev e i) H k
  | .ixa len n g x i => ixaK len n g (ev e x) (ev e i) H k
  | .cvi q x => cviK q (ev e x) H k
  | .cvs x => cvsK (ev e x) H k
  | .b2s x => b2sK (listOf 1 H (ev e x)) H k
  | .mkfn f a b => k (.fn f (evs e a) (evs e b)) H
  | .mkm => k (.map H.length) (H ++ [.map []])
  | .mput g ks m a b => mputK g ks (ev e m) (ev e a) (ev e b) H k
  | .mget g ks z ok m a => mgetK g ks z ok (ev e m) (ev e a) H k
  | .mdel _ _ _ _ => False
  | .len kind x => lenK kind (ev e x) H k
  | .app E n bt _ x y => appK E n bt (ev e x) (listOf n H (ev e y)) H k
  | .apps E bt x y => appK E 1 bt (ev e x) (strEls (ev e y)) H k
  | .copy n x y => copyK n (ev e x) (listOf n H (ev e y)) H k
  | .slc n x lo hi mx => slcK n (ev e x) (evo e lo) (evo e hi) (evo e mx) H k
  | .sls x lo hi => slsK (ev e x) (evo e lo) (evo e hi) H k
  | .call f args => callK P (ev e f) (evs e args) H k
  | .bslm n g l => bslm n g (noids (evs e l)) (evs e l) H k
  | .slcm n x lo hi mx => slcM n (ev e x) (evo e lo) (evo e hi) (evo e mx) H k
  | .dcall f args => dcallK P (ev e f) (evs e args) H k
  | .mnx m l => mnxK (mnxI m (evs e l)) H k
  | .rng x => rngK (ev e x) H k
  | .nxt s x => nxtK s (ev e x) H k
  | .ext x i => extK i (ev e x) H k
  | .bad => False
end Go.Av
