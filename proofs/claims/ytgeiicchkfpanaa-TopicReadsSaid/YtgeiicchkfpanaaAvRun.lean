/- A part of a way to reckon what a Go program does without its memory (AvRun). -/
import Derived.Test.YtgeiicchkfpanaaAvSim
import Derived.OpenShut
import Derived.WideShapes
import Derived.Laws.World
import Derived.ChangeArms
namespace Go.Av
open Go Go.RowKit
set_option autoImplicit false
set_option linter.all false
/-! ### The reckoning of what is wholly known -/
abbrev R2 := Option (V × List Entry)
mutual
def beqV : V → V → Bool
  | .bool a, .bool b => a == b
  | .int p a, .int q b => decide (p = q) && decide (a = b)
  | .str a, .str b => decide (a = b)
  | .agg a, .agg b => beqVs a b
  | .tup a, .tup b => beqVs a b
  | .nilsl, .nilsl => true
  | .sl n a, .sl m b => Nat.beq n m && beqVs a b
  | .slx n a, .slx m b => Nat.beq n m && beqVs a b
  | .own a b, .own c d => Nat.beq a c && Nat.beq b d
  | .nilp, .nilp => true
  | .ref a, .ref b => beqVs a b
  | .ptr a b, .ptr c d => Nat.beq a c && Nat.beq b d
  | .nilfn, .nilfn => true
  | .fn f a b, .fn g c d => Nat.beq f g && (beqVs a c && beqVs b d)
  | .nilmap, .nilmap => true
  | .map a, .map b => Nat.beq a b
  | .junk, .junk => true
  | _, _ => false
def beqVs : List V → List V → Bool
  | [], [] => true
  | a :: l, b :: m => beqV a b && beqVs l m
  | _, _ => false
end
mutual
theorem beqV_eq : ∀ (a b : V), beqV a b = true → a = b := by
  intro a b h
  cases a <;> cases b <;> simp only [beqV, Bool.and_eq_true, decide_eq_true_eq, Nat.beq_eq, beq_iff_eq, Bool.false_eq_true, reduceCtorEq] at h ⊢
  case bool.bool => rw [h]
  case int.int => rw [h.1, h.2]
  case str.str => rw [h]
  case agg.agg => rw [beqVs_eq _ _ h]
  case tup.tup => rw [beqVs_eq _ _ h]
  case sl.sl => rw [h.1, beqVs_eq _ _ h.2]
  case slx.slx => rw [h.1, beqVs_eq _ _ h.2]
  case own.own => rw [h.1, h.2]
  case ref.ref => rw [beqVs_eq _ _ h]
  case ptr.ptr => rw [h.1, h.2]
  case fn.fn => rw [h.1, beqVs_eq _ _ h.2.1, beqVs_eq _ _ h.2.2]
  case map.map => rw [h]
theorem beqVs_eq : ∀ (a b : List V), beqVs a b = true → a = b
  | [], [], _ => rfl
  | a :: l, b :: m, h => by
    simp only [beqVs, Bool.and_eq_true] at h
    rw [beqV_eq a b h.1, beqVs_eq l m h.2]
  | [], _ :: _, h => by simp [beqVs] at h
  | _ :: _, [], h => by simp [beqVs] at h
end
def beqM : List (V × V) → List (V × V) → Bool
  | [], [] => true
  | (a, b) :: l, (c, d) :: m => beqV a c && (beqV b d && beqM l m)
  | _, _ => false
theorem beqM_eq : ∀ (a b : List (V × V)), beqM a b = true → a = b
  | [], [], _ => rfl
  | (a, b) :: l, (c, d) :: m, h => by
    simp only [beqM, Bool.and_eq_true] at h
    rw [beqV_eq _ _ h.1, beqV_eq _ _ h.2.1, beqM_eq l m h.2.2]
  | [], _ :: _, h => by simp [beqM] at h
  | _ :: _, [], h => by simp [beqM] at h
def beqE : Entry → Entry → Bool
  | .box a, .box b => beqVs a b
  | .row E n a, .row F m b => Nat.beq E F && (Nat.beq n m && beqVs a b)
  | .ibox a, .ibox b => beqVs a b
  | .irow n a, .irow m b => Nat.beq n m && beqVs a b
  | .map a, .map b => beqM a b
  | .siter a p, .siter b q => decide (a = b) && Nat.beq p q
  | .resv, .resv => true
  | .gone, .gone => true
  | _, _ => false
theorem beqE_eq (a b : Entry) (h : beqE a b = true) : a = b := by
  cases a <;> cases b <;> simp only [beqE, Bool.and_eq_true, decide_eq_true_eq, Nat.beq_eq, Bool.false_eq_true] at h ⊢
  case box.box => rw [beqVs_eq _ _ h]
  case row.row => rw [h.1, h.2.1, beqVs_eq _ _ h.2.2]
  case ibox.ibox => rw [beqVs_eq _ _ h]
  case irow.irow => rw [h.1, beqVs_eq _ _ h.2]
  case map.map => rw [beqM_eq _ _ h]
  case siter.siter => rw [h.1, h.2]
/-- What stands behind the first ones: none, if the first ones are others. -/
def behind : List Entry → List Entry → Option (List Entry)
  | [], t => some t
  | a :: l, b :: m => if beqE a b then behind l m else none
  | _ :: _, [] => none
theorem behind_eq : ∀ (H H' t : List Entry), behind H H' = some t → H' = H ++ t
  | [], H', t, h => by simpa [behind] using h
  | a :: l, b :: m, t, h => by
    simp only [behind] at h
    split at h
    · rename_i hab
      rw [beqE_eq a b hab, behind_eq l m t h]; rfl
    · cases h
  | _ :: _, [], t, h => by simp [behind] at h
section ops
variable (c : FuncId → List V → List Entry → R2)
def gu (b : Bool) (r : R2) : R2 := match b with | true => r | false => none
def nckX (x : V) (H : List Entry) : R2 := match x with | .ref cs => some (.ref cs, H) | .ptr g o => gu (isBox H[g]?) (some (.ptr g o, H)) | .fn f a b => some (.fn f a b, H) | _ => none
def pickX (c a b : V) (H : List Entry) : R2 := match c with | .bool t => some (bif t then a else b, H) | _ => none
def optX (r : Option V) (H : List Entry) : R2 := match r with | some v => some (v, H) | none => none
def loadX (n : Nat) (g : Bool) (x : V) (H : List Entry) : R2 :=
  match x with
  | .ref cs => gu (decide (n ≤ cs.length)) (some (part n g cs, H))
  | .ptr j off => match H[j]? with
    | some (.box cs) | some (.ibox cs) => gu (decide (off + n ≤ cs.length)) (some (part n g (cs.drop off), H))
    | _ => none
  | .eptr j len i off => match H[j]? with
    | some (.row _ m xs) | some (.irow m xs) => gu (decide (len = xs.length ∧ i < xs.length ∧ off + n ≤ m)) (some (part n g ((nth xs i).cells.drop off), H))
    | _ => none
  | _ => none
def isJunk : V → Bool
  | .junk => true
  | _ => false
def storeX (n : Nat) (a v : V) (H : List Entry) : R2 :=
  match a with
  | .ptr j off => match H[j]? with
    | some (.box cs) => match putO cs off n (cellsO v), okC v with | some cs', true => some (undefV, H.set j (.box cs')) | _, _ => none
    | _ => none
  | .eptr j len i off => match H[j]? with
    | some (.row E m xs) => gu (decide (len = xs.length ∧ i < xs.length)) (match putO (nth xs i).cells off n (cellsO v), okC v, noid v with
      | some cs', true, true => gu (!isJunk (unc (nth xs i) cs')) (some (undefV, H.set j (.row E m (xs.set i (unc (nth xs i) cs')))))
      | _, _, _ => none)
    | _ => none
  | _ => none
def binX (op : BinOp) (x y : V) (H : List Entry) : R2 :=
  match x, y with
  | .int q a, .int r b =>
    match op with
    | .shl => gu (decide (0 ≤ b)) (some (.int q (q.wrap (a * 2 ^ (min b.toNat q.bits))), H))
    | .shr => gu (decide (0 ≤ b)) (some (.int q (a.fdiv (2 ^ (min b.toNat q.bits))), H))
    | .add => gu (decide (q = r)) (some (.int q (q.wrap (a + b)), H))
    | .sub => gu (decide (q = r)) (some (.int q (q.wrap (a - b)), H))
    | .mul => gu (decide (q = r)) (some (.int q (q.wrap (a * b)), H))
    | .quo => gu (decide (q = r ∧ b ≠ 0)) (some (.int q (q.wrap (a.tdiv b)), H))
    | .rem => gu (decide (q = r ∧ b ≠ 0)) (some (.int q (a.tmod b), H))
    | .and => gu (decide (q = r)) (some (.int q (q.wrap (BitVec.ofInt q.bits a &&& BitVec.ofInt q.bits b).toNat), H))
    | .or => gu (decide (q = r)) (some (.int q (q.wrap (BitVec.ofInt q.bits a ||| BitVec.ofInt q.bits b).toNat), H))
    | .xor => gu (decide (q = r)) (some (.int q (q.wrap (BitVec.ofInt q.bits a ^^^ BitVec.ofInt q.bits b).toNat), H))
    | .andNot => gu (decide (q = r)) (some (.int q (q.wrap (BitVec.ofInt q.bits a &&& ~~~ (BitVec.ofInt q.bits b)).toNat), H))
    | .eql => gu (decide (q = r)) (some (.bool (a == b), H))
    | .neq => gu (decide (q = r)) (some (.bool (a != b), H))
    | .lss => gu (decide (q = r)) (some (.bool (decide (a < b)), H))
    | .leq => gu (decide (q = r)) (some (.bool (decide (a ≤ b)), H))
    | .gtr => gu (decide (q = r)) (some (.bool (decide (b < a)), H))
    | .geq => gu (decide (q = r)) (some (.bool (decide (b ≤ a)), H))
  | .str a, .str b =>
    match op with
    | .eql => some (.bool (a == b), H)
    | .neq => some (.bool (a != b), H)
    | .add => gu (decide (a.length + b.length ≤ 9223372036854775807)) (some (.str (a ++ b), H))
    | .lss => some (.bool (Op.bytesLess a b), H)
    | .leq => some (.bool (Op.bytesLess a b || a == b), H)
    | .gtr => some (.bool (!(Op.bytesLess a b || a == b)), H)
    | .geq => some (.bool (!Op.bytesLess a b), H)
    | _ => none
  | _, _ => none
def binbX (neg : Bool) (x y : V) (H : List Entry) : R2 := match x, y with | .bool a, .bool b => some (.bool (if neg then a != b else a == b), H) | _, _ => none
def eqaX (neg : Bool) (r : Option Bool) (H : List Entry) : R2 := match r with | some b => some (.bool (if neg then !b else b), H) | none => none
def rowLen (len : Nat) (e : Option Entry) : Bool := match e with | some (.row _ _ xs) | some (.irow _ xs) => decide (len = xs.length) | _ => false
def cnilX (kind : Nat) (neg : Bool) (x y : V) (H : List Entry) : R2 :=
  match x, y with
  | .sl _ [], .nilsl => none
  | .slx _ [], .nilsl => none
  | .own _ 0, .nilsl => none
  | .own g (n + 1), .nilsl => gu (Nat.beq kind 0 && rowLen (n + 1) H[g]?) (some (.bool neg, H))
  | _, _ => eqaX neg (isNil kind x y) H
def unX (op : UnOp) (x : V) (H : List Entry) : R2 :=
  match op, x with
  | .neg, .int q a => some (.int q (q.wrap (0 - a)), H)
  | .xor, .int q a => some (.int q (q.wrap (BitVec.ofInt q.bits (if q.signed then -1 else q.max) ^^^ BitVec.ofInt q.bits a).toNat), H)
  | .not, .bool b => some (.bool (!b), H)
  | _, _ => none
def fadX (off : Nat) (x : V) (H : List Entry) : R2 :=
  match x with | .ref cs => some (.ref (cs.drop off), H) | .ptr g o => gu (isBox H[g]?) (some (.ptr g (o + off), H)) | .eptr g l i o => gu (rowLen l H[g]?) (some (.eptr g l i (o + off), H)) | _ => none
def fldX (off n : Nat) (g : Bool) (x : V) (H : List Entry) : R2 := match x with | .agg cs => gu (decide (off + n ≤ cs.length)) (some (part n g (cs.drop off), H)) | _ => none
def iadX (n : Nat) (x i : V) (H : List Entry) : R2 :=
  match x, i with
  | .sl m xs, .int _ j => gu (decide (m = n ∧ 0 ≤ j ∧ j < xs.length)) (some (.ref (nth xs j.toNat).cells, H))
  | .slx m xs, .int _ j => gu (decide (m = n ∧ 0 ≤ j ∧ j < xs.length)) (some (.ref (nth xs j.toNat).cells, H))
  | .own g len, .int _ j => gu (decide (0 ≤ j ∧ j < len) && (rowLen len H[g]? && Nat.beq (rowN H[g]?) n)) (some (.eptr g len j.toNat 0, H))
  | _, _ => none
def iaaX (len n : Nat) (x i : V) (H : List Entry) : R2 :=
  match x, i with
  | .ref cs, .int _ j => gu (decide (0 ≤ j ∧ j < len)) (some (.ref (cs.drop (j.toNat * n)), H))
  | .ptr g o, .int _ j => gu (decide (0 ≤ j ∧ j < len) && isBox H[g]?) (some (.ptr g (o + j.toNat * n), H))
  | _, _ => none
def ixsX (x i : V) (H : List Entry) : R2 := match x, i with | .str s, .int _ j => gu (decide (0 ≤ j ∧ j < s.length)) (some (.int .u8 (octet s j.toNat), H)) | _, _ => none
def ixaX (len n : Nat) (g : Bool) (x i : V) (H : List Entry) : R2 := match x, i with | .agg cs, .int _ j => gu (decide (0 ≤ j ∧ j < len ∧ len * n ≤ cs.length)) (some (part n g (cs.drop (j.toNat * n)), H)) | _, _ => none
def cviX (q : IntKind) (x : V) (H : List Entry) : R2 := match x with | .int _ a => some (.int q (q.wrap a), H) | _ => none
def cvsX (x : V) (H : List Entry) : R2 := match x with | .str s => some (.str s, H) | _ => none
def b2sX (r : Option (List V)) (H : List Entry) : R2 := match r with | some xs => gu (allU8 xs) (some (.str (xs.map u8Of), H)) | none => none
def mputX (g : Bool) (ks : List Nat) (m key v : V) (H : List Entry) : R2 :=
  match m with
  | .map j => match valEq g ks key key, H[j]? with
    | some true, some (.map kvs) => match kpos g ks key kvs with
      | some (some i) => some (undefV, H.set j (.map (kvs.set i (key, v))))
      | some none => some (undefV, H.set j (.map (kvs ++ [(key, v)])))
      | none => none
    | _, _ => none
  | _ => none
def mgetX (g : Bool) (ks : List Nat) (zero : V) (ok : Bool) (m key : V) (H : List Entry) : R2 :=
  match m with
  | .map j => match valEq g ks key key, H[j]? with
    | some true, some (.map kvs) => match kpos g ks key kvs with
      | some (some i) => some (bif ok then .tup [kval kvs i, .bool true] else kval kvs i, H)
      | some none => some (bif ok then .tup [zero, .bool false] else zero, H)
      | none => none
    | _, _ => none
  | .nilmap => match valEq g ks key key with | some true => some (bif ok then .tup [zero, .bool false] else zero, H) | _ => none
  | _ => none
def lenX (kind : Nat) (v : V) (H : List Entry) : R2 :=
  match kind, v with
  | 0, .str s => some (.int .i64 s.length, H)
  | 1, .sl _ xs => some (.int .i64 xs.length, H)
  | 1, .slx _ xs => some (.int .i64 xs.length, H)
  | 1, .nilsl => some (.int .i64 0, H)
  | 1, .own g n => gu (rowLen n H[g]?) (some (.int .i64 n, H))
  | 2, .nilmap => some (.int .i64 0, H)
  | 2, .map j => match H[j]? with | some (.map kvs) => some (.int .i64 kvs.length, H) | _ => none
  | _, _ => none
def appNX (E n bt : Nat) (xs : List V) (r : Option (List V)) (H : List Entry) : R2 :=
  match r with
  | some ys => gu ((xs.isEmpty || !ys.isEmpty) && decide ((xs.length + ys.length) * bt ≤ 140737488355328 ∧ xs.length + ys.length ≤ 140737488355328)) (some (.own H.length (xs ++ ys).length, H ++ [.row E n (xs ++ ys)]))
  | none => none
def appX (E n bt : Nat) (x : V) (r : Option (List V)) (H : List Entry) : R2 :=
  match x with
  | .own g len => match H[g]?, r with
    | some (.row E' m xs), some ys => gu (decide (E' = E ∧ m = n ∧ len = xs.length ∧ (xs.length + ys.length) * bt ≤ 140737488355328 ∧ xs.length + ys.length ≤ 140737488355328)) (some (.own g (xs ++ ys).length, H.set g (.row E n (xs ++ ys))))
    | _, _ => none
  | .nilsl => appNX E n bt [] r H
  | .slx m xs => gu (decide (m = n)) (appNX E n bt xs r H)
  | _ => none
def copyX (n : Nat) (x : V) (r : Option (List V)) (H : List Entry) : R2 :=
  match x with
  | .own g len => match H[g]?, r with
    | some (.row E m xs), some ys => gu (decide (m = n ∧ len = xs.length)) (some (.int .i64 ((min ys.length xs.length : Nat) : Int), H.set g (.row E m (ys.take xs.length ++ xs.drop ys.length))))
    | _, _ => none
  | _ => none
def cutKX (n : Nat) (xs : List V) (lo hi : Option Int) (H : List Entry) : R2 :=
  match lo, hi with
  | some a, some b => gu (decide (0 ≤ a ∧ a ≤ b ∧ b ≤ xs.length)) (some (.sl n ((xs.take b.toNat).drop a.toNat), H))
  | _, _ => none
def cutOX (n g len : Nat) (e : Option Entry) (lo hi : Option Int) (H : List Entry) : R2 :=
  match e with
  | some (.row E m xs) => gu (decide (m = n ∧ len = xs.length)) (match lo, hi with
    | some 0, some 0 => some (.own H.length 0, H.set g .gone ++ [.row E n []])
    | _, _ => cutKX n xs lo hi (H.set g (.irow n xs)))
  | some (.irow m xs) => gu (decide (m = n ∧ len = xs.length)) (cutKX n xs lo hi H)
  | _ => none
def slcX (n : Nat) (x : V) (lo hi mx : Option V) (H : List Entry) : R2 :=
  match x, mx with
  | .sl m xs, none => gu (decide (m = n)) (cutKX n xs (loI lo) (hiI xs.length hi) H)
  | .slx m xs, none => gu (decide (m = n)) (cutKX n xs (loI lo) (hiI xs.length hi) H)
  | .sl m xs, some c => match loI lo, hiS hi, hiS (some c) with
    | some a, some b, some d => gu (decide (m = n ∧ 0 ≤ a ∧ a ≤ b ∧ b = d ∧ b ≤ xs.length)) (some (.slx n ((xs.take b.toNat).drop a.toNat), H))
    | _, _, _ => none
  | .slx m xs, some c => match loI lo, hiS hi, hiS (some c) with
    | some a, some b, some d => gu (decide (m = n ∧ 0 ≤ a ∧ a ≤ b ∧ b = d ∧ b ≤ xs.length)) (some (.slx n ((xs.take b.toNat).drop a.toNat), H))
    | _, _, _ => none
  | .nilsl, none => gu (decide (loI lo = some 0 ∧ hiI 0 hi = some 0)) (some (.nilsl, H))
  | .own g len, none => cutOX n g len H[g]? (loI lo) (hiI len hi) H
  | _, _ => none
def slsX (x : V) (lo hi : Option V) (H : List Entry) : R2 :=
  match x with
  | .str s => match loI lo, hiI s.length hi with
    | some a, some b => gu (decide (0 ≤ a ∧ a ≤ b ∧ b ≤ s.length)) (some (.str ((s.take b.toNat).drop a.toNat), H))
    | _, _ => none
  | _ => none
def nxtX (str : Bool) (x : V) (H : List Entry) : R2 :=
  match str, x with
  | true, .it j => match H[j]? with
    | some (.siter s pos) => bif decide (pos < s.length) then
        some (.tup [.bool true, .int .i64 pos, .int .i32 (Utf8.decode ⟨s.toArray⟩ pos).1], H.set j (.siter s (pos + (Utf8.decode ⟨s.toArray⟩ pos).2)))
      else some (.tup [.bool false], H)
    | _ => none
  | _, _ => none
def bslX (n : Nat) (g : Bool) (xs : List V) (H : List Entry) : R2 :=
  bif noids xs then gu (okEls n g xs) (some (.slx n xs, H))
  else gu (okEls n g (fzsW (fz 8) H xs).1 && noids (fzsW (fz 8) H xs).1) (some (.slx n (fzsW (fz 8) H xs).1, (fzsW (fz 8) H xs).2))
def mksX (E n : Nat) (g : Bool) (zero : List V) (bt : Nat) (l c : V) (H : List Entry) : R2 :=
  match l, c with
  | .int _ a, .int _ b => gu ((okEl n g (part n g zero) && noid (part n g zero)) && decide (0 ≤ a ∧ a ≤ b ∧ b * bt ≤ 140737488355328 ∧ b ≤ 140737488355328)) (some (.own H.length a.toNat, H ++ [.row E n (List.replicate a.toNat (part n g zero))]))
  | _, _ => none
/-- A call: where nothing of one's own is handed in, it is reckoned by itself. -/
def callXX (f : V) (args : List V) (H : List Entry) : R2 :=
  match f with
  | .fn g a b => bif noids (a ++ (args ++ b)) then (match c g (a ++ (args ++ b)) [] with
      | some (v, H1) => some (ren (rho (List.range' H.length H1.length)) v, H ++ H1.map (renE (rho (List.range' H.length H1.length))))
      | none => none)
    else c g (a ++ (args ++ b)) H
  | _ => none
def dcallX (f : V) (args : List V) (H : List Entry) : R2 :=
  match callXX c f args H with
  | some (v, H') => match behind H H' with | some _ => some (v, H') | none => none
  | none => none
/-- Is all as it was, but at one place? -/
def offB (g : Option Nat) : Nat → List Entry → List Entry → Bool
  | _, [], _ => true
  | i, a :: l, b :: m => (decide (g = some i) || beqE a b) && offB g (i + 1) l m
  | _, _ :: _, [] => false
def mcallX (f x : V) (args : List V) (H : List Entry) : R2 :=
  match callXX c f (x :: args) H with
  | some (v, H') => gu (offB (gid x) 0 H H') (some (v, H'))
  | none => none
def pcallX (f : V) (args : List V) (H : List Entry) : R2 :=
  match f with
  | .fn g a b => bif noids (a ++ (args ++ b)) then (match c g (a ++ (args ++ b)) [] with
      | some (v, []) => gu (noid v) (some (v, H))
      | _ => none)
    else none
  | _ => none
def stepX (o : AOp) (e : List V) (H : List Entry) : R2 :=
  match o with
  | .mv x => some (ev e x, H)
  | .nck x => nckX (ev e x) H
  | .pick c a b => pickX (ev e c) (ev e a) (ev e b) H
  | .box x => match cellsO (ev e x) with | some cs => some (.ptr H.length 0, H ++ [.box cs]) | none => none
  | .alloc cs => some (.ptr H.length 0, H ++ [.box cs])
  | .build cs ps => match bldO cs (evp e ps) with | some cs => some (.agg cs, H) | none => none
  | .bsl n g l => bslX n g (evs e l) H
  | .bslm n g l => gu (noids (evs e l)) (gu (okEls n g (evs e l)) (some (.slx n (evs e l), H)))
  | .mks E n g z bt l c => mksX E n g z bt (ev e l) (ev e c) H
  | .load n g x => loadX n g (ev e x) H
  | .store n a x => storeX n (ev e a) (ev e x) H
  | .bin op x y => binX op (ev e x) (ev e y) H
  | .binb neg x y => binbX neg (ev e x) (ev e y) H
  | .cnil kind neg x y => cnilX kind neg (ev e x) (ev e y) H
  | .cnild kind neg x y => eqaX neg (isNil kind (ev e x) (ev e y)) H
  | .eqa neg ks x y => eqaX neg (eqaO ks (ev e x) (ev e y)) H
  | .un op x => unX op (ev e x) H
  | .fad off x => fadX off (ev e x) H
  | .fld off n g x => fldX off n g (ev e x) H
  | .iad n _ x i => iadX n (ev e x) (ev e i) H
  | .iaa len n x i => iaaX len n (ev e x) (ev e i) H
  | .ixs x i => ixsX (ev e x) (ev e i) H
  | .ixa len n g x i => ixaX len n g (ev e x) (ev e i) H
  | .cvi q x => cviX q (ev e x) H
  | .cvs x => cvsX (ev e x) H
  | .b2s x => b2sX (listOf 1 H (ev e x)) H
  | .mkfn f a b => some (.fn f (evs e a) (evs e b), H)
  | .mkm => some (.map H.length, H ++ [.map []])
  | .mput g ks m a b => mputX g ks (ev e m) (ev e a) (ev e b) H
  | .mget g ks z ok m a => mgetX g ks z ok (ev e m) (ev e a) H
  | .mdel _ _ _ _ => none
  | .len kind x => lenX kind (ev e x) H
  | .app E n bt _ x y => appX E n bt (ev e x) (listOf n H (ev e y)) H
  | .apps E bt x y => appX E 1 bt (ev e x) (strEls (ev e y)) H
  | .copy n x y => copyX n (ev e x) (listOf n H (ev e y)) H
  | .slc n x lo hi mx => slcX n (ev e x) (evo e lo) (evo e hi) (evo e mx) H
  | .slcm n x lo hi mx => match ev e x, evo e mx with
    | .own g len, none => match H[g]? with
      | some (.irow m xs) => gu (decide (m = n ∧ len = xs.length)) (cutKX n xs (loI (evo e lo)) (hiI len (evo e hi)) H)
      | _ => none
    | .own _ _, some _ => none
    | _, _ => slcX n (ev e x) (evo e lo) (evo e hi) (evo e mx) H
  | .sls x lo hi => slsX (ev e x) (evo e lo) (evo e hi) H
  | .call f args => callXX c (ev e f) (evs e args) H
  | .dcall f args => dcallX c (ev e f) (evs e args) H
  | .pcall f args => pcallX c (ev e f) (evs e args) H
  | .mcall f x args => mcallX c (ev e f) (ev e x) (evs e args) H
  | .mnx m l => match mnxI m (evs e l) with | some (q, a) => some (.int q a, H) | none => none
  | .rng x => match ev e x with | .str s => some (.it H.length, H ++ [.siter s 0]) | _ => none
  | .nxt s x => nxtX s (ev e x) H
  | .ext x i => match ev e x with | .tup vs => gu (decide (i < vs.length)) (some (nth vs i, H)) | _ => none
  | .alcR _ _ => none
  | .bad => none
end ops
theorem gu_some {b : Bool} {r : R2} {x : V × List Entry} (h : gu b r = some x) : b = true ∧ r = some x := by
  cases b
  · cases h
  · exact ⟨rfl, h⟩
section sound
variable {H H' : List Entry} {v : V} {k : KV}
theorem rowLen_is {len : Nat} {e : Option Entry} {A : Prop} (h : rowLen len e = true) (k : A) : isRow len e A := by
  unfold rowLen at h
  split at h <;> simp_all [isRow]
theorem nckX_ok {x : V} (h : nckX x H = some (v, H')) (hk : k v H') : nckK x H k := by
  unfold nckX at h
  split at h
  · cases h; exact hk
  · obtain ⟨h1, h2⟩ := gu_some h
    cases h2
    simp only [nckK, h1, nckB]; exact hk
  · cases h; exact hk
  · cases h
theorem pickX_ok {c a b : V} (h : pickX c a b H = some (v, H')) (hk : k v H') : pickK c a b H k := by
  unfold pickX at h
  split at h
  · rename_i t; cases t <;> simp_all [pickK]
  · cases h
theorem loadX_ok {n : Nat} {g : Bool} {x : V} (h : loadX n g x H = some (v, H')) (hk : k v H') : loadK n g x H k := by
  unfold loadX at h
  split at h
  · obtain ⟨h1, h2⟩ := gu_some h
    cases h2
    exact ⟨by simpa using h1, hk⟩
  · split at h
    · rename_i hH
      obtain ⟨h1, h2⟩ := gu_some h
      cases h2
      simp only [loadK, hH, loadH]; exact ⟨by simpa using h1, hk⟩
    · rename_i hH
      obtain ⟨h1, h2⟩ := gu_some h
      cases h2
      simp only [loadK, hH, loadH]; exact ⟨by simpa using h1, hk⟩
    · cases h
  · split at h
    · rename_i hH
      obtain ⟨h1, h2⟩ := gu_some h
      cases h2
      simp only [loadK, hH, loadE]; exact ⟨by simpa using h1, hk⟩
    · rename_i hH
      obtain ⟨h1, h2⟩ := gu_some h
      cases h2
      simp only [loadK, hH, loadE]; exact ⟨by simpa using h1, hk⟩
    · cases h
  · cases h
theorem storeX_ok {n : Nat} {a x : V} (h : storeX n a x H = some (v, H')) (hk : k v H') : storeK n a x H k := by
  unfold storeX at h
  split at h
  · split at h
    · rename_i hH
      simp only [storeK, hH, storeH]
      split at h
      · rename_i e1 e2; cases h; rw [e1, e2]; exact hk
      · cases h
    · cases h
  · split at h
    · rename_i hH
      simp only [storeK, hH, storeE]
      obtain ⟨h1, h2⟩ := gu_some h
      simp only [decide_eq_true_eq] at h1
      refine ⟨h1, ?_⟩
      split at h2
      · rename_i e1 e2 e3
        obtain ⟨h3, h4⟩ := gu_some h2
        cases h4
        rw [e1, e2, e3]
        refine ⟨fun hj => ?_, hk⟩
        rw [hj] at h3; cases h3
      · cases h2
    · cases h
  · cases h
theorem binX_ok {op : BinOp} {x y : V} (h : binX op x y H = some (v, H')) (hk : k v H') : binK op x y H k := by
  unfold binX at h
  split at h
  · cases op <;> simp only [binK] at h ⊢ <;> (obtain ⟨h1, h2⟩ := gu_some h; simp only [decide_eq_true_eq] at h1; cases h2; exact ⟨h1, hk⟩)
  · cases op <;> simp only [binK] at h ⊢ <;> first | (cases h; exact hk) | (obtain ⟨h1, h2⟩ := gu_some h; simp only [decide_eq_true_eq] at h1; cases h2; exact ⟨h1, hk⟩) | cases h
  · cases h
theorem binbX_ok {neg : Bool} {x y : V} (h : binbX neg x y H = some (v, H')) (hk : k v H') : binbK neg x y H k := by
  unfold binbX at h
  split at h
  · cases h; exact hk
  · cases h
theorem eqaX_ok {neg : Bool} {r : Option Bool} (h : eqaX neg r H = some (v, H')) (hk : k v H') : eqaK neg r H k := by
  unfold eqaX at h
  split at h
  · cases h; exact hk
  · cases h
theorem cnilX_ok {kd : Nat} {neg : Bool} {x y : V} (h : cnilX kd neg x y H = some (v, H')) (hk : k v H') : cnilK kd neg x y H k := by
  unfold cnilX at h
  split at h
  · cases h
  · cases h
  · cases h
  · obtain ⟨h1, h2⟩ := gu_some h
    cases h2
    simp only [Bool.and_eq_true, Nat.beq_eq] at h1
    exact ⟨h1.1, rowLen_is h1.2 hk⟩
  · rename_i n1 n2 n3 n4
    unfold cnilK
    split
    · exact (n1 _ rfl rfl).elim
    · exact (n2 _ rfl rfl).elim
    · exact (n3 _ rfl rfl).elim
    · exact (n4 _ _ rfl rfl).elim
    · exact eqaX_ok h hk
theorem unX_ok {op : UnOp} {x : V} (h : unX op x H = some (v, H')) (hk : k v H') : unK op x H k := by
  unfold unX at h
  split at h <;> first | (cases h; exact hk) | cases h
theorem fadX_ok {off : Nat} {x : V} (h : fadX off x H = some (v, H')) (hk : k v H') : fadK off x H k := by
  unfold fadX at h
  split at h
  · cases h; exact hk
  · obtain ⟨h1, h2⟩ := gu_some h
    cases h2
    simp only [fadK, h1, nckB]; exact hk
  · obtain ⟨h1, h2⟩ := gu_some h
    cases h2
    exact rowLen_is h1 hk
  · cases h
theorem fldX_ok {off n : Nat} {g : Bool} {x : V} (h : fldX off n g x H = some (v, H')) (hk : k v H') : fldK off n g x H k := by
  unfold fldX at h
  split at h
  · obtain ⟨h1, h2⟩ := gu_some h
    cases h2
    exact ⟨by simpa using h1, hk⟩
  · cases h
theorem iadX_ok {n : Nat} {x i : V} (h : iadX n x i H = some (v, H')) (hk : k v H') : iadK n x i H k := by
  unfold iadX at h
  split at h
  · obtain ⟨h1, h2⟩ := gu_some h
    cases h2
    exact ⟨by simpa using h1, hk⟩
  · obtain ⟨h1, h2⟩ := gu_some h
    cases h2
    exact ⟨by simpa using h1, hk⟩
  · obtain ⟨h1, h2⟩ := gu_some h
    cases h2
    simp only [Bool.and_eq_true, decide_eq_true_eq, Nat.beq_eq] at h1
    exact ⟨h1.1, rowLen_is h1.2.1 ⟨h1.2.2, hk⟩⟩
  · cases h
theorem iaaX_ok {len n : Nat} {x i : V} (h : iaaX len n x i H = some (v, H')) (hk : k v H') : iaaK len n x i H k := by
  unfold iaaX at h
  split at h
  · obtain ⟨h1, h2⟩ := gu_some h
    cases h2
    exact ⟨by simpa using h1, hk⟩
  · obtain ⟨h1, h2⟩ := gu_some h
    cases h2
    simp only [Bool.and_eq_true, decide_eq_true_eq] at h1
    refine ⟨h1.1, ?_⟩
    rw [h1.2]; exact hk
  · cases h
theorem ixsX_ok {x i : V} (h : ixsX x i H = some (v, H')) (hk : k v H') : ixsK x i H k := by
  unfold ixsX at h
  split at h
  · obtain ⟨h1, h2⟩ := gu_some h
    cases h2
    exact ⟨by simpa using h1, hk⟩
  · cases h
theorem ixaX_ok {len n : Nat} {g : Bool} {x i : V} (h : ixaX len n g x i H = some (v, H')) (hk : k v H') : ixaK len n g x i H k := by
  unfold ixaX at h
  split at h
  · obtain ⟨h1, h2⟩ := gu_some h
    cases h2
    exact ⟨by simpa using h1, hk⟩
  · cases h
theorem mputX_ok {g : Bool} {ks : List Nat} {m a x : V} (h : mputX g ks m a x H = some (v, H')) (hk : k v H') : mputK g ks m a x H k := by
  unfold mputX at h
  split at h
  · split at h
    · rename_i h1 h2
      simp only [mputK, h1, h2, mputE]
      split at h
      · rename_i h3; cases h; rw [h3]; exact hk
      · rename_i h3; cases h; rw [h3]; exact hk
      · cases h
    · cases h
  · cases h
theorem mgetX_ok {g ok : Bool} {ks : List Nat} {m a z : V} (h : mgetX g ks z ok m a H = some (v, H')) (hk : k v H') : mgetK g ks z ok m a H k := by
  unfold mgetX at h
  split at h
  · split at h
    · rename_i h1 h2
      simp only [mgetK, h1, h2, mgetE]
      split at h
      · rename_i h3; cases h; rw [h3]; exact hk
      · rename_i h3; cases h; rw [h3]; exact hk
      · cases h
    · cases h
  · split at h
    · rename_i h1
      cases h
      simp only [mgetK, h1, mgetN]; exact hk
    · cases h
  · cases h
theorem lenX_ok {kd : Nat} {x : V} (h : lenX kd x H = some (v, H')) (hk : k v H') : lenK kd x H k := by
  unfold lenX at h
  split at h
  · cases h; exact hk
  · cases h; exact hk
  · cases h; exact hk
  · cases h; exact hk
  · obtain ⟨h1, h2⟩ := gu_some h
    cases h2
    exact rowLen_is h1 hk
  · cases h; exact hk
  · split at h
    · rename_i h1; cases h; simp only [lenK, h1, lenH]; exact hk
    · cases h
  · cases h
theorem appNX_ok {E n bt : Nat} {xs : List V} {r : Option (List V)} (h : appNX E n bt xs r H = some (v, H')) (hk : k v H') : appN E n bt xs r H k := by
  unfold appNX at h
  split at h
  · obtain ⟨h1, h2⟩ := gu_some h
    cases h2
    simp only [Bool.and_eq_true, Bool.or_eq_true, List.isEmpty_iff, Bool.not_eq_true', decide_eq_true_eq] at h1
    refine ⟨⟨fun hx => ?_, h1.2⟩, hk⟩
    rcases h1.1 with h | h
    · exact (hx h).elim
    · intro hy; rw [hy] at h; cases h
  · cases h
theorem appX_ok {E n bt : Nat} {x : V} {r : Option (List V)} (h : appX E n bt x r H = some (v, H')) (hk : k v H') : appK E n bt x r H k := by
  unfold appX at h
  split at h
  · split at h
    · rename_i h1
      obtain ⟨h2, h3⟩ := gu_some h
      cases h3
      simp only [decide_eq_true_eq] at h2
      simp only [appK, h1, appH]
      exact ⟨h2, hk⟩
    · cases h
  · exact appNX_ok h hk
  · obtain ⟨h2, h3⟩ := gu_some h
    exact ⟨by simpa using h2, appNX_ok h3 hk⟩
  · cases h
theorem copyX_ok {n : Nat} {x : V} {r : Option (List V)} (h : copyX n x r H = some (v, H')) (hk : k v H') : copyK n x r H k := by
  unfold copyX at h
  split at h
  · split at h
    · rename_i h1
      obtain ⟨h2, h3⟩ := gu_some h
      cases h3
      simp only [decide_eq_true_eq] at h2
      simp only [copyK, h1, copyH]
      exact ⟨h2, hk⟩
    · cases h
  · cases h
theorem cutKX_ok {n : Nat} {xs : List V} {lo hi : Option Int} (h : cutKX n xs lo hi H = some (v, H')) (hk : k v H') : cutK (.sl n) xs lo hi H k := by
  unfold cutKX at h
  split at h
  · obtain ⟨h1, h2⟩ := gu_some h
    cases h2
    exact ⟨by simpa using h1, hk⟩
  · cases h
theorem cutOX_ok {n g len : Nat} {e : Option Entry} {lo hi : Option Int} (h : cutOX n g len e lo hi H = some (v, H')) (hk : k v H') : cutO n g len e lo hi H k := by
  unfold cutOX at h
  split at h
  · obtain ⟨h1, h2⟩ := gu_some h
    simp only [decide_eq_true_eq] at h1
    refine .inl ⟨h1, ?_⟩
    split at h2
    · cases h2
      exact .inr ⟨by simp, by simpa using hk⟩
    · exact .inl (cutKX_ok h2 hk)
  · obtain ⟨h1, h2⟩ := gu_some h
    simp only [decide_eq_true_eq] at h1
    exact ⟨h1, cutKX_ok h2 hk⟩
  · cases h
theorem slcX_ok {n : Nat} {x : V} {lo hi mx : Option V} (h : slcX n x lo hi mx H = some (v, H')) (hk : k v H') : slcK n x lo hi mx H k := by
  unfold slcX at h
  split at h
  · obtain ⟨h1, h2⟩ := gu_some h
    exact ⟨by simpa using h1, cutKX_ok h2 hk⟩
  · obtain ⟨h1, h2⟩ := gu_some h
    exact ⟨by simpa using h1, cutKX_ok h2 hk⟩
  · split at h
    · rename_i e1 e2 e3
      obtain ⟨h1, h2⟩ := gu_some h
      cases h2
      simp only [decide_eq_true_eq] at h1
      simp only [slcK, e1, e2, e3, cutX]
      exact ⟨h1.1, h1.2, hk⟩
    · cases h
  · split at h
    · rename_i e1 e2 e3
      obtain ⟨h1, h2⟩ := gu_some h
      cases h2
      simp only [decide_eq_true_eq] at h1
      simp only [slcK, e1, e2, e3, cutX]
      exact ⟨h1.1, h1.2, hk⟩
    · cases h
  · obtain ⟨h1, h2⟩ := gu_some h
    cases h2
    exact ⟨by simpa using h1, hk⟩
  · exact cutOX_ok h hk
  · cases h
theorem slsX_ok {x : V} {lo hi : Option V} (h : slsX x lo hi H = some (v, H')) (hk : k v H') : slsK x lo hi H k := by
  unfold slsX at h
  split at h
  · split at h
    · rename_i h1 h2
      obtain ⟨h3, h4⟩ := gu_some h
      cases h4
      simp only [slsK, h1, h2]
      exact ⟨by simpa using h3, hk⟩
    · cases h
  · cases h
theorem nxtX_ok {s : Bool} {x : V} (h : nxtX s x H = some (v, H')) (hk : k v H') : nxtK s x H k := by
  unfold nxtX at h
  split at h
  · split at h
    · rename_i h1
      simp only [nxtK, h1, nxtH]
      rename_i s pos
      cases hd : decide (pos < s.length) <;> rw [hd] at h <;> simp only [cond_true, cond_false] at h ⊢ <;> (cases h; exact hk)
    · cases h
  · cases h
theorem bslX_ok {n : Nat} {g : Bool} {xs : List V} (h : bslX n g xs H = some (v, H')) (hk : k v H') : bslF n g (noids xs) xs H k := by
  unfold bslX at h
  cases hn : noids xs <;> rw [hn] at h <;> simp only [cond_true, cond_false] at h <;> (obtain ⟨h1, h2⟩ := gu_some h; cases h2; simp only [bslF, h1, bslK]; exact hk)
theorem mksX_ok {E n bt : Nat} {g : Bool} {z : List V} {l c : V} (h : mksX E n g z bt l c H = some (v, H')) (hk : k v H') : mksK E n g z bt l c H k := by
  unfold mksX at h
  split at h
  · obtain ⟨h1, h2⟩ := gu_some h
    cases h2
    rw [Bool.and_eq_true] at h1
    simp only [mksK, h1.1]
    exact ⟨by simpa using h1.2, hk⟩
  · cases h
variable {P : Program} {c : FuncId → List V → List Entry → R2}
def CallsOk (P : Program) (c : FuncId → List V → List Entry → R2) : Prop := ∀ f args H v H', c f args H = some (v, H') → ∀ K : KV, K v H' → BCall P f args H K
theorem rens_self : ∀ (ρ : Nat → Nat) (l : List V), noids l = true → rens ρ l = l := by
  intro ρ l h
  have key : ∀ x : V, noid x = true → ren ρ x = x := by
    intro x
    refine V.rec (motive_1 := fun x => noid x = true → ren ρ x = x) (motive_2 := fun l => noids l = true → rens ρ l = l) ?_ ?_ ?_ ?_ ?_ ?_ ?_ ?_ ?_ ?_ ?_ ?_ ?_ ?_ ?_ ?_ ?_ ?_ ?_ ?_ ?_ ?_ x <;> intros <;> simp_all [noid, noids, ren, rens]
  induction l with
  | nil => rfl
  | cons a l ih =>
    simp only [noids, Bool.and_eq_true] at h
    simp only [rens, key a h.1, ih h.2]
theorem idsLts_noids : ∀ (m : Nat) (l : List V), noids l = true → idsLts m l = true := by
  intro m l h
  have key : ∀ x : V, noid x = true → idsLt m x = true := by
    intro x
    refine V.rec (motive_1 := fun x => noid x = true → idsLt m x = true) (motive_2 := fun l => noids l = true → idsLts m l = true) ?_ ?_ ?_ ?_ ?_ ?_ ?_ ?_ ?_ ?_ ?_ ?_ ?_ ?_ ?_ ?_ ?_ ?_ ?_ ?_ ?_ ?_ x <;> intros <;> simp_all [noid, noids, idsLt, idsLts]
  induction l with
  | nil => rfl
  | cons a l ih =>
    simp only [noids, Bool.and_eq_true] at h
    simp only [idsLts, key a h.1, ih h.2, Bool.and_self]
theorem offB_off {g : Option Nat} : ∀ (H H' : List Entry) (i : Nat), offB g i H H' = true → H.length ≤ H'.length ∧ ∀ j, j < H.length → g ≠ some (i + j) → H'[j]? = H[j]?
  | [], H', i, _ => ⟨by simp, fun j hj => by simp at hj⟩
  | _ :: _, [], i, h => by simp [offB] at h
  | a :: H, b :: H', i, h => by
    simp only [offB, Bool.and_eq_true, Bool.or_eq_true, decide_eq_true_eq] at h
    obtain ⟨h1, h2⟩ := offB_off H H' (i + 1) h.2
    refine ⟨by simpa using h1, fun j hj hg => ?_⟩
    cases j with
    | zero =>
      rcases h.1 with h3 | h3
      · exact absurd h3 hg
      · rw [beqE_eq a b h3]; rfl
    | succ j => simpa using h2 j (by simpa using hj) (by rw [show i + 1 + j = i + (j + 1) by omega]; exact hg)
theorem callXX_ok (hc : CallsOk P c) {f : V} {args : List V} (h : callXX c f args H = some (v, H')) : ∃ g a b, f = .fn g a b ∧ ∀ K : KV, K v H' → BCall P g (a ++ (args ++ b)) H K := by
  unfold callXX at h
  split at h
  · rename_i g a b
    refine ⟨g, a, b, rfl, fun K hk => ?_⟩
    cases hn : noids (a ++ (args ++ b)) <;> rw [hn] at h <;> simp only [cond_true, cond_false] at h
    · exact hc _ _ _ _ _ h K hk
    · split at h
      · rename_i v1 H1 h1
        simp only [Option.some.injEq, Prod.mk.injEq] at h
        obtain ⟨rfl, rfl⟩ := h
        have hb := hc _ _ _ _ _ h1 (fun x Hx => x = v1 ∧ Hx = H1) ⟨rfl, rfl⟩
        refine ⟨hb.1, ?_⟩
        have := acall_frame (K' := K) (H := H) (gs := []) hb.2 List.nodup_nil rfl (idsLts_noids _ _ hn) (fun i e he => by simp at he) (fun x Hx _ hx => by
          obtain ⟨rfl, rfl⟩ := hx
          simpa [joinH, setAll] using hk)
        rwa [rens_self _ _ hn] at this
      · cases h
  · cases h
theorem pcallX_ok (hc : CallsOk P c) {f : V} {args : List V} {k : KV} (h : pcallX c f args H = some (v, H')) (hk : k v H') : pcallK P f args H k := by
  unfold pcallX at h
  split at h
  · rename_i g a b
    cases hn : noids (a ++ (args ++ b)) <;> rw [hn] at h <;> simp only [cond_true, cond_false] at h
    · cases h
    · split at h
      · rename_i v1 h1
        obtain ⟨hv, h2⟩ := gu_some h
        cases h2
        refine ⟨v, fun H2 => ?_, hk⟩
        have hb := hc _ _ _ _ _ h1 (fun x Hx => x = v ∧ Hx = []) ⟨rfl, rfl⟩
        refine ⟨hb.1, ?_⟩
        have := acall_frame (K' := fun v' H'' => v' = v ∧ H'' = H2) (H := H2) (gs := []) hb.2 List.nodup_nil rfl (idsLts_noids _ _ hn) (fun i e he => by simp at he) (fun x Hx _ hx => by
          obtain ⟨rfl, rfl⟩ := hx
          have e1 := rens_self (rho []) [x] (by simp [noids, hv])
          simp only [rens, List.cons.injEq, and_true] at e1
          simp [joinH, setAll, e1])
        rwa [rens_self _ _ hn] at this
      · cases h
  · cases h
theorem stepX_ok (hc : CallsOk P c) {o : AOp} {e : List V} (h : stepX c o e H = some (v, H')) (hk : k v H') : step P o e H k := by
  cases o <;> simp only [stepX] at h <;> simp only [step]
  case mv => cases h; exact hk
  case nck => exact nckX_ok h hk
  case pick => exact pickX_ok h hk
  case box =>
    split at h
    · rename_i h1; cases h; rw [h1]; exact hk
    · cases h
  case alloc => cases h; exact hk
  case build =>
    split at h
    · rename_i h1; cases h; rw [h1]; exact hk
    · cases h
  case bsl => exact bslX_ok h hk
  case bslm =>
    obtain ⟨h1, h2⟩ := gu_some h
    obtain ⟨h3, h4⟩ := gu_some h2
    cases h4
    rw [h1]
    simp only [bslm, h3, bslK]; exact hk
  case mks => exact mksX_ok h hk
  case load => exact loadX_ok h hk
  case store => exact storeX_ok h hk
  case bin => exact binX_ok h hk
  case binb => exact binbX_ok h hk
  case cnil => exact cnilX_ok h hk
  case cnild => exact eqaX_ok h hk
  case eqa => exact eqaX_ok h hk
  case un => exact unX_ok h hk
  case fad => exact fadX_ok h hk
  case fld => exact fldX_ok h hk
  case iad => exact iadX_ok h hk
  case iaa => exact iaaX_ok h hk
  case ixs => exact ixsX_ok h hk
  case ixa => exact ixaX_ok h hk
  case cvi =>
    unfold cviX at h
    split at h
    · rename_i h1; cases h; rw [h1]; exact hk
    · cases h
  case cvs =>
    unfold cvsX at h
    split at h
    · rename_i h1; cases h; rw [h1]; exact hk
    · cases h
  case b2s =>
    unfold b2sX at h
    split at h
    · rename_i h1
      obtain ⟨h2, h3⟩ := gu_some h
      cases h3; rw [h1]; exact ⟨h2, hk⟩
    · cases h
  case mkfn => cases h; exact hk
  case mkm => cases h; exact hk
  case mput => exact mputX_ok h hk
  case mget => exact mgetX_ok h hk
  case mdel => cases h
  case len => exact lenX_ok h hk
  case app => exact appX_ok h hk
  case apps => exact appX_ok h hk
  case copy => exact copyX_ok h hk
  case slc => exact slcX_ok h hk
  case slcm =>
    split at h
    · rename_i h1 h2
      split at h
      · rename_i h3
        obtain ⟨h4, h5⟩ := gu_some h
        simp only [decide_eq_true_eq] at h4
        simp only [slcM, h1, h2, h3, cutM]
        exact ⟨h4, cutKX_ok h5 hk⟩
      · cases h
    · cases h
    · rename_i h1 h2
      have h3 := slcX_ok h hk
      unfold slcM
      split
      · rename_i e1 e2; exact (h1 _ _ e1 e2).elim
      · rename_i e1 e2; exact (h2 _ _ _ e1 e2).elim
      · exact h3
  case sls => exact slsX_ok h hk
  case call =>
    obtain ⟨g, a, b, e1, h1⟩ := callXX_ok hc h
    rw [e1]; exact h1 _ hk
  case dcall =>
    unfold dcallX at h
    split at h
    · rename_i v1 H1 h1
      split at h
      · rename_i t h2
        cases h
        obtain ⟨g, a, b, e1, h3⟩ := callXX_ok hc h1
        have e2 := behind_eq _ _ _ h2
        subst e2
        rw [e1]
        exact ⟨_, t, h3 _ ⟨rfl, rfl⟩, hk⟩
      · cases h
    · cases h
  case mcall =>
    unfold mcallX at h
    split at h
    · rename_i v1 H1 h1
      obtain ⟨h4, h5⟩ := gu_some h
      cases h5
      obtain ⟨g, a, b, e1, h3⟩ := callXX_ok hc h1
      rw [e1]
      obtain ⟨o1, o2⟩ := offB_off _ _ _ h4
      exact ⟨_, _, h3 _ ⟨rfl, rfl⟩, ⟨o1, fun g hg hn => o2 g hg (by rw [Nat.zero_add]; exact hn)⟩, hk⟩
    · cases h
  case alcR => cases h
  case pcall => exact pcallX_ok hc h hk
  case mnx =>
    split at h
    · rename_i h1; cases h; rw [h1]; exact hk
    · cases h
  case rng =>
    split at h
    · rename_i h1; cases h; rw [h1]; exact hk
    · cases h
  case nxt => exact nxtX_ok h hk
  case ext =>
    split at h
    · rename_i h1
      obtain ⟨h2, h3⟩ := gu_some h
      cases h3; rw [h1]; exact ⟨by simpa using h2, hk⟩
    · cases h
  case bad => cases h
end sound
/-! ### Code -/
abbrev R3 := Option (Ex × List V × List Entry)
section
variable (c : FuncId → List V → List Entry → R2)
def opX (o : AO) (e : List V) (H : List Entry) : R2 :=
  match o.guard with
  | none => stepX c o.op e H
  | some (t, b) => match nth e t with
    | .bool d => bif d == b then stepX c o.op e H else some (undefV, H)
    | .tup _ => some (undefV, H)
    | _ => none
def opsX : List AO → List V → List Entry → Option (List V × List Entry)
  | [], e, H => some (e, H)
  | o :: l, e, H => match opX c o e H with | some (v, H') => opsX l (putD e o.dst v) H' | none => none
def loopX (body : List V → List Entry → R3) : Nat → List V → List Entry → R3
  | 0, _, _ => none
  | n + 1, e, H => match body e H with
    | some (.norm, e', H') => loopX body n e' H'
    | r => r
def sepB (e : List V) : List (Nat × Nat) → Bool
  | [] => true
  | (t, u) :: l => sepV (nth e t) (nth e u) && sepB e l
theorem sepB_ok {e : List V} : ∀ {ps : List (Nat × Nat)}, sepB e ps = true → sepAll e ps
  | [], _ => trivial
  | (t, u) :: l, h => by
    simp only [sepB, Bool.and_eq_true] at h
    exact ⟨h.1, sepB_ok h.2⟩
def execX (n : Nat) : AC → List V → List Entry → R3
  | .skip, e, H => some (.norm, e, H)
  | .ops l, e, H => match opsX c l e H with | some (e', H') => some (.norm, e', H') | none => none
  | .draw l, e, H => match opsX c l e H with | some (e', H') => some (.norm, e', H') | none => none
  | .drawX [] ps l, e, H => match opsX c l e H with | some (e', H') => bif sepB e' ps then some (.norm, e', H') else none | none => none
  | .drawX (b :: bs) ps l, e, H => match opsX c (rsvL H.length l) e (H ++ .box b :: bs.map .box) with | some (e', H') => bif sepB e' ps then some (.norm, e', H') else none | none => none
  | .seq a b, e, H => match execX n a e H with | some (.norm, e', H') => execX n b e' H' | r => r
  | .cond x a b, e, H => match ev e x with | .bool d => bif d then execX n a e H else execX n b e H | _ => none
  | .block id a, e, H => match execX n a e H with | some (.exit i, e', H') => bif i == id then some (.norm, e', H') else some (.exit i, e', H') | r => r
  | .loop a, e, H => loopX (execX n a) n e H
  | .exit id, e, H => some (.exit id, e, H)
  | .scope a, e, H => execX n a e H
  | .ret, e, H => some (.ret, e, H)
  | .wk _, _, _ => none
  | .bad, _, _ => none
end
section
variable {P : Program} {c : FuncId → List V → List Entry → R2} (hc : CallsOk P c)
include hc
theorem opX_ok {o : AO} {e : List V} {H H' : List Entry} {v : V} {k : KV} (h : opX c o e H = some (v, H')) (hk : k v H') : opK P o k e H := by
  unfold opX at h
  unfold opK
  split at h
  · rename_i h1; rw [h1]; exact stepX_ok hc h hk
  · rename_i t b h1
    rw [h1]
    simp only
    split at h
    · rename_i d h2
      rw [h2]
      simp only
      cases hd : d == b <;> rw [hd] at h <;> simp only [cond_true, cond_false] at h ⊢
      · cases h; exact hk
      · exact stepX_ok hc h hk
    · rename_i h2; rw [h2]; cases h; exact hk
    · cases h
theorem opsX_ok {K : K1} : ∀ {l : List AO} {e e' : List V} {H H' : List Entry}, opsX c l e H = some (e', H') → K e' H' → ops P l K e H
  | [], e, e', H, H', h, hk => by
    simp only [opsX, Option.some.injEq, Prod.mk.injEq] at h
    obtain ⟨rfl, rfl⟩ := h
    exact hk
  | o :: l, e, e', H, H', h, hk => by
    simp only [opsX] at h
    split at h
    · rename_i v H1 h1
      simp only [ops]
      exact opX_ok hc h1 (opsX_ok (l := l) h hk)
    · cases h
theorem execX_ok {n n0 : Nat} : ∀ (ac : AC) {e e' : List V} {H H' : List Entry} {x : Ex} {Q : KQ}, execX c n ac e H = some (x, e', H') → Q x e' H' → awp P n0 ac Q e H
  | .skip, e, e', H, H', x, Q, h, hk => by
    simp only [execX, Option.some.injEq, Prod.mk.injEq] at h
    obtain ⟨rfl, rfl, rfl⟩ := h
    exact hk
  | .ops l, e, e', H, H', x, Q, h, hk => by
    simp only [execX] at h
    split at h
    · rename_i h1; cases h; exact opsX_ok hc (K := Q .norm) h1 hk
    · cases h
  | .draw l, e, e', H, H', x, Q, h, hk => by
    simp only [execX] at h
    split at h
    · rename_i h1; cases h; exact opsX_ok hc (K := Q .norm) h1 hk
    · cases h
  | .drawX [] ps l, e, e', H, H', x, Q, h, hk => by
    simp only [execX] at h
    split at h
    · rename_i e1 H1 h1
      cases hs : sepB e1 ps <;> rw [hs] at h <;> simp only [cond_true, cond_false] at h
      · cases h
      · cases h
        simp only [awp, drawP]
        exact opsX_ok hc h1 ⟨sepB_ok hs, hk⟩
    · cases h
  | .drawX (b :: bs) ps l, e, e', H, H', x, Q, h, hk => by
    simp only [execX] at h
    split at h
    · rename_i e1 H1 h1
      cases hs : sepB e1 ps <;> rw [hs] at h <;> simp only [cond_true, cond_false] at h
      · cases h
      · cases h
        simp only [awp, drawP]
        exact opsX_ok hc h1 ⟨sepB_ok hs, hk⟩
    · cases h
  | .seq a b, e, e', H, H', x, Q, h, hk => by
    simp only [execX] at h
    simp only [awp]
    split at h
    · rename_i h1; exact execX_ok a (Q := seqK (awp P n0 b Q) Q) h1 (execX_ok b h hk)
    · rename_i h1
      refine execX_ok a (Q := seqK (awp P n0 b Q) Q) h ?_
      cases x with
      | norm => exact (h1 _ _ h).elim
      | exit i => exact hk
      | ret => exact hk
  | .cond x a b, e, e', H, H', y, Q, h, hk => by
    simp only [execX] at h
    simp only [awp, condK]
    split at h
    · rename_i d h1
      rw [h1]
      cases d <;> simp only [cond_true, cond_false] at h ⊢
      · exact execX_ok b h hk
      · exact execX_ok a h hk
    · cases h
  | .block id a, e, e', H, H', x, Q, h, hk => by
    simp only [execX] at h
    simp only [awp]
    split at h
    · rename_i i e1 H1 h1
      refine execX_ok a (Q := blockK id Q) h1 ?_
      simp only [blockK]
      cases hi : i == id <;> rw [hi] at h <;> simp only [cond_true, cond_false] at h ⊢ <;> (cases h; exact hk)
    · rename_i h1
      refine execX_ok a (Q := blockK id Q) h ?_
      cases x with
      | norm => exact hk
      | exit i => exact (h1 _ _ _ h).elim
      | ret => exact hk
  | .loop a, e, e', H, H', x, Q, h, hk => by
    simp only [execX] at h
    simp only [awp]
    refine ⟨fun m e H => loopX (execX c n a) m e H = some (x, e', H'), ⟨n, e, H, .refl, h⟩, ?_⟩
    intro m e H hm
    cases m with
    | zero => simp [loopX] at hm
    | succ m =>
      simp only [loopX] at hm
      split at hm
      · rename_i e1 H1 h1
        exact execX_ok a h1 ⟨m, e1, H1, Nat.lt_succ_self m, .refl, hm⟩
      · rename_i h1
        refine execX_ok a hm ?_
        cases x with
        | norm => exact (h1 _ _ hm).elim
        | exit i => exact hk
        | ret => exact hk
  | .exit id, e, e', H, H', x, Q, h, hk => by
    simp only [execX, Option.some.injEq, Prod.mk.injEq] at h
    obtain ⟨rfl, rfl, rfl⟩ := h
    exact hk
  | .scope a, e, e', H, H', x, Q, h, hk => by
    simp only [execX] at h
    simp only [awp]
    exact execX_ok a h hk
  | .ret, e, e', H, H', x, Q, h, hk => by
    simp only [execX, Option.some.injEq, Prod.mk.injEq] at h
    obtain ⟨rfl, rfl, rfl⟩ := h
    exact hk
  | .wk _, e, e', H, H', x, Q, h, hk => by simp [execX] at h
  | .bad, e, e', H, H', x, Q, h, hk => by simp [execX] at h
end
/-! ### Functions -/
structure Fn where
  ac : AC
  nt : Nat
  rs : List RA
structure FnIs (P : Program) (f : FuncId) (ac : AC) (nt : Nat) (rs : List RA) : Prop where
  ex : ∃ fn, P.funcs[f]? = some fn ∧ fn.body.bind (comp P) = some ac ∧ cRes P fn.results.toList = some rs ∧ (fn.name != "runtime.NumGoroutine") = true ∧ fn.ntmps = nt
  st : strip ac = ac
theorem fnIs_of {P : Program} {f : FuncId} {fn : Func} {ac : AC} {nt : Nat} {rs : List RA} (hf : P.funcs[f]? = some fn) (hbc : fn.body.bind (comp P) = some ac) (hs : strip ac = ac) (hr : cRes P fn.results.toList = some rs) (hn : (fn.name != "runtime.NumGoroutine") = true) (ht : fn.ntmps = nt) : FnIs P f ac nt rs :=
  ⟨⟨fn, hf, hbc, hr, hn, ht⟩, hs⟩
theorem FnIs.call {P : Program} {f : FuncId} {ac : AC} {nt : Nat} {rs : List RA} (hi : FnIs P f ac nt rs) {args env : List V} {H : List Entry} {K : KV} (he0 : env = args ++ List.replicate (nt - args.length) undefV) (h : Wf H → awp P H.length ac (finW H.length rs K) env H) : BCall P f args H K := by
  obtain ⟨⟨fn, h1, h2, h3, h4, rfl⟩, h5⟩ := hi
  exact call_of h1 h2 h5 h3 h4 he0 h
def resX (rs : List RA) (acc : List V) (e : List V) (H : List Entry) : R2 :=
  match rs with
  | [] => some (oneV acc, H)
  | .tmp t :: l => resX l (acc ++ [nth e t]) e H
  | .cell a n g :: l => match loadX n g (nth e a) H with | some (v, H') => resX l (acc ++ [v]) e H' | none => none
theorem resX_ok {K : KV} {e : List V} : ∀ {rs : List RA} {acc : List V} {H H' : List Entry} {v : V}, resX rs acc e H = some (v, H') → K v H' → resK rs acc K e H
  | [], acc, H, H', v, h, hk => by
    simp only [resX, Option.some.injEq, Prod.mk.injEq] at h
    obtain ⟨rfl, rfl⟩ := h
    exact hk
  | .tmp t :: l, acc, H, H', v, h, hk => by
    simp only [resX] at h
    exact resX_ok (rs := l) h hk
  | .cell a n g :: l, acc, H, H', v, h, hk => by
    simp only [resX] at h
    split at h
    · rename_i h1
      simp only [resK]
      exact loadX_ok h1 (resX_ok (rs := l) h hk)
    · cases h
def allT : List RA → Option (List Nat)
  | [] => some []
  | .tmp t :: l => (allT l).map (t :: ·)
  | _ :: _ => none
theorem allT_eq : ∀ {rs : List RA} {ts : List Nat}, allT rs = some ts → rs = rsT ts
  | [], ts, h => by simp only [allT, Option.some.injEq] at h; subst h; rfl
  | .tmp t :: l, ts, h => by
    simp only [allT] at h
    obtain ⟨r, hr, rfl⟩ := Option.map_eq_some_iff.1 h
    rw [allT_eq hr]; rfl
  | .cell .. :: _, ts, h => by cases h
/-- What comes back: with nothing there ahead of the call, and nothing of one's own in it, nothing is left. -/
def endX (rs : List RA) (e : List V) (H H' : List Entry) : R2 :=
  match H, allT rs with
  | [], some ts => bif noids (nths e ts) then some (oneV (nths e ts), []) else resX rs [] e H'
  | _, _ => resX rs [] e H'
theorem endX_ok {rs : List RA} {e : List V} {H H' H2 : List Entry} {v : V} {K : KV} (h : endX rs e H H' = some (v, H2)) (hk : K v H2) : WkP H.length (resK rs [] K) e H' := by
  unfold endX at h
  split at h
  · rename_i ts h1
    cases hn : noids (nths e ts) <;> rw [hn] at h <;> simp only [cond_true, cond_false] at h
    · exact wk_refl (resX_ok h hk)
    · cases h
      rw [allT_eq h1]
      exact fin_tmp (H := []) (t := H') wf_nil (idsLts_noids _ _ hn) hk
  · exact wk_refl (resX_ok h hk)
def frzAll : List Nat → List V → List Entry → List V × List Entry
  | [], e, H => (e, H)
  | t :: ts, e, H => frzAll ts (setAt e t (fz 8 H (nth e t)).1) (fz 8 H (nth e t)).2
theorem frzAll_ok {n0 : Nat} {f : K1} : ∀ {ts : List Nat} {e : List V} {H : List Entry}, WkP n0 f (frzAll ts e H).1 (frzAll ts e H).2 → WkP n0 f e H
  | [], _, _, h => h
  | t :: _, _, _, h => wk_frz t (frzAll_ok h)
/-- What comes back is frozen, where it is told so. -/
def endF (b : Bool) (rs : List RA) (e : List V) (H H' : List Entry) : R2 :=
  match b, allT rs with
  | true, some ts => endX rs (frzAll ts e H').1 H (frzAll ts e H').2
  | _, _ => endX rs e H H'
theorem endF_ok {b : Bool} {rs : List RA} {e : List V} {H H' H2 : List Entry} {v : V} {K : KV} (h : endF b rs e H H' = some (v, H2)) (hk : K v H2) : WkP H.length (resK rs [] K) e H' := by
  unfold endF at h
  split at h
  · exact frzAll_ok (endX_ok h hk)
  · exact endX_ok h hk
/-- What comes back, with what is there. -/
def resL (rs : List RA) (acc : List V) (e : List V) (H : List Entry) : Option (List V × List Entry) :=
  match rs with
  | [] => some (acc, H)
  | .tmp t :: l => resL l (acc ++ [nth e t]) e H
  | .cell a n g :: l => match loadX n g (nth e a) H with | some (v, H') => resL l (acc ++ [v]) e H' | none => none
theorem resL_ok {K : KV} {n0 : Nat} {e : List V} : ∀ {rs : List RA} {acc xs : List V} {H H' : List Entry}, resL rs acc e H = some (xs, H') → endW n0 xs K H' → resE n0 rs acc K e H
  | [], acc, xs, H, H', h, hk => by
    simp only [resL, Option.some.injEq, Prod.mk.injEq] at h
    obtain ⟨rfl, rfl⟩ := h
    exact hk
  | .tmp t :: l, acc, xs, H, H', h, hk => by
    simp only [resL] at h
    exact resL_ok (rs := l) h hk
  | .cell a n g :: l, acc, xs, H, H', h, hk => by
    simp only [resL] at h
    split at h
    · rename_i h1
      simp only [resE]
      exact loadX_ok h1 (resL_ok (rs := l) h hk)
    · cases h
def dropX (xs : List V) (H H' : List Entry) : R2 :=
  match H with
  | [] => bif noids xs then some (oneV xs, []) else some (oneV xs, H')
  | _ => some (oneV xs, H')
theorem dropX_ok {xs : List V} {H H' H2 : List Entry} {v : V} {K : KV} (h : dropX xs H H' = some (v, H2)) (hk : K v H2) : endW H.length xs K H' := by
  unfold dropX at h
  split at h
  · cases hn : noids xs <;> rw [hn] at h <;> simp only [cond_true, cond_false] at h
    · cases h; exact fin_keep hk
    · cases h
      exact fin_res (H := []) (t := H') wf_nil (idsLts_noids _ _ hn) hk
  · cases h; exact fin_keep hk
def endC (b : Bool) (rs : List RA) (e : List V) (H H' : List Entry) : R2 :=
  match resL rs [] e H' with
  | some (xs, H1) => bif b then dropX (frzAll (List.range xs.length) xs H1).1 H (frzAll (List.range xs.length) xs H1).2 else dropX xs H H1
  | none => none
theorem endC_ok {b : Bool} {rs : List RA} {e : List V} {H H' H2 : List Entry} {v : V} {K : KV} (h : endC b rs e H H' = some (v, H2)) (hk : K v H2) : resE H.length rs [] K e H' := by
  unfold endC at h
  split at h
  · rename_i xs H1 h1
    refine resL_ok h1 ?_
    cases b <;> simp only [cond_true, cond_false] at h
    · exact dropX_ok h hk
    · exact frzAll_ok (dropX_ok h hk)
  · cases h
def endG (b : Bool) (rs : List RA) (e : List V) (H H' : List Entry) : R2 := match hasCell rs with | false => endF b rs e H H' | true => endC b rs e H H'
theorem endG_ok {b : Bool} {rs : List RA} {e : List V} {H H' H2 : List Entry} {v : V} {K : KV} (h : endG b rs e H H' = some (v, H2)) (hk : K v H2) : finP H.length rs (hasCell rs) K e H' := by
  unfold endG at h
  cases hb : hasCell rs <;> rw [hb] at h
  · exact endF_ok h hk
  · exact endC_ok h hk
/-! ### Less is known of an argument -/
theorem bcall_less {P : Program} {f : FuncId} {a b : List V} {H : List Entry} {K : KV} (h : BCall P f b H K) (hl : Lesses a b) : BCall P f a H K :=
  ⟨h.1, fun C vals hH hC hv => h.2 C vals hH hC (hl.rep hv)⟩
/-- What is told of a function, in place of its code. -/
abbrev Prims := List (FuncId × (List V → List Entry → R2))
def lookP : Prims → FuncId → Option (List V → List Entry → R2)
  | [], _ => none
  | (g, p) :: l, f => bif Nat.beq g f then some p else lookP l f
def PrimOk (P : Program) (f : FuncId) (p : List V → List Entry → R2) : Prop := ∀ args H v H', p args H = some (v, H') → ∀ K : KV, K v H' → BCall P f args H K
def PrimsOk (P : Program) : Prims → Prop
  | [] => True
  | (g, p) :: l => PrimOk P g p ∧ PrimsOk P l
theorem lookP_ok {P : Program} : ∀ {l : Prims}, PrimsOk P l → ∀ f p, lookP l f = some p → PrimOk P f p
  | [], _, f, p, h => by cases h
  | (g, q) :: l, ht, f, p, h => by
    simp only [lookP] at h
    cases hb : Nat.beq g f <;> rw [hb] at h <;> simp only [cond_true, cond_false] at h
    · exact lookP_ok ht.2 f p h
    · cases h
      have := Nat.eq_of_beq_eq_true hb
      subst this
      exact ht.1
theorem bcall_wk {P : Program} {f : FuncId} {args args1 : List V} {H H1 : List Entry} {K : KV} (h : BCall P f args1 H1 K) (hk : Wk H.length args H args1 H1) : BCall P f args H K := by
  refine ⟨h.1, fun C vals hH hC hv => ?_⟩
  obtain ⟨C1, w1, h1, t1, r1, v1⟩ := Wk_sound hk C C vals (by rw [hH]) hH (Tr.refl C) hC hv
  have := h.2 C1 vals h1 r1 v1
  rw [w1] at this
  refine Calls.mono this ?_
  rintro e w' ⟨C', x, v, a1, a2, a3, a4, a5, a6⟩
  exact ⟨C', x, v, a1, a2, t1.trans a3, a4, a5, a6⟩
theorem bcall_frz {P : Program} {f : FuncId} {ts : List Nat} {args : List V} {H : List Entry} {K : KV} (h : BCall P f (frzAll ts args H).1 (frzAll ts args H).2 K) : BCall P f args H K := by
  obtain ⟨e', H', hk, hb⟩ := frzAll_ok (n0 := H.length) (f := fun e H => BCall P f e H K) (ts := ts) (wk_refl h)
  exact bcall_wk hb hk
def runB (c : FuncId → List V → List Entry → R2) (fn : Fn) (b : Bool) (args : List V) (H : List Entry) : R2 :=
  match execX c 100000 fn.ac (args ++ List.replicate (fn.nt - args.length) undefV) H with
  | some (.norm, e, H') => endG b fn.rs e H H'
  | some (.ret, e, H') => endG b fn.rs e H H'
  | _ => none
def runX (prims : Prims) (look : FuncId → Option Fn) (pol : FuncId → Bool) : Nat → FuncId → List V → List Entry → R2
  | 0, _, _, _ => none
  | n + 1, f, args, H => match lookP prims f with
   | some p => p args H
   | none => match look f with
    | some fn => bif pol f then runB (runX prims look pol n) fn true (frzAll (List.range args.length) args H).1 (frzAll (List.range args.length) args H).2 else runB (runX prims look pol n) fn false args H
    | none => none
def LookOk (P : Program) (look : FuncId → Option Fn) : Prop := ∀ f fn, look f = some fn → FnIs P f fn.ac fn.nt fn.rs
theorem runX_ok {P : Program} {prims : Prims} {look : FuncId → Option Fn} {pol : FuncId → Bool} (hp : PrimsOk P prims) (hl : LookOk P look) : ∀ n, CallsOk P (runX prims look pol n)
  | 0 => fun f args H v H' h => by simp [runX] at h
  | n + 1 => fun f args H v H' h K hk => by
    simp only [runX] at h
    split at h
    · rename_i p hpf
      exact lookP_ok hp f p hpf _ _ _ _ h K hk
    split at h
    · rename_i fn hf
      have key : ∀ {b : Bool} {args : List V} {H : List Entry}, runB (runX prims look pol n) fn b args H = some (v, H') → BCall P f args H K := fun {b args H} h => by
        unfold runB at h
        refine (hl f fn hf).call rfl fun hw => ?_
        split at h
        · rename_i h1; exact execX_ok (runX_ok hp hl n) _ h1 (endG_ok h hk)
        · rename_i h1; exact execX_ok (runX_ok hp hl n) _ h1 (endG_ok h hk)
        · cases h
      cases hb : pol f <;> rw [hb] at h <;> simp only [cond_true, cond_false] at h
      · exact key h
      · exact bcall_frz (key h)
    · cases h
def lookL : List (FuncId × Fn) → FuncId → Option Fn
  | [], _ => none
  | (g, fn) :: l, f => bif Nat.beq g f then some fn else lookL l f
def TabOk (P : Program) : List (FuncId × Fn) → Prop
  | [] => True
  | (g, fn) :: l => FnIs P g fn.ac fn.nt fn.rs ∧ TabOk P l
theorem lookL_ok {P : Program} : ∀ {l : List (FuncId × Fn)}, TabOk P l → LookOk P (lookL l)
  | [], _, f, fn, h => by cases h
  | (g, gn) :: l, ht, f, fn, h => by
    simp only [lookL] at h
    cases hb : Nat.beq g f <;> rw [hb] at h <;> simp only [cond_true, cond_false] at h
    · exact lookL_ok ht.2 f fn h
    · cases h
      have := Nat.eq_of_beq_eq_true hb
      subst this
      exact ht.1
/-- What is wholly known is reckoned. -/
theorem run_known {P : Program} {prims : Prims} {tab : List (FuncId × Fn)} (hp : PrimsOk P prims) (ht : TabOk P tab) (pol : FuncId → Bool) {n : Nat} {f : FuncId} {args : List V} {v : V} (h : runX prims (lookL tab) pol n f args [] = some (v, [])) (hn : noids args = true) (hv : noid v = true) (H : List Entry) : Pure P f args H v := by
  intro K hK
  have hb := runX_ok hp (lookL_ok ht) n f args [] v [] h (fun x Hx => x = v ∧ Hx = []) ⟨rfl, rfl⟩
  refine ⟨hb.1, ?_⟩
  have := acall_frame (K' := K) (H := H) (gs := []) hb.2 List.nodup_nil rfl (idsLts_noids _ _ hn) (fun i e he => by simp at he) (fun x Hx _ hx => by
    obtain ⟨rfl, rfl⟩ := hx
    have e1 := rens_self (rho []) [x] (by simp [noids, hv])
    simp only [rens, List.cons.injEq, and_true] at e1
    simpa [joinH, setAll, e1] using hK)
  rwa [rens_self _ _ hn] at this
end Go.Av
namespace Go.Av
open Go Go.RowKit Go.WideShapes
set_option autoImplicit false
set_option linter.all false
/-! ### What comes in from outside -/
/-- What a cell of a type is. -/
inductive Sh where
  | bool | int (k : IntKind) | str | sl (n : Nat) (g : Bool) (l : List Sh)
def shF (P : Program) (f : TypeId → Option (List Sh)) : List Sh → List Field → Option (List Sh)
  | acc, [] => some acc
  | acc, x :: fs => match f x.type with
    | some l => if x.offset = acc.length ∧ P.cellsOf x.type = l.length then shF P f (acc ++ l) fs else none
    | none => none
def shC (P : Program) : Nat → TypeId → Option (List Sh)
  | 0, _ => none
  | d + 1, t =>
    match P.underlying t with
    | some .bool => some [.bool]
    | some (.int k) => some [.int k]
    | some .string => some [.str]
    | some (.struct fs) => match shF P (shC P d) [] fs.toList with | some l => if l.length = P.cellsOf t then some l else none | none => none
    | some (.slice e) => match shC P d e with | some l => if l.length = P.cellsOf e ∧ 0 < l.length ∧ (isAggT P e || l.length == 1) = true then some [.sl l.length (isAggT P e) l] else none | none => none
    | _ => none
mutual
def FitC : Sh → V → Prop
  | .bool, x => ∃ b, x = .bool b
  | .int k, x => ∃ n, x = .int k n ∧ k.min ≤ n ∧ n ≤ k.max
  | .str, x => ∃ s, x = .str s ∧ s.length ≤ maxLen
  | .sl n g l, x => ∃ xs, x = .sl n xs ∧ xs.length ≤ maxLen ∧ ∀ y ∈ xs, (g = true ∧ ∃ ys, y = .agg ys ∧ FitL l ys) ∨ (g = false ∧ FitL l [y])
def FitL : List Sh → List V → Prop
  | [], ys => ys = []
  | s :: l, ys => ∃ y r, ys = y :: r ∧ FitC s y ∧ FitL l r
end
/-- What a value of a type is. -/
def FitV (g : Bool) (l : List Sh) (x : V) : Prop := (g = true ∧ ∃ ys, x = .agg ys ∧ FitL l ys) ∨ (g = false ∧ FitL l [x])
theorem FitL_length : ∀ {l : List Sh} {ys : List V}, FitL l ys → ys.length = l.length
  | [], ys, h => by simp only [FitL] at h; subst h; rfl
  | s :: l, ys, h => by
    simp only [FitL] at h
    obtain ⟨y, r, rfl, _, h2⟩ := h
    simp [FitL_length h2]
theorem FitL_append : ∀ {l l' : List Sh} {ys zs : List V}, FitL l ys → FitL l' zs → FitL (l ++ l') (ys ++ zs)
  | [], l', ys, zs, h, k => by simp only [FitL] at h; subst h; exact k
  | s :: l, l', ys, zs, h, k => by
    simp only [FitL] at h
    obtain ⟨y, r, rfl, h1, h2⟩ := h
    simp only [List.cons_append, FitL]
    exact ⟨y, r ++ zs, rfl, h1, FitL_append h2 k⟩
/-- Nothing is the call's own. -/
def Rd0 (w : World) : Rd := ⟨w, fun _ => False, fun _ => none, fun _ => none⟩
theorem Rd0_deep (w : World) : (Rd0 w).deep = Rd0 w := rfl
theorem one_of_fit {w : World} : ∀ {s : Sh} {x : V} {v : Value}, FitC s x → VRep (Rd0 w) x v → v.oneCell' = true ∧ x ≠ .junk ∧ v.cells = #[v] := by
  intro s x v h hv
  cases s with
  | bool =>
    simp only [FitC] at h
    obtain ⟨b, rfl⟩ := h
    simp only [VRep] at hv
    subst hv; exact ⟨rfl, by simp, rfl⟩
  | int k =>
    simp only [FitC] at h
    obtain ⟨n, rfl, _⟩ := h
    simp only [VRep] at hv
    subst hv; exact ⟨rfl, by simp, rfl⟩
  | str =>
    simp only [FitC] at h
    obtain ⟨n, rfl, _⟩ := h
    simp only [VRep] at hv
    subst hv; exact ⟨rfl, by simp, rfl⟩
  | sl n g l =>
    simp only [FitC] at h
    obtain ⟨xs, rfl, _⟩ := h
    simp only [VRep] at hv
    rcases hv with ⟨_, a, cap, rfl⟩ | ⟨b, o, cap, cells, rfl, _⟩ <;> exact ⟨rfl, by simp, rfl⟩
theorem all_one {w : World} : ∀ {l : List Sh} {ys : List V} {cs : List Value}, FitL l ys → CRep (Rd0 w) ys cs → ∀ u ∈ cs, u.oneCell' = true
  | [], ys, cs, h, hc, u, hu => by
    simp only [FitL] at h
    subst h
    simp only [CRep] at hc
    subst hc
    cases hu
  | s :: l, ys, cs, h, hc, u, hu => by
    simp only [FitL] at h
    obtain ⟨y, r, rfl, h1, h2⟩ := h
    simp only [CRep] at hc
    obtain ⟨d, r', rfl, k1, k2⟩ := hc
    rcases List.mem_cons.1 hu with rfl | k
    · exact (one_of_fit h1 k1).1
    · exact all_one h2 k2 u k
section
variable {H : Type} {enc : TypeId × Value → H} {P : Program} {w : World} {spare : Nat → Bool} {held : Bool}
def Opens (enc : TypeId × Value → H) (P : Program) (w : World) (spare : Nat → Bool) (held : Bool) (fuel : Nat) : Prop :=
  ∀ (d : Nat) (t : TypeId) (cs : List Value) (x : DataW H × List MemPlace) (shs : List Sh), DataW.trod enc P w 0 spare held fuel t cs = some x → shC P d t = some shs → ∃ ys, FitL shs ys ∧ CRep (Rd0 w) ys cs
theorem open_fields {n d : Nat} (ih : Opens enc P w spare held n) {cs : List Value} : ∀ (fs : List Field) (acc l : List Sh) (ya : List V), shF P (shC P d) acc fs = some l → (∀ f ∈ fs, ∃ y, DataW.trod enc P w 0 spare held n f.type ((cs.drop f.offset).take (P.cellsOf f.type)) = some y) →
    FitL acc ya → CRep (Rd0 w) ya (cs.take acc.length) → ∃ ys, FitL l ys ∧ CRep (Rd0 w) ys (cs.take l.length)
  | [], acc, l, ya, h, _, h1, h2 => by
    simp only [shF, Option.some.injEq] at h
    subst h
    exact ⟨ya, h1, h2⟩
  | f :: fs, acc, l, ya, h, hf, h1, h2 => by
    simp only [shF] at h
    split at h
    · rename_i lf hlf
      split at h
      · rename_i hh
        obtain ⟨y, hy⟩ := hf f (by simp)
        obtain ⟨ys, k1, k2⟩ := ih d f.type _ y lf hy hlf
        refine open_fields ih fs (acc ++ lf) l (ya ++ ys) h (fun g hg => hf g (by simp [hg])) (FitL_append h1 k1) ?_
        rw [List.length_append, List.take_add]
        refine CRep_append h2 ?_
        rw [hh.1, hh.2] at k2
        exact k2
      · cases h
    · cases h
theorem ERep_of {n : Nat} {g : Bool} {shs : List Sh} (hg : (g || shs.length == 1) = true) (hn : shs.length = n) {w : World} : ∀ (m : Nat) (c : Nat → List Value) (y : Nat → List V), (∀ i, i < m → FitL shs (y i) ∧ CRep (Rd0 w) (y i) (c i)) →
    ∃ xs, xs.length = m ∧ ERep (Rd0 w) n xs ((List.range m).flatMap c) ∧ ∀ x ∈ xs, (g = true ∧ ∃ ys, x = .agg ys ∧ FitL shs ys) ∨ (g = false ∧ FitL shs [x]) := by
  intro m
  induction m with
  | zero => intro c y _; exact ⟨[], rfl, by simp [ERep], fun x hx => by cases hx⟩
  | succ m ih =>
    intro c y h
    obtain ⟨xs, h1, h2, h3⟩ := ih (fun i => c (i + 1)) (fun i => y (i + 1)) (fun i hi => h (i + 1) (by omega))
    obtain ⟨k1, k2⟩ := h 0 (by omega)
    have hlen : (c 0).length = n := by rw [← CRep_length k2, FitL_length k1, hn]
    have hone := all_one k1 k2
    have hr : (List.range (m + 1)).flatMap c = c 0 ++ (List.range m).flatMap fun i => c (i + 1) := by
      rw [List.range_succ_eq_map, List.flatMap_cons, List.flatMap_map]
    rw [hr]
    cases g with
    | true =>
      refine ⟨.agg (y 0) :: xs, by simp [h1], ?_, fun x hx => ?_⟩
      · simp only [ERep]
        refine ⟨.agg (c 0).toArray, _, rfl, by simpa [Value.cells] using hlen, ⟨by simp, fun u hu => hone u (by simpa [Value.cells] using hu)⟩, ?_, h2⟩
        simp only [VRep]
        exact ⟨c 0, rfl, k2⟩
      · rcases List.mem_cons.1 hx with rfl | hx
        · exact .inl ⟨rfl, _, rfl, k1⟩
        · exact h3 x hx
    | false =>
      simp only [Bool.false_or, beq_iff_eq] at hg
      match shs, hg, k1 with
      | [s], _, k1 =>
        have k1' := k1
        simp only [FitL] at k1
        obtain ⟨z, r, hz, hs, rfl⟩ := k1
        rw [hz] at k2 k1'
        simp only [CRep] at k2
        obtain ⟨v, r', hc0, hv, rfl⟩ := k2
        obtain ⟨o1, o2, o3⟩ := one_of_fit hs hv
        refine ⟨z :: xs, by simp [h1], ?_, fun x hx => ?_⟩
        · simp only [ERep]
          refine ⟨v, _, by rw [o3, hc0], by rw [o3]; simpa using hn, ⟨o2, fun u hu => ?_⟩, hv, h2⟩
          rw [o3] at hu
          simp at hu
          subst hu; exact o1
        · rcases List.mem_cons.1 hx with rfl | hx
          · exact .inr ⟨rfl, k1'⟩
          · exact h3 x hx
theorem open_cells : ∀ (fuel : Nat), Opens enc P w spare held fuel := by
  intro fuel
  induction fuel with
  | zero => intro d t cs x shs h; simp [DataW.trod] at h
  | succ n ih =>
    intro d t cs x shs h hs
    cases d with
    | zero => simp [shC] at hs
    | succ d =>
      simp only [shC] at hs
      cases hu : P.underlying t with
      | none => rw [hu] at hs; cases hs
      | some u =>
        rw [hu] at hs
        cases u with
        | bool =>
          simp only [Option.some.injEq] at hs
          subst hs
          obtain ⟨b, rfl, _⟩ := DataW.trod_bool hu h
          exact ⟨[.bool b], ⟨_, [], rfl, ⟨b, rfl⟩, rfl⟩, ⟨_, [], rfl, by simp [VRep], by simp [CRep]⟩⟩
        | int k =>
          simp only [Option.some.injEq] at hs
          subst hs
          obtain ⟨a, rfl, _, hw⟩ := DataW.trod_int hu h
          simp only [Lit.wf, Bool.and_eq_true, decide_eq_true_eq] at hw
          exact ⟨[.int k a], ⟨_, [], rfl, ⟨a, rfl, hw⟩, rfl⟩, ⟨_, [], rfl, by simp [VRep], by simp [CRep]⟩⟩
        | string =>
          simp only [Option.some.injEq] at hs
          subst hs
          obtain ⟨s, rfl, _, hw⟩ := DataW.trod_string hu h
          refine ⟨[.str s.data.toList], ⟨_, [], rfl, ⟨_, rfl, ?_⟩, rfl⟩, ⟨_, [], rfl, ?_, by simp [CRep]⟩⟩
          · simpa using hw
          · simp [VRep]
        | struct fs =>
          simp only at hs
          split at hs
          · rename_i l hl
            split at hs
            · rename_i hlen
              cases hs
              obtain ⟨xs, n', hn', _, hcl, hxl, hf⟩ := DataW.trod_struct hu h
              have hn2 : n = n' := by omega
              subst hn2
              obtain ⟨ys, k1, k2⟩ := open_fields (d := d) (cs := cs) ih fs.toList [] _ [] hl (fun f hm => by
                obtain ⟨i, hi⟩ := List.mem_iff_getElem?.1 hm
                have hi' : fs[i]? = some f := by simpa using hi
                have hlt : i < fs.size := (Array.getElem?_eq_some_iff.1 hi').1
                have := hf i f hi'
                rw [List.getElem?_eq_getElem (by omega)] at this
                exact ⟨_, this⟩) rfl (by simp [CRep])
              refine ⟨ys, k1, ?_⟩
              rwa [List.take_of_length_le (by omega)] at k2
            · cases hs
          · cases hs
        | slice e =>
          simp only at hs
          split at hs
          · rename_i l hl
            split at hs
            · rename_i hh
              cases hs
              obtain ⟨hlc, hpos, hagg⟩ := hh
              rcases DataW.trod_slice hu h with ⟨rfl, _⟩ | ⟨a, len, cap, elems, rest, n', hn', rfl, _, hb, hle, hcap, hel, hat, _⟩
              · refine ⟨[.sl l.length []], ⟨_, [], rfl, ?_, rfl⟩, ⟨_, [], rfl, ?_, by simp [CRep]⟩⟩
                · simp only [FitC]; exact ⟨[], rfl, by simp, fun y hy => by cases hy⟩
                · simp only [VRep]; exact .inl ⟨trivial, none, 0, rfl⟩
              · have hn2 : n = n' := by omega
                subst hn2
                have key : ∀ i, i < len → ∃ (c : List Value) (y : List V), w.cells? 0 (a.add (i * P.cellsOf e)) (P.cellsOf e) = some c ∧ FitL l y ∧ CRep (Rd0 w) y c := by
                  intro i hi
                  have h0 := hat i hi
                  rw [List.getElem?_eq_getElem (by omega)] at h0
                  obtain ⟨c, hc, ht⟩ := Option.bind_eq_some_iff.1 h0
                  obtain ⟨y, k1, k2⟩ := ih d e c _ l ht hl
                  exact ⟨c, y, hc, k1, k2⟩
                rcases Nat.eq_zero_or_pos len with h0 | h0
                · subst h0
                  refine ⟨[.sl l.length []], ⟨_, [], rfl, ?_, rfl⟩, ⟨_, [], rfl, ?_, by simp [CRep]⟩⟩
                  · simp only [FitC]; exact ⟨[], rfl, by simp, fun y hy => by cases hy⟩
                  · simp only [VRep]; exact .inl ⟨trivial, _, _, rfl⟩
                · obtain ⟨c, hc⟩ : ∃ c : Nat → List Value, ∀ i, i < len → ∃ y : List V, w.cells? 0 (a.add (i * P.cellsOf e)) (P.cellsOf e) = some (c i) ∧ FitL l y ∧ CRep (Rd0 w) y (c i) :=
                    ⟨fun i => if h : i < len then Classical.choose (key i h) else [], fun i h => by simp only [dif_pos h]; exact Classical.choose_spec (key i h)⟩
                  obtain ⟨y, hy⟩ : ∃ y : Nat → List V, ∀ i, i < len → w.cells? 0 (a.add (i * P.cellsOf e)) (P.cellsOf e) = some (c i) ∧ FitL l (y i) ∧ CRep (Rd0 w) (y i) (c i) :=
                    ⟨fun i => if h : i < len then Classical.choose (hc i h) else [], fun i h => by simp only [dif_pos h]; exact Classical.choose_spec (hc i h)⟩
                  clear key hc
                  obtain ⟨xs, x1, x2, x3⟩ := ERep_of (g := isAggT P e) (shs := l) hagg rfl (w := w) len c y fun i hi => (hy i hi).2
                  have hcell : ∀ i, i < len → (c i).length = l.length ∧ ∀ j, j < l.length → w.cell? ((a.add (i * l.length)).add j) = (c i)[j]? := by
                    intro i hi
                    obtain ⟨_, e1, e2⟩ := World.cells?_some (hy i hi).1
                    rw [← hlc] at e1 e2
                    exact ⟨e1, e2⟩
                  have hspot : a.spot = none := by
                    have h1 := (hcell 0 h0).2 0 hpos
                    rw [List.getElem?_eq_getElem (by rw [(hcell 0 h0).1]; exact hpos)] at h1
                    simpa [Addr.add] using World.cell?_spot h1
                  have hblk : a.block < w.heap.size := by
                    have h1 := (hcell 0 h0).2 0 hpos
                    rw [List.getElem?_eq_getElem (by rw [(hcell 0 h0).1]; exact hpos)] at h1
                    simpa [Addr.add] using World.block_lt_of_cell? w _ h1
                  obtain ⟨b, o, spot⟩ := a
                  simp only at hspot hblk
                  subst hspot
                  have hadd : ∀ i j, ((Addr.mk b o none).add i).add j = ⟨b, o + i + j, none⟩ := by
                    intro i j
                    unfold Addr.add
                    split <;> split <;> simp_all
                  refine ⟨[.sl l.length xs], ⟨_, [], rfl, ?_, rfl⟩, ⟨_, [], rfl, ?_, by simp [CRep]⟩⟩
                  · simp only [FitC]
                    exact ⟨xs, rfl, by omega, x3⟩
                  · simp only [VRep]
                    refine .inr ⟨b, o, cap, _, by rw [x1], by omega, fun h => h, hblk, ?_, x2⟩
                    intro k v hk
                    have key2 : ∀ (m : Nat) (base : Nat), (∀ i, i < m → (c (base + i)).length = l.length) → ∀ k v, ((List.range m).flatMap fun i => c (base + i))[k]? = some v → ∃ i j, i < m ∧ j < l.length ∧ k = i * l.length + j ∧ (c (base + i))[j]? = some v := by
                      intro m
                      induction m with
                      | zero => intro base _ k v hk; simp at hk
                      | succ m ihm =>
                        intro base hl0 k v hk
                        rw [List.range_succ_eq_map, List.flatMap_cons, List.flatMap_map] at hk
                        have h00 := hl0 0 (by omega)
                        rw [Nat.add_zero] at h00 hk
                        rcases Nat.lt_or_ge k l.length with hkl | hkl
                        · rw [List.getElem?_append_left (by rw [h00]; exact hkl)] at hk
                          exact ⟨0, k, by omega, hkl, by omega, by simpa using hk⟩
                        · rw [List.getElem?_append_right (by rw [h00]; exact hkl), h00] at hk
                          have hk' : ((List.range m).flatMap fun i => c (base + 1 + i))[k - l.length]? = some v := by
                            rw [← hk]; congr 2; funext i; congr 1; omega
                          obtain ⟨i, j, a1, a2, a3, a4⟩ := ihm (base + 1) (fun i hi => by have := hl0 (i + 1) (by omega); rw [← this]; congr 2; omega) (k - l.length) v hk'
                          refine ⟨i + 1, j, by omega, a2, ?_, by rw [← a4]; congr 2; omega⟩
                          rw [Nat.add_mul, Nat.one_mul]; omega
                    obtain ⟨i, j, a1, a2, rfl, a4⟩ := key2 len 0 (fun i hi => by rw [Nat.zero_add]; exact (hcell i hi).1) k v (by simpa using hk)
                    rw [Nat.zero_add] at a4
                    have := (hcell i a1).2 j a2
                    rw [hadd] at this
                    show w.cell? ⟨b, o + (i * l.length + j), none⟩ = _
                    rw [← Nat.add_assoc, this]; exact a4
            · cases hs
          · cases hs
        | _ => cases hs
theorem isAgg_false {t : TypeId} {u : TypeDesc} (h : P.underlying t = some u) (h1 : ∀ fs, u ≠ .struct fs) (h2 : ∀ n e, u ≠ .array n e) : isAggT P t = false := by
  unfold isAggT
  rw [h]
  cases u <;> simp_all
theorem open_one {t : TypeId} {v : Value} {shs : List Sh} {ys : List V} (ha : isAggT P t = false) (hc : v.cells.toList = [v]) (k1 : FitL shs ys) (k2 : CRep (Rd0 w) ys v.cells.toList) : ∃ x, FitV (isAggT P t) shs x ∧ VRep (Rd0 w) x v := by
  rw [hc] at k2
  cases ys with
  | nil => simp [CRep] at k2
  | cons y ys =>
    simp only [CRep] at k2
    obtain ⟨u, r, he, hv, hr⟩ := k2
    simp only [List.cons.injEq] at he
    obtain ⟨rfl, rfl⟩ := he
    cases ys with
    | nil => exact ⟨y, .inr ⟨ha, k1⟩, hv⟩
    | cons z zs => simp [CRep] at hr
/-- An argument of a law: what it is, with no memory. -/
theorem open_arg {r : Reach} {b0 : Nat} {t : TypeId} {v : Value} {d : DataW H} {ps : List MemPlace} {shs : List Sh} {dep : Nat} (hval : Value.okWide P w r b0 t v) (h : DataW.Trod enc P w 0 spare held t v d ps) (hs : shC P (dep + 1) t = some shs) :
    ∃ x, FitV (isAggT P t) shs x ∧ VRep (Rd0 w) x v := by
  obtain ⟨fuel, h⟩ := h
  obtain ⟨ys, k1, k2⟩ := open_cells fuel (dep + 1) t _ _ shs h hs
  simp only [shC] at hs
  cases hu : P.underlying t with
  | none => rw [hu] at hs; cases hs
  | some u =>
    rw [hu] at hs
    cases u with
    | bool =>
      obtain ⟨b, rfl⟩ := okWide_bool hu hval
      exact open_one (isAgg_false hu (fun _ h => by cases h) (fun _ _ h => by cases h)) (by rfl) k1 k2
    | int k =>
      obtain ⟨b, rfl⟩ := okWide_int hu hval
      exact open_one (isAgg_false hu (fun _ h => by cases h) (fun _ _ h => by cases h)) (by rfl) k1 k2
    | string =>
      obtain ⟨b, rfl⟩ := okWide_string hu hval
      exact open_one (isAgg_false hu (fun _ h => by cases h) (fun _ _ h => by cases h)) (by rfl) k1 k2
    | slice e =>
      obtain ⟨a, l, c, rfl⟩ := okWide_slice hu hval
      exact open_one (isAgg_false hu (fun _ h => by cases h) (fun _ _ h => by cases h)) (by rfl) k1 k2
    | struct fs =>
      obtain ⟨cs, rfl, _⟩ := okWide_struct hu hval
      have ha : isAggT P t = true := by unfold isAggT; rw [hu]
      refine ⟨.agg ys, .inl ⟨ha, ys, rfl, k1⟩, ?_⟩
      simp only [VRep]
      exact ⟨cs.toList, by simp, k2⟩
    | _ => cases hs
/-! ### A law -/
theorem law_of {f : FuncId} {args : List V} {vals : List Value} {r : V} {b : Bool} (h : BCall P f args [] (fun x _ => x = .bool b)) (hv : CRep (Rd0 w) args vals) :
    Calls P f vals.toArray w fun e w' => e = .returned (.bool b) ∧ Below w.heap.size w w' := by
  have hC : HRep ⟨w, fun _ => none, [], fun _ => False⟩ :=
    ⟨fun g e hg => by simp at hg, fun g g' e e' b c c' hg => by simp at hg, fun b hb => (by obtain ⟨g, e, c, h1, _⟩ := hb; simp at h1), fun b hb => hb.elim⟩
  have hR : (Ctx.mk w (fun _ => none) [] (fun _ => False)).R = Rd0 w := by
    have h1 : (Ctx.mk w (fun _ => none) [] (fun _ => False)).av = fun _ => False := by
      funext b
      refine propext ⟨fun k => ?_, fun k => k.elim⟩
      rcases k with ⟨g, e, c, h1, _⟩ | k
      · simp at h1
      · exact k
    have h2 : (Ctx.mk w (fun _ => none) [] (fun _ => False)).sh = fun _ => none := by funext g; simp [Ctx.sh]
    simp only [Ctx.R, Rd0, h1, h2]
  refine Calls.mono (h.2 ⟨w, fun _ => none, [], fun _ => False⟩ vals rfl hC (by rw [hR]; exact hv)) ?_
  rintro e w' ⟨C', x, v, rfl, rfl, ht, _, hx, rfl⟩
  simp only [VRep] at hx
  subst hx
  exact ⟨rfl, ht.os, ht.tape, ht.output, ht.size, fun k hk => (ht.keep k hk (by rintro ⟨g, e, c, h1, _⟩; simp at h1)).1⟩
end
end Go.Av
