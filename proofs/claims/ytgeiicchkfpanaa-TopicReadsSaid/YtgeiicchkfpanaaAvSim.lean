/- A part of a way to reckon what a Go program does without its memory (AvSim). -/
import Derived.Test.YtgeiicchkfpanaaAvDr
import Derived.Laws.BitsLemmas
import Derived.IntWalk
namespace Go.Av
open Go
set_option autoImplicit false
set_option linter.all false
/-! ### Rules by which the reckoning goes on -/
theorem beqd {α : Type} [BEq α] [LawfulBEq α] [DecidableEq α] (a b : α) : (a == b) = decide (a = b) := by
  rw [Bool.eq_iff_iff]; simp
def takeO : Nat → List V → Option (List V)
  | 0, _ => some []
  | n + 1, a :: l => (takeO n l).map (a :: ·)
  | _ + 1, [] => none
/-- So many cells as a value: none, if there are fewer. -/
def partO : Nat → Bool → List V → Option V
  | n, true, l => (takeO n l).map .agg
  | n + 1, false, a :: l => (takeO n l).map (fun _ => a)
  | 0, false, l => some (nth l 0)
  | _, _, _ => none
def ldC (r : Option V) (H : List Entry) (k : KV) : Prop := match r with | some v => k v H | none => False
theorem takeO_some : ∀ (n : Nat) (l : List V), n ≤ l.length → takeO n l = some (l.take n)
  | 0, l, _ => by simp [takeO]
  | n + 1, [], h => by simp at h
  | n + 1, a :: l, h => by simp [takeO, takeO_some n l (by simpa using h)]
theorem takeO_none : ∀ (n : Nat) (l : List V), ¬ n ≤ l.length → takeO n l = none
  | 0, l, h => by simp at h
  | n + 1, [], _ => rfl
  | n + 1, a :: l, h => by simp [takeO, takeO_none n l (by simpa using h)]
theorem partO_eq (n : Nat) (g : Bool) (l : List V) : partO n g l = if n ≤ l.length then some (part n g l) else none := by
  by_cases h : n ≤ l.length
  · rw [if_pos h]
    cases g
    · cases n with
      | zero => cases l <;> rfl
      | succ n =>
        cases l with
        | nil => simp at h
        | cons a l => simp only [partO, takeO_some n l (by simpa using h)]; rfl
    · cases n <;> cases l <;> simp only [partO, takeO_some _ _ h] <;> rfl
  · rw [if_neg h]
    cases g
    · cases n with
      | zero => simp at h
      | succ n =>
        cases l with
        | nil => rfl
        | cons a l => simp only [partO, takeO_none n l (by simpa using h)]; rfl
    · cases n <;> cases l <;> simp only [partO, takeO_none _ _ h] <;> rfl
theorem ldC_part {n : Nat} {g : Bool} {l : List V} {H : List Entry} {k : KV} : (n ≤ l.length ∧ k (part n g l) H) = ldC (partO n g l) H k := by
  rw [partO_eq]
  by_cases h : n ≤ l.length
  · simp only [h, if_pos, ldC, true_and]
  · simp only [h, if_neg, not_false_eq_true, ldC, false_and]
theorem ldC_drop {n o : Nat} {g : Bool} {l : List V} {H : List Entry} {k : KV} : (o + (n + 1) ≤ l.length ∧ k (part (n + 1) g (l.drop o)) H) = ldC (partO (n + 1) g (l.drop o)) H k := by
  rw [← ldC_part, List.length_drop]
  by_cases h : o + (n + 1) ≤ l.length
  · have : n + 1 ≤ l.length - o := by omega
    simp only [h, this]
  · have : ¬ n + 1 ≤ l.length - o := by omega
    simp only [h, this]
def getO : List V → Nat → Option V
  | a :: _, 0 => some a
  | _ :: l, i + 1 => getO l i
  | [], _ => none
theorem ldC_get {H : List Entry} {k : KV} : ∀ {l : List V} {i : Nat}, (i < l.length ∧ k (nth l i) H) = ldC (getO l i) H k
  | [], i => by simp [getO, ldC]
  | a :: l, 0 => by simp [getO, ldC, nth]
  | a :: l, i + 1 => by
    have := ldC_get (H := H) (k := k) (l := l) (i := i)
    simpa [getO, nth] using this
def bldN (r : Option (List V)) (l : List (Nat × Nat × V)) : Option (List V) := match r with | some cs => bldO cs l | none => none
def stC (r : Option (List V)) (ok : Bool) (j : Nat) (H : List Entry) (k : KV) : Prop := match r, ok with | some cs, true => k undefV (H.set j (.box cs)) | _, _ => False
def stR (r : Option (List V)) (ok no : Bool) (x : V) (i j E m : Nat) (xs : List V) (H : List Entry) (k : KV) : Prop :=
  match r, ok, no with
  | some cs, true, true => unc x cs ≠ .junk ∧ k undefV (H.set j (.row E m (xs.set i (unc x cs))))
  | _, _, _ => False
def rowOfC (n l i j : Nat) (e : Option Entry) : Option (List V) :=
  match e with
  | some (.row _ m xs) => if m = n ∧ xs.length = l then some ((xs.take j).drop i) else none
  | _ => none
def rowOf (n l : Nat) (e : Option Entry) : Option (List V) :=
  match e with
  | some (.row _ m xs) | some (.irow m xs) => if m = n ∧ xs.length = l then some xs else none
  | _ => none
def mksB (ok : Bool) (E n a : Nat) (v : V) (H : List Entry) (k : KV) : Prop := match ok with | true => k (.own H.length a) (H ++ [.row E n (List.replicate a v)]) | false => False
def slsC (s : List UInt8) (lo hi : Option Int) (H : List Entry) (k : KV) : Prop :=
  match lo, hi with
  | some a, some b => (0 ≤ a ∧ a ≤ b ∧ b ≤ s.length) ∧ k (.str ((s.take b.toNat).drop a.toNat)) H
  | _, _ => False
def resCK (l : List RA) (acc : List V) (k : KV) (e : List V) : KV := fun v H => resK l (acc ++ [v]) k e H
section
variable {P : Program} {n0 : Nat} {Q : KQ} {e : List V} {H : List Entry} {K : K1} {k : KV}
@[go_sem] theorem x_skip  : awp P n0 .skip Q e H = Q .norm e H := (rfl)
@[go_sem] theorem x_ops {l : List AO} : awp P n0 (.ops l) Q e H = ops P l (Q .norm) e H := (rfl)
@[go_sem] theorem x_drawX0 {ps : List (Nat × Nat)} {l : List AO} : awp P n0 (.drawX [] ps l) Q e H = ops P l (sepK ps (Q .norm)) e H := (rfl)
@[go_sem] theorem x_drawX1 {b : List V} {bs : List (List V)} {ps : List (Nat × Nat)} {l : List AO} : awp P n0 (.drawX (b :: bs) ps l) Q e H = ops P (rsvL H.length l) (sepK ps (Q .norm)) e (H ++ .box b :: bs.map .box) := (rfl)
@[go_sem] theorem x_sepK {ps : List (Nat × Nat)} {K : K1} : sepK ps K e H = (sepAll e ps ∧ K e H) := (rfl)
@[go_sem] theorem x_sepA0 : sepAll e [] = True := (rfl)
@[go_sem] theorem x_sepAS {t u : Nat} {l : List (Nat × Nat)} : sepAll e ((t, u) :: l) = (sepV (nth e t) (nth e u) = true ∧ sepAll e l) := (rfl)
@[go_sem] theorem x_sepV {a b : V} : sepV a b = sepN (gid a) (gid b) := (rfl)
@[go_sem] theorem x_sepN {g h : Nat} (hn : g ≠ h) : sepN (some g) (some h) = true := by
  simp only [sepN, Bool.not_eq_true']
  cases hb : Nat.beq g h
  · rfl
  · exact absurd (Nat.eq_of_beq_eq_true hb) hn
@[go_sem] theorem x_sepN0 {b : Option Nat} : sepN none b = true := by cases b <;> rfl
@[go_sem] theorem x_sepN1 {a : Option Nat} : sepN a none = true := by cases a <;> rfl
@[go_sem] theorem x_rsv0 {n : Nat} : rsvL n [] = [] := (rfl)
@[go_sem] theorem x_rsvS {n : Nat} {d : Option Nat} {o : AOp} {g : Option (Nat × Bool)} {l : List AO} : rsvL n (⟨d, o, g⟩ :: l) = ⟨d, rsvO n o, g⟩ :: rsvL n l := (rfl)
@[go_sem] theorem x_map_nil {f : List V → Entry} : ([] : List (List V)).map f = [] := (rfl)
@[go_sem] theorem x_map_cons {f : List V → Entry} {b : List V} {bs : List (List V)} : (b :: bs).map f = f b :: bs.map f := (rfl)
@[go_sem] theorem x_ro_mv {n : Nat} {x0 : Opd} : rsvO n (.mv x0) = .mv x0 := (rfl)
@[go_sem] theorem x_ro_nck {n : Nat} {x0 : Opd} : rsvO n (.nck x0) = .nck x0 := (rfl)
@[go_sem] theorem x_ro_pick {n : Nat} {x0 : Opd} {x1 : Opd} {x2 : Opd} : rsvO n (.pick x0 x1 x2) = .pick x0 x1 x2 := (rfl)
@[go_sem] theorem x_ro_box {n : Nat} {x0 : Opd} : rsvO n (.box x0) = .box x0 := (rfl)
@[go_sem] theorem x_ro_alloc {n : Nat} {x0 : List V} : rsvO n (.alloc x0) = .alloc x0 := (rfl)
@[go_sem] theorem x_ro_build {n : Nat} {x0 : List V} {x1 : List (Nat × Nat × Opd)} : rsvO n (.build x0 x1) = .build x0 x1 := (rfl)
@[go_sem] theorem x_ro_bsl {n : Nat} {x0 : Nat} {x1 : Bool} {x2 : List Opd} : rsvO n (.bsl x0 x1 x2) = .bsl x0 x1 x2 := (rfl)
@[go_sem] theorem x_ro_mks {n : Nat} {x0 : Nat} {x1 : Nat} {x2 : Bool} {x3 : List V} {x4 : Nat} {x5 : Opd} {x6 : Opd} : rsvO n (.mks x0 x1 x2 x3 x4 x5 x6) = .mks x0 x1 x2 x3 x4 x5 x6 := (rfl)
@[go_sem] theorem x_ro_load {n : Nat} {x0 : Nat} {x1 : Bool} {x2 : Opd} : rsvO n (.load x0 x1 x2) = .load x0 x1 x2 := (rfl)
@[go_sem] theorem x_ro_store {n : Nat} {x0 : Nat} {x1 : Opd} {x2 : Opd} : rsvO n (.store x0 x1 x2) = .store x0 x1 x2 := (rfl)
@[go_sem] theorem x_ro_bin {n : Nat} {x0 : BinOp} {x1 : Opd} {x2 : Opd} : rsvO n (.bin x0 x1 x2) = .bin x0 x1 x2 := (rfl)
@[go_sem] theorem x_ro_binb {n : Nat} {x0 : Bool} {x1 : Opd} {x2 : Opd} : rsvO n (.binb x0 x1 x2) = .binb x0 x1 x2 := (rfl)
@[go_sem] theorem x_ro_cnil {n : Nat} {x0 : Nat} {x1 : Bool} {x2 : Opd} {x3 : Opd} : rsvO n (.cnil x0 x1 x2 x3) = .cnil x0 x1 x2 x3 := (rfl)
@[go_sem] theorem x_ro_cnild {n : Nat} {x0 : Nat} {x1 : Bool} {x2 : Opd} {x3 : Opd} : rsvO n (.cnild x0 x1 x2 x3) = .cnild x0 x1 x2 x3 := (rfl)
@[go_sem] theorem x_ro_eqa {n : Nat} {x0 : Bool} {x1 : List Nat} {x2 : Opd} {x3 : Opd} : rsvO n (.eqa x0 x1 x2 x3) = .eqa x0 x1 x2 x3 := (rfl)
@[go_sem] theorem x_ro_un {n : Nat} {x0 : UnOp} {x1 : Opd} : rsvO n (.un x0 x1) = .un x0 x1 := (rfl)
@[go_sem] theorem x_ro_fad {n : Nat} {x0 : Nat} {x1 : Opd} : rsvO n (.fad x0 x1) = .fad x0 x1 := (rfl)
@[go_sem] theorem x_ro_fld {n : Nat} {x0 : Nat} {x1 : Nat} {x2 : Bool} {x3 : Opd} : rsvO n (.fld x0 x1 x2 x3) = .fld x0 x1 x2 x3 := (rfl)
@[go_sem] theorem x_ro_iad {n : Nat} {x0 : Nat} {x1 : Bool} {x2 : Opd} {x3 : Opd} : rsvO n (.iad x0 x1 x2 x3) = .iad x0 x1 x2 x3 := (rfl)
@[go_sem] theorem x_ro_iaa {n : Nat} {x0 : Nat} {x1 : Nat} {x2 : Opd} {x3 : Opd} : rsvO n (.iaa x0 x1 x2 x3) = .iaa x0 x1 x2 x3 := (rfl)
@[go_sem] theorem x_ro_ixs {n : Nat} {x0 : Opd} {x1 : Opd} : rsvO n (.ixs x0 x1) = .ixs x0 x1 := (rfl)
@[go_sem] theorem x_ro_ixa {n : Nat} {x0 : Nat} {x1 : Nat} {x2 : Bool} {x3 : Opd} {x4 : Opd} : rsvO n (.ixa x0 x1 x2 x3 x4) = .ixa x0 x1 x2 x3 x4 := (rfl)
@[go_sem] theorem x_ro_cvi {n : Nat} {x0 : IntKind} {x1 : Opd} : rsvO n (.cvi x0 x1) = .cvi x0 x1 := (rfl)
@[go_sem] theorem x_ro_cvs {n : Nat} {x0 : Opd} : rsvO n (.cvs x0) = .cvs x0 := (rfl)
@[go_sem] theorem x_ro_b2s {n : Nat} {x0 : Opd} : rsvO n (.b2s x0) = .b2s x0 := (rfl)
@[go_sem] theorem x_ro_mkfn {n : Nat} {x0 : FuncId} {x1 : List Opd} {x2 : List Opd} : rsvO n (.mkfn x0 x1 x2) = .mkfn x0 x1 x2 := (rfl)
@[go_sem] theorem x_ro_mkm {n : Nat} : rsvO n (.mkm) = .mkm := (rfl)
@[go_sem] theorem x_ro_mput {n : Nat} {x0 : Bool} {x1 : List Nat} {x2 : Opd} {x3 : Opd} {x4 : Opd} : rsvO n (.mput x0 x1 x2 x3 x4) = .mput x0 x1 x2 x3 x4 := (rfl)
@[go_sem] theorem x_ro_mget {n : Nat} {x0 : Bool} {x1 : List Nat} {x2 : V} {x3 : Bool} {x4 : Opd} {x5 : Opd} : rsvO n (.mget x0 x1 x2 x3 x4 x5) = .mget x0 x1 x2 x3 x4 x5 := (rfl)
@[go_sem] theorem x_ro_mdel {n : Nat} {x0 : Bool} {x1 : List Nat} {x2 : Opd} {x3 : Opd} : rsvO n (.mdel x0 x1 x2 x3) = .mdel x0 x1 x2 x3 := (rfl)
@[go_sem] theorem x_ro_len {n : Nat} {x0 : Nat} {x1 : Opd} : rsvO n (.len x0 x1) = .len x0 x1 := (rfl)
@[go_sem] theorem x_ro_app {n : Nat} {x0 : Nat} {x1 : Nat} {x2 : Nat} {x3 : Bool} {x4 : Opd} {x5 : Opd} : rsvO n (.app x0 x1 x2 x3 x4 x5) = .app x0 x1 x2 x3 x4 x5 := (rfl)
@[go_sem] theorem x_ro_apps {n : Nat} {x0 : Nat} {x1 : Nat} {x2 : Opd} {x3 : Opd} : rsvO n (.apps x0 x1 x2 x3) = .apps x0 x1 x2 x3 := (rfl)
@[go_sem] theorem x_ro_copy {n : Nat} {x0 : Nat} {x1 : Opd} {x2 : Opd} : rsvO n (.copy x0 x1 x2) = .copy x0 x1 x2 := (rfl)
@[go_sem] theorem x_ro_slc {n : Nat} {x0 : Nat} {x1 : Opd} {x2 : Option Opd} {x3 : Option Opd} {x4 : Option Opd} : rsvO n (.slc x0 x1 x2 x3 x4) = .slc x0 x1 x2 x3 x4 := (rfl)
@[go_sem] theorem x_ro_sls {n : Nat} {x0 : Opd} {x1 : Option Opd} {x2 : Option Opd} : rsvO n (.sls x0 x1 x2) = .sls x0 x1 x2 := (rfl)
@[go_sem] theorem x_ro_call {n : Nat} {x0 : Opd} {x1 : List Opd} : rsvO n (.call x0 x1) = .call x0 x1 := (rfl)
@[go_sem] theorem x_ro_dcall {n : Nat} {x0 : Opd} {x1 : List Opd} : rsvO n (.dcall x0 x1) = .dcall x0 x1 := (rfl)
@[go_sem] theorem x_ro_mcall {n : Nat} {x0 x1 : Opd} {x2 : List Opd} : rsvO n (.mcall x0 x1 x2) = .mcall x0 x1 x2 := (rfl)
@[go_sem] theorem x_ro_pcall {n : Nat} {x0 : Opd} {x1 : List Opd} : rsvO n (.pcall x0 x1) = .pcall x0 x1 := (rfl)
@[go_sem] theorem x_ro_alcR {n : Nat} {x0 : Nat} {x1 : List V} : rsvO n (.alcR x0 x1) = .mv (.c (.ptr (n + x0) 0)) := (rfl)
@[go_sem] theorem x_ro_bslm {n : Nat} {x0 : Nat} {x1 : Bool} {x2 : List Opd} : rsvO n (.bslm x0 x1 x2) = .bslm x0 x1 x2 := (rfl)
@[go_sem] theorem x_ro_slcm {n : Nat} {x0 : Nat} {x1 : Opd} {x2 : Option Opd} {x3 : Option Opd} {x4 : Option Opd} : rsvO n (.slcm x0 x1 x2 x3 x4) = .slcm x0 x1 x2 x3 x4 := (rfl)
@[go_sem] theorem x_ro_mnx {n : Nat} {x0 : Bool} {x1 : List Opd} : rsvO n (.mnx x0 x1) = .mnx x0 x1 := (rfl)
@[go_sem] theorem x_ro_rng {n : Nat} {x0 : Opd} : rsvO n (.rng x0) = .rng x0 := (rfl)
@[go_sem] theorem x_ro_nxt {n : Nat} {x0 : Bool} {x1 : Opd} : rsvO n (.nxt x0 x1) = .nxt x0 x1 := (rfl)
@[go_sem] theorem x_ro_ext {n : Nat} {x0 : Opd} {x1 : Nat} : rsvO n (.ext x0 x1) = .ext x0 x1 := (rfl)
@[go_sem] theorem x_ro_bad {n : Nat} : rsvO n (.bad) = .bad := (rfl)
@[go_sem] theorem x_gid_bool {x0 : Bool} : gid (.bool x0 : V) = none := (rfl)
@[go_sem] theorem x_gid_int {x0 : IntKind} {x1 : Int} : gid (.int x0 x1 : V) = none := (rfl)
@[go_sem] theorem x_gid_str {x0 : List UInt8} : gid (.str x0 : V) = none := (rfl)
@[go_sem] theorem x_gid_agg {x0 : List V} : gid (.agg x0 : V) = none := (rfl)
@[go_sem] theorem x_gid_tup {x0 : List V} : gid (.tup x0 : V) = none := (rfl)
@[go_sem] theorem x_gid_nilsl : gid (.nilsl : V) = none := (rfl)
@[go_sem] theorem x_gid_sl {x0 : Nat} {x1 : List V} : gid (.sl x0 x1 : V) = none := (rfl)
@[go_sem] theorem x_gid_slx {x0 : Nat} {x1 : List V} : gid (.slx x0 x1 : V) = none := (rfl)
@[go_sem] theorem x_gid_own {x0 : Nat} {x1 : Nat} : gid (.own x0 x1 : V) = some x0 := (rfl)
@[go_sem] theorem x_gid_nilp : gid (.nilp : V) = none := (rfl)
@[go_sem] theorem x_gid_ref {x0 : List V} : gid (.ref x0 : V) = none := (rfl)
@[go_sem] theorem x_gid_ptr {x0 : Nat} {x1 : Nat} : gid (.ptr x0 x1 : V) = some x0 := (rfl)
@[go_sem] theorem x_gid_eptr {x0 : Nat} {x1 : Nat} {x2 : Nat} {x3 : Nat} : gid (.eptr x0 x1 x2 x3 : V) = some x0 := (rfl)
@[go_sem] theorem x_gid_cut {x0 : Nat} {x1 : Nat} {x2 : Nat} {x3 : Nat} : gid (.cut x0 x1 x2 x3 : V) = some x0 := (rfl)
@[go_sem] theorem x_gid_nilfn : gid (.nilfn : V) = none := (rfl)
@[go_sem] theorem x_gid_fn {x0 : FuncId} {x1 : List V} {x2 : List V} : gid (.fn x0 x1 x2 : V) = none := (rfl)
@[go_sem] theorem x_gid_nilmap : gid (.nilmap : V) = none := (rfl)
@[go_sem] theorem x_gid_map {x0 : Nat} : gid (.map x0 : V) = some x0 := (rfl)
@[go_sem] theorem x_gid_it {x0 : Nat} : gid (.it x0 : V) = some x0 := (rfl)
@[go_sem] theorem x_gid_junk : gid (.junk : V) = none := (rfl)
@[go_sem] theorem x_draw {l : List AO} : awp P n0 (.draw l) Q e H = ops P l (Q .norm) e H := (rfl)
@[go_sem] theorem x_seq {a b : AC} : awp P n0 (.seq a b) Q e H = awp P n0 a (seqK (awp P n0 b Q) Q) e H := (rfl)
@[go_sem] theorem x_cond {x : Opd} {a b : AC} : awp P n0 (.cond x a b) Q e H = condK (ev e x) (awp P n0 a Q) (awp P n0 b Q) e H := (rfl)
@[go_sem] theorem x_block {i : Nat} {a : AC} : awp P n0 (.block i a) Q e H = awp P n0 a (blockK i Q) e H := (rfl)
@[go_sem] theorem x_loop {a : AC} : awp P n0 (.loop a) Q e H = LoopP n0 (awp P n0 a) Q e H := (rfl)
@[go_sem] theorem x_exit {i : Nat} : awp P n0 (.exit i) Q e H = Q (.exit i) e H := (rfl)
@[go_sem] theorem x_scope {a : AC} : awp P n0 (.scope a) Q e H = awp P n0 a Q e H := (rfl)
@[go_sem] theorem x_ret  : awp P n0 .ret Q e H = Q .ret e H := (rfl)
@[go_sem] theorem x_wk {a : AC} : awp P n0 (.wk a) Q e H = WkP n0 (awp P n0 a Q) e H := (rfl)
@[go_sem] theorem x_condT {a b : K1} : condK (.bool true) a b e H = a e H := (rfl)
@[go_sem] theorem x_condF {a b : K1} : condK (.bool false) a b e H = b e H := (rfl)
@[go_sem] theorem x_condN {a b : K1} {c : Bool} : condK (.bool (!c)) a b e H = condK (.bool c) b a e H := by cases c <;> rfl
@[go_sem] theorem x_condPT {a b : K1} {p : Prop} [Decidable p] (h : p) : condK (.bool (decide p)) a b e H = a e H := by simp only [h, decide_true]; exact (rfl)
@[go_sem] theorem x_condPF {a b : K1} {p : Prop} [Decidable p] (h : ¬ p) : condK (.bool (decide p)) a b e H = b e H := by simp only [h, decide_false]; exact (rfl)
@[go_sem] theorem x_seqN {a : K1} : seqK a Q .norm e H = a e H := (rfl)
@[go_sem] theorem x_seqR {a : K1} : seqK a Q .ret e H = Q .ret e H := (rfl)
@[go_sem] theorem x_seqE {a : K1} {i : Nat} : seqK a Q (.exit i) e H = Q (.exit i) e H := (rfl)
@[go_sem] theorem x_blkN {i : Nat} : blockK i Q .norm e H = Q .norm e H := (rfl)
@[go_sem] theorem x_blkR {i : Nat} : blockK i Q .ret e H = Q .ret e H := (rfl)
@[go_sem] theorem x_blkE {i j : Nat} : blockK i Q (.exit j) e H = bif j == i then Q .norm e H else Q (.exit j) e H := (rfl)
@[go_sem] theorem x_rdR {I : Nat → K1} {n : Nat} : roundK n0 I n Q .ret e H = Q .ret e H := (rfl)
@[go_sem] theorem x_rdE {I : Nat → K1} {n i : Nat} : roundK n0 I n Q (.exit i) e H = Q (.exit i) e H := (rfl)
@[go_sem] theorem x_finN {rs : List RA} : finK rs k .norm e H = resK rs [] k e H := (rfl)
@[go_sem] theorem x_finR {rs : List RA} : finK rs k .ret e H = resK rs [] k e H := (rfl)
@[go_sem] theorem x_res0 {acc : List V} : resK [] acc k e H = k (oneV acc) H := (rfl)
@[go_sem] theorem x_resT {acc : List V} {t : Nat} {l : List RA} : resK (.tmp t :: l) acc k e H = resK l (acc ++ [nth e t]) k e H := (rfl)
@[go_sem] theorem x_resC {acc : List V} {a n : Nat} {g : Bool} {l : List RA} : resK (.cell a n g :: l) acc k e H = loadK n g (nth e a) H (resCK l acc k e) := (rfl)
@[go_sem] theorem x_resCK {acc : List V} {v : V} {l : List RA} : resCK l acc k e v H = resK l (acc ++ [v]) k e H := (rfl)
@[go_sem] theorem x_one1 {v : V} : oneV [v] = v := (rfl)
@[go_sem] theorem x_one2 {a b : V} {l : List V} : oneV (a :: b :: l) = .tup (a :: b :: l) := (rfl)
@[go_sem] theorem x_one0  : oneV [] = .tup [] := (rfl)
@[go_sem] theorem x_nil  : ops P [] K e H = K e H := (rfl)
@[go_sem] theorem x_cons {d : Option Nat} {o : AOp} {l : List AO} : ops P (⟨d, o, none⟩ :: l) K e H = step P o e H (putK P d l K e) := (rfl)
@[go_sem] theorem x_consg {d : Option Nat} {o : AOp} {t : Nat} {b : Bool} {l : List AO} : ops P (⟨d, o, some (t, b)⟩ :: l) K e H = gdK P (nth e t) b o (putK P d l K e) e H := by
  simp only [ops, opK, gdK]; exact (rfl)
@[go_sem] theorem x_gdTT {o : AOp} : gdK P (.bool true) true o k e H = step P o e H k := (rfl)
@[go_sem] theorem x_gdFF {o : AOp} : gdK P (.bool false) false o k e H = step P o e H k := (rfl)
@[go_sem] theorem x_gdTF {o : AOp} : gdK P (.bool true) false o k e H = k undefV H := (rfl)
@[go_sem] theorem x_gdFT {o : AOp} : gdK P (.bool false) true o k e H = k undefV H := (rfl)
@[go_sem] theorem x_gdU {o : AOp} {b : Bool} {l : List V} : gdK P (.tup l) b o k e H = k undefV H := (rfl)
@[go_sem] theorem x_gdN {o : AOp} {b c : Bool} : gdK P (.bool (!c)) b o k e H = gdK P (.bool c) (!b) o k e H := by cases c <;> cases b <;> rfl
@[go_sem] theorem x_gdPT {o : AOp} {b : Bool} {p : Prop} [Decidable p] (h : p) : gdK P (.bool (decide p)) b o k e H = gdK P (.bool true) b o k e H := by simp only [h, decide_true]
@[go_sem] theorem x_gdPF {o : AOp} {b : Bool} {p : Prop} [Decidable p] (h : ¬ p) : gdK P (.bool (decide p)) b o k e H = gdK P (.bool false) b o k e H := by simp only [h, decide_false]
@[go_sem] theorem x_undef  : undefV = .tup [] := (rfl)
@[go_sem] theorem x_put {d : Nat} {l : List AO} {v : V} : putK P (some d) l K e v H = ops P l K (setAt e d v) H := (rfl)
@[go_sem] theorem x_putn {l : List AO} {v : V} : putK P none l K e v H = ops P l K e H := (rfl)
@[go_sem] theorem x_evt {i : Nat} : ev e (.t i) = nth e i := (rfl)
@[go_sem] theorem x_evc {v : V} : ev e (.c v) = v := (rfl)
@[go_sem] theorem x_nth0 {a : V} {l : List V} : nth (a :: l) 0 = a := (rfl)
@[go_sem] theorem x_nthS {a : V} {l : List V} {n : Nat} : nth (a :: l) (n + 1) = nth l n := (rfl)
@[go_sem] theorem x_set0 {a v : V} {l : List V} : setAt (a :: l) 0 v = v :: l := (rfl)
@[go_sem] theorem x_setS {a v : V} {l : List V} {n : Nat} : setAt (a :: l) (n + 1) v = a :: setAt l n v := (rfl)
@[go_sem] theorem x_evs0  : evs e [] = [] := (rfl)
@[go_sem] theorem x_evsS {x : Opd} {l : List Opd} : evs e (x :: l) = ev e x :: evs e l := (rfl)
@[go_sem] theorem x_evo0  : evo e none = none := (rfl)
@[go_sem] theorem x_evoS {x : Opd} : evo e (some x) = some (ev e x) := (rfl)
@[go_sem] theorem x_evp0  : evp e [] = [] := (rfl)
@[go_sem] theorem x_evpS {a n : Nat} {x : Opd} {l : List (Nat × Nat × Opd)} : evp e ((a, n, x) :: l) = (a, n, ev e x) :: evp e l := (rfl)
@[go_sem] theorem o_mv {x : Opd} : step P (.mv x) e H k = k (ev e x) H := (rfl)
@[go_sem] theorem o_nck {x : Opd} : step P (.nck x) e H k = nckK (ev e x) H k := (rfl)
@[go_sem] theorem o_pick {a b c : Opd} : step P (.pick a b c) e H k = pickK (ev e a) (ev e b) (ev e c) H k := (rfl)
@[go_sem] theorem o_box {x : Opd} : step P (.box x) e H k = boxK (cellsO (ev e x)) H k := (rfl)
@[go_sem] theorem o_alloc {cs : List V} : step P (.alloc cs) e H k = k (.ptr H.length 0) (H ++ [.box cs]) := (rfl)
@[go_sem] theorem o_build {cs : List V} {ps : List (Nat × Nat × Opd)} : step P (.build cs ps) e H k = bldK (bldO cs (evp e ps)) H k := (rfl)
@[go_sem] theorem o_bsl {n : Nat} {g : Bool} {l : List Opd} : step P (.bsl n g l) e H k = bslF n g (noids (evs e l)) (evs e l) H k := (rfl)
@[go_sem] theorem o_bslm {n : Nat} {g : Bool} {l : List Opd} : step P (.bslm n g l) e H k = bslm n g (noids (evs e l)) (evs e l) H k := (rfl)
@[go_sem] theorem o_mks {E n : Nat} {g : Bool} {z : List V} {bt : Nat} {l c : Opd} : step P (.mks E n g z bt l c) e H k = mksK E n g z bt (ev e l) (ev e c) H k := (rfl)
@[go_sem] theorem o_load {n : Nat} {g : Bool} {x : Opd} : step P (.load n g x) e H k = loadK n g (ev e x) H k := (rfl)
@[go_sem] theorem o_store {n : Nat} {a x : Opd} : step P (.store n a x) e H k = storeK n (ev e a) (ev e x) H k := (rfl)
@[go_sem] theorem o_bin {op : BinOp} {x y : Opd} : step P (.bin op x y) e H k = binK op (ev e x) (ev e y) H k := (rfl)
@[go_sem] theorem o_binb {b : Bool} {x y : Opd} : step P (.binb b x y) e H k = binbK b (ev e x) (ev e y) H k := (rfl)
@[go_sem] theorem o_cnil {kd : Nat} {b : Bool} {x y : Opd} : step P (.cnil kd b x y) e H k = cnilK kd b (ev e x) (ev e y) H k := (rfl)
@[go_sem] theorem o_cnild {kd : Nat} {b : Bool} {x y : Opd} : step P (.cnild kd b x y) e H k = eqaK b (isNil kd (ev e x) (ev e y)) H k := (rfl)
@[go_sem] theorem o_eqa {b : Bool} {ks : List Nat} {x y : Opd} : step P (.eqa b ks x y) e H k = eqaK b (eqaO ks (ev e x) (ev e y)) H k := (rfl)
@[go_sem] theorem o_un {op : UnOp} {x : Opd} : step P (.un op x) e H k = unK op (ev e x) H k := (rfl)
@[go_sem] theorem o_fad {off : Nat} {x : Opd} : step P (.fad off x) e H k = fadK off (ev e x) H k := (rfl)
@[go_sem] theorem o_fld {off n : Nat} {g : Bool} {x : Opd} : step P (.fld off n g x) e H k = fldK off n g (ev e x) H k := (rfl)
@[go_sem] theorem o_iad {n : Nat} {g : Bool} {x i : Opd} : step P (.iad n g x i) e H k = iadK n (ev e x) (ev e i) H k := (rfl)
@[go_sem] theorem o_iaa {len n : Nat} {x i : Opd} : step P (.iaa len n x i) e H k = iaaK len n (ev e x) (ev e i) H k := (rfl)
@[go_sem] theorem o_ixs {x i : Opd} : step P (.ixs x i) e H k = ixsK (ev e x) (ev e i) H k := (rfl)
@[go_sem] theorem o_ixa {len n : Nat} {g : Bool} {x i : Opd} : step P (.ixa len n g x i) e H k = ixaK len n g (ev e x) (ev e i) H k := (rfl)
@[go_sem] theorem o_cvi {q : IntKind} {x : Opd} : step P (.cvi q x) e H k = cviK q (ev e x) H k := (rfl)
@[go_sem] theorem o_cvs {x : Opd} : step P (.cvs x) e H k = cvsK (ev e x) H k := (rfl)
@[go_sem] theorem o_b2s {x : Opd} : step P (.b2s x) e H k = b2sK (listOf 1 H (ev e x)) H k := (rfl)
@[go_sem] theorem o_mkfn {f : FuncId} {a b : List Opd} : step P (.mkfn f a b) e H k = k (.fn f (evs e a) (evs e b)) H := (rfl)
@[go_sem] theorem o_mkm  : step P .mkm e H k = k (.map H.length) (H ++ [.map []]) := (rfl)
@[go_sem] theorem o_mput {g : Bool} {ks : List Nat} {a b c : Opd} : step P (.mput g ks a b c) e H k = mputK g ks (ev e a) (ev e b) (ev e c) H k := (rfl)
@[go_sem] theorem o_mget {g : Bool} {ks : List Nat} {z : V} {ok : Bool} {x y : Opd} : step P (.mget g ks z ok x y) e H k = mgetK g ks z ok (ev e x) (ev e y) H k := (rfl)
@[go_sem] theorem o_len {kd : Nat} {x : Opd} : step P (.len kd x) e H k = lenK kd (ev e x) H k := (rfl)
@[go_sem] theorem o_app {E n bt : Nat} {g : Bool} {x y : Opd} : step P (.app E n bt g x y) e H k = appK E n bt (ev e x) (listOf n H (ev e y)) H k := (rfl)
@[go_sem] theorem o_apps {E bt : Nat} {x y : Opd} : step P (.apps E bt x y) e H k = appK E 1 bt (ev e x) (strEls (ev e y)) H k := (rfl)
@[go_sem] theorem o_copy {n : Nat} {x y : Opd} : step P (.copy n x y) e H k = copyK n (ev e x) (listOf n H (ev e y)) H k := (rfl)
@[go_sem] theorem o_slc {n : Nat} {x : Opd} {a b c : Option Opd} : step P (.slc n x a b c) e H k = slcK n (ev e x) (evo e a) (evo e b) (evo e c) H k := (rfl)
@[go_sem] theorem o_slcm {n : Nat} {x : Opd} {a b c : Option Opd} : step P (.slcm n x a b c) e H k = slcM n (ev e x) (evo e a) (evo e b) (evo e c) H k := (rfl)
@[go_sem] theorem o_sls {x : Opd} {a b : Option Opd} : step P (.sls x a b) e H k = slsK (ev e x) (evo e a) (evo e b) H k := (rfl)
@[go_sem] theorem o_call {f : Opd} {l : List Opd} : step P (.call f l) e H k = callK P (ev e f) (evs e l) H k := (rfl)
@[go_sem] theorem o_pcall {f : Opd} {l : List Opd} : step P (.pcall f l) e H k = pcallK P (ev e f) (evs e l) H k := (rfl)
@[go_sem] theorem x_pcall {f : FuncId} {a b l : List V} : pcallK P (.fn f a b) l H k = PCall P f (a ++ (l ++ b)) H k := (rfl)
@[go_sem] theorem o_mcall {f x : Opd} {l : List Opd} : step P (.mcall f x l) e H k = mcallK P (ev e f) (ev e x) (evs e l) H k := (rfl)
@[go_sem] theorem o_dcall {f : Opd} {l : List Opd} : step P (.dcall f l) e H k = dcallK P (ev e f) (evs e l) H k := (rfl)
@[go_sem] theorem o_mnx {b : Bool} {l : List Opd} : step P (.mnx b l) e H k = mnxK (mnxI b (evs e l)) H k := (rfl)
@[go_sem] theorem o_rng {x : Opd} : step P (.rng x) e H k = rngK (ev e x) H k := (rfl)
@[go_sem] theorem o_nxt {s : Bool} {x : Opd} : step P (.nxt s x) e H k = nxtK s (ev e x) H k := (rfl)
@[go_sem] theorem o_ext {x : Opd} {i : Nat} : step P (.ext x i) e H k = extK i (ev e x) H k := (rfl)
@[go_sem] theorem x_pickT {a b : V} : pickK (.bool true) a b H k = k a H := (rfl)
@[go_sem] theorem x_pickF {a b : V} : pickK (.bool false) a b H k = k b H := (rfl)
@[go_sem] theorem x_pickN {a b : V} {c : Bool} : pickK (.bool (!c)) a b H k = pickK (.bool c) b a H k := by cases c <;> rfl
@[go_sem] theorem x_pickPT {a b : V} {p : Prop} [Decidable p] (h : p) : pickK (.bool (decide p)) a b H k = k a H := by simp only [h, decide_true]; exact (rfl)
@[go_sem] theorem x_pickPF {a b : V} {p : Prop} [Decidable p] (h : ¬ p) : pickK (.bool (decide p)) a b H k = k b H := by simp only [h, decide_false]; exact (rfl)
@[go_sem] theorem b_add {q : IntKind} {a b : Int} : binK .add (.int q a) (.int q b) H k = k (.int q (q.wrap (a + b))) H := by simp [binK]
@[go_sem] theorem b_sub {q : IntKind} {a b : Int} : binK .sub (.int q a) (.int q b) H k = k (.int q (q.wrap (a - b))) H := by simp [binK]
@[go_sem] theorem b_mul {q : IntKind} {a b : Int} : binK .mul (.int q a) (.int q b) H k = k (.int q (q.wrap (a * b))) H := by simp [binK]
@[go_sem] theorem b_quo {q : IntKind} {a b : Int} (h : b ≠ 0) : binK .quo (.int q a) (.int q b) H k = k (.int q (q.wrap (a.tdiv b))) H := by simp [binK, h]
@[go_sem] theorem b_rem {q : IntKind} {a b : Int} (h : b ≠ 0) : binK .rem (.int q a) (.int q b) H k = k (.int q (a.tmod b)) H := by simp [binK, h]
def shlI (q : IntKind) (a b : Int) : Int := q.wrap (a * 2 ^ (min b.toNat q.bits))
@[go_sem] theorem b_shl {q r : IntKind} {a b : Int} (h : 0 ≤ b) : binK .shl (.int q a) (.int r b) H k = k (.int q (shlI q a b)) H := by simp [binK, h, shlI]
def shrI (q : IntKind) (a b : Int) : Int := a.fdiv (2 ^ (min b.toNat q.bits))
@[go_sem] theorem b_shr {q r : IntKind} {a b : Int} (h : 0 ≤ b) : binK .shr (.int q a) (.int r b) H k = k (.int q (shrI q a b)) H := by simp [binK, h, shrI]
def andI (q : IntKind) (a b : Int) : Int := q.wrap (BitVec.ofInt q.bits a &&& BitVec.ofInt q.bits b).toNat
@[go_sem] theorem b_and {q : IntKind} {a b : Int} : binK .and (.int q a) (.int q b) H k = k (.int q (andI q a b)) H := by simp [binK, andI]
def orI (q : IntKind) (a b : Int) : Int := q.wrap (BitVec.ofInt q.bits a ||| BitVec.ofInt q.bits b).toNat
@[go_sem] theorem b_or {q : IntKind} {a b : Int} : binK .or (.int q a) (.int q b) H k = k (.int q (orI q a b)) H := by simp [binK, orI]
def xorI (q : IntKind) (a b : Int) : Int := q.wrap (BitVec.ofInt q.bits a ^^^ BitVec.ofInt q.bits b).toNat
@[go_sem] theorem b_xor {q : IntKind} {a b : Int} : binK .xor (.int q a) (.int q b) H k = k (.int q (xorI q a b)) H := by simp [binK, xorI]
@[go_sem] theorem b_eql {q : IntKind} {a b : Int} : binK .eql (.int q a) (.int q b) H k = k (.bool (decide (a = b))) H := by simp [binK, beqd]
@[go_sem] theorem b_neq {q : IntKind} {a b : Int} : binK .neq (.int q a) (.int q b) H k = k (.bool (!decide (a = b))) H := by simp [binK, bne, beqd]
@[go_sem] theorem b_lss {q : IntKind} {a b : Int} : binK .lss (.int q a) (.int q b) H k = k (.bool (decide (a < b))) H := by simp [binK]
@[go_sem] theorem b_leq {q : IntKind} {a b : Int} : binK .leq (.int q a) (.int q b) H k = k (.bool (decide (a ≤ b))) H := by simp [binK]
@[go_sem] theorem b_gtr {q : IntKind} {a b : Int} : binK .gtr (.int q a) (.int q b) H k = k (.bool (decide (b < a))) H := by simp [binK]
@[go_sem] theorem b_geq {q : IntKind} {a b : Int} : binK .geq (.int q a) (.int q b) H k = k (.bool (decide (b ≤ a))) H := by simp [binK]
@[go_sem] theorem b_seql {a b : List UInt8} : binK .eql (.str a) (.str b) H k = k (.bool (decide (a = b))) H := by simp [binK, beqd]
@[go_sem] theorem b_sneq {a b : List UInt8} : binK .neq (.str a) (.str b) H k = k (.bool (!decide (a = b))) H := by simp [binK, bne, beqd]
@[go_sem] theorem b_sadd {a b : List UInt8} (h : a.length + b.length ≤ 9223372036854775807) : binK .add (.str a) (.str b) H k = k (.str (a ++ b)) H := by simp [binK, h]
@[go_sem] theorem b_slss {a b : List UInt8} : binK .lss (.str a) (.str b) H k = k (.bool (Op.bytesLess a b)) H := (rfl)
@[go_sem] theorem b_sleq {a b : List UInt8} : binK .leq (.str a) (.str b) H k = k (.bool (Op.bytesLess a b || decide (a = b))) H := by simp [binK, beqd]
@[go_sem] theorem b_sgtr {a b : List UInt8} : binK .gtr (.str a) (.str b) H k = k (.bool (!(Op.bytesLess a b || decide (a = b)))) H := by simp [binK, beqd]
@[go_sem] theorem b_sgeq {a b : List UInt8} : binK .geq (.str a) (.str b) H k = k (.bool (!Op.bytesLess a b)) H := (rfl)
@[go_sem] theorem b_beq {a b : Bool} : binbK false (.bool a) (.bool b) H k = k (.bool (a == b)) H := (rfl)
@[go_sem] theorem b_bne {a b : Bool} : binbK true (.bool a) (.bool b) H k = k (.bool (a != b)) H := (rfl)
@[go_sem] theorem u_not {b : Bool} : unK .not (.bool b) H k = k (.bool (!b)) H := (rfl)
@[go_sem] theorem u_neg {q : IntKind} {a : Int} : unK .neg (.int q a) H k = k (.int q (q.wrap (0 - a))) H := (rfl)
@[go_sem] theorem u_xor {q : IntKind} {a : Int} : unK .xor (.int q a) H k = k (.int q (q.wrap (BitVec.ofInt q.bits (if q.signed then -1 else q.max) ^^^ BitVec.ofInt q.bits a).toNat)) H := (rfl)
@[go_sem] theorem x_eqaS {neg b : Bool} : eqaK neg (some b) H k = k (.bool (if neg then !b else b)) H := (rfl)
@[go_sem] theorem x_isnilnn  : isNil 0 .nilsl .nilsl = some true := (rfl)
@[go_sem] theorem x_isnilpp  : isNil 1 .nilp .nilp = some true := (rfl)
@[go_sem] theorem x_isnilmm  : isNil 2 .nilmap .nilmap = some true := (rfl)
@[go_sem] theorem x_isnilff  : isNil 3 .nilfn .nilfn = some true := (rfl)
@[go_sem] theorem x_cnS0 {n : Nat} {b : Bool} : cnilK 0 b (.sl n []) .nilsl H k = ∀ c, k (.bool c) H := by simp [cnilK]
@[go_sem] theorem x_cnX0 {n : Nat} {b : Bool} : cnilK 0 b (.slx n []) .nilsl H k = ∀ c, k (.bool c) H := by simp [cnilK]
@[go_sem] theorem x_cnS {n : Nat} {b : Bool} {x : V} {xs : List V} : cnilK 0 b (.sl n (x :: xs)) .nilsl H k = k (.bool b) H := by cases b <;> simp [cnilK, eqaK, isNil]
@[go_sem] theorem x_cnX {n : Nat} {b : Bool} {x : V} {xs : List V} : cnilK 0 b (.slx n (x :: xs)) .nilsl H k = k (.bool b) H := by cases b <;> simp [cnilK, eqaK, isNil]
@[go_sem] theorem x_cnN {b : Bool} : cnilK 0 b .nilsl .nilsl H k = k (.bool (!b)) H := by cases b <;> simp [cnilK, eqaK, isNil]
@[go_sem] theorem x_cnO0 {g : Nat} {b : Bool} : cnilK 0 b (.own g 0) .nilsl H k = isRow 0 H[g]? (∀ c, k (.bool c) H) := by simp [cnilK]
@[go_sem] theorem x_cnO {g n : Nat} {b : Bool} : cnilK 0 b (.own g (n + 1)) .nilsl H k = isRow (n + 1) H[g]? (k (.bool b) H) := by simp [cnilK]
@[go_sem] theorem x_cnR {cs : List V} {b : Bool} : cnilK 1 b (.ref cs) .nilp H k = k (.bool b) H := by cases b <;> simp [cnilK, eqaK, isNil]
@[go_sem] theorem x_cnP {b : Bool} : cnilK 1 b .nilp .nilp H k = k (.bool (!b)) H := by cases b <;> simp [cnilK, eqaK, isNil]
@[go_sem] theorem x_cnF {f : FuncId} {a l : List V} {b : Bool} : cnilK 3 b (.fn f a l) .nilfn H k = k (.bool b) H := by cases b <;> simp [cnilK, eqaK, isNil]
@[go_sem] theorem x_cnM {b : Bool} : cnilK 2 b .nilmap .nilmap H k = k (.bool (!b)) H := by cases b <;> simp [cnilK, eqaK, isNil]
@[go_sem] theorem x_isnilref {cs : List V} : isNil 1 (.ref cs) .nilp = some false := (rfl)
@[go_sem] theorem x_isnilfn {f : FuncId} {a b : List V} : isNil 3 (.fn f a b) .nilfn = some false := (rfl)
@[go_sem] theorem x_isnilsl {n : Nat} {x : V} {xs : List V} : isNil 0 (.sl n (x :: xs)) .nilsl = some false := (rfl)
@[go_sem] theorem x_eqaO {ks : List Nat} {a b : List V} : eqaO ks (.agg a) (.agg b) = cellsEq ks a b := (rfl)
@[go_sem] theorem x_ceq0  : cellsEq [] [] [] = some true := (rfl)
@[go_sem] theorem x_ceqB {ks : List Nat} {l m : List V} {a b : Bool} : cellsEq (0 :: ks) (.bool a :: l) (.bool b :: m) = (cellsEq ks l m).map (fun y => (a == b) && y) := by simp only [cellsEq, atomEq]; cases cellsEq ks l m <;> rfl
@[go_sem] theorem x_ceqI {ks : List Nat} {l m : List V} {q : IntKind} {a b : Int} : cellsEq (1 :: ks) (.int q a :: l) (.int q b :: m) = (cellsEq ks l m).map (fun y => decide (a = b) && y) := by simp only [cellsEq, atomEq, if_pos, beqd]; cases cellsEq ks l m <;> rfl
@[go_sem] theorem x_ceqS {ks : List Nat} {l m : List V} {a b : List UInt8} : cellsEq (2 :: ks) (.str a :: l) (.str b :: m) = (cellsEq ks l m).map (fun y => decide (a = b) && y) := by simp only [cellsEq, atomEq, beqd]; cases cellsEq ks l m <;> rfl
@[go_sem] theorem x_omap {α β : Type} {f : α → β} {a : α} : Option.map f (some a) = some (f a) := (rfl)
@[go_sem] theorem x_omapn {α β : Type} {f : α → β} : Option.map f none = none := (rfl)
@[go_sem] theorem x_and {a b : Bool} : (if true = true then !a else b) = !a := if_pos rfl
@[go_sem] theorem x_iffF {a b : Bool} : (if false = true then a else b) = b := if_neg Bool.false_ne_true
@[go_sem] theorem x_ldR {n : Nat} {g : Bool} {cs : List V} : loadK n g (.ref cs) H k = ldC (partO n g cs) H k := by rw [loadK, ldC_part]
@[go_sem] theorem x_ldP {n j o : Nat} {g : Bool} : loadK n g (.ptr j o) H k = loadH n g o H[j]? H k := (rfl)
@[go_sem] theorem x_ldE {n j l i o : Nat} {g : Bool} : loadK n g (.eptr j l i o) H k = loadE n g l i o H[j]? H k := (rfl)
@[go_sem] theorem x_ldHb {n o : Nat} {g : Bool} {cs : List V} : loadH (n + 1) g o (some (.box cs)) H k = ldC (partO (n + 1) g (cs.drop o)) H k := by rw [loadH, ldC_drop]
@[go_sem] theorem x_ldHi {n o : Nat} {g : Bool} {cs : List V} : loadH (n + 1) g o (some (.ibox cs)) H k = ldC (partO (n + 1) g (cs.drop o)) H k := by rw [loadH, ldC_drop]
@[go_sem] theorem x_ldEr {n l i o E m : Nat} {g : Bool} {xs : List V} (h : l = xs.length ∧ i < xs.length) (h2 : o + n ≤ m) : loadE n g l i o (some (.row E m xs)) H k = k (part n g ((nth xs i).cells.drop o)) H := by simp only [loadE, h, h2, and_self, true_and]
@[go_sem] theorem x_ldEi {n l i o m : Nat} {g : Bool} {xs : List V} (h : l = xs.length ∧ i < xs.length) (h2 : o + n ≤ m) : loadE n g l i o (some (.irow m xs)) H k = k (part n g ((nth xs i).cells.drop o)) H := by simp only [loadE, h, h2, and_self, true_and]
@[go_sem] theorem x_ldC {v : V} : ldC (some v) H k = k v H := (rfl)
@[go_sem] theorem x_ptF {n : Nat} {a : V} {l : List V} : partO (n + 1) false (a :: l) = (takeO n l).map (fun _ => a) := (rfl)
@[go_sem] theorem x_ptT {n : Nat} {l : List V} : partO n true l = (takeO n l).map .agg := (rfl)
@[go_sem] theorem x_tk0 {l : List V} : takeO 0 l = some [] := (rfl)
@[go_sem] theorem x_tkS {n : Nat} {a : V} {l : List V} : takeO (n + 1) (a :: l) = (takeO n l).map (a :: ·) := (rfl)
@[go_sem] theorem x_partF {n : Nat} {cs : List V} : part n false cs = nth cs 0 := (rfl)
@[go_sem] theorem x_partT {n : Nat} {cs : List V} : part n true cs = .agg (cs.take n) := (rfl)
@[go_sem] theorem x_co_bool {b : Bool} : cellsO (.bool b) = some [.bool b] := (rfl)
@[go_sem] theorem x_at_bool {b : Bool} : atom (.bool b) = true := (rfl)
@[go_sem] theorem x_ok_bool {b : Bool} : okC (.bool b) = true := (rfl)
@[go_sem] theorem x_el_bool {b : Bool} {n : Nat} : okEl n false (.bool b) = (n == 1) := by simp only [okEl, atom, Bool.true_and]
@[go_sem] theorem x_cl_bool {b : Bool} : V.cells (.bool b) = [.bool b] := (rfl)
@[go_sem] theorem x_no_bool {b : Bool} : noid (.bool b) = true := (rfl)
@[go_sem] theorem x_il_bool {b : Bool} {m : Nat} : idsLt m (.bool b) = true := (rfl)
@[go_sem] theorem x_co_int {q : IntKind} {a : Int} : cellsO (.int q a) = some [.int q a] := (rfl)
@[go_sem] theorem x_at_int {q : IntKind} {a : Int} : atom (.int q a) = true := (rfl)
@[go_sem] theorem x_ok_int {q : IntKind} {a : Int} : okC (.int q a) = true := (rfl)
@[go_sem] theorem x_el_int {q : IntKind} {a : Int} {n : Nat} : okEl n false (.int q a) = (n == 1) := by simp only [okEl, atom, Bool.true_and]
@[go_sem] theorem x_cl_int {q : IntKind} {a : Int} : V.cells (.int q a) = [.int q a] := (rfl)
@[go_sem] theorem x_no_int {q : IntKind} {a : Int} : noid (.int q a) = true := (rfl)
@[go_sem] theorem x_il_int {q : IntKind} {a : Int} {m : Nat} : idsLt m (.int q a) = true := (rfl)
@[go_sem] theorem x_co_str {s : List UInt8} : cellsO (.str s) = some [.str s] := (rfl)
@[go_sem] theorem x_at_str {s : List UInt8} : atom (.str s) = true := (rfl)
@[go_sem] theorem x_ok_str {s : List UInt8} : okC (.str s) = true := (rfl)
@[go_sem] theorem x_el_str {s : List UInt8} {n : Nat} : okEl n false (.str s) = (n == 1) := by simp only [okEl, atom, Bool.true_and]
@[go_sem] theorem x_cl_str {s : List UInt8} : V.cells (.str s) = [.str s] := (rfl)
@[go_sem] theorem x_no_str {s : List UInt8} : noid (.str s) = true := (rfl)
@[go_sem] theorem x_il_str {s : List UInt8} {m : Nat} : idsLt m (.str s) = true := (rfl)
@[go_sem] theorem x_co_nilsl  : cellsO (.nilsl) = some [.nilsl] := (rfl)
@[go_sem] theorem x_at_nilsl  : atom (.nilsl) = true := (rfl)
@[go_sem] theorem x_ok_nilsl  : okC (.nilsl) = true := (rfl)
@[go_sem] theorem x_el_nilsl  {n : Nat} : okEl n false (.nilsl) = (n == 1) := by simp only [okEl, atom, Bool.true_and]
@[go_sem] theorem x_cl_nilsl  : V.cells (.nilsl) = [.nilsl] := (rfl)
@[go_sem] theorem x_no_nilsl  : noid (.nilsl) = true := (rfl)
@[go_sem] theorem x_il_nilsl  {m : Nat} : idsLt m (.nilsl) = true := (rfl)
@[go_sem] theorem x_co_sl {n : Nat} {xs : List V} : cellsO (.sl n xs) = some [.sl n xs] := (rfl)
@[go_sem] theorem x_at_sl {n : Nat} {xs : List V} : atom (.sl n xs) = true := (rfl)
@[go_sem] theorem x_ok_sl {n : Nat} {xs : List V} : okC (.sl n xs) = true := (rfl)
@[go_sem] theorem x_el_sl {n : Nat} {xs : List V} {n : Nat} : okEl n false (.sl n xs) = (n == 1) := by simp only [okEl, atom, Bool.true_and]
@[go_sem] theorem x_cl_sl {n : Nat} {xs : List V} : V.cells (.sl n xs) = [.sl n xs] := (rfl)
@[go_sem] theorem x_no_sl {n : Nat} {xs : List V} : noid (.sl n xs) = true := (rfl)
@[go_sem] theorem x_il_sl {n : Nat} {xs : List V} {m : Nat} : idsLt m (.sl n xs) = true := (rfl)
@[go_sem] theorem x_co_slx {n : Nat} {xs : List V} : cellsO (.slx n xs) = some [.slx n xs] := (rfl)
@[go_sem] theorem x_at_slx {n : Nat} {xs : List V} : atom (.slx n xs) = true := (rfl)
@[go_sem] theorem x_ok_slx {n : Nat} {xs : List V} : okC (.slx n xs) = true := (rfl)
@[go_sem] theorem x_el_slx {n : Nat} {xs : List V} {n : Nat} : okEl n false (.slx n xs) = (n == 1) := by simp only [okEl, atom, Bool.true_and]
@[go_sem] theorem x_cl_slx {n : Nat} {xs : List V} : V.cells (.slx n xs) = [.slx n xs] := (rfl)
@[go_sem] theorem x_no_slx {n : Nat} {xs : List V} : noid (.slx n xs) = true := (rfl)
@[go_sem] theorem x_il_slx {n : Nat} {xs : List V} {m : Nat} : idsLt m (.slx n xs) = true := (rfl)
@[go_sem] theorem x_co_own {g l : Nat} : cellsO (.own g l) = some [.own g l] := (rfl)
@[go_sem] theorem x_at_own {g l : Nat} : atom (.own g l) = true := (rfl)
@[go_sem] theorem x_ok_own {g l : Nat} : okC (.own g l) = true := (rfl)
@[go_sem] theorem x_el_own {g l : Nat} {n : Nat} : okEl n false (.own g l) = (n == 1) := by simp only [okEl, atom, Bool.true_and]
@[go_sem] theorem x_cl_own {g l : Nat} : V.cells (.own g l) = [.own g l] := (rfl)
@[go_sem] theorem x_co_nilp  : cellsO (.nilp) = some [.nilp] := (rfl)
@[go_sem] theorem x_at_nilp  : atom (.nilp) = true := (rfl)
@[go_sem] theorem x_ok_nilp  : okC (.nilp) = true := (rfl)
@[go_sem] theorem x_el_nilp  {n : Nat} : okEl n false (.nilp) = (n == 1) := by simp only [okEl, atom, Bool.true_and]
@[go_sem] theorem x_cl_nilp  : V.cells (.nilp) = [.nilp] := (rfl)
@[go_sem] theorem x_no_nilp  : noid (.nilp) = true := (rfl)
@[go_sem] theorem x_il_nilp  {m : Nat} : idsLt m (.nilp) = true := (rfl)
@[go_sem] theorem x_co_ref {cs : List V} : cellsO (.ref cs) = some [.ref cs] := (rfl)
@[go_sem] theorem x_at_ref {cs : List V} : atom (.ref cs) = true := (rfl)
@[go_sem] theorem x_ok_ref {cs : List V} : okC (.ref cs) = true := (rfl)
@[go_sem] theorem x_el_ref {cs : List V} {n : Nat} : okEl n false (.ref cs) = (n == 1) := by simp only [okEl, atom, Bool.true_and]
@[go_sem] theorem x_cl_ref {cs : List V} : V.cells (.ref cs) = [.ref cs] := (rfl)
@[go_sem] theorem x_no_ref {cs : List V} : noid (.ref cs) = true := (rfl)
@[go_sem] theorem x_il_ref {cs : List V} {m : Nat} : idsLt m (.ref cs) = true := (rfl)
@[go_sem] theorem x_co_ptr {g o : Nat} : cellsO (.ptr g o) = some [.ptr g o] := (rfl)
@[go_sem] theorem x_at_ptr {g o : Nat} : atom (.ptr g o) = true := (rfl)
@[go_sem] theorem x_ok_ptr {g o : Nat} : okC (.ptr g o) = true := (rfl)
@[go_sem] theorem x_el_ptr {g o : Nat} {n : Nat} : okEl n false (.ptr g o) = (n == 1) := by simp only [okEl, atom, Bool.true_and]
@[go_sem] theorem x_cl_ptr {g o : Nat} : V.cells (.ptr g o) = [.ptr g o] := (rfl)
@[go_sem] theorem x_co_nilfn  : cellsO (.nilfn) = some [.nilfn] := (rfl)
@[go_sem] theorem x_at_nilfn  : atom (.nilfn) = true := (rfl)
@[go_sem] theorem x_ok_nilfn  : okC (.nilfn) = true := (rfl)
@[go_sem] theorem x_el_nilfn  {n : Nat} : okEl n false (.nilfn) = (n == 1) := by simp only [okEl, atom, Bool.true_and]
@[go_sem] theorem x_cl_nilfn  : V.cells (.nilfn) = [.nilfn] := (rfl)
@[go_sem] theorem x_no_nilfn  : noid (.nilfn) = true := (rfl)
@[go_sem] theorem x_il_nilfn  {m : Nat} : idsLt m (.nilfn) = true := (rfl)
@[go_sem] theorem x_co_fn {f : FuncId} {a b : List V} : cellsO (.fn f a b) = some [.fn f a b] := (rfl)
@[go_sem] theorem x_at_fn {f : FuncId} {a b : List V} : atom (.fn f a b) = true := (rfl)
@[go_sem] theorem x_ok_fn {f : FuncId} {a b : List V} : okC (.fn f a b) = true := (rfl)
@[go_sem] theorem x_el_fn {f : FuncId} {a b : List V} {n : Nat} : okEl n false (.fn f a b) = (n == 1) := by simp only [okEl, atom, Bool.true_and]
@[go_sem] theorem x_cl_fn {f : FuncId} {a b : List V} : V.cells (.fn f a b) = [.fn f a b] := (rfl)
@[go_sem] theorem x_co_nilmap  : cellsO (.nilmap) = some [.nilmap] := (rfl)
@[go_sem] theorem x_at_nilmap  : atom (.nilmap) = true := (rfl)
@[go_sem] theorem x_ok_nilmap  : okC (.nilmap) = true := (rfl)
@[go_sem] theorem x_el_nilmap  {n : Nat} : okEl n false (.nilmap) = (n == 1) := by simp only [okEl, atom, Bool.true_and]
@[go_sem] theorem x_cl_nilmap  : V.cells (.nilmap) = [.nilmap] := (rfl)
@[go_sem] theorem x_no_nilmap  : noid (.nilmap) = true := (rfl)
@[go_sem] theorem x_il_nilmap  {m : Nat} : idsLt m (.nilmap) = true := (rfl)
@[go_sem] theorem x_co_map {g : Nat} : cellsO (.map g) = some [.map g] := (rfl)
@[go_sem] theorem x_at_map {g : Nat} : atom (.map g) = true := (rfl)
@[go_sem] theorem x_ok_map {g : Nat} : okC (.map g) = true := (rfl)
@[go_sem] theorem x_el_map {g : Nat} {n : Nat} : okEl n false (.map g) = (n == 1) := by simp only [okEl, atom, Bool.true_and]
@[go_sem] theorem x_cl_map {g : Nat} : V.cells (.map g) = [.map g] := (rfl)
@[go_sem] theorem x_no_fn {f : FuncId} {a b : List V} : noid (.fn f a b) = (noids a && noids b) := by simp only [noid]
@[go_sem] theorem x_no_own {g l : Nat} : noid (.own g l) = false := (rfl)
@[go_sem] theorem x_no_ptr {g l : Nat} : noid (.ptr g l) = false := (rfl)
@[go_sem] theorem x_no_map {g : Nat} : noid (.map g) = false := (rfl)
@[go_sem] theorem x_no_agg {l : List V} : noid (.agg l) = noids l := by simp only [noid]
@[go_sem] theorem x_no_tup {l : List V} : noid (.tup l) = noids l := by simp only [noid]
@[go_sem] theorem x_nos0  : noids [] = true := (rfl)
@[go_sem] theorem x_nosS {a : V} {l : List V} : noids (a :: l) = (noid a && noids l) := by simp only [noids]
@[go_sem] theorem x_il_fn {f : FuncId} {a b : List V} {m : Nat} : idsLt m (.fn f a b) = (idsLts m a && idsLts m b) := by simp only [idsLt]
@[go_sem] theorem x_il_own {g l m : Nat} : idsLt m (.own g l) = decide (g < m) := by simp only [idsLt]
@[go_sem] theorem x_il_ptr {g l m : Nat} : idsLt m (.ptr g l) = decide (g < m) := by simp only [idsLt]
@[go_sem] theorem x_il_map {g m : Nat} : idsLt m (.map g) = decide (g < m) := by simp only [idsLt]
@[go_sem] theorem x_il_it {g m : Nat} : idsLt m (.it g) = decide (g < m) := by simp only [idsLt]
@[go_sem] theorem x_il_eptr {g l i o m : Nat} : idsLt m (.eptr g l i o) = decide (g < m) := by simp only [idsLt]
@[go_sem] theorem x_il_agg {l : List V} {m : Nat} : idsLt m (.agg l) = idsLts m l := by simp only [idsLt]
@[go_sem] theorem x_il_tup {l : List V} {m : Nat} : idsLt m (.tup l) = idsLts m l := by simp only [idsLt]
@[go_sem] theorem x_il_junk {m : Nat} : idsLt m .junk = true := (rfl)
@[go_sem] theorem x_ils0 {m : Nat} : idsLts m [] = true := (rfl)
@[go_sem] theorem x_ilsS {a : V} {l : List V} {m : Nat} : idsLts m (a :: l) = (idsLt m a && idsLts m l) := by simp only [idsLts]
@[go_sem] theorem x_co_agg {l : List V} : cellsO (.agg l) = some l := (rfl)
@[go_sem] theorem x_ok_agg {l : List V} : okC (.agg l) = atoms l := (rfl)
@[go_sem] theorem x_cl_agg {l : List V} : V.cells (.agg l) = l := (rfl)
@[go_sem] theorem x_el_agg {l : List V} {n : Nat} : okEl n true (.agg l) = (lenEq l n && atoms l) := (rfl)
@[go_sem] theorem x_ats0  : atoms [] = true := (rfl)
@[go_sem] theorem x_atsS {a : V} {l : List V} : atoms (a :: l) = (atom a && atoms l) := (rfl)
@[go_sem] theorem x_els0 {n : Nat} {g : Bool} : okEls n g [] = true := (rfl)
@[go_sem] theorem x_elsS {n : Nat} {g : Bool} {a : V} {l : List V} : okEls n g (a :: l) = (okEl n g a && okEls n g l) := (rfl)
@[go_sem] theorem x_le0  : lenEq [] 0 = true := (rfl)
@[go_sem] theorem x_leS {a : V} {l : List V} {n : Nat} : lenEq (a :: l) (n + 1) = lenEq l n := (rfl)
@[go_sem] theorem x_pc0 {cs : List V} : putC cs 0 0 [] = some cs := by cases cs <;> rfl
@[go_sem] theorem x_pcS {c v : V} {cs vs : List V} {n : Nat} : putC (c :: cs) 0 (n + 1) (v :: vs) = (putC cs 0 n vs).map (v :: ·) := (rfl)
@[go_sem] theorem x_pcO {c : V} {cs vs : List V} {o n : Nat} : putC (c :: cs) (o + 1) n vs = (putC cs o n vs).map (c :: ·) := (rfl)
@[go_sem] theorem x_po {cs vs : List V} {o n : Nat} : putO cs o n (some vs) = putC cs o n vs := (rfl)
@[go_sem] theorem x_bo0 {cs : List V} : bldO cs [] = some cs := (rfl)
@[go_sem] theorem x_boS {cs : List V} {o n : Nat} {v : V} {l : List (Nat × Nat × V)} : bldO cs ((o, n, v) :: l) = bldN (putO cs o n (cellsO v)) l := by simp only [bldO, bldN]; cases putO cs o n (cellsO v) <;> rfl
@[go_sem] theorem x_bn {cs : List V} {l : List (Nat × Nat × V)} : bldN (some cs) l = bldO cs l := (rfl)
@[go_sem] theorem x_bldK {cs : List V} : bldK (some cs) H k = k (.agg cs) H := (rfl)
@[go_sem] theorem x_boxK {cs : List V} : boxK (some cs) H k = k (.ptr H.length 0) (H ++ [.box cs]) := (rfl)
@[go_sem] theorem x_stP {n j o : Nat} {v : V} : storeK n (.ptr j o) v H k = storeH n j o v H[j]? H k := (rfl)
@[go_sem] theorem x_stE {n j l i o : Nat} {v : V} : storeK n (.eptr j l i o) v H k = storeE n j l i o v H[j]? H k := (rfl)
@[go_sem] theorem x_stH {n j o : Nat} {v : V} {cs : List V} : storeH n j o v (some (.box cs)) H k = stC (putO cs o n (cellsO v)) (okC v) j H k := by simp only [storeH, stC]; cases putO cs o n (cellsO v) <;> cases okC v <;> rfl
@[go_sem] theorem x_stC {j : Nat} {cs : List V} : stC (some cs) true j H k = k undefV (H.set j (.box cs)) := (rfl)
@[go_sem] theorem x_stEr {n j l i o E m : Nat} {v : V} {xs : List V} (h : l = xs.length ∧ i < xs.length) : storeE n j l i o v (some (.row E m xs)) H k = stR (putO (nth xs i).cells o n (cellsO v)) (okC v) (noid v) (nth xs i) i j E m xs H k := by simp only [storeE, stR, h, and_self, true_and]; cases putO (nth xs i).cells o n (cellsO v) <;> cases okC v <;> cases noid v <;> rfl
@[go_sem] theorem x_stR {i j E m : Nat} {x : V} {cs xs : List V} : stR (some cs) true true x i j E m xs H k = (unc x cs ≠ .junk ∧ k undefV (H.set j (.row E m (xs.set i (unc x cs))))) := (rfl)
@[go_sem] theorem x_uncA {l cs : List V} : unc (.agg l) cs = .agg cs := (rfl)
@[go_sem] theorem x_uncI {q : IntKind} {a : Int} {cs : List V} : unc (.int q a) cs = nth cs 0 := (rfl)
@[go_sem] theorem x_uncB {a : Bool} {cs : List V} : unc (.bool a) cs = nth cs 0 := (rfl)
@[go_sem] theorem x_uncS {a : List UInt8} {cs : List V} : unc (.str a) cs = nth cs 0 := (rfl)
@[go_sem] theorem x_jA {l : List V} : (V.agg l ≠ .junk) = True := by simp
@[go_sem] theorem x_jI {q : IntKind} {a : Int} : (V.int q a ≠ .junk) = True := by simp
@[go_sem] theorem x_jB {a : Bool} : (V.bool a ≠ .junk) = True := by simp
@[go_sem] theorem x_jS {a : List UInt8} : (V.str a ≠ .junk) = True := by simp
@[go_sem] theorem x_fdR {o : Nat} {cs : List V} : fadK o (.ref cs) H k = k (.ref (cs.drop o)) H := (rfl)
@[go_sem] theorem x_fdP {g o f : Nat} : fadK f (.ptr g o) H k = nckB (isBox H[g]?) (.ptr g (o + f)) H k := (rfl)
@[go_sem] theorem x_fdE {g l i o f : Nat} : fadK f (.eptr g l i o) H k = isRow l H[g]? (k (.eptr g l i (o + f)) H) := (rfl)
@[go_sem] theorem x_nckB {v : V} : nckB true v H k = k v H := (rfl)
@[go_sem] theorem x_isBox {cs : List V} : isBox (some (.box cs)) = true := (rfl)
@[go_sem] theorem x_isBoxi {cs : List V} : isBox (some (.ibox cs)) = true := (rfl)
@[go_sem] theorem x_isRow {l E n : Nat} {xs : List V} {A : Prop} (h : l = xs.length) : isRow l (some (.row E n xs)) A = A := by simp only [isRow, h, true_and]
@[go_sem] theorem x_isRowi {l n : Nat} {xs : List V} {A : Prop} (h : l = xs.length) : isRow l (some (.irow n xs)) A = A := by simp only [isRow, h, true_and]
@[go_sem] theorem x_rowN {E n : Nat} {xs : List V} : rowN (some (.row E n xs)) = n := (rfl)
@[go_sem] theorem x_rowNi {n : Nat} {xs : List V} : rowN (some (.irow n xs)) = n := (rfl)
@[go_sem] theorem x_nkR {cs : List V} : nckK (.ref cs) H k = k (.ref cs) H := (rfl)
@[go_sem] theorem x_nkP {g o : Nat} : nckK (.ptr g o) H k = nckB (isBox H[g]?) (.ptr g o) H k := (rfl)
@[go_sem] theorem x_nkF {f : FuncId} {a b : List V} : nckK (.fn f a b) H k = k (.fn f a b) H := (rfl)
@[go_sem] theorem x_fld {o n : Nat} {g : Bool} {cs : List V} : fldK o (n + 1) g (.agg cs) H k = ldC (partO (n + 1) g (cs.drop o)) H k := by rw [fldK, ldC_drop]
@[go_sem] theorem x_iadS {n : Nat} {q : IntKind} {xs : List V} {j : Int} (h : 0 ≤ j ∧ j < xs.length) : iadK n (.sl n xs) (.int q j) H k = k (.ref (nth xs j.toNat).cells) H := by simp [iadK, h]
@[go_sem] theorem x_iadX {n : Nat} {q : IntKind} {xs : List V} {j : Int} (h : 0 ≤ j ∧ j < xs.length) : iadK n (.slx n xs) (.int q j) H k = k (.ref (nth xs j.toNat).cells) H := by simp [iadK, h]
@[go_sem] theorem x_iadO {n g l : Nat} {q : IntKind} {j : Int} (h : 0 ≤ j ∧ j < l) : iadK n (.own g l) (.int q j) H k = isRow l H[g]? (rowN H[g]? = n ∧ k (.eptr g l j.toNat 0) H) := by simp [iadK, h]
@[go_sem] theorem x_iaaR {len n : Nat} {q : IntKind} {cs : List V} {j : Int} (h : 0 ≤ j ∧ j < len) : iaaK len n (.ref cs) (.int q j) H k = k (.ref (cs.drop (j.toNat * n))) H := by simp [iaaK, h]
@[go_sem] theorem x_iaaP {len n g o : Nat} {q : IntKind} {j : Int} (h : 0 ≤ j ∧ j < len) : iaaK len n (.ptr g o) (.int q j) H k = nckB (isBox H[g]?) (.ptr g (o + j.toNat * n)) H k := by simp [iaaK, h]
@[go_sem] theorem x_ixs {q : IntKind} {s : List UInt8} {j : Int} (h : 0 ≤ j ∧ j < s.length) : ixsK (.str s) (.int q j) H k = k (.int .u8 (octet s j.toNat)) H := by simp [ixsK, h]
@[go_sem] theorem x_cvi {q r : IntKind} {a : Int} : cviK q (.int r a) H k = k (.int q (q.wrap a)) H := (rfl)
@[go_sem] theorem x_cvs {s : List UInt8} : cvsK (.str s) H k = k (.str s) H := (rfl)
@[go_sem] theorem x_b2s {xs : List V} (h : allU8 xs = true) : b2sK (some xs) H k = k (.str (xs.map u8Of)) H := by simp [b2sK, h]
@[go_sem] theorem x_bslF {n : Nat} {g : Bool} {xs : List V} : bslF n g true xs H k = bslK n (okEls n g xs) xs H k := (rfl)
@[go_sem] theorem x_bslFf {n : Nat} {g : Bool} {xs : List V} : bslF n g false xs H k = bslK n (okEls n g (fzsW (fz 8) H xs).1 && noids (fzsW (fz 8) H xs).1) (fzsW (fz 8) H xs).1 (fzsW (fz 8) H xs).2 k := (rfl)
@[go_sem] theorem x_bslm {n : Nat} {g : Bool} {xs : List V} : bslm n g true xs H k = bslK n (okEls n g xs) xs H k := (rfl)
@[go_sem] theorem x_bslK {n : Nat} {xs : List V} : bslK n true xs H k = k (.slx n xs) H := (rfl)
@[go_sem] theorem x_len0 {s : List UInt8} : lenK 0 (.str s) H k = k (.int .i64 s.length) H := (rfl)
@[go_sem] theorem x_lenS {n : Nat} {xs : List V} : lenK 1 (.sl n xs) H k = k (.int .i64 xs.length) H := (rfl)
@[go_sem] theorem x_lenX {n : Nat} {xs : List V} : lenK 1 (.slx n xs) H k = k (.int .i64 xs.length) H := (rfl)
@[go_sem] theorem x_lenN  : lenK 1 .nilsl H k = k (.int .i64 0) H := (rfl)
@[go_sem] theorem x_lenO {g n : Nat} : lenK 1 (.own g n) H k = isRow n H[g]? (k (.int .i64 n) H) := (rfl)
@[go_sem] theorem x_lenM {g : Nat} : lenK 2 (.map g) H k = lenH H[g]? H k := (rfl)
@[go_sem] theorem x_lenMN  : lenK 2 .nilmap H k = k (.int .i64 0) H := (rfl)
@[go_sem] theorem x_lenH {kvs : List (V × V)} : lenH (some (.map kvs)) H k = k (.int .i64 kvs.length) H := (rfl)
@[go_sem] theorem x_loS {n : Nat} {xs : List V} : listOf n H (.sl n xs) = some xs := by simp only [listOf, if_pos]
@[go_sem] theorem x_loX {n : Nat} {xs : List V} : listOf n H (.slx n xs) = some xs := by simp only [listOf, if_pos]
@[go_sem] theorem x_loN {n : Nat} : listOf n H .nilsl = some [] := (rfl)
@[go_sem] theorem x_loO {n g l : Nat} : listOf n H (.own g l) = rowOf n l H[g]? := by simp only [listOf, rowOf]; cases H[g]? with | none => rfl | some e => cases e <;> rfl
@[go_sem] theorem x_rowOf {n l E : Nat} {xs : List V} (h : xs.length = l) : rowOf n l (some (.row E n xs)) = some xs := by simp only [rowOf, h, and_self, if_pos]
@[go_sem] theorem x_rowOfi {n l : Nat} {xs : List V} (h : xs.length = l) : rowOf n l (some (.irow n xs)) = some xs := by simp only [rowOf, h, and_self, if_pos]
@[go_sem] theorem x_strEls {s : List UInt8} : strEls (.str s) = some (s.map u8V) := (rfl)
@[go_sem] theorem x_appO {E n bt g len : Nat} {r : Option (List V)} : appK E n bt (.own g len) r H k = appH E n bt g len r H[g]? H k := (rfl)
@[go_sem] theorem x_appN {E n bt : Nat} {r : Option (List V)} : appK E n bt .nilsl r H k = appN E n bt [] r H k := (rfl)
@[go_sem] theorem x_appX {E n bt : Nat} {xs : List V} {r : Option (List V)} : appK E n bt (.slx n xs) r H k = appN E n bt xs r H k := by simp only [appK, true_and]
@[go_sem] theorem x_appH {E n bt g len : Nat} {xs ys : List V} (h : len = xs.length) (h2 : (xs.length + ys.length) * bt ≤ 140737488355328) (h3 : xs.length + ys.length ≤ 140737488355328) : appH E n bt g len (some ys) (some (.row E n xs)) H k = k (.own g (xs.length + ys.length)) (H.set g (.row E n (xs ++ ys))) := by simp only [appH, h, h2, h3, and_self, true_and, List.length_append]
@[go_sem] theorem x_appN0 {E n bt : Nat} {ys : List V} (h2 : ys.length * bt ≤ 140737488355328) (h3 : ys.length ≤ 140737488355328) : appN E n bt [] (some ys) H k = k (.own H.length ys.length) (H ++ [.row E n ys]) := by simp [appN, h2, h3]
@[go_sem] theorem x_appNS {E n bt : Nat} {a b : V} {xs ys : List V} (h2 : ((a :: xs).length + (b :: ys).length) * bt ≤ 140737488355328) (h3 : (a :: xs).length + (b :: ys).length ≤ 140737488355328) : appN E n bt (a :: xs) (some (b :: ys)) H k = k (.own H.length ((a :: xs).length + (b :: ys).length)) (H ++ [.row E n (a :: xs ++ b :: ys)]) := by simp only [appN, h2, h3, List.length_append, ne_eq, reduceCtorEq, not_false_eq_true, imp_self, and_self, true_and]
@[go_sem] theorem x_mks {E n bt : Nat} {g : Bool} {z : List V} {q r : IntKind} {a b : Int} (h : 0 ≤ a ∧ a ≤ b) (h2 : b * bt ≤ 140737488355328) (h3 : b ≤ 140737488355328) : mksK E n g z bt (.int q a) (.int r b) H k = mksB (okEl n g (part n g z) && noid (part n g z)) E n a.toNat (part n g z) H k := by
  simp only [mksK, mksB]; cases (okEl n g (part n g z) && noid (part n g z)) <;> simp [h, h2, h3]
@[go_sem] theorem x_mksB {E n a : Nat} {v : V} : mksB true E n a v H k = k (.own H.length a) (H ++ [.row E n (List.replicate a v)]) := (rfl)
@[go_sem] theorem x_loI0  : loI none = some 0 := (rfl)
@[go_sem] theorem x_loIS {q : IntKind} {a : Int} : loI (some (.int q a)) = some a := (rfl)
@[go_sem] theorem x_hiI0 {l : Nat} : hiI l none = some (l : Int) := (rfl)
@[go_sem] theorem x_hiIS {l : Nat} {q : IntKind} {a : Int} : hiI l (some (.int q a)) = some a := (rfl)
@[go_sem] theorem x_hiSS {q : IntKind} {a : Int} : hiS (some (.int q a)) = some a := (rfl)
@[go_sem] theorem x_slcS {n : Nat} {xs : List V} {a b : Option V} : slcK n (.sl n xs) a b none H k = cutK (.sl n) xs (loI a) (hiI xs.length b) H k := by simp only [slcK, true_and]
@[go_sem] theorem x_slcX {n : Nat} {xs : List V} {a b : Option V} : slcK n (.slx n xs) a b none H k = cutK (.sl n) xs (loI a) (hiI xs.length b) H k := by simp only [slcK, true_and]
@[go_sem] theorem x_slcSx {n : Nat} {xs : List V} {a b : Option V} {c : V} : slcK n (.sl n xs) a b (some c) H k = cutX n xs (loI a) (hiS b) (hiS (some c)) H k := by simp only [slcK, true_and]
@[go_sem] theorem x_slcXx {n : Nat} {xs : List V} {a b : Option V} {c : V} : slcK n (.slx n xs) a b (some c) H k = cutX n xs (loI a) (hiS b) (hiS (some c)) H k := by simp only [slcK, true_and]
@[go_sem] theorem x_slcN {n : Nat} {a b : Option V} (h : loI a = some 0 ∧ hiI 0 b = some 0) : slcK n .nilsl a b none H k = k .nilsl H := by simp only [slcK, h, and_self, true_and]
@[go_sem] theorem x_slcmS {n : Nat} {xs : List V} {a b c : Option V} : slcM n (.sl n xs) a b c H k = slcK n (.sl n xs) a b c H k := (rfl)
@[go_sem] theorem x_slcmX {n : Nat} {xs : List V} {a b c : Option V} : slcM n (.slx n xs) a b c H k = slcK n (.slx n xs) a b c H k := (rfl)
@[go_sem] theorem x_slcmN {n : Nat} {a b c : Option V} : slcM n .nilsl a b c H k = slcK n .nilsl a b c H k := (rfl)
@[go_sem] theorem x_cutK {mk : List V → V} {xs : List V} {a b : Int} (h : 0 ≤ a ∧ a ≤ b ∧ b ≤ xs.length) : cutK mk xs (some a) (some b) H k = k (mk ((xs.take b.toNat).drop a.toNat)) H := by simp only [cutK, h, and_self, true_and]
@[go_sem] theorem x_cutX {n : Nat} {xs : List V} {a b c : Int} (h : 0 ≤ a ∧ a ≤ b ∧ b = c ∧ b ≤ xs.length) : cutX n xs (some a) (some b) (some c) H k = k (.slx n ((xs.take b.toNat).drop a.toNat)) H := by obtain ⟨h1, h2, rfl, h4⟩ := h; simp only [cutX, h1, h2, h4, and_self, true_and]
@[go_sem] theorem x_slcO {n g l : Nat} {a b : Option V} : slcK n (.own g l) a b none H k = cutO n g l H[g]? (loI a) (hiI l b) H k := (rfl)
@[go_sem] theorem x_slcmO {n g l : Nat} {a b : Option V} : slcM n (.own g l) a b none H k = cutM n g l H[g]? (loI a) (hiI l b) H k := (rfl)
@[go_sem] theorem x_cutOi {n g l : Nat} {xs : List V} {a b : Option Int} (h : l = xs.length) : cutO n g l (some (.irow n xs)) a b H k = cutK (.sl n) xs a b H k := by simp only [cutO, h, and_self, true_and]
@[go_sem] theorem x_cutMr {n g l E : Nat} {xs : List V} {a b : Int} (h : l = xs.length) (h2 : 0 ≤ a ∧ a ≤ b ∧ b ≤ l ∧ 0 < l) : cutM n g l (some (.row E n xs)) (some a) (some b) H k = k (.cut g l a.toNat b.toNat) H := by simp only [cutM, h, cutC, and_self, true_and]; rw [h] at h2; simp only [h2, and_self, true_and]
@[go_sem] theorem x_loC {n g l i j : Nat} : listOf n H (.cut g l i j) = rowOfC n l i j H[g]? := by simp only [listOf, rowOfC]; cases H[g]? with | none => rfl | some e => cases e <;> rfl
@[go_sem] theorem x_rowC {n l i j E : Nat} {xs : List V} (h : xs.length = l) : rowOfC n l i j (some (.row E n xs)) = some ((xs.take j).drop i) := by simp only [rowOfC, h, and_self, if_true]
@[go_sem] theorem x_iadC {n g l a b : Nat} {q : IntKind} {j : Int} (h : 0 ≤ j ∧ j < (b - a : Nat)) : iadK n (.cut g l a b) (.int q j) H k = isRow l H[g]? (rowN H[g]? = n ∧ k (.eptr g l (a + j.toNat) 0) H) := by simp only [iadK, h, and_self, true_and]
@[go_sem] theorem x_lenC {g n a b : Nat} : lenK 1 (.cut g n a b) H k = isRow n H[g]? (k (.int .i64 (b - a : Nat)) H) := (rfl)
@[go_sem] theorem x_cpO {n g l : Nat} {r : Option (List V)} : copyK n (.own g l) r H k = copyH n g l r H[g]? H k := (rfl)
@[go_sem] theorem x_cpOr {n g l E : Nat} {xs ys : List V} (h : l = xs.length) : copyH n g l (some ys) (some (.row E n xs)) H k = k (.int .i64 ((min ys.length xs.length : Nat) : Int)) (H.set g (.row E n (ys.take xs.length ++ xs.drop ys.length))) := by simp only [copyH, h, and_self, true_and]
@[go_sem] theorem x_cpC {n g l i j : Nat} {r : Option (List V)} : copyK n (.cut g l i j) r H k = copyC n g l i j r H[g]? H k := (rfl)
@[go_sem] theorem x_cpCr {n g l i j E : Nat} {xs ys : List V} (h : l = xs.length) : copyC n g l i j (some ys) (some (.row E n xs)) H k = k (.int .i64 ((min ys.length (j - i) : Nat) : Int)) (H.set g (.row E n (xs.take i ++ (ys.take (j - i) ++ xs.drop (i + min ys.length (j - i)))))) := by simp only [copyC, h, and_self, true_and]
@[go_sem] theorem x_il_cut {g l i o m : Nat} : idsLt m (.cut g l i o) = decide (g < m) := by simp only [idsLt]
@[go_sem] theorem x_cutMi {n g l : Nat} {xs : List V} {a b : Option Int} (h : l = xs.length) : cutM n g l (some (.irow n xs)) a b H k = cutK (.sl n) xs a b H k := by simp only [cutM, h, and_self, true_and]
@[go_sem] theorem x_sls {s : List UInt8} {a b : Option V} : slsK (.str s) a b H k = slsC s (loI a) (hiI s.length b) H k := by simp only [slsK, slsC]; cases loI a <;> cases hiI s.length b <;> rfl
@[go_sem] theorem x_slsC {s : List UInt8} {a b : Int} (h : 0 ≤ a ∧ a ≤ b ∧ b ≤ s.length) : slsC s (some a) (some b) H k = k (.str ((s.take b.toNat).drop a.toNat)) H := by simp only [slsC, h, and_self, true_and]
@[go_sem] theorem x_call {f : FuncId} {a b l : List V} : callK P (.fn f a b) l H k = BCall P f (a ++ (l ++ b)) H k := (rfl)
@[go_sem] theorem x_mcall {f : FuncId} {x : V} {a b l : List V} : mcallK P (.fn f a b) x l H k = MCall P f x (a ++ (x :: l ++ b)) H k := (rfl)
@[go_sem] theorem x_dcall {f : FuncId} {a b l : List V} : dcallK P (.fn f a b) l H k = DCall P f (a ++ (l ++ b)) H k := (rfl)
@[go_sem] theorem x_mnx {q : IntKind} {a : Int} : mnxK (some (q, a)) H k = k (.int q a) H := (rfl)
@[go_sem] theorem x_mnxI {q : IntKind} {a b : Int} {m : Bool} : mnxI m [.int q a, .int q b] = some (q, if m then (if b < a then b else a) else (if b > a then b else a)) := by simp only [mnxI, if_pos]
@[go_sem] theorem x_ext {vs : List V} {i : Nat} : extK i (.tup vs) H k = ldC (getO vs i) H k := by rw [extK, ldC_get]
@[go_sem] theorem x_getO0 {a : V} {l : List V} : getO (a :: l) 0 = some a := (rfl)
@[go_sem] theorem x_getOS {a : V} {l : List V} {i : Nat} : getO (a :: l) (i + 1) = getO l i := (rfl)
@[go_sem] theorem x_rng {s : List UInt8} : rngK (.str s) H k = k (.it H.length) (H ++ [.siter s 0]) := (rfl)
@[go_sem] theorem x_nxt {j : Nat} : nxtK true (.it j) H k = nxtH j H[j]? H k := (rfl)
@[go_sem] theorem x_mput {g : Bool} {ks : List Nat} {j : Nat} {a v : V} : mputK g ks (.map j) a v H k = mputE g ks (valEq g ks a a) j a v H[j]? H k := (rfl)
@[go_sem] theorem x_mputE {g : Bool} {ks : List Nat} {j : Nat} {a v : V} {kvs : List (V × V)} : mputE g ks (some true) j a v (some (.map kvs)) H k = mputP (kpos g ks a kvs) kvs j a v H k := (rfl)
@[go_sem] theorem x_mputS {j i : Nat} {a v : V} {kvs : List (V × V)} : mputP (some (some i)) kvs j a v H k = k undefV (H.set j (.map (kvs.set i (a, v)))) := (rfl)
@[go_sem] theorem x_mputN {j : Nat} {a v : V} {kvs : List (V × V)} : mputP (some none) kvs j a v H k = k undefV (H.set j (.map (kvs ++ [(a, v)]))) := (rfl)
@[go_sem] theorem x_mget {g ok : Bool} {ks : List Nat} {j : Nat} {a z : V} : mgetK g ks z ok (.map j) a H k = mgetE g ks (valEq g ks a a) z ok a H[j]? H k := (rfl)
@[go_sem] theorem x_mgetE {g ok : Bool} {ks : List Nat} {a z : V} {kvs : List (V × V)} : mgetE g ks (some true) z ok a (some (.map kvs)) H k = mgetP (kpos g ks a kvs) kvs z ok H k := (rfl)
@[go_sem] theorem x_mgetS {ok : Bool} {i : Nat} {z : V} {kvs : List (V × V)} : mgetP (some (some i)) kvs z ok H k = k (bif ok then .tup [kval kvs i, .bool true] else kval kvs i) H := (rfl)
@[go_sem] theorem x_mgetN {ok : Bool} {z : V} {kvs : List (V × V)} : mgetP (some none) kvs z ok H k = k (bif ok then .tup [z, .bool false] else z) H := (rfl)
@[go_sem] theorem x_mgetnil {g ok : Bool} {ks : List Nat} {a z : V} : mgetK g ks z ok .nilmap a H k = mgetN (valEq g ks a a) z ok H k := (rfl)
@[go_sem] theorem x_mgetnN {ok : Bool} {z : V} : mgetN (some true) z ok H k = k (bif ok then .tup [z, .bool false] else z) H := (rfl)
@[go_sem] theorem x_veT {ks : List Nat} {a b : List V} : valEq true ks (.agg a) (.agg b) = cellsEq ks a b := (rfl)
@[go_sem] theorem x_veF {ks : List Nat} {a b : V} : valEq false ks a b = cellsEq ks [a] [b] := by cases a <;> cases b <;> rfl
@[go_sem] theorem h_len {a : Entry} {t : List Entry} : (a :: t).length = t.length + 1 := (rfl)
@[go_sem] theorem h_len0  : ([] : List Entry).length = 0 := (rfl)
@[go_sem] theorem h_lenA {a b : List Entry} : (a ++ b).length = a.length + b.length := List.length_append
@[go_sem] theorem h_lenS {a : List Entry} {i : Nat} {x : Entry} : (a.set i x).length = a.length := List.length_set
@[go_sem] theorem h_get0 {a : Entry} {t : List Entry} : (a :: t)[0]? = some a := (rfl)
@[go_sem] theorem h_getS {a : Entry} {t : List Entry} {i : Nat} : (a :: t)[i + 1]? = t[i]? := (rfl)
@[go_sem] theorem h_getA {t : List Entry} : (H ++ t)[H.length]? = t[0]? := by rw [List.getElem?_append_right (Nat.le_refl _)]; simp
@[go_sem] theorem h_getB {t : List Entry} {i : Nat} : (H ++ t)[H.length + i]? = t[i]? := by rw [List.getElem?_append_right (Nat.le_add_right _ _)]; simp
@[go_sem] theorem h_set0 {a b : Entry} {t : List Entry} : (a :: t).set 0 b = b :: t := (rfl)
@[go_sem] theorem h_setS {a b : Entry} {t : List Entry} {i : Nat} : (a :: t).set (i + 1) b = a :: t.set i b := (rfl)
@[go_sem] theorem h_setA {t : List Entry} {b : Entry} : (H ++ t).set H.length b = H ++ t.set 0 b := by rw [List.set_append_right _ _ (Nat.le_refl _)]; simp
@[go_sem] theorem h_setB {t : List Entry} {b : Entry} {i : Nat} : (H ++ t).set (H.length + i) b = H ++ t.set i b := by rw [List.set_append_right _ _ (Nat.le_add_right _ _)]; simp
@[go_sem] theorem h_app {a b : List Entry} : (H ++ a) ++ b = H ++ (a ++ b) := List.append_assoc ..
@[go_sem] theorem h_cons {a : Entry} {t b : List Entry} : (a :: t) ++ b = a :: (t ++ b) := (rfl)
@[go_sem] theorem h_nil {b : List Entry} : ([] : List Entry) ++ b = b := (rfl)
@[go_sem] theorem v_cons {a : V} {t b : List V} : (a :: t) ++ b = a :: (t ++ b) := (rfl)
@[go_sem] theorem v_nil {b : List V} : ([] : List V) ++ b = b := (rfl)
@[go_sem] theorem v_dropS {a : V} {t : List V} {i : Nat} : (a :: t).drop (i + 1) = t.drop i := (rfl)
@[go_sem] theorem v_drop0 {t : List V} : t.drop 0 = t := (rfl)
@[go_sem] theorem v_takeS {a : V} {t : List V} {i : Nat} : (a :: t).take (i + 1) = a :: t.take i := (rfl)
@[go_sem] theorem v_take0 {t : List V} : t.take 0 = [] := List.take_zero
@[go_sem] theorem v_takeN {i : Nat} : ([] : List V).take i = [] := List.take_nil
@[go_sem] theorem c_T {α : Type} {a b : α} : (bif true then a else b) = a := (rfl)
@[go_sem] theorem c_F {α : Type} {a b : α} : (bif false then a else b) = b := (rfl)
end
end Go.Av
namespace Go.Av
open Go Go.RowKit
set_option autoImplicit false
set_option linter.all false
/-! ### What stands in memory has no number that is not there -/
section wf
variable {R : Rd} {m : Nat} (hR : ∀ g, m ≤ g → R.sh g = none)
include hR
theorem lt_of_sh {g : Nat} {s : Shp} (h : R.sh g = some s) : g < m := by
  rcases Nat.lt_or_ge g m with k | k
  · exact k
  · rw [hR g k] at h; cases h
mutual
theorem idsLt_of_rep : ∀ (x : V) (v : Value), VRep R x v → idsLt m x = true
  | .bool _, _, _ => rfl
  | .int _ _, _, _ => rfl
  | .str _, _, _ => rfl
  | .agg cs, v, h => by
    simp only [VRep] at h
    obtain ⟨ds, _, hc⟩ := h
    simp only [idsLt]
    exact idsLts_of_rep cs ds hc
  | .tup cs, v, h => by
    simp only [VRep] at h
    obtain ⟨ds, _, hc⟩ := h
    simp only [idsLt]
    exact idsLts_of_rep cs ds hc
  | .nilsl, _, _ => rfl
  | .sl _ _, _, _ => rfl
  | .slx _ _, _, _ => rfl
  | .own g len, v, h => by
    simp only [VRep] at h
    simp only [idsLt, decide_eq_true_eq]
    cases hs : R.sh g with
    | none => rw [hs] at h; exact h.2.elim
    | some s => exact lt_of_sh hR hs
  | .nilp, _, _ => rfl
  | .ref _, _, _ => rfl
  | .ptr g off, v, h => by
    simp only [VRep] at h
    simp only [idsLt, decide_eq_true_eq]
    cases hs : R.sh g with
    | none => rw [hs] at h; exact h.2.elim
    | some s => exact lt_of_sh hR hs
  | .eptr g len i off, v, h => by
    simp only [VRep] at h
    simp only [idsLt, decide_eq_true_eq]
    cases hs : R.sh g with
    | none => rw [hs] at h; exact h.2.elim
    | some s => exact lt_of_sh hR hs
  | .cut g len i j, v, h => by
    simp only [VRep] at h
    simp only [idsLt, decide_eq_true_eq]
    cases hs : R.sh g with
    | none => rw [hs] at h; exact h.2.elim
    | some s => exact lt_of_sh hR hs
  | .nilfn, _, _ => rfl
  | .fn f a b, v, h => by
    simp only [VRep] at h
    obtain ⟨x, y, _, h1, h2⟩ := h
    simp only [idsLt, Bool.and_eq_true]
    exact ⟨idsLts_of_rep a x h1, idsLts_of_rep b y h2⟩
  | .nilmap, _, _ => rfl
  | .map g, v, h => by
    simp only [VRep] at h
    simp only [idsLt, decide_eq_true_eq]
    cases hs : R.sh g with
    | none => rw [hs] at h; exact h.2.elim
    | some s => exact lt_of_sh hR hs
  | .it g, v, h => by
    simp only [VRep] at h
    simp only [idsLt, decide_eq_true_eq]
    cases hs : R.sh g with
    | none => rw [hs] at h; exact h.2.elim
    | some s => exact lt_of_sh hR hs
  | .junk, _, _ => rfl
theorem idsLts_of_rep : ∀ (cs : List V) (ds : List Value), CRep R cs ds → idsLts m cs = true
  | [], _, _ => rfl
  | c :: cs, ds, h => by
    simp only [CRep] at h
    obtain ⟨d, r, rfl, h1, h2⟩ := h
    simp only [idsLts, Bool.and_eq_true]
    exact ⟨idsLt_of_rep c d h1, idsLts_of_rep cs r h2⟩
end
theorem idsLtM_of_rep : ∀ (kvs : List (V × V)) (es : List MapEntry), MRep R kvs es → idsLtM m kvs = true
  | [], _, _ => rfl
  | (k, x) :: l, es, h => by
    obtain ⟨e, r, rfl, h1, h2, h3⟩ := h
    simp only [idsLtM, Bool.and_eq_true]
    exact ⟨idsLt_of_rep hR k _ h1, idsLt_of_rep hR x _ h2, idsLtM_of_rep l r h3⟩
end wf
theorem hLe_of_all {m : Nat} : ∀ {H : List Entry}, (∀ e ∈ H, idsLtE m e = true) → hLe m H H
  | [], _ => by simp [hLe]
  | e :: H, h => by
    simp only [hLe]
    exact ⟨.inr ⟨trivial, h e (by simp)⟩, hLe_of_all fun x hx => h x (by simp [hx])⟩
/-- Well formed: no number that is not there. -/
def Wf (H : List Entry) : Prop := hLe H.length H H
theorem wf_of_rep {C : Ctx} (h : HRep C) : Wf C.H := by
  have hR : ∀ g, C.H.length ≤ g → C.R.sh g = none := fun g hg => by simp [Ctx.R, Ctx.sh, List.getElem?_eq_none hg]
  refine hLe_of_all fun e he => ?_
  obtain ⟨g, hg⟩ := List.mem_iff_getElem?.1 he
  have h0 := h.ent g e hg
  cases e with
  | box cs =>
    obtain ⟨b, c, cur, E, _, _, k⟩ := h0
    exact idsLts_of_rep hR _ _ k
  | map kvs =>
    obtain ⟨b, c, es, clock, _, _, k⟩ := h0
    exact idsLtM_of_rep hR _ _ k
  | _ => rfl
theorem wf_nil : Wf [] := by simp [Wf, hLe]
theorem hLe_drop {m : Nat} : ∀ {H t : List Entry}, hLe m H H → hLe m (H ++ t) H
  | [], t, _ => by simp [hLe]
  | e :: H, t, h => by
    simp only [List.cons_append, hLe] at h ⊢
    exact ⟨h.1, hLe_drop h.2⟩
mutual
theorem idsLt_mono {m m' : Nat} (hm : m ≤ m') : ∀ x : V, idsLt m x = true → idsLt m' x = true
  | .bool _, _ => rfl
  | .int _ _, _ => rfl
  | .str _, _ => rfl
  | .agg cs, h => by
    simp only [idsLt] at h ⊢; exact idsLts_mono hm cs h
  | .tup cs, h => by
    simp only [idsLt] at h ⊢; exact idsLts_mono hm cs h
  | .nilsl, _ => rfl
  | .sl _ _, _ => rfl
  | .slx _ _, _ => rfl
  | .own g _, h => by simp only [idsLt, decide_eq_true_eq] at h ⊢; omega
  | .nilp, _ => rfl
  | .ref _, _ => rfl
  | .ptr g _, h => by simp only [idsLt, decide_eq_true_eq] at h ⊢; omega
  | .eptr g _ _ _, h => by simp only [idsLt, decide_eq_true_eq] at h ⊢; omega
  | .cut g _ _ _, h => by simp only [idsLt, decide_eq_true_eq] at h ⊢; omega
  | .nilfn, _ => rfl
  | .fn f a b, h => by
    simp only [idsLt, Bool.and_eq_true] at h ⊢
    exact ⟨idsLts_mono hm a h.1, idsLts_mono hm b h.2⟩
  | .nilmap, _ => rfl
  | .map g, h => by simp only [idsLt, decide_eq_true_eq] at h ⊢; omega
  | .it g, h => by simp only [idsLt, decide_eq_true_eq] at h ⊢; omega
  | .junk, _ => rfl
theorem idsLts_mono {m m' : Nat} (hm : m ≤ m') : ∀ l : List V, idsLts m l = true → idsLts m' l = true
  | [], _ => rfl
  | a :: l, h => by
    simp only [idsLts, Bool.and_eq_true] at h ⊢
    exact ⟨idsLt_mono hm a h.1, idsLts_mono hm l h.2⟩
end
theorem idsLtM_mono {m m' : Nat} (hm : m ≤ m') : ∀ l : List (V × V), idsLtM m l = true → idsLtM m' l = true
  | [], _ => rfl
  | (a, b) :: l, h => by
    simp only [idsLtM, Bool.and_eq_true] at h ⊢
    exact ⟨idsLt_mono hm a h.1, idsLt_mono hm b h.2.1, idsLtM_mono hm l h.2.2⟩
theorem idsLtE_mono {m m' : Nat} (hm : m ≤ m') {e : Entry} (h : idsLtE m e = true) : idsLtE m' e = true := by
  cases e with
  | box cs => exact idsLts_mono hm _ h
  | map kvs => exact idsLtM_mono hm _ h
  | _ => rfl
theorem hLe_app {m : Nat} : ∀ {H t t' : List Entry}, hLe H.length H H → H.length ≤ m → hLe m t t' → hLe m (H ++ t) (H ++ t') := by
  intro H t t' h hm ht
  have key : ∀ (A : List Entry), hLe H.length A A → hLe m (A ++ t) (A ++ t') := by
    intro A
    induction A with
    | nil => intro _; exact ht
    | cons e A ih =>
      intro hA
      simp only [List.cons_append, hLe] at hA ⊢
      exact ⟨hA.1.imp id fun k => ⟨k.1, idsLtE_mono hm k.2⟩, ih hA.2⟩
  exact key H h

@[go_sem] theorem i64w {n : Int} (h : -9223372036854775808 ≤ n ∧ n ≤ 9223372036854775807) : IntKind.i64.wrap n = n := by rw [IntKind.wrap_i64]; omega
@[go_sem] theorem u64w {n : Int} (h : 0 ≤ n ∧ n ≤ 18446744073709551615) : IntKind.u64.wrap n = n := by
  simp only [IntKind.wrap, IntKind.bits, IntKind.signed]; simp; omega
@[go_sem] theorem u32w {n : Int} (h : 0 ≤ n ∧ n ≤ 4294967295) : IntKind.u32.wrap n = n := by rw [IntKind.wrap_u32]; omega
@[go_sem] theorem u16w {n : Int} (h : 0 ≤ n ∧ n ≤ 65535) : IntKind.u16.wrap n = n := by
  simp only [IntKind.wrap, IntKind.bits, IntKind.signed]; simp; omega
@[go_sem] theorem u8w {n : Int} (h : 0 ≤ n ∧ n ≤ 255) : IntKind.u8.wrap n = n := by rw [IntKind.wrap_u8]; omega
@[go_sem] theorem i32w {n : Int} (h : -2147483648 ≤ n ∧ n ≤ 2147483647) : IntKind.i32.wrap n = n := by rw [IntKind.wrap_i32]; omega
@[go_sem] theorem nth_map {α : Type} [Inhabited α] (f : α → V) : ∀ (l : List α) (i : Nat), i < l.length → nth (l.map f) i = f (l.getD i default)
  | [], i, h => by simp at h
  | a :: l, 0, _ => rfl
  | a :: l, i + 1, h => by
    have := nth_map f l i (by simpa using h)
    simpa [nth] using this
attribute [go_sem] List.length_cons List.length_nil decide_true decide_false decide_eq_true_eq cond_true cond_false Bool.and_self Bool.and_true Bool.true_and Bool.and_false Bool.false_and Bool.or_true Bool.true_or Bool.or_false Bool.false_or Bool.not_true Bool.not_false Option.map_some Option.map_none Int.toNat_natCast List.length_map List.replicate_succ List.replicate_zero
/-! ### A function's end -/
section
variable {P : Program}
def hasCell : List RA → Bool
  | [] => false
  | .tmp _ :: l => hasCell l
  | .cell .. :: _ => true
/-- What comes back: less may be known of it. -/
def endW (n0 : Nat) (acc : List V) (K : KV) (H : List Entry) : Prop := WkP n0 (fun xs H' => K (oneV xs) H') acc H
def resE (n0 : Nat) : List RA → List V → KV → List V → List Entry → Prop
  | [], acc, K, _, H => endW n0 acc K H
  | .tmp t :: l, acc, K, e, H => resE n0 l (acc ++ [nth e t]) K e H
  | .cell a n g :: l, acc, K, e, H => loadK n g (nth e a) H (fun v H' => resE n0 l (acc ++ [v]) K e H')
def resEC (n0 : Nat) (l : List RA) (acc : List V) (k : KV) (e : List V) : KV := fun v H => resE n0 l (acc ++ [v]) k e H
def finP (n0 : Nat) (rs : List RA) (b : Bool) (K : KV) (e : List V) (H : List Entry) : Prop := match b with | false => WkP n0 (resK rs [] K) e H | true => resE n0 rs [] K e H
def finW (n0 : Nat) (rs : List RA) (K : KV) : KQ
  | .norm, e, H => finP n0 rs (hasCell rs) K e H
  | .ret, e, H => finP n0 rs (hasCell rs) K e H
  | .exit _, _, _ => False
theorem resE_sound {K : KV} {n0 : Nat} : ∀ (l : List ResultVar) (rs : List RA), cRes P l = some rs → ∀ (C : Ctx) (e : List V) (tmps : Array Value) (acc : List V) (ds : List Value), HRep C → CRep C.R e tmps.toList → CRep C.R acc ds → resE n0 rs acc K e C.H →
    ∃ (vs : List Value) (xs : List V), (l.mapM (resOne tmps)).run P C.w = .ok vs C.w ∧ CRep C.R xs (ds ++ vs) ∧ endW n0 xs K C.H
  | [], rs, h, C, e, tmps, acc, ds, hC, hE, ha, hk => by
    simp only [cRes, Option.some.injEq] at h
    subst h
    exact ⟨[], acc, by simp, by simpa using ha, hk⟩
  | .tmp t :: l, rs, h, C, e, tmps, acc, ds, hC, hE, ha, hk => by
    simp only [cRes] at h
    obtain ⟨r, hr, rfl⟩ := Option.map_eq_some_iff.1 h
    simp only [resE] at hk
    have hv : VRep C.R (nth e t) (tmps.getD t undef) := by
      have := CRep_nth t hE
      simpa using this
    obtain ⟨vs, xs, h1, h4, h5⟩ := resE_sound l r hr C e tmps (acc ++ [nth e t]) (ds ++ [tmps.getD t undef]) hC hE (CRep_append ha (CRep_cons hv CRep_nil)) hk
    refine ⟨tmps.getD t undef :: vs, xs, ?_, by simpa using h4, h5⟩
    simp only [List.mapM_cons, resOne, Sem.run_bind, Sem.run_pure, Result.andThen_ok, h1]
  | .cell a t :: l, rs, h, C, e, tmps, acc, ds, hC, hE, ha, hk => by
    simp only [cRes] at h
    split at h
    · rename_i n r hn hr
      split at h
      · rename_i hty
        cases h
        simp only [resE] at hk
        have hv : VRep C.R (nth e a) (tmps.getD a undef) := by
          have := CRep_nth a hE
          simpa using this
        obtain ⟨x, v, h1, h4, h5⟩ := load_reads (P := P) hn hty hC hv hk
        obtain ⟨vs, xs, k1, k4, k5⟩ := resE_sound l r hr C e tmps (acc ++ [x]) (ds ++ [v]) hC hE (CRep_append ha (CRep_cons h4 CRep_nil)) h5
        refine ⟨v :: vs, xs, ?_, by simpa using k4, k5⟩
        have h1' : (resOne tmps (.cell a t)).run P C.w = .ok v C.w := load_as h1
        simp only [List.mapM_cons, Sem.run_bind, h1', Sem.run_pure, Result.andThen_ok, k1]
      · cases h
    · cases h
theorem finP_sound {fn : Func} {rs : List RA} (hr : cRes P fn.results.toList = some rs) {n0 : Nat} {K : KV} {e : List V} {C0 C' : Ctx} {tmps : Array Value} (hH : C0.H.length = n0) (ht : Tr C0 C') (hC' : HRep C') (hE : CRep C'.R e tmps.toList) (h : finP n0 rs (hasCell rs) K e C'.H) :
    ∃ v, (results fn tmps).run P C'.w = .ok v C'.w ∧ ∃ (C2 : Ctx) (x : V) (u : Value), Ending.returned v = .returned u ∧ C2.w = C'.w ∧ Tr C0 C2 ∧ HRep C2 ∧ VRep C2.R x u ∧ K x C2.H := by
  cases hb : hasCell rs <;> rw [hb] at h
  · obtain ⟨e', H', hwk, hk⟩ := h
    obtain ⟨C1, w', k1, k2, k3, k4⟩ := Wk_sound hwk C0 C' _ hH rfl ht hC' hE
    subst k1
    obtain ⟨vs, xs, m1, m4, m5⟩ := resK_sound fn.results.toList rs hr C1 e' tmps [] [] k3 k4 CRep_nil hk
    refine ⟨_, ?_, C1, oneV xs, _, rfl, w', k2, k3, oneV_rep (by simpa using m4), m5⟩
    rw [results_eq]
    rw [w'] at m1
    simp only [Sem.run_bind, m1, Result.andThen_ok, Sem.run_pure]
  · obtain ⟨vs, xs, m1, m4, m5⟩ := resE_sound fn.results.toList rs hr C' e tmps [] [] hC' hE CRep_nil h
    obtain ⟨e', H', hwk, hk⟩ := m5
    obtain ⟨C1, w', k1, k2, k3, k4⟩ := Wk_sound hwk C0 C' _ hH rfl ht hC' m4
    subst k1
    refine ⟨_, ?_, C1, oneV e', _, rfl, w', k2, k3, oneV_rep (by simpa using k4), hk⟩
    rw [results_eq]
    simp only [Sem.run_bind, m1, Result.andThen_ok, Sem.run_pure]
/-- A function's body, walked: that is its call. -/
theorem call_of {f : FuncId} {fn : Func} {ac : AC} {rs : List RA} {args env : List V} {H : List Entry} {K : KV} (hf : P.funcs[f]? = some fn) (hbc : fn.body.bind (comp P) = some ac) (hs : strip ac = ac) (hr : cRes P fn.results.toList = some rs) (hn : (fn.name != "runtime.NumGoroutine") = true)
    (he0 : env = args ++ List.replicate (fn.ntmps - args.length) undefV) (h : Wf H → awp P H.length ac (finW H.length rs K) env H) : BCall P f args H K := by
  obtain ⟨c, hb, hc⟩ := Option.bind_eq_some_iff.1 hbc
  refine ⟨by simp only [hasBody, hf, hn, hb, Option.isSome_some, Bool.and_self], fun C vals hH hC hv => ?_⟩
  have hl := CRep_length hv
  refine calls_of_wp hf hb ?_
  have he : (⟨vals.toArray ++ Array.replicate (fn.ntmps - vals.toArray.size) undef, []⟩ : Act).tmps.toList = vals ++ List.replicate (fn.ntmps - args.length) undef := by
    have : fn.ntmps - vals.toArray.size = fn.ntmps - args.length := by simp; omega
    rw [this]; simp
  have hw := awp_sound ac c (by rw [hs]; exact hc) (finW H.length rs K) C C ⟨vals.toArray ++ Array.replicate (fn.ntmps - vals.toArray.size) undef, []⟩ env (by rw [hH]) (Tr.refl C) hC (by rw [he, he0]; exact CRep_append hv (undefs_rep _)) rfl (by rw [hH]; exact h (hH ▸ wf_of_rep hC))
  refine wp_mono hw ?_
  rintro x a w ⟨C', e, y, rfl, ht, hC', hE, hd, hx, hq⟩
  have fin : finP H.length rs (hasCell rs) K e C'.H → a.defers = [] ∧ ∃ v, (results fn a.tmps).run P C'.w = .ok v C'.w ∧ ∃ (C2 : Ctx) (x : V) (u : Value), Ending.returned v = .returned u ∧ C2.w = C'.w ∧ Tr C C2 ∧ HRep C2 ∧ VRep C2.R x u ∧ K x C2.H := fun h => ⟨hd, finP_sound hr (by rw [hH]) ht hC' hE h⟩
  cases x <;> simp only [exOf, reduceCtorEq, Option.some.injEq] at hx <;> subst hx
  · exact fin hq
  · exact hq.elim
  · exact fin hq
/-- All slots but these are given up. -/
def only : Nat → List Nat → List V → List V
  | _, _, [] => []
  | i, l, x :: e => (if l.contains i then x else .junk) :: only (i + 1) l e
theorem only_le {m : Nat} (l : List Nat) : ∀ (e : List V) (i : Nat), (∀ j, l.contains (i + j) = true → idsLt m (nth e j) = true) → eLe m e (only i l e)
  | [], _, _ => by simp [only, eLe]
  | x :: e, i, h => by
    simp only [only, eLe]
    refine ⟨?_, only_le l e (i + 1) fun j hj => by have := h (j + 1) (by rw [← hj]; congr 1; omega); simpa [nth] using this⟩
    by_cases hi : l.contains i = true
    · rw [if_pos hi]; exact .inr ⟨rfl, by simpa [nth] using h 0 (by simpa using hi)⟩
    · rw [if_neg hi]; exact .inl rfl
theorem nth_only (l : List Nat) : ∀ (e : List V) (i j : Nat), l.contains (i + j) = true → nth (only i l e) j = nth e j
  | [], _, j, _ => by simp [only]
  | x :: e, i, 0, h => by
    rw [Nat.add_zero] at h
    simp only [only, nth, h, if_true]
  | x :: e, i, j + 1, h => by
    simp only [only, nth]
    exact nth_only l e (i + 1) j (by rw [← h]; congr 1; omega)
def rsT : List Nat → List RA
  | [] => []
  | t :: l => .tmp t :: rsT l
def nths (e : List V) : List Nat → List V
  | [] => []
  | t :: l => nth e t :: nths e l
theorem resK_tmps {K : KV} {e : List V} {H : List Entry} : ∀ (ts : List Nat) (acc : List V), resK (rsT ts) acc K e H = K (oneV (acc ++ nths e ts)) H
  | [], acc => by simp [rsT, resK, nths]
  | t :: l, acc => by simp only [rsT, resK, nths]; rw [resK_tmps l]; simp
theorem nths_only {e : List V} {l : List Nat} : ∀ (ts : List Nat), (∀ t ∈ ts, l.contains t = true) → nths (only 0 l e) ts = nths e ts
  | [], _ => rfl
  | t :: ts, h => by
    simp only [nths]
    rw [nth_only l e 0 t (by simpa using h t (by simp)), nths_only ts fun u hu => h u (by simp [hu])]
theorem idsLts_nths {m : Nat} {e : List V} : ∀ {ts : List Nat}, idsLts m (nths e ts) = true → ∀ t ∈ ts, idsLt m (nth e t) = true
  | [], _, t, h => by cases h
  | a :: ts, h, t, ht => by
    simp only [nths, idsLts, Bool.and_eq_true] at h
    rcases List.mem_cons.1 ht with rfl | k
    · exact h.1
    · exact idsLts_nths h.2 t k
/-- What comes back has no number of what is given up: only what was there before is kept. -/
theorem fin_tmp {K : KV} {e : List V} {H t : List Entry} {ts : List Nat} (hw : Wf H) (hi : idsLts H.length (nths e ts) = true) (hk : K (oneV (nths e ts)) H) : WkP H.length (resK (rsT ts) [] K) e (H ++ t) := by
  refine ⟨only 0 ts e, H, .drop (Nat.le_refl _) (only_le ts e 0 fun j hj => ?_) (hLe_drop hw), ?_⟩
  · rw [Nat.zero_add] at hj
    exact idsLts_nths hi j (by simpa using hj)
  · rw [resK_tmps]
    simp only [List.nil_append]
    rw [nths_only ts fun t ht => by simpa using ht]
    exact hk
theorem fin_tmp0 {K : KV} {e : List V} {H : List Entry} {ts : List Nat} (hw : Wf H) (hi : idsLts H.length (nths e ts) = true) (hk : K (oneV (nths e ts)) H) : WkP H.length (resK (rsT ts) [] K) e H := by
  have := fin_tmp (t := []) hw hi hk
  simpa using this
/-- What comes back, frozen. -/
theorem wk_frz {n0 : Nat} {f : K1} {e : List V} {H : List Entry} (i : Nat) (h : WkP n0 f (setAt e i (fz 8 H (nth e i)).1) (fz 8 H (nth e i)).2) : WkP n0 f e H := by
  obtain ⟨e', H', k1, k2⟩ := h
  exact ⟨e', H', .trans (.frz i) k1, k2⟩
theorem wk_adopt {n0 : Nat} {f : K1} {e : List V} {H : List Entry} (i E n : Nat) (hi : nth e i = .nilsl) (h : WkP n0 f (setAt e i (.own H.length 0)) (H ++ [.row E n []])) : WkP n0 f e H := by
  obtain ⟨e', H', k1, k2⟩ := h
  exact ⟨e', H', .trans (.adopt i E n hi) k1, k2⟩
theorem wk_refl {n0 : Nat} {f : K1} {e : List V} {H : List Entry} (h : f e H) : WkP n0 f e H := ⟨e, H, .refl, h⟩
theorem lt_of_nth : ∀ {e : List V} {i : Nat}, nth e i ≠ .junk → i < e.length
  | [], i, h => absurd rfl h
  | _ :: _, 0, _ => by simp
  | _ :: l, i + 1, h => by
    have := lt_of_nth (e := l) (i := i) h
    simpa using this
/-- A row of one's own is read from then on only. -/
theorem wk_own {n0 : Nat} {f : K1} {e : List V} {H H' t : List Entry} (s i : Nat) {len E n : Nat} {xs : List V} (hH : H' = H ++ t) (hv : nth e s = .own (H.length + i) len) (ht : t[i]? = some (.row E n xs)) (hl : xs.length = len)
    (h : WkP n0 f (setAt e s (.sl n xs)) (H ++ t.set i (.irow n xs))) : WkP n0 f e H' := by
  subst hH
  refine wk_frz s ?_
  have h1 : (H ++ t)[H.length + i]? = some (.row E n xs) := by
    rw [List.getElem?_append_right (Nat.le_add_right _ _)]
    simpa using ht
  have h2 : fz 8 (H ++ t) (nth e s) = (.sl n xs, H ++ t.set i (.irow n xs)) := by
    rw [hv]
    simp only [fz, h1, fzRow, hl, if_true]
    rw [List.set_append_right _ _ (Nat.le_add_right _ _)]
    simp
  rw [h2]
  exact h
theorem setAt_twice : ∀ (e : List V) (s : Nat) (v w : V), setAt (setAt e s v) s w = setAt e s w
  | [], _, _, _ => rfl
  | _ :: _, 0, _, _ => rfl
  | a :: l, s + 1, v, w => by simp only [setAt]; rw [setAt_twice l s v w]
theorem wk_nil {n0 : Nat} {f : K1} {e : List V} {H H' t : List Entry} (s n : Nat) (hH : H' = H ++ t) (hv : nth e s = .nilsl)
    (h : WkP n0 f (setAt e s (.sl n [])) (H ++ (t ++ [.irow n []]))) : WkP n0 f e H' := by
  subst hH
  refine wk_adopt s 0 n hv ?_
  have hlt : s < e.length := lt_of_nth (by rw [hv]; simp)
  rw [List.append_assoc]
  refine wk_own s t.length (len := 0) (E := 0) (n := n) (xs := []) rfl ?_ (by simp) rfl ?_
  · rw [nth_setAt_eq hlt, List.length_append]
  · rw [setAt_twice]
    rw [List.set_append_right _ _ (Nat.le_refl _)]
    simpa using h
/-- What comes back as it is, and what is there with it. -/
theorem fin_all {n0 : Nat} {K : KV} {e : List V} {H : List Entry} {ts : List Nat} (hk : K (oneV (nths e ts)) H) : WkP n0 (resK (rsT ts) [] K) e H := by
  refine wk_refl ?_
  rw [resK_tmps]
  exact hk
/-! ### Loops -/
/-- Slots in order; those that are not told are given up. -/
def slots : Nat → Nat → List (Nat × V) → List V
  | _, 0, _ => []
  | i, n + 1, [] => .junk :: slots (i + 1) n []
  | i, n + 1, (j, v) :: l => bif decide (i = j) then v :: slots (i + 1) n l else .junk :: slots (i + 1) n ((j, v) :: l)
theorem loop_in {n0 : Nat} {f : KQ → K1} {Q : KQ} {e : List V} {H : List Entry} (I : Nat → K1) {n : Nat} {e' : List V} {H' : List Entry} (hI : I n e' H') (hn : n0 ≤ H'.length) (he : eLe H'.length e e') (hh : hLe H'.length H H')
    (hr : ∀ J : Nat → K1, (∀ n e H, I n e H → J n e H) → ∀ n e H, I n e H → f (roundK n0 J n Q) e H) : LoopP n0 f Q e H := ⟨I, ⟨n, e', H', .drop hn he hh, hI⟩, hr I fun _ _ _ h => h⟩
theorem loop_adopt {n0 : Nat} {f : KQ → K1} {Q : KQ} {e : List V} {H : List Entry} (i E n : Nat) (hi : nth e i = .nilsl) (h : LoopP n0 f Q (setAt e i (.own H.length 0)) (H ++ [.row E n []])) : LoopP n0 f Q e H := by
  obtain ⟨I, ⟨m, e', H', k1, k2⟩, k3⟩ := h
  exact ⟨I, ⟨m, e', H', .trans (.adopt i E n hi) k1, k2⟩, k3⟩
theorem round_end {n0 : Nat} {Q : KQ} {e : List V} {H : List Entry} {I : Nat → K1} {n m : Nat} {e' : List V} {H' : List Entry} (hI : I m e' H') (hm : m < n) (hn : n0 ≤ H'.length) (he : eLe H'.length e e') (hh : hLe H'.length H H') : roundK n0 I n Q .norm e H :=
  ⟨m, e', H', hm, .drop hn he hh, hI⟩
theorem loop_wk {n0 : Nat} {f : KQ → K1} {Q : KQ} {e e1 : List V} {H H1 : List Entry} (hk : Wk n0 e H e1 H1) (h : LoopP n0 f Q e1 H1) : LoopP n0 f Q e H := by
  obtain ⟨I, ⟨m, e', H', k1, k2⟩, k3⟩ := h
  exact ⟨I, ⟨m, e', H', .trans hk k1, k2⟩, k3⟩
theorem round_wk {n0 : Nat} {Q : KQ} {e e1 : List V} {H H1 : List Entry} {I : Nat → K1} {n : Nat} (hk : Wk n0 e H e1 H1) (h : roundK n0 I n Q .norm e1 H1) : roundK n0 I n Q .norm e H := by
  obtain ⟨m, e', H', h1, h2, h3⟩ := h
  exact ⟨m, e', H', h1, .trans hk h2, h3⟩
theorem wk_wk {n0 : Nat} {f : K1} {e e1 : List V} {H H1 : List Entry} (hk : Wk n0 e H e1 H1) (h : WkP n0 f e1 H1) : WkP n0 f e H := by
  obtain ⟨e', H', k1, k2⟩ := h
  exact ⟨e', H', .trans hk k1, k2⟩
theorem end_wk {n0 : Nat} {K : KV} {e e1 : List V} {H H1 : List Entry} (hk : Wk n0 e H e1 H1) (h : endW n0 e1 K H1) : endW n0 e K H := wk_wk hk h
/-- A row of one's own, in what lies in a box that is new. -/
theorem loop_adoptB {n0 : Nat} {f : KQ → K1} {Q : KQ} {e : List V} {H t : List Entry} {cs : List V} (g j E n : Nat) (hg : t[g]? = some (.box cs)) (hj : nth cs j = .nilsl) (h : LoopP n0 f Q e (H ++ (t.set g (.box (setAt cs j (.own (H.length + t.length) 0))) ++ [.row E n []]))) : LoopP n0 f Q e (H ++ t) := by
  have hlt : g < t.length := (List.getElem?_eq_some_iff.1 hg).1
  refine loop_wk (.adoptB (H.length + g) j E n (cs := cs) ?_ hj) ?_
  · rw [List.getElem?_append_right (Nat.le_add_right _ _)]; simpa using hg
  · rw [List.set_append_right _ _ (Nat.le_add_right _ _), List.length_append, List.append_assoc]
    simpa using h
theorem end_less {n0 : Nat} {K : KV} {e : List V} {H : List Entry} (e1 : List V) (hl : Lesses e e1) (h : endW n0 e1 K H) : endW n0 e K H := end_wk (.less hl) h
/-! ### Ways that part -/
theorem br_cd {p : Prop} [Decidable p] {a b : K1} {e : List V} {H : List Entry} (h1 : p → condK (.bool true) a b e H) (h2 : ¬ p → condK (.bool false) a b e H) : condK (.bool (decide p)) a b e H := by
  by_cases h : p
  · simpa only [h, decide_true] using h1 h
  · simpa only [h, decide_false] using h2 h
theorem br_cb {c : Bool} {a b : K1} {e : List V} {H : List Entry} (h1 : c = true → condK (.bool true) a b e H) (h2 : c = false → condK (.bool false) a b e H) : condK (.bool c) a b e H := by
  cases c
  · exact h2 rfl
  · exact h1 rfl
theorem br_gd {p : Prop} [Decidable p] {o : AOp} {t : Bool} {k : KV} {e : List V} {H : List Entry} (h1 : p → gdK P (.bool true) t o k e H) (h2 : ¬ p → gdK P (.bool false) t o k e H) : gdK P (.bool (decide p)) t o k e H := by
  by_cases h : p
  · simpa only [h, decide_true] using h1 h
  · simpa only [h, decide_false] using h2 h
theorem br_gb {c : Bool} {o : AOp} {t : Bool} {k : KV} {e : List V} {H : List Entry} (h1 : c = true → gdK P (.bool true) t o k e H) (h2 : c = false → gdK P (.bool false) t o k e H) : gdK P (.bool c) t o k e H := by
  cases c
  · exact h2 rfl
  · exact h1 rfl
theorem br_pd {p : Prop} [Decidable p] {x y : V} {k : KV} {H : List Entry} (h1 : p → pickK (.bool true) x y H k) (h2 : ¬ p → pickK (.bool false) x y H k) : pickK (.bool (decide p)) x y H k := by
  by_cases h : p
  · simpa only [h, decide_true] using h1 h
  · simpa only [h, decide_false] using h2 h
theorem br_pb {c : Bool} {x y : V} {k : KV} {H : List Entry} (h1 : c = true → pickK (.bool true) x y H k) (h2 : c = false → pickK (.bool false) x y H k) : pickK (.bool c) x y H k := by
  cases c
  · exact h2 rfl
  · exact h1 rfl
theorem fin_eq {K : KV} {a b : V} {H : List Entry} (hK : K a H) (h : b = a) : K b H := by rw [h]; exact hK
/-! ### Calls -/
/-- A call that brings a value, and leaves what there is as it was. -/
def Pure (P : Program) (f : FuncId) (args : List V) (H : List Entry) (r : V) : Prop := ∀ K : KV, K r H → BCall P f args H K
theorem Pure.pcall {f : FuncId} {args : List V} {H : List Entry} {r : V} {K : KV} (h : ∀ H', Pure P f args H' r) (hk : K r H) : PCall P f args H K :=
  ⟨r, fun H' => h H' _ ⟨rfl, rfl⟩, hk⟩
theorem Pure.dcall {f : FuncId} {args : List V} {H : List Entry} {r : V} {K : KV} (h : Pure P f args H r) (hk : K r H) : DCall P f args H K :=
  ⟨r, [], h _ ⟨rfl, by simp⟩, by simpa using hk⟩
end
@[go_sem] theorem x_eLe0 {m : Nat} : eLe m [] [] = True := by simp [eLe]
@[go_sem] theorem x_eLeJ {m : Nat} {a : V} {l l' : List V} : eLe m (a :: l) (.junk :: l') = eLe m l l' := by simp [eLe]
theorem x_eLeS {m : Nat} {a : V} {l l' : List V} (h : idsLt m a = true) : eLe m (a :: l) (a :: l') = eLe m l l' := by simp [eLe, h]
theorem x_hLeS {m : Nat} {a : Entry} {l l' : List Entry} (h : idsLtE m a = true) : hLe m (a :: l) (a :: l') = hLe m l l' := by simp [hLe, h]
@[go_sem] theorem x_hLe0 {m : Nat} {H : List Entry} : hLe m H [] = True := by cases H <;> simp [hLe]
@[go_sem] theorem x_hLeG {m : Nat} {a : Entry} {l l' : List Entry} : hLe m (a :: l) (.gone :: l') = hLe m l l' := by simp [hLe]
@[go_sem] theorem x_sl0 {i : Nat} {l : List (Nat × V)} : slots i 0 l = [] := by cases l <;> rfl
@[go_sem] theorem x_slN {i n : Nat} : slots i (n + 1) [] = .junk :: slots (i + 1) n [] := (rfl)
@[go_sem] theorem x_slS {i n j : Nat} {v : V} {l : List (Nat × V)} : slots i (n + 1) ((j, v) :: l) = bif decide (i = j) then v :: slots (i + 1) n l else .junk :: slots (i + 1) n ((j, v) :: l) := (rfl)
@[go_sem] theorem x_nths0 {e : List V} : nths e [] = [] := (rfl)
@[go_sem] theorem x_nthsS {e : List V} {t : Nat} {l : List Nat} : nths e (t :: l) = nth e t :: nths e l := (rfl)
@[go_sem] theorem x_fwN {n0 : Nat} {rs : List RA} {K : KV} {e : List V} {H : List Entry} : finW n0 rs K .norm e H = finP n0 rs (hasCell rs) K e H := (rfl)
@[go_sem] theorem x_fwR {n0 : Nat} {rs : List RA} {K : KV} {e : List V} {H : List Entry} : finW n0 rs K .ret e H = finP n0 rs (hasCell rs) K e H := (rfl)
@[go_sem] theorem x_fpF {n0 : Nat} {rs : List RA} {K : KV} {e : List V} {H : List Entry} : finP n0 rs false K e H = WkP n0 (resK rs [] K) e H := (rfl)
@[go_sem] theorem x_fpT {n0 : Nat} {rs : List RA} {K : KV} {e : List V} {H : List Entry} : finP n0 rs true K e H = resE n0 rs [] K e H := (rfl)
@[go_sem] theorem x_hcT : ∀ {ts : List Nat}, hasCell (rsT ts) = false
  | [] => (rfl)
  | _ :: _ => by simp only [rsT, hasCell, x_hcT]
@[go_sem] theorem x_hcC {a n : Nat} {g : Bool} {l : List RA} : hasCell (.cell a n g :: l) = true := (rfl)
@[go_sem] theorem x_hcS {a : Nat} {l : List RA} : hasCell (.tmp a :: l) = hasCell l := (rfl)
@[go_sem] theorem x_reC {n0 : Nat} {acc : List V} {a n : Nat} {g : Bool} {l : List RA} {K : KV} {e : List V} {H : List Entry} : resE n0 (.cell a n g :: l) acc K e H = loadK n g (nth e a) H (resEC n0 l acc K e) := (rfl)
@[go_sem] theorem x_reT {n0 : Nat} {acc : List V} {t : Nat} {l : List RA} {K : KV} {e : List V} {H : List Entry} : resE n0 (.tmp t :: l) acc K e H = resE n0 l (acc ++ [nth e t]) K e H := (rfl)
@[go_sem] theorem x_re0 {n0 : Nat} {acc : List V} {K : KV} {e : List V} {H : List Entry} : resE n0 [] acc K e H = endW n0 acc K H := (rfl)
@[go_sem] theorem x_reCK {n0 : Nat} {acc : List V} {v : V} {l : List RA} {K : KV} {e : List V} {H : List Entry} : resEC n0 l acc K e v H = resE n0 l (acc ++ [v]) K e H := (rfl)
theorem eLe_same {m : Nat} : ∀ {l : List V}, idsLts m l = true → eLe m l l
  | [], _ => by simp [eLe]
  | a :: l, h => by
    simp only [idsLts, Bool.and_eq_true] at h
    simp only [eLe]
    exact ⟨.inr (by simp [h.1]), eLe_same h.2⟩
/-- What comes back has no number of what is given up. -/
theorem fin_res {K : KV} {e : List V} {H t : List Entry} (hw : Wf H) (hi : idsLts H.length e = true) (hk : K (oneV e) H) : endW H.length e K (H ++ t) :=
  ⟨e, H, .drop (Nat.le_refl _) (eLe_same hi) (hLe_drop hw), hk⟩
theorem fin_res0 {K : KV} {e : List V} {H : List Entry} (hw : Wf H) (hi : idsLts H.length e = true) (hk : K (oneV e) H) : endW H.length e K H := by
  have := fin_res (t := []) hw hi hk
  simpa using this
/-- As it is, with what is there. -/
theorem fin_keep {n0 : Nat} {K : KV} {e : List V} {H : List Entry} (hk : K (oneV e) H) : endW n0 e K H := ⟨e, H, .refl, hk⟩
theorem end_frz {n0 : Nat} {K : KV} {e : List V} {H : List Entry} (i : Nat) (h : endW n0 (setAt e i (fz 8 H (nth e i)).1) K (fz 8 H (nth e i)).2) : endW n0 e K H := by
  obtain ⟨e', H', k1, k2⟩ := h
  exact ⟨e', H', .trans (.frz i) k1, k2⟩
end Go.Av
