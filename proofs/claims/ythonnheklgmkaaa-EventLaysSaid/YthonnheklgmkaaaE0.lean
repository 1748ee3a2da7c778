/- A part of a way to reckon what a Go program does without its memory (E0). -/
import Derived.Test.YthonnheklgmkaaaE2
import Derived.Test.YthonnheklgmkaaaShelf
namespace Go.Av
open Go Go.RowKit
set_option autoImplicit false
set_option linter.all false
def idxBy (s : List UInt8) (c : Int) : Int := Lib.indexByte s c.toNat.toUInt8
theorem s_IndexByte {s : List UInt8} {c : Int} {H : List Entry} : Pure AP n_internal_stringslite_IndexByte [.str s, .int .u8 c] H (.int .i64 (idxBy s c)) := by
  refine pure_of (by kernel_rfl) fun C vals hH hC hv => ?_
  simp only [CRep, VRep] at hv
  obtain ⟨_, _, rfl, rfl, _, _, rfl, rfl, rfl⟩ := hv
  refine Calls.mono (Go.Proofs.Try.stringslite_IndexByte ⟨s.toArray⟩ c C.w) ?_
  rintro e w' ⟨rfl, rfl⟩
  exact ⟨_, rfl, Below.refl _ _, fun C' _ => by simp only [VRep, idxBy]⟩
def primIB (args : List V) (H : List Entry) : R2 :=
  match args with
  | [.str s, .int .u8 c] => some (.int .i64 (idxBy s c), H)
  | _ => none
theorem primIB_ok : PrimOk AP n_internal_stringslite_IndexByte primIB := by
  intro args H v H' h K hK
  unfold primIB at h
  split at h
  · cases h
    exact s_IndexByte _ hK
  · cases h
def prims : Prims := [(n_internal_stringslite_IndexByte, primIB), (n_slices_Grow_api_Field_api_Field, primGrow 49 4 100000)]
theorem primsOk : PrimsOk AP prims := ⟨primIB_ok, primGrow_ok (by kernel_rfl) growF, trivial⟩
set_option maxRecDepth 100000 in
theorem awake_ok (H : List Entry) : Pure AP n_trystlaw04_awake [] H (.bool true) := run_known primsOk tabOk (fun _ => false) (n := 100) (by kernel_rfl) rfl rfl H
end Go.Av
