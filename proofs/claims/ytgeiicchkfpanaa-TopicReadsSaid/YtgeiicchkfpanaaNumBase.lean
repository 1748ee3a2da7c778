/- Layer 1: what the walks over memory of octets want. -/
import Derived.Test.YtgeiicchkfpanaaNumSmall
import Derived.Test.YtgeiicchkfpanaaShelf
namespace Go.Proofs.Ytgeiicchkfpanaa
open Go.RowKit
theorem info_u8 : (Try.prog.info? 5).map (fun i => (i.zero, i.size, i.bytes)) = some (some (.int .u8 0), 1, 1) := by kernel_rfl
theorem len64_any (n : Int) (w : World) (h0 : 0 ≤ n) (h1 : n ≤ 18446744073709551615) :
    Calls Try.prog 91 #[.int .u64 n] w fun e w' => e = .returned (.int .i64 (Lib.bitLen n.toNat)) ∧ w = w' :=
  (Try.bits_Len64 n w h0 h1).mono fun _ _ ⟨a, b⟩ => ⟨a, b.symm⟩
/-- A row of octets that the call owns, as a text. -/
theorem conv_owned {wr : World} {base g cap : Nat} {l : List UInt8} (h : wr.ownsRow base 5 1 (.slice (some ⟨g, 0, none⟩) l.length cap) l.length (l.map byteV)) :
    (convert 58 9 (.slice (some ⟨g, 0, none⟩) l.length cap)).run Try.prog wr = .ok (.string ⟨l.toArray⟩) wr := by
  refine run_convert_bytes_back wr 58 9 5 ⟨g, 0, none⟩ cap l Try.underlying58 Try.underlying5 Try.underlying9 fun j hj => ?_
  have := h.cellAt j (by omega)
  have ea : (⟨g, 0, none⟩ : Addr).add j = ⟨g, j, none⟩ := by cases j <;> simp [Addr.add]
  rw [ea, this]; simp [byteV, hj]
end Go.Proofs.Ytgeiicchkfpanaa
