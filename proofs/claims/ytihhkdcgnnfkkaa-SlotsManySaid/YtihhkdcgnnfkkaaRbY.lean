
/- How a slice of bytes that came in reads. -/
import Derived.Test.YtihhkdcgnnfkkaaRefs3B
namespace Go.Proofs.Ytihhkdcgnnfkkaa
open Go.RowKit
def Rby (w : World) (B : Nat) (A : Option Addr) (bs : List Nat) : Prop :=
  bs ≠ [] → ∃ b off, A = some ⟨b, off, none⟩ ∧ b < B ∧ ∀ (k : Nat) (h : k < bs.length), w.cell? ⟨b, off + k, none⟩ = some (.int .u8 (bs[k] : Nat))
theorem Rby.at {w w' : World} {B : Nat} {A : Option Addr} {bs : List Nat} (h : Rby w B A bs) (hb : Below B w w') {k : Nat} (hk : k < bs.length) : ∃ b off, A = some ⟨b, off, none⟩ ∧ w'.cell? ⟨b, off + k, none⟩ = some (.int .u8 (bs[k] : Nat)) := by
  obtain ⟨b, off, rfl, hlt, hc⟩ := h (by rintro rfl; simp at hk)
  exact ⟨b, off, rfl, (hb.cell (p := ⟨b, off + k, none⟩) hlt).trans (hc k hk)⟩
end Go.Proofs.Ytihhkdcgnnfkkaa
