/- Clone and Same by their contracts. -/
import Derived.Test.YtliboiajhhnajaaDoorMem
import Derived.Lib.SliceRun
namespace Go.Proofs.YtliboiajhhnajaaDoor
open Go.RowKit Go.Extern

/-- Bytes as a string. -/
def strB (bs : List Nat) : ByteArray := ⟨(bs.map UInt8.ofNat).toArray⟩
theorem strB_nums (bs : List Nat) : strOfNums (bs.map fun b : Nat => (b : Int)) = strB bs := by
  unfold strOfNums strB; congr 2; rw [List.map_map]; rfl
theorem strB_inj : ∀ (a b : List Nat), (∀ x ∈ a, x < 256) → (∀ x ∈ b, x < 256) → strB a = strB b → a = b := by
  intro a b ha hb h
  have h1 : a.map UInt8.ofNat = b.map UInt8.ofNat := by
    have := congrArg (fun s => s.data.toList) h
    simpa [strB] using this
  have h2 := congrArg (List.map UInt8.toNat) h1
  have key : ∀ l : List Nat, (∀ x ∈ l, x < 256) → (l.map UInt8.ofNat).map UInt8.toNat = l := by
    intro l hl
    rw [List.map_map]
    conv => rhs; rw [← List.map_id l]
    exact List.map_congr_left fun x hx => by simpa using hl x hx
  rw [key a ha, key b hb] at h2
  exact h2
end Go.Proofs.YtliboiajhhnajaaDoor
