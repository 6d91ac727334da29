import Derived.Test.YthphojdnbfghmaaTree2
namespace Go.Proofs.Ythphojdnbfghmaa
open Go.RowKit

theorem endsOf_size (seed : ByteArray) (leaf : Int) (n : Nat) : ∀ s ∈ endsOf seed leaf n, s.size = 8 := by
  intro s hs'
  obtain ⟨c, _, rfl⟩ := List.mem_map.1 hs'
  exact lnk_size _ _ _ _
theorem endsOf_len (seed : ByteArray) (leaf : Int) (n : Nat) : (endsOf seed leaf n).length = n := by simp [endsOf]

end Go.Proofs.Ythphojdnbfghmaa
