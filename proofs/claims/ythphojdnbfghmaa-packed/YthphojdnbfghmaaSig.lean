import Derived.Test.YthphojdnbfghmaaDigits2
namespace Go.Proofs.Ythphojdnbfghmaa
open Go.RowKit

/-- the one beside -/
def sib (n : Int) : Int := if n % 2 = 1 then n - 1 else n + 1
/-- a leaf's place, k levels up -/
def up (leaf : Int) : Nat → Int
  | 0 => leaf
  | k + 1 => up leaf k / 2
theorem up_bd (leaf : Int) (h : 0 ≤ leaf ∧ leaf ≤ 7) : ∀ k, 0 ≤ up leaf k ∧ up leaf k ≤ 7
  | 0 => h
  | k + 1 => by have := up_bd leaf h k; simp only [up]; omega
/-- the nodes beside, up to k levels -/
def path (seed : ByteArray) (leaf : Int) : Nat → List ByteArray
  | 0 => []
  | k + 1 => path seed leaf k ++ [nod seed k (sib (up leaf k))]
/-- the links of a signature -/
def links (seed : ByteArray) (leaf : Int) (d : ByteArray) (n : Nat) : List ByteArray := (List.range n).map fun (c : Nat) => lnk seed leaf (c : Int) (dgt d c).toNat
theorem links_succ (seed : ByteArray) (leaf : Int) (d : ByteArray) (n : Nat) : links seed leaf d (n + 1) = links seed leaf d n ++ [lnk seed leaf (n : Int) (dgt d n).toNat] := by
  simp [links, List.range_succ]
/-- a signature's bytes -/
def signL (seed : ByteArray) (leaf : Int) (l : List UInt8) : List UInt8 := [byt leaf] ++ lss (links seed leaf (dd leaf l) 18) ++ lss (path seed leaf 3)
def signOf (seed : ByteArray) (leaf : Int) (l : List UInt8) : ByteArray := ⟨(signL seed leaf l).toArray⟩
theorem ls_signOf (seed : ByteArray) (leaf : Int) (l : List UInt8) : ls (signOf seed leaf l) = signL seed leaf l := rfl
theorem signOf_of {s : ByteArray} {seed : ByteArray} {leaf : Int} {l : List UInt8} (h : ls s = signL seed leaf l) : s = signOf seed leaf l := ls_inj (h.trans (ls_signOf _ _ _).symm)
theorem links_size (seed : ByteArray) (leaf : Int) (d : ByteArray) (n : Nat) : ∀ s ∈ links seed leaf d n, s.size = 8 := by
  intro s hs
  obtain ⟨c, _, rfl⟩ := List.mem_map.1 hs
  exact lnk_size _ _ _ _
theorem path_size (seed : ByteArray) (leaf : Int) : ∀ k, ∀ s ∈ path seed leaf k, s.size = 8
  | 0, s, hs => by simp [path] at hs
  | k + 1, s, hs => by
    simp only [path, List.mem_append, List.mem_singleton] at hs
    rcases hs with hs | rfl
    · exact path_size seed leaf k s hs
    · exact nod_size _ _ _
theorem path_len (seed : ByteArray) (leaf : Int) : ∀ k, (path seed leaf k).length = k
  | 0 => rfl
  | k + 1 => by simp [path, path_len seed leaf k]
theorem signOf_size (seed : ByteArray) (leaf : Int) (l : List UInt8) : (signOf seed leaf l).size = 169 := by
  rw [← ls_length, ls_signOf, signL, List.length_append, List.length_append, lss_length _ 18 (by simp [links]) (links_size _ _ _ _), lss_length _ 3 (path_len _ _ _) (path_size _ _ _)]
  rfl

end Go.Proofs.Ythphojdnbfghmaa
