import Derived.Test.YthphojdnbfghmaaGreatPlain
/- The chains and the tree, plainly: no dump. -/
namespace Go.Proofs.YthphojdnbfghmaaGreat
open Go.RowKit

def byt (n : Int) : UInt8 := UInt8.ofNat n.toNat
theorem byt_toNat (n : Int) (h0 : 0 ≤ n) (h1 : n ≤ 255) : ((byt n).toNat : Int) = n := by
  unfold byt
  rw [UInt8.toNat_ofNat']
  omega

/-- a string's bytes -/
def ls (s : ByteArray) : List UInt8 := s.data.toList
theorem ls_length (s : ByteArray) : (ls s).length = s.size := Array.length_toList
theorem ls_append (s t : ByteArray) : ls (s ++ t) = ls s ++ ls t := by simp [ls, ByteArray.data_append]
theorem ls_nums (xs : List Int) : ls (strOfNums xs) = xs.map byt := rfl
theorem ls_inj {s t : ByteArray} (h : ls s = ls t) : s = t := by
  apply ByteArray.ext
  exact Array.toList_inj.1 h

/-- the digest of two pieces, reckoned as they come -/
theorem dig_two (l r : List UInt8) : dstr (kfin (kx (kx kinit l) r) ((l.length : Int) + (r.length : Int))) = dig (l ++ r) := by
  unfold dig
  rw [kx_append, List.length_append]
  simp
theorem dig_three (l r q : List UInt8) : dstr (kfin (kx (kx (kx kinit l) r) q) ((l.length : Int) + (r.length : Int) + (q.length : Int))) = dig (l ++ r ++ q) := by
  unfold dig
  rw [kx_append, kx_append, List.length_append, List.length_append]
  simp

/-- link nought of a chain -/
def link0 (seed : ByteArray) (leaf chain : Int) : ByteArray := dig ([byt 2, byt leaf, byt chain] ++ ls seed)
/-- the link behind x that has the number k -/
def linkS (leaf chain k : Int) (x : ByteArray) : ByteArray := dig ([byt 1, byt leaf, byt chain, byt k] ++ ls x)
/-- n links on from x, that has the number fr -/
def walkN (leaf chain : Int) (x : ByteArray) (fr : Int) : Nat → ByteArray
  | 0 => x
  | n + 1 => linkS leaf chain (fr + n + 1) (walkN leaf chain x fr n)
/-- link number k of a chain -/
def lnk (seed : ByteArray) (leaf chain : Int) (k : Nat) : ByteArray := walkN leaf chain (link0 seed leaf chain) 0 k
theorem linkS_size (leaf chain k : Int) (x : ByteArray) : (linkS leaf chain k x).size = 8 := dig_size _
theorem link0_size (seed : ByteArray) (leaf chain : Int) : (link0 seed leaf chain).size = 8 := dig_size _
theorem walkN_size (leaf chain : Int) (x : ByteArray) (fr : Int) (hx : x.size = 8) : ∀ n, (walkN leaf chain x fr n).size = 8
  | 0 => hx
  | _ + 1 => linkS_size _ _ _ _
theorem lnk_size (seed : ByteArray) (leaf chain : Int) (k : Nat) : (lnk seed leaf chain k).size = 8 := walkN_size _ _ _ _ (link0_size _ _ _) k
theorem walkN_add (leaf chain : Int) (x : ByteArray) (fr : Int) (a : Nat) : ∀ n, walkN leaf chain (walkN leaf chain x fr a) (fr + a) n = walkN leaf chain x fr (a + n)
  | 0 => rfl
  | n + 1 => by
    have e : fr + (a : Int) + (n : Int) + 1 = fr + ((a + n : Nat) : Int) + 1 := by omega
    show linkS leaf chain (fr + (a : Int) + (n : Int) + 1) _ = linkS leaf chain (fr + ((a + n : Nat) : Int) + 1) _
    rw [walkN_add leaf chain x fr a n, e]
    rfl
theorem lnk_succ (seed : ByteArray) (leaf chain : Int) (k : Nat) : lnk seed leaf chain (k + 1) = linkS leaf chain ((k : Int) + 1) (lnk seed leaf chain k) := by
  have e : (0 : Int) + (k : Int) + 1 = (k : Int) + 1 := by omega
  show linkS leaf chain (0 + (k : Int) + 1) _ = linkS leaf chain ((k : Int) + 1) _
  rw [e]
  rfl

/-- the bytes of a list of strings, one behind the other -/
def lss (e : List ByteArray) : List UInt8 := (e.map ls).flatten
theorem lss_append (e f : List ByteArray) : lss (e ++ f) = lss e ++ lss f := by simp [lss]
theorem lss_one (s : ByteArray) : lss [s] = ls s := by simp [lss]
theorem lss_length (e : List ByteArray) (n : Nat) (hn : e.length = n) (h : ∀ s ∈ e, s.size = 8) : (lss e).length = n * 8 := by
  subst hn
  induction e with
  | nil => rfl
  | cons s e ih =>
    have h1 : lss (s :: e) = ls s ++ lss e := by simp [lss]
    rw [h1, List.length_append, ls_length, h s (by simp), ih (fun t ht => h t (by simp [ht])), List.length_cons]
    omega
/-- a leaf's node, of its chains' ends -/
def leafN (leaf : Int) (e : List ByteArray) : ByteArray := dig ([byt 3, byt leaf] ++ lss e)
/-- the node above two -/
def above (l r : ByteArray) : ByteArray := dig ([byt 4] ++ ls l ++ ls r)
/-- all ends of a leaf's chains -/
def endsOf (seed : ByteArray) (leaf : Int) (n : Nat) : List ByteArray := (List.range n).map fun (c : Nat) => lnk seed leaf (c : Int) 15
theorem endsOf_succ (seed : ByteArray) (leaf : Int) (n : Nat) : endsOf seed leaf (n + 1) = endsOf seed leaf n ++ [lnk seed leaf (n : Int) 15] := by
  simp [endsOf, List.range_succ]
/-- node n of a level of a seed's tree -/
def nod (seed : ByteArray) : Nat → Int → ByteArray
  | 0, n => leafN n (endsOf seed n 18)
  | k + 1, n => above (nod seed k (2 * n)) (nod seed k (2 * n + 1))
theorem nod_size (seed : ByteArray) : ∀ k n, (nod seed k n).size = 8
  | 0, _ => dig_size _
  | _ + 1, _ => dig_size _
def keyOf (seed : ByteArray) : ByteArray := nod seed 3 0
end Go.Proofs.YthphojdnbfghmaaGreat
