import Derived.WalkKit
import Derived.WalkSpells
import Derived.WalkLawsBesides
import Derived.OpenShut
import Derived.Laws.BytesArg
/- Plain mathematics of the digest: no dump. -/
namespace Go.Proofs.YthphojdnbfghmaaGreat
open Go.RowKit

theorem hid {p : Prop} (h : p) : Hid p := h

def kmul (x b : Int) : Int := IntKind.u64.wrap (bits BinOp.xor IntKind.u64 x b * 11400714819323198485)
def kstep (x b : Int) : Int := bits BinOp.xor IntKind.u64 (kmul x b) (kmul x b / 536870912)
def kfin (x n : Int) : Int := bits BinOp.xor IntKind.u64 (kmul x n) (kmul x n / 4294967296)
def kx (x : Int) (l : List UInt8) : Int := l.foldl (fun x c => kstep x (c.toNat : Int)) x

theorem kx_nil (x : Int) : kx x [] = x := rfl
theorem kx_append (x : Int) (l r : List UInt8) : kx x (l ++ r) = kx (kx x l) r := by simp [kx]
theorem kx_snoc (x : Int) (l : List UInt8) (c : UInt8) : kx x (l ++ [c]) = kstep (kx x l) (c.toNat : Int) := by simp [kx]
theorem kx_take (x : Int) (l : List UInt8) (k : Nat) (h : k < l.length) : kx x (l.take (k + 1)) = kstep (kx x (l.take k)) ((l[k]?.getD 0).toNat : Int) := by
  rw [List.take_succ_eq_append_getElem h, kx_snoc]; simp [h]

theorem kfin_bd (x n : Int) : 0 ≤ kfin x n ∧ kfin x n ≤ 18446744073709551615 := by
  have h := Go.wf_bits BinOp.xor IntKind.u64 (kmul x n) (kmul x n / 4294967296)
  exact Go.bounds_u64 h

/-- the eight bytes of a number, the lowest first -/
def dstr (y : Int) : ByteArray := strOfNums [y % 256, y / 256 % 256, y / 65536 % 256, y / 16777216 % 256, y / 4294967296 % 256, y / 1099511627776 % 256, y / 281474976710656 % 256, y / 72057594037927936]
def kinit : Int := 7738725071487725157
/-- the digest of bytes -/
def dig (l : List UInt8) : ByteArray := dstr (kfin (kx kinit l) l.length)
theorem dstr_size (y : Int) : (dstr y).size = 8 := by rw [dstr, strOfNums_size]; rfl
theorem dig_size (l : List UInt8) : (dig l).size = 8 := dstr_size _

theorem str_append (xs ys : List Int) : strOfNums xs ++ strOfNums ys = strOfNums (xs ++ ys) := by
  apply ByteArray.ext
  simp [strOfNums, ByteArray.data_append]
theorem str_empty (xs : List Int) : ({ data := #[] } : ByteArray) ++ strOfNums xs = strOfNums xs := by
  apply ByteArray.ext
  simp [strOfNums, ByteArray.data_append]
theorem ref_str (y : Int) : ({ data := #[] } : ByteArray) ++ strOfNums [y % 256] ++ strOfNums [y / 256 % 256] ++ strOfNums [y / 256 / 256 % 256] ++ strOfNums [y / 256 / 256 / 256 % 256] ++
    strOfNums [y / 256 / 256 / 256 / 256 % 256] ++ strOfNums [y / 256 / 256 / 256 / 256 / 256 % 256] ++ strOfNums [y / 256 / 256 / 256 / 256 / 256 / 256 % 256] ++ strOfNums [y / 256 / 256 / 256 / 256 / 256 / 256 / 256] = dstr y := by
  simp only [str_empty, str_append, dstr, List.cons_append, List.nil_append]
  have e2 : y / 256 / 256 = y / 65536 := by omega
  have e3 : y / 65536 / 256 = y / 16777216 := by omega
  have e4 : y / 16777216 / 256 = y / 4294967296 := by omega
  have e5 : y / 4294967296 / 256 = y / 1099511627776 := by omega
  have e6 : y / 1099511627776 / 256 = y / 281474976710656 := by omega
  have e7 : y / 281474976710656 / 256 = y / 72057594037927936 := by omega
  rw [e2, e3, e4, e5, e6, e7]
end Go.Proofs.YthphojdnbfghmaaGreat
