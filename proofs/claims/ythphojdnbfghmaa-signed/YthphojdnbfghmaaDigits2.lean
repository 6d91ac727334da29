import Derived.Test.YthphojdnbfghmaaDigits
namespace Go.Proofs.Ythphojdnbfghmaa
open Go.RowKit

/-- the digest of which a leaf's digits are -/
def dd (leaf : Int) (l : List UInt8) : ByteArray := dig ([byt 6, byt leaf] ++ l)
theorem dd_size (leaf : Int) (l : List UInt8) : (dd leaf l).size = 8 := dig_size _

set_option maxHeartbeats 1000000 in
theorem digitsOf_any (leaf : Int) (v : Value) (l : List UInt8) (w : World) (hl : 0 ≤ leaf ∧ leaf ≤ 255) (hll : l.length ≤ 4611686018427387904) (hs : SeesBytes w v l) :
    Calls Try.prog 31 #[.int .u8 leaf, v] w fun e w' => e = .returned (.agg (ints (dgt (dd leaf l)) 18).toArray) ∧ Below w.heap.size w w' := by
  go_enter Try.func31, Try.ntmps31
  go_wp2_with fail
  obtain ⟨C, hC⟩ : ∃ C : Array Value, C = #[Value.int IntKind.i64 0, Value.int IntKind.i64 0, Value.int IntKind.i64 0, Value.int IntKind.i64 0, Value.int IntKind.i64 0, Value.int IntKind.i64 0, Value.int IntKind.i64 0, Value.int IntKind.i64 0, Value.int IntKind.i64 0, Value.int IntKind.i64 0, Value.int IntKind.i64 0, Value.int IntKind.i64 0, Value.int IntKind.i64 0, Value.int IntKind.i64 0, Value.int IntKind.i64 0, Value.int IntKind.i64 0, Value.int IntKind.i64 0, Value.int IntKind.i64 0] := ⟨_, rfl⟩
  rw [← hC]
  have hR := new_ints w 64 C 18 (dgt (dd leaf l)) hC
  clear hC
  have h2 := sees2 (w.alloc (Obj.cells C 64)) 6 leaf 5 ⟨by omega, by omega⟩ hl
  rw [World.size_alloc] at h2
  refine (begin_any _ [byt 6, byt leaf] _ (by simp) h2).mono ?_
  rintro e w1 ⟨rfl, hb1⟩
  have HB := hid (newB (newB hb1))
  have hR1 := hR.below (newB hb1)
  clear hb1 h2 hR
  go_wp2_with fail
  refine (bytes_any _ _ v l _ ⟨by omega, by omega⟩ (by omega) (hs.below HB.out)).mono ?_
  rintro e w2 ⟨rfl, hb2⟩
  have hR2 := hR1.below hb2
  have HB2 := hid (keepB HB.out hb2)
  clear hb2 hR1 HB
  go_wp2_with fail
  refine (end_any _ _ _).mono ?_
  rintro e w3 ⟨rfl, hb3⟩
  have hR3 := hR2.below hb3
  have HB3 := hid (keepB HB2.out hb3)
  clear hb3 hR2 HB2 hs
  have hd : dstr (kfin (kx (kx kinit [byt 6, byt leaf]) l) (2 + (l.length : Int))) = dd leaf l := by
    rw [dd, ← dig_two]; rfl
  go_wp2_with fail
  refine (split_any (dd leaf l) _ (dd_size _ _)).mono ?_
  rintro e w4 ⟨rfl, hb4⟩
  have hR4 := hR3.below hb4
  have HB4 := hid (keepB HB3.out hb4)
  have HT := hid ((ints_size (dgt (dd leaf l)) 18).symm ▸ hR4.there)
  have HI : Hid ((Try.prog.info? 64).map (·.size) = some (ints (dgt (dd leaf l)) 18).toArray.size) := by rw [ints_size]; exact info_digits
  have HR4 := hid hR4
  clear hb4 hR3 HB3 hd hR4
  go_wp2_with (refine wpList_store_mid rfl 64 _ _ rfl w.heap.size 0 (ints (dgt (dd leaf l)) 18).toArray rfl rfl HT.out HI.out (all_oneCell_toArray (ints_one _ _)) ?_)
  refine bodyPost_ret (v := .agg (ints (dgt (dd leaf l)) 18).toArray) (results_row Try.results31 _ _ w.heap.size (dgt (dd leaf l)) rfl HR4.out.stored _ Try.underlying64 info_digits) rfl ⟨rfl, ?_⟩
  exact below_setCells (Nat.le_refl _) _ _ _ HB4.out

end Go.Proofs.Ythphojdnbfghmaa
