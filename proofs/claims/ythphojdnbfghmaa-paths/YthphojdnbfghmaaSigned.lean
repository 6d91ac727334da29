import Derived.Test.YthphojdnbfghmaaVmath
import Derived.Test.YthphojdnbfghmaaBuild
namespace Go.Proofs.Ythphojdnbfghmaa
open Go.RowKit

set_option maxHeartbeats 400000 in
theorem pick8_any (c : Int) (w : World) (hc : -9223372036854775808 ≤ c ∧ c ≤ 9223372036854775807) :
    Calls Try.prog 6 #[.int .i64 c, .int .i64 8] w fun e w' => (∃ q : Int, 0 ≤ q ∧ q ≤ 7 ∧ e = .returned (.int .i64 q)) ∧ w' = w := by
  by_cases h : c < 0
  · go_enter Try.func6, Try.ntmps6
    go_wp2
    go_ret
    have key : ∀ a : Int, 0 ≤ a → (-a).tmod 8 = -(a % 8) := fun a ha => by rw [Int.neg_tmod, Int.tmod_eq_emod_of_nonneg ha]
    have h2 := key (-(c + 1)) (by omega)
    rw [Int.neg_neg] at h2
    refine ⟨⟨_, ?_, ?_, rfl⟩, rfl⟩
    · omega
    · omega
  · go_enter Try.func6, Try.ntmps6
    go_wp2
    go_ret
    refine ⟨⟨_, ?_, ?_, rfl⟩, rfl⟩
    · omega
    · omega

set_option maxHeartbeats 4000000 in
theorem signed_walk (seed : ByteArray) (leaf : Int) (v v' : Value) (l l' : List UInt8) (w : World) (hs : seed.size ≤ 140737488351232) (hleaf : -9223372036854775808 ≤ leaf ∧ leaf ≤ 9223372036854775807) (hl : l.length ≤ 140737488351232) (hl' : l'.length ≤ 140737488351232) (hv : SeesBytes w v l) (hv' : SeesBytes w v' l') :
    Calls Try.prog 3 #[.string seed, .int .i64 leaf, v, v'] w fun e w' => e = .returned (.bool true) ∧ Below w.heap.size w w' := by
  go_enter Try.func3, Try.ntmps3
  go_wp2_with fail
  refine (pick8_any leaf _ hleaf).mono ?_
  rintro e w0 ⟨⟨q, hq0, hq7, rfl⟩, rfl⟩
  have HK : Hid (∀ l, verV (keyOf seed) l (signOf seed q l) = true) := fun l => ver_sign seed q l ⟨hq0, hq7⟩
  have HV := hid hv
  have HV' := hid hv'
  clear hv hv'
  go_wp2_with fail
  refine (key_any seed _ (by omega)).mono ?_
  rintro e w1 ⟨rfl, hb1⟩
  have HB1 := hid hb1
  clear hb1
  go_wp2_with fail
  refine (sign_yes seed q v l _ (by omega) ⟨hq0, hq7⟩ (by omega) (HV.out.below HB1.out)).mono ?_
  rintro e w2 ⟨rfl, hb2⟩
  have HB2 := hid (keepB HB1.out hb2)
  clear hb2 HB1
  go_wp2_with fail
  refine (sign_yes seed q v' l' _ (by omega) ⟨hq0, hq7⟩ (by omega) (HV'.out.below HB2.out)).mono ?_
  rintro e w3 ⟨rfl, hb3⟩
  have HB3 := hid (keepB HB2.out hb3)
  clear hb3 HB2
  go_wp2_with fail
  refine (sign_no seed (q + 8) v _ (by omega)).mono ?_
  rintro e w4 ⟨rfl, hb4⟩
  have HB4 := hid (keepB HB3.out hb4)
  have k8 : (keyOf seed).size = 8 := nod_size _ _ _
  have z1 := signOf_size seed q l
  have z2 := signOf_size seed q l'
  have hq : (((signOf seed q l)[0]'(by rw [z1]; omega)).toNat : Int) = q := by rw [dby_get _ 0 (by omega)]; exact lead_sign seed q l ⟨hq0, hq7⟩
  have HS1 := hid (HK.out l)
  have HS2 := hid (HK.out l')
  clear hb4 HB3 HK
  generalize signOf seed q l = s at *
  generalize signOf seed q l' = t at *
  generalize keyOf seed = key at *
  go_wp2_with fail
  refine (verify_any key l s _ _ (by omega) (HV.out.below HB4.out)).mono ?_
  rintro e w5 ⟨rfl, hb5⟩
  have HB5 := hid (keepB HB4.out hb5)
  rw [HS1.out]
  clear hb5 HB4
  go_wp2_with fail
  refine (verify_any key l' t _ _ (by omega) (HV'.out.below HB5.out)).mono ?_
  rintro e w6 ⟨rfl, hb6⟩
  have HB6 := hid (keepB HB5.out hb6)
  rw [HS2.out]
  clear hb6 HB5
  go_wp2_with fail
  refine (verify_any key l _ _ _ (by omega) (HV.out.below HB6.out)).mono ?_
  rintro e w7 ⟨rfl, hb7⟩
  have HB7 := hid (keepB HB6.out hb7)
  rw [ver_size _ _ _ (by rw [ByteArray.size_extract]; omega)]
  clear hb7 HB6
  go_wp2_with fail
  refine (verify_any key l _ _ _ (by omega) (HV.out.below HB7.out)).mono ?_
  rintro e w8 ⟨rfl, hb8⟩
  have HB8 := hid (keepB HB7.out hb8)
  rw [ver_size _ _ _ (by rw [ByteArray.size_append, z1]; decide)]
  clear hb8 HB7
  go_wp2_with fail
  refine (verify_any key l' s _ _ (by omega) (HV'.out.below HB8.out)).mono ?_
  rintro e w9 ⟨rfl, hb9⟩
  have HB9 := hid (keepB HB8.out hb9)
  clear hb9 HB8
  have HC : Hid (s = t → verV key l' s = true) := fun e => by rw [e]; exact HS2.out
  generalize verV key l' s = c at *
  go_wp2_with fail
  refine (verify_any _ l s _ _ (by omega) (HV.out.below HB9.out)).mono ?_
  rintro e w10 ⟨rfl, hb10⟩
  have HB10 := hid (keepB HB9.out hb10)
  rw [ver_key _ _ _ (by rw [ByteArray.size_append, k8]; decide)]
  clear hb10 HB9
  go_wp2_with fail
  refine (verify_any _ l s _ _ (by omega) (HV.out.below HB10.out)).mono ?_
  rintro e w11 ⟨rfl, hb11⟩
  have HB11 := hid (keepB HB10.out hb11)
  rw [ver_key _ _ _ (by decide)]
  clear hb11 HB10
  go_wp2_with fail
  refine (verify_any _ l s _ _ (by omega) (HV.out.below HB11.out)).mono ?_
  rintro e w12 ⟨rfl, hb12⟩
  have HB12 := hid (keepB HB11.out hb12)
  rw [ver_key _ _ _ (by rw [ByteArray.size_extract]; omega)]
  clear hb12 HB11
  clear HV HV' HS1 HS2 hq
  by_cases hst : (s.toList == t.toList) = true
  · have hc : c = true := HC.out (toList_inj (by simpa using hst))
    subst hc
    clear HC
    go_wp2
    go_ret
    exact ⟨by simp, HB12.out⟩
  · have hst' : (s.toList == t.toList) = false := by simpa using hst
    clear HC hst
    go_wp2
    go_ret
    exact ⟨by simp, HB12.out⟩
end Go.Proofs.Ythphojdnbfghmaa
