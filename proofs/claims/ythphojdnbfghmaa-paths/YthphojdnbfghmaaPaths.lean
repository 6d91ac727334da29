import Derived.Test.YthphojdnbfghmaaSigned
namespace Go.Proofs.Ythphojdnbfghmaa
open Go.RowKit

/-- the last two nodes of a signature -/
def lastTwo (seed : ByteArray) (q : Int) : ByteArray := nod seed 1 (sib (up q 1)) ++ nod seed 2 (sib (up q 2))
theorem lastTwo_size (seed : ByteArray) (q : Int) : (lastTwo seed q).size = 16 := by
  rw [lastTwo, ByteArray.size_append, nod_size, nod_size]
theorem lss3 (a b c : ByteArray) (A : List ByteArray) : lss (A ++ ((([] ++ [a]) ++ [b]) ++ [c])) = lss (A ++ [a]) ++ ls (b ++ c) := by
  simp [lss, ls_append]
theorem tail_sign (seed : ByteArray) (q : Int) (l : List UInt8) : (signOf seed q l).extract 153 169 = lastTwo seed q := by
  apply ls_inj
  have h1 : signL seed q l = byt q :: (lss (links seed q (dd q l) 18 ++ [nod seed 0 (sib (up q 0))]) ++ ls (lastTwo seed q)) := by
    rw [signL_body]
    exact congrArg (byt q :: ·) (lss3 (nod seed 0 (sib (up q 0))) (nod seed 1 (sib (up q 1))) (nod seed 2 (sib (up q 2))) (links seed q (dd q l) 18))
  have h2 : (lss (links seed q (dd q l) 18 ++ [nod seed 0 (sib (up q 0))])).length = 152 := lss_length _ 19 (by simp [links]) (by
    intro s hs
    rcases List.mem_append.1 hs with h | h
    · exact links_size _ _ _ _ s h
    · rw [List.mem_singleton.1 h]; exact nod_size _ _ _)
  have h3 : (ls (lastTwo seed q)).length = 16 := by rw [ls_length, lastTwo_size]
  rw [ls_extract, ls_signOf, h1]
  have h4 : ∀ (x : UInt8) (A B : List UInt8), A.length = 152 → B.length = 16 → ((x :: (A ++ B)).drop 153).take (169 - 153) = B := by
    intro x A B hA hB
    rw [show (153 : Nat) = 152 + 1 by rfl, List.drop_succ_cons, ← hA, List.drop_left, hA, List.take_of_length_le (by omega)]
  exact h4 _ _ _ h2 h3
theorem lastTwo_pair (seed : ByteArray) (q : Int) (h : q % 2 = 1) : lastTwo seed q = lastTwo seed (q - 1) := by
  have e1 : up q 1 = up (q - 1) 1 := by simp only [up]; omega
  have e2 : up q 2 = up (q - 1) 2 := by simp only [up]; omega
  rw [lastTwo, lastTwo, e1, e2]
theorem lastTwo_tail (seed : ByteArray) (q : Int) : (lastTwo seed q).extract 8 16 = nod seed 2 (sib (up q 2)) := by
  apply ls_inj
  rw [ls_extract, lastTwo, ls_append, List.drop_append_of_le_length (by rw [ls_length, nod_size]; omega), List.drop_of_length_le (by rw [ls_length, nod_size]; omega), List.nil_append, List.take_of_length_le (by rw [ls_length, nod_size]; omega)]
set_option maxHeartbeats 4000000 in
theorem paths_walk (seed : ByteArray) (v : Value) (l : List UInt8) (w : World) (hs : seed.size ≤ 140737488351232) (hl : l.length ≤ 140737488351232) (hv : SeesBytes w v l) :
    Calls Try.prog 4 #[.string seed, v] w fun e w' => e = .returned (.bool true) ∧ Below w.heap.size w w' := by
  have HV := hid hv
  clear hv
  go_enter Try.func4, Try.ntmps4
  go_wp2_with fail
  refine (key_any seed _ (by omega)).mono ?_
  rintro e w1 ⟨rfl, hb1⟩
  have HB1 := hid hb1
  have k8 : (keyOf seed).size = 8 := nod_size _ _ _
  have HSZ : w.heap.size ≤ w1.heap.size := hb1.size
  clear hb1
  go_wp2
  go_loopw [7] (fun i wr => ∃ k : Nat, k ≤ 8 ∧ i = .int .i64 k ∧ StrRow wr w1.heap.size 4 (fill (fun j => lastTwo seed ((2 * j : Nat) : Int)) ((k + 1) / 2)) ∧ Below w.heap.size w wr) (fun i _ => 8 - (intOf i).toNat)
  case atStart => exact ⟨0, by omega, rfl, new_row _ _ _ _ _ rfl (by decide), HB1.out.alloc HSZ _⟩
  case round =>
    obtain ⟨k, hk, rfl, hR, hbr⟩ := hrel
    have HR := hid hR
    have HBr := hid hbr
    clear hR hbr HB1
    by_cases hlt : k < 8
    · go_wp2_with fail
      refine (sign_yes seed _ v l _ (by omega) ⟨by omega, by omega⟩ (by omega) (HV.out.below HBr.out)).mono ?_
      rintro e w2 ⟨rfl, hb2⟩
      have HB2 := hid (keepB HBr.out hb2)
      have HR2 := hid (HR.out.below hb2)
      have z1 := signOf_size seed (k : Int) l
      have HT := hid (tail_sign seed (k : Int) l)
      have HK := hid (ver_sign seed (k : Int) l ⟨by omega, by omega⟩)
      clear hb2 HBr HR
      generalize signOf seed (k : Int) l = s at *
      go_wp2_with fail
      refine (verify_any (keyOf seed) l s _ _ (by omega) (HV.out.below HB2.out)).mono ?_
      rintro e w3 ⟨rfl, hb3⟩
      have HB3 := hid (keepB HB2.out hb3)
      have hR3 := HR2.out.below hb3
      rw [HK.out]
      clear hb3 HB2 HR2 HK
      have hT := HT.out
      clear HT
      generalize hlast : s.extract 153 169 = last at *
      rcases Nat.mod_two_eq_zero_or_one k with hp | hp
      · have e1 : (k : Int) % 2 = 0 := by omega
        obtain ⟨m, rfl⟩ : ∃ m, k = 2 * m := ⟨k / 2, by omega⟩
        have hm : m < 4 := by omega
        rw [show (2 * m + 1) / 2 = m by omega] at hR3
        have c0 := hR3.1 m hm
        have f0 := hR3.2.1 m
        have HP : Hid (StrRow (w3.setCell ⟨w1.heap.size, m, none⟩ (.string last)) w1.heap.size 4 (fill (fun j => lastTwo seed ((2 * j : Nat) : Int)) (m + 1))) := by
          rw [hT]; exact hR3.put hm
        clear hR3 hT
        generalize fill (fun j => lastTwo seed ((2 * j : Nat) : Int)) m m = old at c0
        go_wp2
        go_roundw
        case rel => exact ⟨2 * m + 1, by omega, by go_num, by rw [show (2 * m + 1 + 1) / 2 = m + 1 by omega]; exact HP.out, HB3.out.setCell HSZ _⟩
        case measure => simp [intOf]; omega
      · obtain ⟨m, rfl⟩ : ∃ m, k = 2 * m + 1 := ⟨k / 2, by omega⟩
        have hm : m < 4 := by omega
        rw [show (2 * m + 1 + 1) / 2 = m + 1 by omega] at hR3
        have c0 := hR3.1 m hm
        have HE : Hid (fill (fun j => lastTwo seed ((2 * j : Nat) : Int)) (m + 1) m = last) := by
          have e2 : (((2 * m + 1 : Nat) : Int)) % 2 = 1 := by omega
          have e3 : (((2 * m + 1 : Nat) : Int)) - 1 = ((2 * m : Nat) : Int) := by omega
          show _ = _
          rw [fill_all _ _ _ (by omega), hT, lastTwo_pair seed _ e2, e3]
        rw [HE.out] at c0
        have HP := hid hR3
        clear hR3 hT HE
        have e5 : (2 * m + 1) / 2 = m := by omega
        go_wp2
        go_roundw
        case rel => exact ⟨2 * m + 1 + 1, by omega, by go_num, by rw [show (2 * m + 1 + 1 + 1) / 2 = m + 1 by omega]; exact HP.out, HB3.out⟩
        case measure => simp [intOf]; omega
    · obtain rfl : k = 8 := by omega
      have c0 := HR.out.1 0 (by omega)
      have c1 := HR.out.1 1 (by omega)
      have c2 := HR.out.1 2 (by omega)
      have c3 := HR.out.1 3 (by omega)
      rw [fill_all _ _ _ (by omega)] at c0 c1 c2 c3
      have z0 := lastTwo_size seed ((2 * 0 : Nat) : Int)
      have z1 := lastTwo_size seed ((2 * 1 : Nat) : Int)
      have z2 := lastTwo_size seed ((2 * 2 : Nat) : Int)
      have z3 := lastTwo_size seed ((2 * 3 : Nat) : Int)
      have t01 : (lastTwo seed ((2 * 0 : Nat) : Int)).extract 8 16 = (lastTwo seed ((2 * 1 : Nat) : Int)).extract 8 16 := by
        rw [lastTwo_tail, lastTwo_tail]; rfl
      have t23 : (lastTwo seed ((2 * 2 : Nat) : Int)).extract 8 16 = (lastTwo seed ((2 * 3 : Nat) : Int)).extract 8 16 := by
        rw [lastTwo_tail, lastTwo_tail]; rfl
      generalize lastTwo seed ((2 * 0 : Nat) : Int) = a0 at *
      generalize lastTwo seed ((2 * 1 : Nat) : Int) = a1 at *
      generalize lastTwo seed ((2 * 2 : Nat) : Int) = a2 at *
      generalize lastTwo seed ((2 * 3 : Nat) : Int) = a3 at *
      clear HR
      go_wp2_with fail
      go_quiet (fail)
      go_wp2
      go_ret
      exact ⟨rfl, below_drewN HBr.out _⟩
end Go.Proofs.Ythphojdnbfghmaa
