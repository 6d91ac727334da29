import Derived.Test.YthphojdnbfghmaaGreatTree2
namespace Go.Proofs.YthphojdnbfghmaaGreat
open Go.RowKit

theorem endsOf_size (seed : ByteArray) (leaf : Int) (n : Nat) : ∀ s ∈ endsOf seed leaf n, s.size = 8 := by
  intro s hs'
  obtain ⟨c, _, rfl⟩ := List.mem_map.1 hs'
  exact lnk_size _ _ _ _
theorem endsOf_len (seed : ByteArray) (leaf : Int) (n : Nat) : (endsOf seed leaf n).length = n := by simp [endsOf]

set_option maxHeartbeats 1000000 in
theorem refnode0_any (seed : ByteArray) (n : Int) (w : World) (hs : seed.size ≤ 4611686018427387904) (hn : 0 ≤ n ∧ n ≤ 255) :
    Calls Tryz.prog 65 #[.string seed, .int .i64 0, .int .i64 n] w fun e w' => e = .returned (.string (nod seed 0 n)) ∧ Below w.heap.size w w' := by
  have hss := strOfNums_size
  go_enter Tryz.func65, Tryz.ntmps65
  go_wp2_with fail
  refine (one_any 3 _ ⟨by omega, by omega⟩).mono ?_
  rintro e w1 ⟨rfl, hb1⟩
  go_wp2_with fail
  refine (one_any n _ hn).mono ?_
  rintro e w2 ⟨rfl, hb2⟩
  have HB := hid (keepB hb1 hb2)
  clear hb1 hb2
  go_wp2
  go_loopw [9, 10] (fun a i wr => ∃ (k : Nat) (s : ByteArray), k ≤ 18 ∧ i = .int .i64 k ∧ a = .string s ∧ s.size = 2 + 8 * k ∧ ls s = [byt 3, byt n] ++ lss (endsOf seed n k) ∧ Below w.heap.size w wr) (fun _ i _ => 18 - (intOf i).toNat)
  case atStart => exact ⟨0, _, by omega, rfl, rfl, by simp [strOfNums_size], rfl, HB.out⟩
  case round =>
    obtain ⟨k, s, hk, rfl, rfl, hsz, hls, hbr⟩ := hrel
    have HL := hid hls
    clear hls
    by_cases hlt : k < 18
    · go_wp2_with fail
      refine (reflink_any 15 seed n _ _ hs hn ⟨by omega, by omega⟩ (by omega)).mono ?_
      rintro e w3 ⟨rfl, hb3⟩
      obtain ⟨x, hx⟩ : ∃ x, x = lnk seed n (k : Int) 15 := ⟨_, rfl⟩
      have hx8 : x.size = 8 := by rw [hx]; exact lnk_size _ _ _ _
      have HX : Hid (endsOf seed n (k + 1) = endsOf seed n k ++ [x]) := by rw [hx]; exact endsOf_succ _ _ _
      rw [← hx]
      clear hx
      have HB3 := hid (keepB hbr hb3)
      clear hb3 hbr
      go_wp2
      go_roundw
      case rel => exact ⟨k + 1, s ++ x, by omega, by go_num, rfl, by simp; omega, by rw [ls_append, HL.out, HX.out, lss_append, lss_one, List.append_assoc], HB3.out⟩
      case measure => simp [intOf]; omega
    · obtain rfl : k = 18 := by omega
      go_wp2_with fail
      refine (ref_any s _ (by omega)).mono ?_
      rintro e w3 ⟨rfl, hb3⟩
      have HB3 := hid (keepB hbr hb3)
      clear hb3 hbr
      go_wp2
      go_ret
      refine ⟨?_, HB3.out⟩
      have : dig s.data.toList = nod seed 0 n := by
        show dig (ls s) = leafN n _
        rw [HL.out]; rfl
      rw [← this]; rfl

set_option maxHeartbeats 1000000 in
theorem refnode_any (l : Nat) : ∀ (seed : ByteArray) (n : Int) (w : World), seed.size ≤ 4611686018427387904 → l ≤ 3 → 0 ≤ n → (n + 1) * 2 ^ l ≤ 256 →
    Calls Tryz.prog 65 #[.string seed, .int .i64 (l : Int), .int .i64 n] w fun e w' => e = .returned (.string (nod seed l n)) ∧ Below w.heap.size w w' := by
  induction l with
  | zero => intro seed n w hs _ hn hn2; exact refnode0_any seed n w hs ⟨hn, by simpa using (show n + 1 ≤ 256 by simpa using hn2) |> fun h => by omega⟩
  | succ l ih =>
    intro seed n w hs hl hn hn2
    have IH := hid ih
    clear ih
    have hp : (0 : Int) < 2 ^ l := Int.pow_pos (by omega)
    have hn3 : (2 * n + 2) * 2 ^ l ≤ 256 := by
      have : (n + 1) * 2 ^ (l + 1) = (2 * n + 2) * 2 ^ l := by rw [Int.pow_succ]; rw [show (2 * n + 2) = 2 * (n + 1) by omega, Int.mul_comm 2 (n + 1), Int.mul_assoc, Int.mul_comm 2 (2 ^ l)]
      omega
    have hn4 : (2 * n + 1) * 2 ^ l ≤ 256 := by
      have : (2 * n + 1) * 2 ^ l ≤ (2 * n + 2) * 2 ^ l := Int.mul_le_mul_of_nonneg_right (by omega) (by omega)
      omega
    have hn5 : n ≤ 256 := by
      have h1 : (2 * n + 2) * 1 ≤ (2 * n + 2) * 2 ^ l := Int.mul_le_mul_of_nonneg_left (by omega) (by omega)
      omega
    have H3 := hid hn3
    have H4 := hid hn4
    clear hn3 hn4 hn2 hp
    have hss := strOfNums_size
    go_enter Tryz.func65, Tryz.ntmps65
    go_wp2_with fail
    refine (IH.out seed (2 * n) _ hs (by omega) (by omega) H4.out).mono ?_
    rintro e w1 ⟨rfl, hb1⟩
    go_wp2_with fail
    refine (IH.out seed (2 * n + 1) _ hs (by omega) (by omega) (by have := H3.out; rw [show (2 * n + 1 + 1 : Int) = 2 * n + 2 by omega]; exact this)).mono ?_
    rintro e w2 ⟨rfl, hb2⟩
    have hx8 := nod_size seed l (2 * n)
    have hy8 := nod_size seed l (2 * n + 1)
    have HN : Hid (nod seed (l + 1) n = above (nod seed l (2 * n)) (nod seed l (2 * n + 1))) := rfl
    generalize nod seed l (2 * n) = x at *
    generalize nod seed l (2 * n + 1) = y at *
    go_wp2_with fail
    refine (one_any 4 _ ⟨by omega, by omega⟩).mono ?_
    rintro e w3 ⟨rfl, hb3⟩
    go_wp2_with fail
    refine (ref_any _ _ (by simp [hss, hx8, hy8])).mono ?_
    rintro e w4 ⟨rfl, hb4⟩
    have HB := hid (keepB (keepB (keepB hb1 hb2) hb3) hb4)
    clear hb1 hb2 hb3 hb4
    go_wp2
    go_ret
    refine ⟨?_, HB.out⟩
    have : dig (strOfNums [4] ++ x ++ y).data.toList = nod seed (l + 1) n := by
      rw [HN.out]
      show dig (ls _) = dig _
      rw [ls_append, ls_append]; rfl
    rw [← this]; rfl

set_option maxHeartbeats 400000 in
theorem refkey_any (seed : ByteArray) (w : World) (hs : seed.size ≤ 4611686018427387904) :
    Calls Tryz.prog 38 #[.string seed] w fun e' w' => e' = .returned (.string (keyOf seed)) ∧ Below w.heap.size w w' := by
  go_enter Tryz.func38, Tryz.ntmps38
  go_wp2_with fail
  refine (refnode_any 3 seed 0 _ hs (by omega) (by omega) (by decide)).mono ?_
  rintro e' w1 ⟨rfl, hb1⟩
  go_wp2
  go_ret
  exact ⟨rfl, hb1⟩
end Go.Proofs.YthphojdnbfghmaaGreat
