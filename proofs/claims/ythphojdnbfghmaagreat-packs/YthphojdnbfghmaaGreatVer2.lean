import Derived.Test.YthphojdnbfghmaaGreatVer
namespace Go.Proofs.YthphojdnbfghmaaGreat
open Go.RowKit

theorem vends_size (t : ByteArray) (leaf : Int) (d : ByteArray) (ht : t.size = 169) : ∀ s ∈ vends t leaf d 18, s.size = 8 := by
  intro s hs
  obtain ⟨c, hc, rfl⟩ := List.mem_map.1 hs
  exact walkN_size _ _ _ _ (piece_size t c ht (by have := List.mem_range.1 hc; omega)) _
theorem vnode_size (t : ByteArray) (leaf : Int) (d : ByteArray) : ∀ k, (vnode t leaf d k).size = 8
  | 0 => dig_size _
  | k + 1 => by
    show (aboveAt _ _ _).size = 8
    unfold aboveAt
    split <;> exact dig_size _
theorem lead_bd (t : ByteArray) : 0 ≤ lead t ∧ lead t ≤ 255 := dby_bd t 0

set_option maxHeartbeats 1000000 in
theorem reckonKey_core (l : List UInt8) (t : ByteArray) (x : Int) (v : Value) (w : World) (hx : x = lead t) (hx7 : x ≤ 7) (hll : l.length ≤ 4611686018427387904) (hs : SeesBytes w v l) (ht : t.size = 169) :
    Calls Tryz.prog 63 #[v, .string t] w fun e w' => e = .returned (.string (vkey l t)) ∧ Below w.heap.size w w' := by
  have hx0 : 0 ≤ x := by rw [hx]; exact (lead_bd t).1
  have h0 : (t[0].toNat : Int) = x := by rw [hx]; exact dby_get t 0 (by omega)
  obtain ⟨d, hd⟩ : ∃ d, d = dd x l := ⟨_, rfl⟩
  have HV : Hid (vkey l t = vnode t x d 3) := by rw [vkey, ← hx, hd]; exact rfl
  have HX := hid hx
  clear hx
  go_enter Tryz.func63, Tryz.ntmps63
  go_wp2_with fail
  refine (reckonEnds_any x v l t _ ⟨hx0, by omega⟩ hll hs ht).mono ?_
  rintro e w1 ⟨rfl, hb1⟩
  rw [← hd]
  clear hd
  have H18 : Hid ((vends t x d 18).length = 18) := by simp [vends, Hid]
  go_wp2_with fail
  refine (leafNode_any x _ _ ⟨hx0, by omega⟩ H18.out (vends_size t x d ht)).mono ?_
  rintro e w2 ⟨rfl, hb2⟩
  have HB := hid (keepB hb1 hb2)
  have H0 : Hid (vnode t x d 0 = leafN x (vends t x d 18)) := rfl
  rw [← H0.out]
  clear hb1 hb2 hs
  go_wp2
  go_loopw [6, 7, 19] (fun nd p i wr => ∃ k : Nat, k ≤ 3 ∧ i = .int .i64 k ∧ nd = .string (vnode t x d k) ∧ p = .int .i64 (up x k) ∧ Below w.heap.size w wr) (fun _ _ i _ => 3 - (intOf i).toNat)
  case atStart => exact ⟨0, by omega, rfl, rfl, rfl, HB.out⟩
  case round =>
    obtain ⟨k, hk, rfl, rfl, rfl, hbr⟩ := hrel
    by_cases hlt : k < 3
    · have hub := up_bd x ⟨hx0, hx7⟩ k
      have hvs := vnode_size t x d k
      have hps := piece_size t (18 + k) ht (by omega)
      have HU : Hid (up x (k + 1) = up x k / 2) := rfl
      have HN : Hid (vnode t x d (k + 1) = aboveAt (up x k) (vnode t x d k) (piece t (18 + k))) := rfl
      generalize up x k = p at *
      generalize vnode t x d k = nd at *
      go_wp2_with fail
      refine (piece_any t _ _ ht ⟨by omega, by omega⟩).mono ?_
      rintro e w3 ⟨rfl, rfl⟩
      have hkk : (18 + (k : Int)).toNat = 18 + k := by omega
      rw [hkk]
      clear hkk
      go_wp2_with fail
      refine (nodeAboveAt_any p nd _ _ (by omega) (by omega) ⟨hub.1, by omega⟩).mono ?_
      rintro e w4 ⟨rfl, hb4⟩
      have HB4 := hid (keepB hbr hb4)
      clear hb4 hbr
      go_wp2
      go_roundw
      case rel => exact ⟨k + 1, by omega, by go_num, by rw [HN.out], by rw [HU.out], HB4.out⟩
      case measure => simp [intOf]; omega
    · obtain rfl : k = 3 := by omega
      go_wp2
      go_ret
      exact ⟨by rw [HV.out]; rfl, hbr⟩

set_option maxHeartbeats 400000 in
theorem isLeaf_any (n : Int) (w : World) : Calls Tryz.prog 62 #[.int .i64 n] w fun e w' => e = .returned (.bool (decide (0 ≤ n) && decide (n < 8))) ∧ w' = w := by
  by_cases h : 0 ≤ n
  · by_cases h2 : n < 8
    · go_enter Tryz.func62, Tryz.ntmps62
      go_wp2
      go_ret
      exact ⟨by simp [h, h2], rfl⟩
    · go_enter Tryz.func62, Tryz.ntmps62
      go_wp2
      go_ret
      exact ⟨by simp [h2], rfl⟩
  · go_enter Tryz.func62, Tryz.ntmps62
    go_wp2
    go_ret
    exact ⟨by simp; omega, rfl⟩

set_option maxHeartbeats 1000000 in
theorem sigVerify_no (key t : ByteArray) (v : Value) (w : World) (ht : t.size ≠ 169) :
    Calls Tryz.prog 32 #[.string key, v, .string t] w fun e w' => e = .returned (.bool false) ∧ Below w.heap.size w w' := by
  have h1 : ((t.size : Int) != 169) = true := by simp; omega
  go_enter Tryz.func32, Tryz.ntmps32
  go_wp2_with fail
  go_ret
  exact ⟨rfl, Below.refl _ _⟩

set_option maxHeartbeats 1000000 in
theorem sigVerify_high (key t : ByteArray) (v : Value) (x : Int) (w : World) (ht : t.size = 169) (hx : (t[0].toNat : Int) = x) (h7 : 7 < x) (h255 : x ≤ 255) :
    Calls Tryz.prog 32 #[.string key, v, .string t] w fun e w' => e = .returned (.bool false) ∧ Below w.heap.size w w' := by
  have h1 : ((t.size : Int) != 169) = false := by simp; omega
  have hx0 : 0 ≤ x := by omega
  have hd : decide (x < 8) = false := by simp; omega
  go_enter Tryz.func32, Tryz.ntmps32
  go_wp2_with fail
  refine (isLeaf_any _ _).mono ?_
  rintro e w1 ⟨rfl, rfl⟩
  go_wp2_with fail
  go_ret
  exact ⟨rfl, Below.refl _ _⟩

set_option maxHeartbeats 1000000 in
theorem sigVerify_yes (key : ByteArray) (l : List UInt8) (t : ByteArray) (v : Value) (x : Int) (w : World) (hx : x = lead t) (hx7 : x ≤ 7) (hll : l.length ≤ 4611686018427387904) (hs : SeesBytes w v l) (ht : t.size = 169) :
    Calls Tryz.prog 32 #[.string key, v, .string t] w fun e w' => e = .returned (.bool ((vkey l t).toList == key.toList)) ∧ Below w.heap.size w w' := by
  have h1 : ((t.size : Int) != 169) = false := by simp; omega
  have hx0 : 0 ≤ x := by rw [hx]; exact (lead_bd t).1
  have h0 : (t[0].toNat : Int) = x := by rw [hx]; exact dby_get t 0 (by omega)
  have HX := hid hx
  clear hx
  have hd1 : decide (0 ≤ x) = true := by simp; omega
  have hd2 : decide (x < 8) = true := by simp; omega
  go_enter Tryz.func32, Tryz.ntmps32
  go_wp2_with fail
  refine (isLeaf_any _ _).mono ?_
  rintro e w1 ⟨rfl, rfl⟩
  go_wp2_with fail
  refine (reckonKey_core l t x v _ HX.out hx7 hll hs ht).mono ?_
  rintro e w2 ⟨rfl, hb2⟩
  clear hs
  go_wp2
  go_ret
  exact ⟨rfl, hb2⟩

/-- does a signature hold? -/
def verV (key : ByteArray) (l : List UInt8) (t : ByteArray) : Bool := if t.size = 169 ∧ lead t ≤ 7 then (vkey l t).toList == key.toList else false

theorem sigVerify_any (key : ByteArray) (l : List UInt8) (t : ByteArray) (v : Value) (w : World) (hll : l.length ≤ 4611686018427387904) (hs : SeesBytes w v l) :
    Calls Tryz.prog 32 #[.string key, v, .string t] w fun e w' => e = .returned (.bool (verV key l t)) ∧ Below w.heap.size w w' := by
  by_cases ht : t.size = 169
  · by_cases h7 : lead t ≤ 7
    · rw [verV, if_pos ⟨ht, h7⟩]
      exact sigVerify_yes key l t v (lead t) w rfl h7 hll hs ht
    · rw [verV, if_neg (fun h => h7 h.2)]
      exact sigVerify_high key t v (lead t) w ht (dby_get t 0 (by omega)) (by omega) (lead_bd t).2
  · rw [verV, if_neg (fun h => ht h.1)]
    exact sigVerify_no key t v w ht

set_option maxHeartbeats 400000 in
theorem verify_any (key : ByteArray) (l : List UInt8) (t : ByteArray) (v : Value) (w : World) (hll : l.length ≤ 4611686018427387904) (hs : SeesBytes w v l) :
    Calls Tryz.prog 20 #[.string key, v, .string t] w fun e w' => e = .returned (.bool (verV key l t)) ∧ Below w.heap.size w w' := by
  go_enter Tryz.func20, Tryz.ntmps20
  go_wp2_with fail
  refine (sigVerify_any key l t v _ hll hs).mono ?_
  rintro e w1 ⟨rfl, hb1⟩
  clear hs
  go_wp2
  go_ret
  exact ⟨rfl, hb1⟩
end Go.Proofs.YthphojdnbfghmaaGreat
