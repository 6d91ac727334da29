import Derived.Test.YthphojdnbfghmaaGreatMan
import Derived.Test.YthphojdnbfghmaaGreatMath
namespace Go.Proofs.YthphojdnbfghmaaGreat
open Go.RowKit

theorem sees1 (w : World) (a : Int) (t : TypeId) (ha : 0 ≤ a ∧ a ≤ 255) : SeesBytes (w.alloc (.cells #[.int .u8 a] t)) (.slice (some ⟨w.heap.size, 0, none⟩) 1 1) [byt a] := by
  refine Or.inr ⟨w.heap.size, 0, 1, by simp, rfl, fun j hj => ?_⟩
  match j, hj with
  | 0, _ => simp [go_sem, byt_toNat a ha.1 ha.2]
theorem sees2 (w : World) (a b : Int) (t : TypeId) (ha : 0 ≤ a ∧ a ≤ 255) (hb : 0 ≤ b ∧ b ≤ 255) : SeesBytes (w.alloc (.cells #[.int .u8 a, .int .u8 b] t)) (.slice (some ⟨w.heap.size, 0, none⟩) 2 2) [byt a, byt b] := by
  refine Or.inr ⟨w.heap.size, 0, 2, by simp, rfl, fun j hj => ?_⟩
  match j, hj with
  | 0, _ => simp [go_sem, byt_toNat a ha.1 ha.2]
  | 1, _ => simp [go_sem, byt_toNat b hb.1 hb.2]
theorem sees3 (w : World) (a b c : Int) (t : TypeId) (ha : 0 ≤ a ∧ a ≤ 255) (hb : 0 ≤ b ∧ b ≤ 255) (hc : 0 ≤ c ∧ c ≤ 255) : SeesBytes (w.alloc (.cells #[.int .u8 a, .int .u8 b, .int .u8 c] t)) (.slice (some ⟨w.heap.size, 0, none⟩) 3 3) [byt a, byt b, byt c] := by
  refine Or.inr ⟨w.heap.size, 0, 3, by simp, rfl, fun j hj => ?_⟩
  match j, hj with
  | 0, _ => simp [go_sem, byt_toNat a ha.1 ha.2]
  | 1, _ => simp [go_sem, byt_toNat b hb.1 hb.2]
  | 2, _ => simp [go_sem, byt_toNat c hc.1 hc.2]
theorem sees4 (w : World) (a b c d : Int) (t : TypeId) (ha : 0 ≤ a ∧ a ≤ 255) (hb : 0 ≤ b ∧ b ≤ 255) (hc : 0 ≤ c ∧ c ≤ 255) (hd : 0 ≤ d ∧ d ≤ 255) : SeesBytes (w.alloc (.cells #[.int .u8 a, .int .u8 b, .int .u8 c, .int .u8 d] t)) (.slice (some ⟨w.heap.size, 0, none⟩) 4 4) [byt a, byt b, byt c, byt d] := by
  refine Or.inr ⟨w.heap.size, 0, 4, by simp, rfl, fun j hj => ?_⟩
  match j, hj with
  | 0, _ => simp [go_sem, byt_toNat a ha.1 ha.2]
  | 1, _ => simp [go_sem, byt_toNat b hb.1 hb.2]
  | 2, _ => simp [go_sem, byt_toNat c hc.1 hc.2]
  | 3, _ => simp [go_sem, byt_toNat d hd.1 hd.2]

theorem newB {w w1 : World} {o : Obj} (h : Below (w.alloc o).heap.size (w.alloc o) w1) : Below w.heap.size w w1 := ((Below.refl _ _).alloc (Nat.le_refl _) _).trans (h.mono (by simp))

set_option maxHeartbeats 1000000 in
theorem walk_any (x : ByteArray) (leaf chain fr to : Int) (w : World) (hx : x.size ≤ 4611686018427387904) (hl : 0 ≤ leaf ∧ leaf ≤ 255) (hc : 0 ≤ chain ∧ chain ≤ 255) (hf : 0 ≤ fr) (hft : fr ≤ to) (ht : to ≤ 255) :
    Calls Tryz.prog 145 #[.string x, .int .u8 leaf, .int .u8 chain, .int .i64 fr, .int .i64 to] w fun e w' => e = .returned (.string (walkN leaf chain x fr (to - fr).toNat)) ∧ Below w.heap.size w w' := by
  go_enter Tryz.func145, Tryz.ntmps145
  go_wp2
  go_loopw [0, 11] (fun y i wr => ∃ k : Nat, fr + k ≤ to ∧ i = .int .i64 (fr + k + 1) ∧ y = .string (walkN leaf chain x fr k) ∧ Below w.heap.size w wr) (fun _ i _ => (to + 1 - intOf i).toNat)
  case atStart => exact ⟨0, by omega, by go_num, rfl, Below.refl _ _⟩
  case round =>
    obtain ⟨k, hk, rfl, rfl, hb⟩ := hrel
    have HX : Hid (walkN leaf chain x fr (k + 1) = linkS leaf chain (fr + k + 1) (walkN leaf chain x fr k)) := rfl
    obtain ⟨y, hy⟩ : ∃ y, y = walkN leaf chain x fr k := ⟨_, rfl⟩
    have hys : y.size ≤ 4611686018427387904 := by
      rw [hy]
      cases k with
      | zero => exact hx
      | succ k => have := linkS_size leaf chain (fr + k + 1) (walkN leaf chain x fr k); show (linkS _ _ _ _).size ≤ _; omega
    by_cases hlt : fr + k < to
    · rw [← hy] at HX ⊢
      clear hy
      go_wp2_with fail
      refine (begin_any _ [byt 1, byt leaf, byt chain, byt (fr + k + 1)] _ (by simp) (sees4 _ _ _ _ _ _ ⟨by omega, by omega⟩ hl hc ⟨by omega, by omega⟩)).mono ?_
      rintro e w1 ⟨rfl, hb1⟩
      have hb1 := newB hb1
      go_wp2_with fail
      refine (text_any _ _ y _ ⟨by omega, by omega⟩ (by omega)).mono ?_
      rintro e w2 ⟨rfl, hb2⟩
      go_wp2_with fail
      refine (end_any _ _ _).mono ?_
      rintro e w3 ⟨rfl, hb3⟩
      have HB : Hid (Below w.heap.size w w3) := hb.trans ((keepB (keepB hb1 hb2) hb3).mono hb.size)
      clear hb1 hb2 hb3 hb
      go_wp2
      go_roundw
      case rel =>
        refine ⟨k + 1, by omega, by go_num, ?_, HB.out⟩
        rw [HX.out, linkS, ← dig_two, ls_length]
        rfl
      case measure => simp [intOf]; omega
    · rw [← hy]
      go_wp2
      go_ret
      have h1 : (to - fr).toNat = k := by omega
      exact ⟨by rw [h1, ← hy]; rfl, hb⟩

set_option maxHeartbeats 1000000 in
theorem seedLink_any (seed : ByteArray) (leaf chain k : Int) (w : World) (hs : seed.size ≤ 4611686018427387904) (hl : 0 ≤ leaf ∧ leaf ≤ 255) (hc : 0 ≤ chain ∧ chain ≤ 255) (hk : 0 ≤ k ∧ k ≤ 255) :
    Calls Tryz.prog 113 #[.string seed, .int .u8 leaf, .int .u8 chain, .int .i64 k] w fun e w' => e = .returned (.string (lnk seed leaf chain k.toNat)) ∧ Below w.heap.size w w' := by
  go_enter Tryz.func113, Tryz.ntmps113
  go_wp2_with fail
  refine (begin_any _ [byt 2, byt leaf, byt chain] _ (by simp) (sees3 _ _ _ _ _ ⟨by omega, by omega⟩ hl hc)).mono ?_
  rintro e w1 ⟨rfl, hb1⟩
  have hb1 := newB hb1
  go_wp2_with fail
  refine (text_any _ _ seed _ ⟨by omega, by omega⟩ (by omega)).mono ?_
  rintro e w2 ⟨rfl, hb2⟩
  go_wp2_with fail
  refine (end_any _ _ _).mono ?_
  rintro e w3 ⟨rfl, hb3⟩
  have HB : Hid (Below w.heap.size w w3) := keepB (keepB hb1 hb2) hb3
  clear hb1 hb2 hb3
  have hd : dstr (kfin (kx (kx kinit [byt 2, byt leaf, byt chain]) seed.data.toList) (3 + (seed.size : Int))) = link0 seed leaf chain := by
    rw [link0, ← dig_two, ls_length]; rfl
  have hxs := link0_size seed leaf chain
  go_wp2_with fail
  refine (walk_any (link0 seed leaf chain) leaf chain 0 k _ (by omega) hl hc (by omega) hk.1 hk.2).mono ?_
  rintro e w4 ⟨rfl, hb4⟩
  have HB4 : Hid (Below w.heap.size w w4) := keepB HB.out hb4
  clear hb4 hd
  go_wp2
  go_ret
  exact ⟨by rw [lnk]; simp, HB4.out⟩

set_option maxHeartbeats 1000000 in
theorem nodeAbove_any (l r : ByteArray) (w : World) (hl : l.size ≤ 1000) (hr : r.size ≤ 1000) :
    Calls Tryz.prog 81 #[.string l, .string r] w fun e w' => e = .returned (.string (above l r)) ∧ Below w.heap.size w w' := by
  go_enter Tryz.func81, Tryz.ntmps81
  go_wp2_with fail
  refine (begin_any _ [byt 4] _ (by simp) (sees1 _ _ _ ⟨by omega, by omega⟩)).mono ?_
  rintro e w1 ⟨rfl, hb1⟩
  have hb1 := newB hb1
  go_wp2_with fail
  refine (text_any _ _ l _ ⟨by omega, by omega⟩ (by omega)).mono ?_
  rintro e w2 ⟨rfl, hb2⟩
  go_wp2_with fail
  refine (text_any _ _ r _ ⟨by omega, by omega⟩ (by omega)).mono ?_
  rintro e w3 ⟨rfl, hb3⟩
  go_wp2_with fail
  refine (end_any _ _ _).mono ?_
  rintro e w4 ⟨rfl, hb4⟩
  have HB : Hid (Below w.heap.size w w4) := keepB (keepB (keepB hb1 hb2) hb3) hb4
  clear hb1 hb2 hb3 hb4
  have hd : dstr (kfin (kx (kx (kx kinit [byt 4]) l.data.toList) r.data.toList) (1 + (l.size : Int) + (r.size : Int))) = above l r := by
    rw [above, ← dig_three, ls_length, ls_length]; rfl
  have HD := hid hd
  clear hd
  go_wp2
  go_ret
  exact ⟨by rw [← HD.out]; rfl, HB.out⟩

def aboveAt (place : Int) (x y : ByteArray) : ByteArray := if place % 2 = 0 then above x y else above y x

set_option maxHeartbeats 1000000 in
theorem nodeAboveAt_any (p : Int) (l r : ByteArray) (w : World) (hl : l.size ≤ 1000) (hr : r.size ≤ 1000) (hp : 0 ≤ p ∧ p ≤ 1000) :
    Calls Tryz.prog 103 #[.int .i64 p, .string l, .string r] w fun e w' => e = .returned (.string (aboveAt p l r)) ∧ Below w.heap.size w w' := by
  by_cases h : p % 2 = 0
  · go_enter Tryz.func103, Tryz.ntmps103
    go_wp2_with fail
    refine (nodeAbove_any l r _ hl hr).mono ?_
    rintro e w1 ⟨rfl, hb1⟩
    go_wp2
    go_ret
    exact ⟨by rw [aboveAt, if_pos h]; rfl, hb1⟩
  · go_enter Tryz.func103, Tryz.ntmps103
    go_wp2_with fail
    refine (nodeAbove_any r l _ hr hl).mono ?_
    rintro e w1 ⟨rfl, hb1⟩
    go_wp2
    go_ret
    exact ⟨by rw [aboveAt, if_neg h]; rfl, hb1⟩

set_option maxHeartbeats 1000000 in
theorem reflink_any (k : Nat) : ∀ (seed : ByteArray) (leaf chain : Int) (w : World), seed.size ≤ 4611686018427387904 → (0 ≤ leaf ∧ leaf ≤ 255) → (0 ≤ chain ∧ chain ≤ 255) → k ≤ 255 →
    Calls Tryz.prog 67 #[.string seed, .int .i64 leaf, .int .i64 chain, .int .i64 (k : Int)] w fun e w' => e = .returned (.string (lnk seed leaf chain k)) ∧ Below w.heap.size w w' := by
  induction k with
  | zero =>
    intro seed leaf chain w hs hl hc hk
    have hss := strOfNums_size
    go_enter Tryz.func67, Tryz.ntmps67
    go_wp2_with fail
    refine (one_any 2 _ ⟨by omega, by omega⟩).mono ?_
    rintro e w1 ⟨rfl, hb1⟩
    go_wp2_with fail
    refine (one_any leaf _ hl).mono ?_
    rintro e w2 ⟨rfl, hb2⟩
    go_wp2_with fail
    refine (one_any chain _ hc).mono ?_
    rintro e w3 ⟨rfl, hb3⟩
    go_wp2_with fail
    refine (ref_any _ _ (by simp [hss]; omega)).mono ?_
    rintro e w4 ⟨rfl, hb4⟩
    have HB : Hid (Below w.heap.size w w4) := keepB (keepB (keepB hb1 hb2) hb3) hb4
    clear hb1 hb2 hb3 hb4
    go_wp2
    go_ret
    refine ⟨?_, HB.out⟩
    have : dig (strOfNums [2] ++ strOfNums [leaf] ++ strOfNums [chain] ++ seed).data.toList = lnk seed leaf chain 0 := by
      show dig (ls _) = dig _
      rw [ls_append, ls_append, ls_append]; rfl
    rw [← this]; rfl
  | succ k ih =>
    intro seed leaf chain w hs hl hc hk
    have hss := strOfNums_size
    have IH := hid ih
    clear ih
    go_enter Tryz.func67, Tryz.ntmps67
    go_wp2_with fail
    refine (IH.out seed leaf chain _ hs hl hc (by omega)).mono ?_
    rintro e w0 ⟨rfl, hb0⟩
    obtain ⟨x, hx⟩ : ∃ x, x = lnk seed leaf chain k := ⟨_, rfl⟩
    have hxs : x.size = 8 := by rw [hx]; exact lnk_size _ _ _ _
    rw [← hx]
    have HX : Hid (lnk seed leaf chain (k + 1) = linkS leaf chain ((k : Int) + 1) x) := by rw [hx]; exact lnk_succ _ _ _ _
    clear hx
    go_wp2_with fail
    refine (one_any 1 _ ⟨by omega, by omega⟩).mono ?_
    rintro e w1 ⟨rfl, hb1⟩
    go_wp2_with fail
    refine (one_any leaf _ hl).mono ?_
    rintro e w2 ⟨rfl, hb2⟩
    go_wp2_with fail
    refine (one_any chain _ hc).mono ?_
    rintro e w3 ⟨rfl, hb3⟩
    go_wp2_with fail
    refine (one_any _ _ ⟨by omega, by omega⟩).mono ?_
    rintro e w4 ⟨rfl, hb4⟩
    go_wp2_with fail
    refine (ref_any _ _ (by simp [hss, hxs])).mono ?_
    rintro e w5 ⟨rfl, hb5⟩
    have HB : Hid (Below w.heap.size w w5) := keepB (keepB (keepB (keepB (keepB hb0 hb1) hb2) hb3) hb4) hb5
    clear hb0 hb1 hb2 hb3 hb4 hb5
    go_wp2
    go_ret
    refine ⟨?_, HB.out⟩
    have : dig (strOfNums [1] ++ strOfNums [leaf] ++ strOfNums [chain] ++ strOfNums [(k : Int) + 1] ++ x).data.toList = lnk seed leaf chain (k + 1) := by
      rw [HX.out]
      show dig (ls _) = dig _
      rw [ls_append, ls_append, ls_append, ls_append]; rfl
    rw [← this]; rfl
end Go.Proofs.YthphojdnbfghmaaGreat
