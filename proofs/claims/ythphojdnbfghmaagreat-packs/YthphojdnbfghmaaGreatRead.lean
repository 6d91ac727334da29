import Derived.Test.YthphojdnbfghmaaGreatPack
import Derived.Test.YthphojdnbfghmaaGreatRefUnpack
import Derived.Laws.BitsAllLaws
import Derived.Test.YthphojdnbfghmaaGreatVmath
namespace Go.Proofs.YthphojdnbfghmaaGreat
open Go.RowKit

theorem or_word (x y : Int) (hx : 0 ≤ x ∧ x ≤ 255) (hy : 0 ≤ y ∧ y ≤ 255) : bits BinOp.or IntKind.i64 x (y * 256) = x + 256 * y := by
  obtain ⟨a, rfl⟩ := Int.eq_ofNat_of_zero_le hx.1
  obtain ⟨b, rfl⟩ := Int.eq_ofNat_of_zero_le hy.1
  have ha : a < 256 := by omega
  have hb : b < 256 := by omega
  have h1 : (a ||| b * 256) = a + 256 * b := by
    have h := Nat.shiftLeft_add_eq_or_of_lt (i := 8) (b := a) (by omega) b
    rw [Nat.shiftLeft_eq, show (2 : Nat) ^ 8 = 256 from rfl, Nat.or_comm] at h
    omega
  have h2 : ((b : Int) * 256) = ((b * 256 : Nat) : Int) := by omega
  rw [h2]
  show IntKind.i64.wrap ((BitVec.ofInt 64 (a : Int) ||| BitVec.ofInt 64 ((b * 256 : Nat) : Int)).toNat : Int) = _
  rw [BitVec.toNat_or, ofInt_u64 a (by omega), ofInt_u64 (b * 256) (by omega), h1]
  have h3 : IntKind.i64.wrap ((a + 256 * b : Nat) : Int) = ((a + 256 * b : Nat) : Int) := IntWalk.i64_in _ ⟨by omega, by omega⟩
  rw [h3]
  omega

set_option maxHeartbeats 400000 in
theorem word2_any (B o m c : Nat) (x y : Int) (w : World) (hx : 0 ≤ x ∧ x ≤ 255) (hy : 0 ≤ y ∧ y ≤ 255) (hm : 2 ≤ m) (c0 : w.cell? ⟨B, o, none⟩ = some (.int .u8 x)) (c1 : w.cell? ⟨B, o + 1, none⟩ = some (.int .u8 y)) :
    Calls Tryz.prog 96 #[.slice (some ⟨B, o, none⟩) m c] w fun e w' => e = .returned (.int .i64 (x + 256 * y)) ∧ ∃ nq, w' = w.drewN nq := by
  have HE := hid (or_word x y hx hy)
  have i1 : (0 : Int) < (m : Int) := by omega
  have i2 : (1 : Int) < (m : Int) := by omega
  go_enter Tryz.func96, Tryz.ntmps96
  go_wp2_with fail
  go_quiet (fail)
  go_wp2
  go_ret
  exact ⟨congrArg (fun x => Ending.returned (Value.int .i64 x)) HE.out, _, rfl⟩

/-- fourteen bytes of s, from a on, lie at a place -/
def B14 (w : World) (B o : Nat) (s : ByteArray) (a : Nat) : Prop := ∀ j, j < 14 → w.cell? ⟨B, o + j, none⟩ = some (.int .u8 (dby s (a + j)))
theorem B14.drewN {w : World} {B o a : Nat} {s : ByteArray} (h : B14 w B o s a) (n : Nat) : B14 (w.drewN n) B o s a := fun j hj => by simpa using h j hj
theorem B14.below {w w' : World} {B o a m : Nat} {s : ByteArray} (h : B14 w B o s a) (hl : Below m w w') (hB : B < m) : B14 w' B o s a := fun j hj => (hl.cell (p := ⟨B, o + j, none⟩) hB).trans (h j hj)

theorem word14_any (B o o' m c a : Nat) (d : Nat) (s : ByteArray) (w : World) (hd : d + 1 < 14) (ho : o' = o + d) (hm : 2 ≤ m) (h : B14 w B o s a) :
    Calls Tryz.prog 96 #[.slice (some ⟨B, o', none⟩) m c] w fun e w' => e = .returned (.int .i64 (numAt s (a + d))) ∧ ∃ nq, w' = w.drewN nq := by
  subst ho
  exact word2_any B (o + d) m c (dby s (a + d)) (dby s (a + d + 1)) w (dby_bd _ _) (dby_bd _ _) hm (h d (by omega)) (h (d + 1) hd)

theorem strOfNums_extract (s : ByteArray) (a n : Nat) (h : a + n ≤ s.size) : strOfNums ((List.range n).map fun j => dby s (a + j)) = s.extract a (a + n) := by
  apply ls_inj
  rw [ls_nums, List.map_map, ls_extract, Nat.add_sub_cancel_left]
  apply List.ext_getElem?
  intro i
  rw [List.getElem?_map, List.getElem?_take]
  by_cases hi : i < n
  · rw [List.getElem?_range hi, if_pos hi, List.getElem?_drop, List.getElem?_eq_getElem (by rw [ls_length]; omega)]
    simp only [Option.map_some, Function.comp, dby, byt]
    rw [List.getElem?_eq_getElem (by rw [ls_length]; omega)]
    simp
  · rw [if_neg hi, List.getElem?_eq_none (by simpa using hi)]
    rfl

theorem conv14 {W : World} {B o a c : Nat} {s : ByteArray} (ha : a + 14 ≤ s.size) (h : B14 W B o s a) : (convert 27 9 (.slice (some ⟨B, o + 6, none⟩) 8 c)).run Tryz.prog W = .ok (.string (s.extract (a + 6) (a + 14))) W := by
  have h1 := run_convert_bytes_arg (P := Tryz.prog) W 27 5 Tryz.underlying27 Tryz.underlying5 B (o + 6) 8 c ((List.range 8).map fun j => dby s (a + 6 + j)) (by simp) (fun i hi => by
    rw [Nat.add_assoc, h (6 + i) (by omega), List.getD_eq_getElem?_getD, List.getElem?_map, List.getElem?_range hi]
    simp [Nat.add_assoc]) 9 Tryz.underlying9
  rw [h1, strOfNums_extract s (a + 6) 8 (by omega)]

set_option maxRecDepth 100000 in
set_option maxHeartbeats 1000000 in
theorem readPart_any (B o m c a : Nat) (s : ByteArray) (w : World) (hB : B < w.heap.size) (hm : 14 ≤ m) (hmc : m ≤ c) (hc : c ≤ 9223372036854775807) (ha : a + 14 ≤ s.size) (hs : B14 w B o s a) :
    Calls Tryz.prog 97 #[.slice (some ⟨B, o, none⟩) m c] w fun e w' => e = .returned (.agg #[.int .i64 (numAt s a), .int .i64 (numAt s (a + 2)), .int .i64 (numAt s (a + 4)), .string (s.extract (a + 6) (a + 14))]) ∧ Below w.heap.size w w' := by
  have HS := hid hs
  clear hs
  have hcv : ∀ W : World, B14 W B o s a → (convert 27 9 (.slice (some ⟨B, o + 6, none⟩) 8 (c - 6))).run Tryz.prog W = .ok (.string (s.extract (a + 6) (a + 14))) W := fun W h => conv14 ha h
  have i0 : (0 : Int) ≤ (m : Int) := by omega
  have i1 : (2 : Int) ≤ (m : Int) := by omega
  have i2 : (4 : Int) ≤ (m : Int) := by omega
  have i3 : (14 : Int) ≤ (c : Int) := by omega
  have j1 : (m : Int) ≤ (c : Int) := by omega
  have HSo : Hid (∀ W, Below w.heap.size w W → B14 W B o s a ∧ Below w.heap.size w W) := fun W h => ⟨HS.out.below h hB, h⟩
  have hb1 : B14 (w.alloc (.cells #[.int .i64 0, .int .i64 0, .int .i64 0, .string ⟨#[]⟩] 43)).drew B o s a := (HSo.out _ (((Below.refl w.heap.size w).alloc (Nat.le_refl _) _).drew)).1
  go_enter Tryz.func97, Tryz.ntmps97
  go_wp2_with fail
  go_region_held (fun W => B14 W B o s a ∧ Below w.heap.size w W)
    (first | exact HSo.out _ (((Below.refl w.heap.size w).alloc (Nat.le_refl _) _).drew) | exact HSo.out _ (below_drewN ((Below.refl w.heap.size w).alloc (Nat.le_refl _) _) _) | exact HSo.out _ (((((below_drewN ((Below.refl w.heap.size w).alloc (Nat.le_refl _) _) _).setCell (by simp) _).setCell (by simp) _).setCell (by simp) _).setCell (by simp) _))
    (first | (go_at_call 96; refine (word14_any B o _ _ _ a 0 s _ (by omega) (by omega) (by omega) (And.left (by assumption))).mono ?_; rintro e w2 ⟨rfl, nq, rfl⟩) | (go_at_call 96; refine (word14_any B o _ _ _ a 2 s _ (by omega) (by omega) (by omega) (And.left (by assumption))).mono ?_; rintro e w2 ⟨rfl, nq, rfl⟩) | (go_at_call 96; refine (word14_any B o _ _ _ a 4 s _ (by omega) (by omega) (by omega) (And.left (by assumption))).mono ?_; rintro e w2 ⟨rfl, nq, rfl⟩))
  all_goals
    go_wp2
    exact bodyPost_ret (v := .agg #[.int .i64 (numAt s a), .int .i64 (numAt s (a + 2)), .int .i64 (numAt s (a + 4)), .string (s.extract (a + 6) (a + 14))]) (by simp [results, Tryz.results97, go_sem]) rfl ⟨rfl, ((((below_drewN ((Below.refl w.heap.size w).alloc (Nat.le_refl _) _) _).setCell (by simp) _).setCell (by simp) _).setCell (by simp) _).setCell (by simp) _⟩
end Go.Proofs.YthphojdnbfghmaaGreat
