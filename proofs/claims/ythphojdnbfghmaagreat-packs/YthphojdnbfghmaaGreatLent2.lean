import Derived.Test.YthphojdnbfghmaaGreatPartsW
namespace Go.Proofs.YthphojdnbfghmaaGreat
open Go.RowKit

/-- a block of bytes, so many -/
def BlkB (w : World) (B m : Nat) : Prop := ∃ cur : Array Value, w.heap[B]? = some (.cells cur 5 (0, 0)) ∧ cur.size = m
theorem BlkB.below {w w1 : World} {B m : Nat} (h : BlkB w B m) (hb : Below w.heap.size w w1) : BlkB w1 B m := by
  obtain ⟨cur, h1, h2⟩ := h
  exact ⟨cur, (hb.block B (blk_lt h1)).trans h1, h2⟩
theorem BlkB.put {w : World} {B m j : Nat} {u : Value} (h : BlkB w B m) : BlkB (w.setCell ⟨B, j, none⟩ u) B m := by
  obtain ⟨cur, h1, h2⟩ := h
  exact ⟨_, Go.Joins.block_setCell h1 u, by simpa using h2⟩
theorem BlkB.puts {B m : Nat} : ∀ (us : List Value) (j : Nat) {w : World}, BlkB w B m → BlkB (w.setCells B j us) B m
  | [], _, _, h => h
  | u :: us, j, _, h => BlkB.puts us (j + 1) (h.put (j := j) (u := u))
theorem BlkB.own {w : World} {lo B m : Nat} (h : BlkB w B m) (hl : lo ≤ B) (hm : m ≤ 1152921504606846976) : ∃ xs, w.ownsRow lo 5 1 (.slice (some ⟨B, 0, none⟩) m m) m xs := by
  obtain ⟨cur, h1, h2⟩ := h
  refine ⟨cur.toList, by rw [Array.length_toList, h2, Nat.mul_one], Or.inr ⟨B, m, cur, rfl, hl, h1, Nat.le_refl _, by unfold maxLen; omega, by rw [h2, Nat.mul_one], ?_⟩⟩
  rw [List.take_of_length_le]
  rw [Array.length_toList, h2]
  omega

theorem lent_worlds2 (s : ByteArray) (w : World) (hl : s.size ≤ 140737488351232) :
    ∃ W1 W2 : World, (Instr.makeSlice 27 (.int .i64 ((s.size : Int) + 8)) (.int .i64 ((s.size : Int) + 8))).run Tryz.prog w = .ok (.slice (some ⟨w.heap.size, 0, none⟩) (s.size + 8) (s.size + 8)) W1 ∧
      (Builtin.copy_ #[27, 9] 3 #[.slice (some ⟨w.heap.size, 0, none⟩) (s.size + 8) (s.size + 8), .string s]).run Tryz.prog W1 = .ok (goInt s.size) W2 ∧
      LentAt W2 w.heap.size s 0 ∧ Below w.heap.size w W2 ∧ BlkB W2 w.heap.size (s.size + 8) := by
  obtain ⟨W1, W2, h1, h2, h3, h4⟩ := lent_worlds s w hl
  refine ⟨W1, W2, h1, h2, h3, h4, ?_⟩
  have g1 := run_make_row' (P := Tryz.prog) 27 5 (.int .u8 0) 1 Tryz.underlying27 info_u8 rfl .i64 .i64 (s.size + 8) (by omega) (by omega) w
  have hcell : ∀ j, j < s.size + 8 → (w.alloc (.cells (madeCells #[.int .u8 0] (s.size + 8)) 5)).cell? ⟨w.heap.size, j, none⟩ = some (.int .u8 0) := by
    intro j hj
    rw [World.cell?_alloc_at _ _ _ _ rfl]
    rw [← Array.getElem?_toList, toList_madeCells_one, List.getElem?_replicate, if_pos hj]
  have g2 := run_copy_string (P := Tryz.prog) (w.alloc (.cells (madeCells #[.int .u8 0] (s.size + 8)) 5)) 27 9 3 5 w.heap.size 0 (s.size + 8) (s.size + 8) s Tryz.underlying27 size_u8 (by omega)
    (fun j hj => by rw [Nat.zero_add, hcell j (by omega)]; rfl) (fun j hj => by simp [go_sem])
  rw [show ((s.size + 8 : Nat) : Int) = (s.size : Int) + 8 by omega] at g1
  rw [h1] at g1
  injection g1 with g1a g1b
  subst g1b
  rw [h2] at g2
  injection g2 with g2a g2b
  subst g2b
  refine BlkB.puts _ _ ⟨_, heap_alloc_new w _, ?_⟩
  rw [size_madeCells]

set_option maxHeartbeats 1000000 in
theorem lent_any2 (s : ByteArray) (w : World) (hl : s.size ≤ 140737488351232) :
    Calls Tryz.prog 36 #[.string s] w fun e w' => e = .returned (.slice (some ⟨w.heap.size, 0, none⟩) (s.size + 8) (s.size + 8)) ∧ LentAt w' w.heap.size s 8 ∧ Below w.heap.size w w' ∧ BlkB w' w.heap.size (s.size + 8) := by
  obtain ⟨W1, W2, hmk, hcp, hL, hb, hB⟩ := lent_worlds2 s w hl
  have HB := hid hb
  have HK := hid hB
  clear hb hB
  go_enter Tryz.func36, Tryz.ntmps36
  go_wp2
  clear hmk hcp
  go_loopw [4] (fun i wr => ∃ k : Nat, k ≤ 8 ∧ i = .int .i64 ((s.size : Int) + k) ∧ LentAt wr w.heap.size s k ∧ Below w.heap.size w wr ∧ BlkB wr w.heap.size (s.size + 8)) (fun i _ => s.size + 8 - (intOf i).toNat)
  case atStart => exact ⟨0, by omega, by go_num, hL, HB.out, HK.out⟩
  case round =>
    obtain ⟨k, hk, rfl, hLr, hbr, hkr⟩ := hrel
    have HKr := hid hkr
    clear hkr
    by_cases hlt : k < 8
    · have hcx : wr.cell? ⟨w.heap.size, s.size + k, none⟩ = some (.int .u8 0) := by have := hLr.2.1 k hlt; simpa using this
      have hfx : wr.frozen? ⟨w.heap.size, s.size + k, none⟩ = false := hLr.2.2.1 _
      go_wp2
      go_roundw
      case rel => exact ⟨k + 1, by omega, by go_num, hLr.put hlt, hbr.setCell (Nat.le_refl _) _, HKr.out.put⟩
      case measure => simp [intOf]; omega
    · obtain rfl : k = 8 := by omega
      go_wp2
      go_ret
      exact ⟨rfl, hLr, hbr, HKr.out⟩
theorem LentAt.seesB {w : World} {B k : Nat} {s : ByteArray} (h : LentAt w B s k) (hs : s.size ≤ 140737488351232) : SeesB w (.slice (some ⟨B, 0, none⟩) s.size (s.size + 8)) s := by
  by_cases h0 : s.size = 0
  · exact Or.inl ⟨⟨_, _, by rw [h0], fun e => by cases e⟩, h0⟩
  · refine Or.inr ⟨B, 0, s.size + 8, h.2.2.2, by omega, by omega, rfl, fun j hj => ?_⟩
    rw [Nat.zero_add]
    exact h.1 j hj
end Go.Proofs.YthphojdnbfghmaaGreat
