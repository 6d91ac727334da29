import Derived.Test.YthphojdnbfghmaaGreatDig
import Derived.Lib.LazyBuf
import Derived.Deep.OwnRows
import Derived.Deep.QuietTactic
import Derived.BigQuiet
namespace Go.Proofs.YthphojdnbfghmaaGreat
open Go.RowKit

theorem info_u8 : (Tryz.prog.info? 5).map (fun i => (i.zero, i.size, i.bytes)) = some (some (.int .u8 0), 1, 1) := by kernel_rfl
theorem size_u8 (w : World) : (Go.sizeOf 5).run Tryz.prog w = .ok 1 w := by
  obtain ⟨i, hi, h⟩ := Option.map_eq_some_iff.1 info_u8
  simp only [Prod.mk.injEq] at h
  simp [Go.sizeOf, typeInfo, hi, h.2.1]

/-- bytes that were lent: s, and behind them eight places; the first k of these hold 201, the others 0 -/
def LentAt (w : World) (B : Nat) (s : ByteArray) (k : Nat) : Prop :=
  (∀ j, j < s.size → w.cell? ⟨B, j, none⟩ = some (.int .u8 ((s.data.toList[j]?.getD 0).toNat : Int))) ∧
  (∀ j, j < 8 → w.cell? ⟨B, s.size + j, none⟩ = some (.int .u8 (if j < k then 201 else 0))) ∧
  (∀ j, w.frozen? ⟨B, j, none⟩ = false) ∧ B < w.heap.size

/-- what 'make' and 'copy' do: opaque worlds, their cells -/
theorem lent_worlds (s : ByteArray) (w : World) (hl : s.size ≤ 140737488351232) :
    ∃ W1 W2 : World, (Instr.makeSlice 27 (.int .i64 ((s.size : Int) + 8)) (.int .i64 ((s.size : Int) + 8))).run Tryz.prog w = .ok (.slice (some ⟨w.heap.size, 0, none⟩) (s.size + 8) (s.size + 8)) W1 ∧
      (Builtin.copy_ #[27, 9] 3 #[.slice (some ⟨w.heap.size, 0, none⟩) (s.size + 8) (s.size + 8), .string s]).run Tryz.prog W1 = .ok (goInt s.size) W2 ∧
      LentAt W2 w.heap.size s 0 ∧ Below w.heap.size w W2 := by
  have h1 := run_make_row' (P := Tryz.prog) 27 5 (.int .u8 0) 1 Tryz.underlying27 info_u8 rfl .i64 .i64 (s.size + 8) (by omega) (by omega) w
  have hcell : ∀ j, j < s.size + 8 → (w.alloc (.cells (madeCells #[.int .u8 0] (s.size + 8)) 5)).cell? ⟨w.heap.size, j, none⟩ = some (.int .u8 0) := by
    intro j hj
    rw [World.cell?_alloc_at _ _ _ _ rfl]
    rw [← Array.getElem?_toList, toList_madeCells_one, List.getElem?_replicate, if_pos hj]
  have h2 := run_copy_string (P := Tryz.prog) (w.alloc (.cells (madeCells #[.int .u8 0] (s.size + 8)) 5)) 27 9 3 5 w.heap.size 0 (s.size + 8) (s.size + 8) s Tryz.underlying27 size_u8 (by omega)
    (fun j hj => by rw [Nat.zero_add, hcell j (by omega)]; rfl) (fun j hj => by simp [go_sem])
  have hlen : (s.data.toList.map fun x => Value.int .u8 (x.toNat : Int)).length = s.size := by rw [List.length_map]; exact Array.length_toList
  have hn : ((s.size + 8 : Nat) : Int) = (s.size : Int) + 8 := by omega
  rw [hn] at h1
  refine ⟨_, _, h1, h2, ⟨?_, ?_, ?_, ?_⟩, ?_⟩
  · intro j hj
    have h3 := World.cell?_setCells_in w.heap.size (s.data.toList.map fun x => Value.int .u8 (x.toNat : Int)) 0 (w.alloc (.cells (madeCells #[.int .u8 0] (s.size + 8)) 5))
      (fun i hi => by rw [Nat.zero_add, hcell i (by rw [hlen] at hi; omega)]; rfl) j (by rw [hlen]; exact hj)
    rw [Nat.zero_add] at h3
    rw [h3]
    have hj' : j < s.data.toList.length := by rw [Array.length_toList]; exact hj
    rw [List.getElem_map, List.getElem?_eq_getElem hj']
    rfl
  · intro j hj
    rw [World.cell?_setCells_out _ _ _ _ _ (fun _ _ => Or.inr (by rw [hlen]; show 0 + s.size ≤ s.size + j; omega)), hcell _ (by omega)]
    simp
  · intro j
    rw [World.frozen?_setCells]
    simp [go_sem]
  · have hb := (below_setCells (Nat.le_refl _) (s.data.toList.map fun x => Value.int .u8 (x.toNat : Int)) 0 (w.alloc (.cells (madeCells #[.int .u8 0] (s.size + 8)) 5)) (Below.refl w.heap.size (w.alloc (.cells (madeCells #[.int .u8 0] (s.size + 8)) 5)))).size
    simp at hb
    exact hb
  · exact below_setCells (Nat.le_refl _) _ _ _ ((Below.refl _ _).alloc (Nat.le_refl _) _)

theorem LentAt.put {w : World} {B : Nat} {s : ByteArray} {k : Nat} (h : LentAt w B s k) (hk : k < 8) : LentAt (w.setCell ⟨B, s.size + k, none⟩ (.int .u8 201)) B s (k + 1) := by
  obtain ⟨h1, h2, h3, h4⟩ := h
  refine ⟨fun j hj => ?_, fun j hj => ?_, fun j => ?_, ?_⟩
  · rw [World.cell?_setCell_other _ _ _ _ (fun e => by injection e; omega)]
    exact h1 j hj
  · by_cases e : j = k
    · subst e
      rw [World.cell?_setCell_same _ _ _ (h2 j hj)]
      simp
    · rw [World.cell?_setCell_other _ _ _ _ (fun e => by injection e; omega), h2 j hj]
      have : (j < k + 1) = (j < k) := by apply propext; omega
      simp only [this]
  · rw [World.frozen?_setCell]
    exact h3 j
  · simpa using h4

set_option maxHeartbeats 1000000 in
theorem lent_any (s : ByteArray) (w : World) (hl : s.size ≤ 140737488351232) :
    Calls Tryz.prog 36 #[.string s] w fun e w' => e = .returned (.slice (some ⟨w.heap.size, 0, none⟩) (s.size + 8) (s.size + 8)) ∧ LentAt w' w.heap.size s 8 ∧ Below w.heap.size w w' := by
  obtain ⟨W1, W2, hmk, hcp, hL, hb⟩ := lent_worlds s w hl
  have HB := hid hb
  clear hb
  go_enter Tryz.func36, Tryz.ntmps36
  go_wp2
  clear hmk hcp
  go_loopw [4] (fun i wr => ∃ k : Nat, k ≤ 8 ∧ i = .int .i64 ((s.size : Int) + k) ∧ LentAt wr w.heap.size s k ∧ Below w.heap.size w wr) (fun i _ => s.size + 8 - (intOf i).toNat)
  case atStart => exact ⟨0, by omega, by go_num, hL, HB.out⟩
  case round =>
    obtain ⟨k, hk, rfl, hLr, hbr⟩ := hrel
    by_cases hlt : k < 8
    · have hcx : wr.cell? ⟨w.heap.size, s.size + k, none⟩ = some (.int .u8 0) := by have := hLr.2.1 k hlt; simpa using this
      have hfx : wr.frozen? ⟨w.heap.size, s.size + k, none⟩ = false := hLr.2.2.1 _
      go_wp2
      go_roundw
      case rel => exact ⟨k + 1, by omega, by go_num, hLr.put hlt, hbr.setCell (Nat.le_refl _) _⟩
      case measure => simp [intOf]; omega
    · obtain rfl : k = 8 := by omega
      go_wp2
      go_ret
      exact ⟨rfl, hLr, hbr⟩

theorem LentAt.sees {w : World} {B : Nat} {s : ByteArray} {k cap : Nat} (h : LentAt w B s k) : SeesBytes w (.slice (some ⟨B, 0, none⟩) s.size cap) s.data.toList := by
  have hl : s.data.toList.length = s.size := Array.length_toList
  refine Or.inr ⟨B, 0, cap, h.2.2.2, by rw [hl], fun j hj => ?_⟩
  rw [Nat.zero_add]
  exact h.1 j (by omega)
theorem LentAt.below {w w1 : World} {B : Nat} {s : ByteArray} {k : Nat} (h : LentAt w B s k) (hb : Below w.heap.size w w1) : LentAt w1 B s k :=
  ⟨fun j hj => (hb.cell (p := ⟨B, j, none⟩) h.2.2.2).trans (h.1 j hj), fun j hj => (hb.cell (p := ⟨B, _, none⟩) h.2.2.2).trans (h.2.1 j hj),
    fun j => (hb.frozen (p := ⟨B, j, none⟩) h.2.2.2).trans (h.2.2.1 j), by have := hb.size; have := h.2.2.2; omega⟩

set_option maxHeartbeats 1000000 in
theorem still_any (s : ByteArray) (B : Nat) (w : World) (hl : s.size ≤ 140737488351232) (hL : LentAt w B s 8) :
    Calls Tryz.prog 37 #[.slice (some ⟨B, 0, none⟩) (s.size + 8) (s.size + 8), .string s] w fun e w' => e = .returned (.bool true) ∧ Below w.heap.size w w' := by
  go_enter Tryz.func37, Tryz.ntmps37
  go_wp2
  go_loopw [5] (fun i wr => ∃ k : Nat, k ≤ s.size + 8 ∧ i = .int .i64 k ∧ ∃ nd, wr = w.drewN nd) (fun i _ => s.size + 8 - (intOf i).toNat)
  case atStart => exact ⟨0, by omega, by go_num, 0, rfl⟩
  case round =>
    obtain ⟨k, hk, rfl, nd, rfl⟩ := hrel
    by_cases hlt : k < s.size
    · have hcx : w.cell? ⟨B, k, none⟩ = some (.int .u8 (s[k].toNat : Int)) := by
        rw [hL.1 k hlt, List.getElem?_eq_getElem (by rw [Array.length_toList]; exact hlt)]
        rfl
      have hd : decide (s.size ≤ k) = false := by simp; omega
      go_wp2_with fail
      go_quiet (fail)
      go_wp2
      go_roundw
      case rel => exact ⟨k + 1, by omega, by go_num, nd + nq, rfl⟩
      case measure => simp [intOf]; omega
    · by_cases hl2 : k < s.size + 8
      · have hcx : w.cell? ⟨B, k, none⟩ = some (.int .u8 201) := by
          have := hL.2.1 (k - s.size) (by omega)
          rw [show s.size + (k - s.size) = k from by omega] at this
          rw [this, if_pos (by omega)]
        have hge : s.size ≤ k := by omega
        have hd : decide (k < s.size) = false := by simp; omega
        have hd2 : decide ((k : Int) < (s.size : Int)) = false := by simp; omega
        go_wp2_with fail
        go_quiet (fail)
        go_wp2
        go_roundw
        case rel => exact ⟨k + 1, by omega, by go_num, nd + nq, rfl⟩
        case measure => simp [intOf]; omega
      · obtain rfl : k = s.size + 8 := by omega
        go_wp2
        go_ret
        exact ⟨rfl, below_drewN (Below.refl _ _) _⟩
end Go.Proofs.YthphojdnbfghmaaGreat
