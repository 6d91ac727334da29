import Derived.Test.YthphojdnbfghmaaGreatText
import Derived.Test.YthphojdnbfghmaaGreatLent
import Derived.Deep.RegionHeld3
namespace Go.Proofs.YthphojdnbfghmaaGreat
open Go.RowKit

theorem conv2 (b : Nat) (m n : Int) (w : World) (hb : b = w.heap.size) : (convert 27 9 (.slice (some ⟨b, 0, none⟩) 2 2)).run Tryz.prog (w.alloc (.cells #[.int .u8 m, .int .u8 n] 5)) = .ok (.string (strOfNums [m, n])) (w.alloc (.cells #[.int .u8 m, .int .u8 n] 5)) := by
  subst hb
  refine run_convert_bytes_arg _ 27 5 Tryz.underlying27 Tryz.underlying5 _ 0 2 2 [m, n] rfl ?_ 9 Tryz.underlying9
  intro i hi
  match i, hi with
  | 0, _ => simp [go_sem]
  | 1, _ => simp [go_sem]

set_option maxRecDepth 100000 in
set_option maxHeartbeats 400000 in
theorem one_any (n : Int) (w : World) (h : 0 ≤ n ∧ n ≤ 255) :
    Calls Tryz.prog 35 #[.int .i64 n] w fun e w' => e = .returned (.string (strOfNums [n])) ∧ Below w.heap.size w w' := by
  have hcv := conv1
  go_enter Tryz.func35, Tryz.ntmps35
  go_wp2
  go_ret
  exact ⟨rfl, (Below.refl _ _).alloc (Nat.le_refl _) _⟩

set_option maxRecDepth 100000 in
set_option maxHeartbeats 400000 in
theorem word_any (n : Int) (w : World) (h : 0 ≤ n ∧ n ≤ 65535) :
    Calls Tryz.prog 34 #[.int .i64 n] w fun e w' => e = .returned (.string (strOfNums [n % 256, n / 256])) ∧ Below w.heap.size w w' := by
  have hcv := conv2
  go_enter Tryz.func34, Tryz.ntmps34
  go_wp2
  go_ret
  exact ⟨rfl, (Below.refl _ _).alloc (Nat.le_refl _) _⟩

set_option maxHeartbeats 400000 in
theorem isWord_yes (n : Int) (w : World) (h : 0 ≤ n ∧ n ≤ 65535) :
    Calls Tryz.prog 64 #[.int .i64 n] w fun e w' => e = .returned (.bool true) ∧ w' = w := by
  go_enter Tryz.func64, Tryz.ntmps64
  go_wp2
  go_ret
  exact ⟨rfl, rfl⟩

set_option maxHeartbeats 1000000 in
theorem proper_one (d : ByteArray) (b : Nat) (w : World) (hd : d.size = 8) (hb : b < w.heap.size)
    (c0 : w.cell? ⟨b, 0, none⟩ = some (.int .i64 188)) (c1 : w.cell? ⟨b, 1, none⟩ = some (.int .i64 4)) (c2 : w.cell? ⟨b, 2, none⟩ = some (.int .i64 1)) (c3 : w.cell? ⟨b, 3, none⟩ = some (.string d)) :
    Calls Tryz.prog 33 #[.agg #[.int .i64 258, .slice (some ⟨b, 0, none⟩) 1 1]] w fun e w' => e = .returned (.bool true) ∧ Below w.heap.size w w' := by
  go_enter Tryz.func33, Tryz.ntmps33
  go_wp2
  refine wp_loop_rounds 2 ?_
  rw [rounds_succ]
  go_wp2
  rw [rounds_succ]
  go_wp2
  go_ret
  exact ⟨rfl, ((Below.refl _ _).alloc (Nat.le_refl _) _).alloc (by simp) _⟩

theorem keepB {w0 W w2 : World} (h : Below w0.heap.size w0 W) (hb : Below W.heap.size W w2) : Below w0.heap.size w0 w2 := h.trans (hb.mono h.size)

/-- two cells and all that was there: kept behind a call that only makes memory -/
theorem keepS2 {w0 W w2 : World} {A A' : Addr} {a a' : Value} (hA : A.block < w0.heap.size) (hA' : A'.block < w0.heap.size) (hh : W.cell? A = some a ∧ W.cell? A' = some a' ∧ Below w0.heap.size w0 W) (hb : Below W.heap.size W w2) :
    w2.cell? A = some a ∧ w2.cell? A' = some a' ∧ Below w0.heap.size w0 w2 :=
  have h := hh.2.2.size
  ⟨(hb.cell (p := A) (by omega)).trans hh.1, (hb.cell (p := A') (by omega)).trans hh.2.1, keepB hh.2.2 hb⟩

theorem keepS4 {w0 W w2 : World} {B : Nat} {a0 a1 a2 a3 : Value} (hh : W.cell? ⟨B, 0, none⟩ = some a0 ∧ W.cell? ⟨B, 1, none⟩ = some a1 ∧ W.cell? ⟨B, 2, none⟩ = some a2 ∧ W.cell? ⟨B, 3, none⟩ = some a3 ∧ Below (B + 1) w0 W) (hb : Below W.heap.size W w2) :
    w2.cell? ⟨B, 0, none⟩ = some a0 ∧ w2.cell? ⟨B, 1, none⟩ = some a1 ∧ w2.cell? ⟨B, 2, none⟩ = some a2 ∧ w2.cell? ⟨B, 3, none⟩ = some a3 ∧ Below (B + 1) w0 w2 :=
  have h : B < W.heap.size := World.block_lt_of_cell? W ⟨B, 0, none⟩ hh.1
  ⟨(hb.cell (p := ⟨B, 0, none⟩) h).trans hh.1, (hb.cell (p := ⟨B, 1, none⟩) h).trans hh.2.1, (hb.cell (p := ⟨B, 2, none⟩) h).trans hh.2.2.1, (hb.cell (p := ⟨B, 3, none⟩) h).trans hh.2.2.2.1, hh.2.2.2.2.trans (hb.mono h)⟩

set_option maxHeartbeats 1000000 in
theorem pack_one (d : ByteArray) (b : Nat) (w : World) (hd : d.size = 8) (hb : b < w.heap.size)
    (c0 : w.cell? ⟨b, 0, none⟩ = some (.int .i64 188)) (c1 : w.cell? ⟨b, 1, none⟩ = some (.int .i64 4)) (c2 : w.cell? ⟨b, 2, none⟩ = some (.int .i64 1)) (c3 : w.cell? ⟨b, 3, none⟩ = some (.string d)) :
    Calls Tryz.prog 23 #[.agg #[.int .i64 258, .slice (some ⟨b, 0, none⟩) 1 1]] w fun e w' => (∃ p : ByteArray, p.size ≤ 1000 ∧ e = .returned (.tuple #[.string p, .int .i64 0])) ∧ Below w.heap.size w w' := by
  go_enter Tryz.func23, Tryz.ntmps23
  go_wp2_with fail
  refine (proper_one d b _ hd (by simp; omega) (by simp [go_sem, hb, c0]) (by simp [go_sem, hb, c1]) (by simp [go_sem, hb, c2]) (by simp [go_sem, hb, c3])).mono ?_
  rintro e w1 ⟨rfl, hb1⟩
  have hz1 : w.heap.size < w1.heap.size := by have := hb1.size; simp at this; omega
  have m0 : w1.cell? ⟨w.heap.size, 0, none⟩ = some (.int .i64 258) := (hb1.cell (p := ⟨w.heap.size, 0, none⟩) (by simp)).trans (by simp [go_sem])
  have m1 : w1.cell? ⟨w.heap.size, 1, none⟩ = some (.slice (some ⟨b, 0, none⟩) 1 1) := (hb1.cell (p := ⟨w.heap.size, 1, none⟩) (by simp)).trans (by simp [go_sem])
  have HB : Hid (Below w.heap.size w w1) := ((Below.refl _ _).alloc (Nat.le_refl _) _).trans (hb1.mono (by simp))
  clear hb1
  have hss := strOfNums_size
  go_wp2_with fail
  go_region_held3 (fun w' => w'.cell? ⟨w.heap.size, 0, none⟩ = some (.int .i64 258) ∧ w'.cell? ⟨w.heap.size, 1, none⟩ = some (.slice (some ⟨b, 0, none⟩) 1 1) ∧ Below w1.heap.size w1 w')
    (first | (refine ⟨?_, ?_, (Below.refl _ _).drew⟩ <;> (simp [m0, m1]; done)) | (apply keepS2 (w0 := w1) (A := ⟨w.heap.size, 0, none⟩) (A' := ⟨w.heap.size, 1, none⟩) hz1 hz1; assumption; assumption))
    (first | (go_at_call 34; refine (word_any _ _ ⟨by omega, by omega⟩).mono ?_; rintro e w2 ⟨rfl, hb2⟩) | (go_at_call 35; refine (one_any _ _ ⟨by omega, by omega⟩).mono ?_; rintro e w2 ⟨rfl, hb2⟩))
  have hS : w2.cell? ⟨w.heap.size, 0, none⟩ = some (.int .i64 258) ∧ w2.cell? ⟨w.heap.size, 1, none⟩ = some (.slice (some ⟨b, 0, none⟩) 1 1) ∧ Below w1.heap.size w1 w2 := by assumption
  have HB2 : Hid (Below w.heap.size w w2) := HB.out.trans (hS.2.2.mono (by omega))
  have n0 := (HB2.out.cell (p := ⟨b, 0, none⟩) hb).trans c0
  have n1 := (HB2.out.cell (p := ⟨b, 1, none⟩) hb).trans c1
  have n2 := (HB2.out.cell (p := ⟨b, 2, none⟩) hb).trans c2
  have n3 := (HB2.out.cell (p := ⟨b, 3, none⟩) hb).trans c3
  have hz2 : w.heap.size < w2.heap.size := by have := hS.2.2.size; omega
  obtain ⟨k0, k1, _⟩ := hS
  clear c0 c1 c2 c3 m0 m1 hz1
  go_wp2
  refine wp_loop_rounds 2 ?_
  rw [rounds_succ]
  go_wp2
  go_region_held3 (fun w' => w'.cell? ⟨w2.heap.size, 0, none⟩ = some (.int .i64 188) ∧ w'.cell? ⟨w2.heap.size, 1, none⟩ = some (.int .i64 4) ∧ w'.cell? ⟨w2.heap.size, 2, none⟩ = some (.int .i64 1) ∧ w'.cell? ⟨w2.heap.size, 3, none⟩ = some (.string d) ∧ Below (w2.heap.size + 1) (w2.alloc (.cells #[.int .i64 188, .int .i64 4, .int .i64 1, .string d] 43)) w')
    (first | (refine ⟨?_, ?_, ?_, ?_, (Below.refl _ _).drew⟩ <;> (simp [go_sem]; done)) | (apply keepS4; assumption; assumption))
    (first | (go_at_call 34; refine (word_any _ _ ⟨by omega, by omega⟩).mono ?_; rintro e w3 ⟨rfl, hb3⟩))
  have hS : w3.cell? ⟨w2.heap.size, 0, none⟩ = some (.int .i64 188) ∧ w3.cell? ⟨w2.heap.size, 1, none⟩ = some (.int .i64 4) ∧ w3.cell? ⟨w2.heap.size, 2, none⟩ = some (.int .i64 1) ∧ w3.cell? ⟨w2.heap.size, 3, none⟩ = some (.string d) ∧ Below (w2.heap.size + 1) (w2.alloc (.cells #[.int .i64 188, .int .i64 4, .int .i64 1, .string d] 43)) w3 := by assumption
  have p1 : w3.cell? ⟨w.heap.size, 1, none⟩ = some (.slice (some ⟨b, 0, none⟩) 1 1) := (hS.2.2.2.2.cell (p := ⟨w.heap.size, 1, none⟩) (show w.heap.size < w2.heap.size + 1 by omega)).trans (by rw [World.cell?_alloc_lt _ _ _ hz2]; exact k1)
  have HB3 : Hid (Below w.heap.size w w3) := (HB2.out.alloc (by omega) _).trans (hS.2.2.2.2.mono (by omega))
  clear hS k0 k1 n0 n1 n2 n3
  go_wp2
  rw [rounds_succ]
  go_wp2
  go_ret2
  exact ⟨⟨_, by simp [strOfNums_size, hd]; decide, rfl⟩, HB3.out⟩
end Go.Proofs.YthphojdnbfghmaaGreat
