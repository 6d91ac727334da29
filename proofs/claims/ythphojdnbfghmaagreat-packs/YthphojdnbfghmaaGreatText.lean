import Derived.Test.YthphojdnbfghmaaGreatDig
import Derived.Deep.RegionWith
import Derived.Deep.QuietTactic
import Derived.BigQuiet
namespace Go.Proofs.YthphojdnbfghmaaGreat
open Go.RowKit

set_option maxHeartbeats 1000000 in
theorem text_any (x n : Int) (s : ByteArray) (w : World) (hn : 0 ≤ n ∧ n + s.size < 18446744073709551615) (hl : s.size ≤ 9223372036854775807) :
    Calls Tryz.prog 93 #[.agg #[.int .u64 x, .int .u64 n], .string s] w fun e w' => e = .returned (.agg #[.int .u64 (kx x s.data.toList), .int .u64 (n + s.size)]) ∧ Below w.heap.size w w' := by
  go_enter Tryz.func93, Tryz.ntmps93
  go_wp2
  go_loopw [8] (fun i wr => ∃ k : Nat, k ≤ s.size ∧ i = .int .i64 k ∧ wr.cell? ⟨w.heap.size, 0, none⟩ = some (.int .u64 (kx x (s.data.toList.take k))) ∧ wr.cell? ⟨w.heap.size, 1, none⟩ = some (.int .u64 (n + k)) ∧
      wr.frozen? ⟨w.heap.size, 0, none⟩ = false ∧ wr.frozen? ⟨w.heap.size, 1, none⟩ = false ∧ wr.frozen? ⟨w.heap.size + 1, 0, none⟩ = false ∧ wr.frozen? ⟨w.heap.size + 1, 1, none⟩ = false ∧
      (∃ c0 c1, wr.cell? ⟨w.heap.size + 1, 0, none⟩ = some c0 ∧ wr.cell? ⟨w.heap.size + 1, 1, none⟩ = some c1) ∧ w.heap.size + 2 ≤ wr.heap.size ∧ Below w.heap.size w wr)
    (fun i _ => s.size - (intOf i).toNat)
  case atStart => exact ⟨0, Nat.zero_le _, rfl, by simp [go_sem, kx], by simp [go_sem], by simp [go_sem], by simp [go_sem], by simp [go_sem], by simp [go_sem], ⟨.int .u64 0, .int .u64 0, by simp [go_sem], by simp [go_sem]⟩, by simp, ((Below.refl _ _).alloc (Nat.le_refl _) _).alloc (by simp) _⟩
  case round =>
    obtain ⟨k, hk, rfl, h0, h1, f0, f1, f2, f3, ⟨c0, c1, g0, g1⟩, hsz, hbe⟩ := hrel
    by_cases hlt : k < s.size
    · have HK : Hid (kx x (s.data.toList.take (k + 1)) = kstep (kx x (s.data.toList.take k)) (s[k].toNat : Int) ∧ 0 ≤ (s[k].toNat : Int) ∧ (s[k].toNat : Int) ≤ 255) := by
        have h := kx_take x s.data.toList k (by simpa using hlt)
        refine ⟨h.trans ?_, by omega, by have := s[k].toNat_lt; omega⟩
        rw [List.getElem?_eq_getElem (by simpa using hlt)]
        rfl
      generalize kx x (s.data.toList.take k) = xk at *
      go_wp2_with fail
      go_region_with (go_at_call 95; refine (take_any _ _ _ _ HK.out.2 ⟨by omega, by omega⟩).mono ?_; rintro e w1 ⟨rfl, hb1⟩; have e0 : w1.cell? ⟨w.heap.size, 0, none⟩ = some (.int .u64 xk) := (hb1.cell (p := ⟨w.heap.size, 0, none⟩) (by simp; omega)).trans h0; have e1 : w1.cell? ⟨w.heap.size, 1, none⟩ = some (.int .u64 (n + k)) := (hb1.cell (p := ⟨w.heap.size, 1, none⟩) (by simp; omega)).trans h1; have e2 : w1.frozen? ⟨w.heap.size, 0, none⟩ = false := (hb1.frozen (p := ⟨w.heap.size, 0, none⟩) (by simp; omega)).trans f0; have e3 : w1.frozen? ⟨w.heap.size, 1, none⟩ = false := (hb1.frozen (p := ⟨w.heap.size, 1, none⟩) (by simp; omega)).trans f1)
      all_goals
        have e4 : w1.frozen? ⟨w.heap.size + 1, 0, none⟩ = false := (hb1.frozen (p := ⟨w.heap.size + 1, 0, none⟩) (by simp; omega)).trans f2
        have e5 : w1.frozen? ⟨w.heap.size + 1, 1, none⟩ = false := (hb1.frozen (p := ⟨w.heap.size + 1, 1, none⟩) (by simp; omega)).trans f3
        have e6 : w1.cell? ⟨w.heap.size + 1, 0, none⟩ = some c0 := (hb1.cell (p := ⟨w.heap.size + 1, 0, none⟩) (by simp; omega)).trans g0
        have e7 : w1.cell? ⟨w.heap.size + 1, 1, none⟩ = some c1 := (hb1.cell (p := ⟨w.heap.size + 1, 1, none⟩) (by simp; omega)).trans g1
        have hz1 := hb1.size
        have HB : Hid (Below w.heap.size w w1) := (hbe.drew).trans (hb1.mono (by simp; omega))
        have hz2 : w.heap.size + 2 ≤ w1.heap.size := by simp at hz1; omega
        clear hbe hb1 h0 h1 f0 f1 f2 f3 g0 g1 hz1
        go_wp2
        go_roundw
        case rel =>
          refine ⟨k + 1, by omega, by go_num, ?_, ?_, ?_, ?_, ?_, ?_, ⟨c0, c1, ?_, ?_⟩, ?_, ?_⟩
          · rw [HK.out.1]; simp [go_sem, e0]
          · simp [go_sem, e1]; omega
          all_goals first | (simp [go_sem, e2, e3, e4, e5, e6, e7]; done) | (simp; omega) | skip
          exact (HB.out.setCell (by simp) _).setCell (by simp) _
        case measure => simp [intOf]; omega
    · obtain rfl : k = s.size := by omega
      have h : s.data.toList.take s.size = s.data.toList := List.take_of_length_le (by simp)
      rw [h] at h0
      clear h
      go_wp2
      refine bodyPost_ret (v := .agg #[.int .u64 (kx x s.data.toList), .int .u64 (n + s.size)]) (by simp [results, Tryz.results93, go_sem, g0, g1]) rfl ⟨rfl, (hbe.setCell (by simp) _).setCell (by simp) _⟩

end Go.Proofs.YthphojdnbfghmaaGreat
