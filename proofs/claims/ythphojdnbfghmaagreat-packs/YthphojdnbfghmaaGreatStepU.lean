import Derived.Test.YthphojdnbfghmaaGreatLent2
import Derived.Test.YthphojdnbfghmaaGreatStepP
import Derived.Test.YthphojdnbfghmaaGreatRefUnpack2
namespace Go.Proofs.YthphojdnbfghmaaGreat
open Go.RowKit

set_option maxRecDepth 100000 in
set_option maxHeartbeats 4000000 in
theorem unpacked_any (B : Nat) (hs : List HoldD) (kd on oc of ver : Int) (ob os ot ok : ByteArray) (ofa sv : Value) (om orw : Bool) (w : World) (I : Inv B w hs) (hlen : hs.length ≤ 8796093022208) (hob : ob.size ≤ 140737488351232) :
    Calls Tryz.prog 42 #[.pointer (some ⟨B, 0, none⟩), .agg #[.int .i64 kd, .string ob, .string os, .string ot, .int .i64 on, .int .i64 oc, .int .i64 of, ofa, .int .i64 ver, sv, .bool om, .bool orw, .string ok]] w fun e w' => StepPost B hs w e w' := by
  have HI := hid I
  clear I
  go_enter Tryz.func42, Tryz.ntmps42
  go_wp2_with fail
  refine (lent_any2 ob _ hob).mono ?_
  rintro e w1 ⟨rfl, hL, hb1, hK⟩
  have c1 : w1.cell? ⟨w.heap.size, 1, none⟩ = some (.string ob) := (hb1.cell (p := ⟨w.heap.size, 1, none⟩) (by simp)).trans (by simp [go_sem])
  have HB1 := hid (newB hb1)
  have hz1 : w.heap.size + 1 < w1.heap.size := by have := hL.2.2.2; simpa using this
  simp only [World.size_alloc] at hL hK
  have HL1 := hid hL
  have HK1 := hid hK
  clear hL hK hb1
  have i0 : (0 : Int) ≤ (ob.size : Int) := by omega
  have i1 : (ob.size : Int) ≤ (ob.size : Int) + 8 := by omega
  go_wp2_with fail
  refine (kunpack_any _ ob _ (by omega) (HL1.out.seesB hob)).mono ?_
  rintro e w2 ⟨⟨pv2, rfl, ho2⟩, hb2⟩
  obtain ⟨a2, q2, rfl⟩ := ownsRow_slice ho2
  have HL2 := hid (HL1.out.below hb2)
  have HK2 := hid (HK1.out.below hb2)
  have HO2 := hid ho2
  have HB2 : Hid (Below w.heap.size w w2) := HB1.out.trans (hb2.mono (by omega))
  have hz2 : w1.heap.size ≤ w2.heap.size := hb2.size
  have c2 : w2.cell? ⟨w.heap.size, 1, none⟩ = some (.string ob) := (hb2.cell (p := ⟨w.heap.size, 1, none⟩) (by show w.heap.size < w1.heap.size; omega)).trans c1
  clear c1 HL1 HK1 HB1 ho2 hb2
  have hwz : w.heap.size < w2.heap.size := by omega
  go_wp2_with fail
  refine (refunpack_any ob _ (by omega)).mono ?_
  rintro e w3 ⟨⟨pv3, rfl, ho3⟩, hb3⟩
  obtain ⟨a3, q3, rfl⟩ := ownsRow_slice ho3
  have HL3 := hid ((HL2.out.below ((Below.refl _ _).alloc (Nat.le_refl _) (.cells #[.int .i64 (unpVer ob), .slice a2 (unpN ob) q2] 30))).below hb3)
  have HK3 := hid ((HK2.out.below ((Below.refl _ _).alloc (Nat.le_refl _) (.cells #[.int .i64 (unpVer ob), .slice a2 (unpN ob) q2] 30))).below hb3)
  have hM3 : w3.heap[w2.heap.size]? = some (.cells #[.int .i64 (unpVer ob), .slice a2 (unpN ob) q2] 30 (0, 0)) := (hb3.block _ (by simp)).trans (heap_alloc_new w2 _)
  have HM3 := hid hM3
  have HA3 : Hid (w3.ownsRow w.heap.size 43 4 (.slice a2 (unpN ob) q2) (unpN ob) (partCells (partOf ob) (unpN ob))) := ownsRow_mono (ownsRow_below (HO2.out.alloc _) hb3) (by omega)
  have HO3 := hid ho3
  have HB3 : Hid (Below w.heap.size w w3) := HB2.out.trans ((newB hb3).mono (by omega))
  have hz3 : w2.heap.size < w3.heap.size := by have := hb3.size; simp at this; omega
  have c3 : w3.cell? ⟨w.heap.size, 1, none⟩ = some (.string ob) := (hb3.cell (p := ⟨w.heap.size, 1, none⟩) (by simp; omega)).trans (by rw [World.cell?_alloc_lt _ _ _ (by show w.heap.size < w2.heap.size; omega)]; exact c2)
  clear c2 HL2 HK2 HB2 HO2 ho3 hb3 hM3
  have hwz3 : w.heap.size < w3.heap.size := by omega
  go_wp2_with fail
  refine (still_any ob _ _ hob (HL3.out.below ((Below.refl _ _).alloc (Nat.le_refl _) (.cells #[.int .i64 (unpVer ob), .slice a3 (unpN ob) q3] 30)))).mono ?_
  rintro e w4 ⟨rfl, hb4⟩
  have hN4 : w4.heap[w3.heap.size]? = some (.cells #[.int .i64 (unpVer ob), .slice a3 (unpN ob) q3] 30 (0, 0)) := (hb4.block _ (by simp)).trans (heap_alloc_new w3 _)
  have hM4 : w4.heap[w2.heap.size]? = some (.cells #[.int .i64 (unpVer ob), .slice a2 (unpN ob) q2] 30 (0, 0)) := (hb4.block _ (by simp; omega)).trans ((heap_alloc_old _ _ hz3).trans HM3.out)
  obtain ⟨m0, m1, _, _⟩ := man_cells hM4
  obtain ⟨k0, k1, _, _⟩ := man_cells hN4
  have HA4 : Hid (w4.ownsRow w.heap.size 43 4 (.slice a2 (unpN ob) q2) (unpN ob) (partCells (partOf ob) (unpN ob))) := ownsRow_below (HA3.out.alloc _) hb4
  have HC4 : Hid (SeesParts w4 (.slice a3 (unpN ob) q3) (unpN ob) (partOf ob)) := ownsRow_parts (ownsRow_below (HO3.out.alloc _) hb4)
  have HK4 : Hid (BlkB w4 (w.heap.size + 1) (ob.size + 8)) := (HK3.out.below ((Below.refl _ _).alloc (Nat.le_refl _) _)).below hb4
  have HB4 : Hid (Below w.heap.size w w4) := HB3.out.trans ((newB hb4).mono (by omega))
  have hz4 : w3.heap.size < w4.heap.size := by have := hb4.size; simp at this; omega
  have hun : unpN ob ≤ 8 := by
    unfold unpN
    split
    · rename_i h
      simp only [hasMan, headOk, Bool.and_eq_true, decide_eq_true_eq] at h
      exact h.1.1.2
    · omega
  clear c3 HL3 HK3 HB3 HM3 HA3 HO3 hM4 hN4 hb4
  generalize unpVer ob = uv at *
  generalize unpLen ob = ul at *
  generalize unpErr ob = ue at *
  generalize unpN ob = un at *
  go_wp2
  go_loopw [12, 13] (fun okv x wr => ∃ k nd : Nat, k ≤ un ∧ okv = .bool true ∧ x = .int .i64 k ∧ wr = w4.drewN nd) (fun _ x _ => un - (intOf x).toNat)
  case atStart => exact ⟨0, 0, by omega, rfl, rfl, rfl⟩
  case round =>
    obtain ⟨k, nd, hk, rfl, rfl, rfl⟩ := hrel
    by_cases hlt : k < un
    · obtain ⟨ba, oa, rfl, _, hPa⟩ := (ownsRow_parts HA4.out).at hlt
      obtain ⟨bb, oo, rfl, _, hPb⟩ := HC4.out.at hlt
      obtain ⟨y0, y1, y2, y3⟩ := hPa k hlt
      obtain ⟨z0, z1, z2, z3⟩ := hPb k hlt
      clear hPa hPb
      generalize partOf ob k = q at *
      obtain ⟨qo, ql, qa, qd⟩ := q
      simp only at z0 z1 z2 z3 y0 y1 y2 y3
      go_wp2_with fail
      go_quiet (fail)
      go_wp2
      go_roundw
      case rel => exact ⟨k + 1, nd + nq, by omega, rfl, by go_num, by simp⟩
      case measure => simp [intOf]; omega
    · obtain rfl : k = un := by omega
      obtain ⟨xs, hxs⟩ := HK4.out.own (lo := w.heap.size) (by omega) (by omega)
      have HB5 : Hid (Below w.heap.size w (w4.drewN nd)) := below_drewN HB4.out nd
      have HP5 : Hid ((w4.drewN nd).ownsRow w.heap.size 5 1 (.slice (some ⟨w.heap.size + 1, 0, none⟩) (ob.size + 8) (ob.size + 8)) (ob.size + 8) xs) := ownsRow_below hxs (below_drewN (Below.refl _ _) nd)
      have HO5 : Hid ((w4.drewN nd).ownsRow w.heap.size 43 4 (.slice a2 k q2) k (partCells (partOf ob) k)) := ownsRow_below HA4.out (below_drewN (Below.refl _ _) nd)
      have hz5 : w.heap.size ≤ (w4.drewN nd).heap.size := HB5.out.size
      have m5 : (w4.drewN nd).cell? ⟨w2.heap.size, 1, none⟩ = some (.slice a2 k q2) := by simpa using m1
      have m50 : (w4.drewN nd).cell? ⟨w2.heap.size, 0, none⟩ = some (.int .i64 uv) := by simpa using m0
      clear HB4 HA4 HC4 HK4 m0 m1 k0 k1 hxs
      generalize w4.drewN nd = w5 at *
      go_wp2_with fail
      refine (keep_any B hs ⟨w5.heap.size, 0, .slice (some ⟨w.heap.size + 1, 0, none⟩) (ob.size + 8) (ob.size + 8), ob.size + 8, .slice a2 k q2, k, .slice none 0 0, 0, .slice none 0 0, 0, .slice none 0 0, 0, .slice none 0 0, 0⟩ xs (partCells (partOf ob) k) [] [] [] [] w _ HI.out (HB5.out.alloc hz5 _) ⟨hz5, heap_alloc_new w5 _, by show 0 ≤ _; omega, HP5.out.alloc _, HO5.out.alloc _, World.ownsRow_nil _ _ _ _, World.ownsRow_nil _ _ _ _, World.ownsRow_nil _ _ _ _, World.ownsRow_nil _ _ _ _, by show ob.size + 8 ≤ _; omega, by show k ≤ _; omega, by show 0 ≤ _; omega, by show 0 ≤ _; omega, by show 0 ≤ _; omega, by show 0 ≤ _; omega⟩ hlen (by show (ob.size + 8 + 3) * 1 ≤ _; omega) (by show (k + 3) * 40 ≤ _; omega) (by show (0 + 3) * 8 ≤ _; omega) (by show (0 + 3) * 24 ≤ _; omega) (by show (0 + 3) * 32 ≤ _; omega) (by show (0 + 3) * 8 ≤ _; omega)).mono ?_
      rintro e w6 ⟨rfl, ⟨hs', hI6, hl6⟩, hb6⟩
      have H6 : Hid (Inv B w6 hs' ∧ hs'.length ≤ hs.length + 4 ∧ Below B w w6) := ⟨hI6, by omega, hb6⟩
      clear hI6 hl6 hb6 HI HB5 HP5 HO5 m5 m50
      go_wp2
      go_ret
      exact ⟨rfl, ⟨hs', H6.out.1, H6.out.2.1⟩, H6.out.2.2⟩
end Go.Proofs.YthphojdnbfghmaaGreat
