import Derived.Test.YthphojdnbfghmaaGreatTree
namespace Go.Proofs.YthphojdnbfghmaaGreat
open Go.RowKit

theorem info_str : (Tryz.prog.info? 9).map (fun i => (i.zero, i.size, i.bytes)) = some (some (.string ⟨#[]⟩), 1, 16) := by kernel_rfl

theorem make_strs (n : Nat) (hn : n ≤ 1000) (g : Nat → ByteArray) (w : World) : ∃ W1 : World, (Instr.makeSlice 26 (.int .i64 (n : Int)) (.int .i64 (n : Int))).run Tryz.prog w = .ok (.slice (some ⟨w.heap.size, 0, none⟩) n n) W1 ∧ StrRow W1 w.heap.size n (fill g 0) ∧ Below w.heap.size w W1 := by
  have h1 := run_make_row' (P := Tryz.prog) 26 9 (.string ⟨#[]⟩) 16 Tryz.underlying26 info_str rfl .i64 .i64 n (by omega) (by omega) w
  refine ⟨_, h1, new_row _ _ _ _ _ ?_ (by decide), (Below.refl _ _).alloc (Nat.le_refl _) _⟩
  apply Array.toList_inj.1
  rw [toList_madeCells_one]
  simp

set_option maxHeartbeats 1000000 in
theorem leafNodes_any (seed : ByteArray) (w : World) (hs : seed.size ≤ 4611686018427387904) :
    Calls Tryz.prog 47 #[.string seed] w fun e' w' => e' = .returned (.slice (some ⟨w.heap.size, 0, none⟩) 8 8) ∧ StrRow w' w.heap.size 8 (fun j => nod seed 0 (j : Int)) ∧ Below w.heap.size w w' := by
  obtain ⟨W1, hmk, hR0, hb0⟩ := make_strs 8 (by omega) (fun j => nod seed 0 (j : Int)) w
  have HB := hid hb0
  have hmk' : (Instr.makeSlice 26 (.int .i64 8) (.int .i64 8)).run Tryz.prog w = .ok (.slice (some ⟨w.heap.size, 0, none⟩) 8 8) W1 := hmk
  clear hb0 hmk
  go_enter Tryz.func47, Tryz.ntmps47
  go_wp2
  clear hmk'
  go_loopw [8] (fun i wr => ∃ k : Nat, k ≤ 8 ∧ i = .int .i64 k ∧ StrRow wr w.heap.size 8 (fill (fun j => nod seed 0 (j : Int)) k) ∧ Below w.heap.size w wr) (fun i _ => 8 - (intOf i).toNat)
  case atStart => exact ⟨0, by omega, rfl, hR0, HB.out⟩
  case round =>
    obtain ⟨k, hk, rfl, hR, hbr⟩ := hrel
    by_cases hlt : k < 8
    · go_wp2_with fail
      refine (seedLeafNode_any seed _ _ hs ⟨by omega, by omega⟩).mono ?_
      rintro e' w2 ⟨rfl, hb2⟩
      have hR2 := hR.below hb2
      have c0 := hR2.1 k hlt
      have f0 := hR2.2.1 k
      have HB2 : Hid (Below w.heap.size w w2) := keepB hbr hb2
      clear hb2 hbr hR
      generalize fill (fun j => nod seed 0 (j : Int)) k k = old at c0
      go_wp2
      go_roundw
      case rel => exact ⟨k + 1, by omega, by go_num, hR2.put hlt, HB2.out.setCell (by simp) _⟩
      case measure => simp [intOf]; omega
    · obtain rfl : k = 8 := by omega
      go_wp2
      go_ret
      exact ⟨rfl, ⟨fun j hj => by rw [hR.1 j hj, fill_all _ _ _ hj], hR.2⟩, hbr⟩

/-- two old cells, and all that is old: behind a call, behind a store into what is new -/
theorem keepL2 {w W w2 : World} {A A' : Addr} {a a' : Value} (hA : A.block < w.heap.size) (hA' : A'.block < w.heap.size) (hh : W.cell? A = some a ∧ W.cell? A' = some a' ∧ Below w.heap.size w W) (hb : Below W.heap.size W w2) :
    w2.cell? A = some a ∧ w2.cell? A' = some a' ∧ Below w.heap.size w w2 :=
  have h := hh.2.2.size
  ⟨(hb.cell (p := A) (by omega)).trans hh.1, (hb.cell (p := A') (by omega)).trans hh.2.1, keepB hh.2.2 hb⟩
theorem keepL2s {w W : World} {A A' : Addr} {a a' : Value} {k : Nat} {v : Value} (hA : A.block < w.heap.size) (hA' : A'.block < w.heap.size) (hh : W.cell? A = some a ∧ W.cell? A' = some a' ∧ Below w.heap.size w W) :
    (W.setCell ⟨w.heap.size, k, none⟩ v).cell? A = some a ∧ (W.setCell ⟨w.heap.size, k, none⟩ v).cell? A' = some a' ∧ Below w.heap.size w (W.setCell ⟨w.heap.size, k, none⟩ v) := by
  refine ⟨?_, ?_, hh.2.2.setCell (Nat.le_refl _) _⟩
  · rw [World.cell?_setCell_other _ _ _ _ (fun e => by rw [← e] at hA; exact Nat.lt_irrefl _ hA)]; exact hh.1
  · rw [World.cell?_setCell_other _ _ _ _ (fun e => by rw [← e] at hA'; exact Nat.lt_irrefl _ hA')]; exact hh.2.1

set_option maxHeartbeats 1000000 in
theorem levelAbove_any (n m : Nat) (hm : m = 2 * n) (hn : 1 ≤ n ∧ n ≤ 100) (b cap : Nat) (f : Nat → ByteArray) (h8 : ∀ j, (f j).size = 8) (w : World) (hR : StrRow w b m f) :
    Calls Tryz.prog 48 #[.slice (some ⟨b, 0, none⟩) m cap] w fun e' w' => e' = .returned (.slice (some ⟨w.heap.size, 0, none⟩) n n) ∧ StrRow w' w.heap.size n (fun j => above (f (2 * j)) (f (2 * j + 1))) ∧ Below w.heap.size w w' := by
  obtain ⟨W1, hmk, hR0, hb0⟩ := make_strs n (by omega) (fun j => above (f (2 * j)) (f (2 * j + 1))) w
  have HB := hid hb0
  have H8 := hid h8
  have HM := hid hm
  have hq : (m : Int) / 2 = (n : Int) := by omega
  clear hb0 h8 hm
  go_enter Tryz.func48, Tryz.ntmps48
  go_wp2
  clear hmk hq
  have HR := hid hR
  clear hR
  go_loopw [11] (fun i wr => ∃ k : Nat, k ≤ n ∧ i = .int .i64 k ∧ StrRow wr w.heap.size n (fill (fun j => above (f (2 * j)) (f (2 * j + 1))) k) ∧ Below w.heap.size w wr) (fun i _ => n - (intOf i).toNat)
  case atStart => exact ⟨0, by omega, rfl, hR0, HB.out⟩
  case round =>
    obtain ⟨k, hk, rfl, hRr, hbr⟩ := hrel
    by_cases hlt : k < n
    · have hbl : b < w.heap.size := HR.out.2.2.1
      have c0 : wr.cell? ⟨b, 2 * k, none⟩ = some (.string (f (2 * k))) := (hbr.cell (p := ⟨b, 2 * k, none⟩) hbl).trans (HR.out.1 _ (by have := HM.out; omega))
      have c1 : wr.cell? ⟨b, 2 * k + 1, none⟩ = some (.string (f (2 * k + 1))) := (hbr.cell (p := ⟨b, 2 * k + 1, none⟩) hbl).trans (HR.out.1 _ (by have := HM.out; omega))
      have s0 := H8.out (2 * k)
      have s1 := H8.out (2 * k + 1)
      have HRr := hid hRr
      have HBr := hid hbr
      have HP : Hid (∀ w2, Below wr.heap.size wr w2 → StrRow (w2.setCell ⟨w.heap.size, k, none⟩ (.string (above (f (2 * k)) (f (2 * k + 1))))) w.heap.size n (fill (fun j => above (f (2 * j)) (f (2 * j + 1))) (k + 1))) := fun w2 h2 => (HRr.out.below h2).put hlt
      clear hRr hbr
      generalize f (2 * k) = x at *
      generalize f (2 * k + 1) = y at *
      have i0 : (0 : Int) ≤ 2 * (k : Int) := by omega
      have i1 : 2 * (k : Int) < (m : Int) := by have := HM.out; omega
      have i2 : (0 : Int) ≤ 2 * (k : Int) + 1 := by omega
      have i3 : 2 * (k : Int) + 1 < (m : Int) := by have := HM.out; omega
      have i4 : (0 : Int) ≤ (k : Int) := by omega
      have i5 : (k : Int) < (n : Int) := by omega
      have i6 : IntKind.i64.wrap (2 * (k : Int)) = 2 * (k : Int) := IntWalk.i64_in _ ⟨by omega, by omega⟩
      have i7 : IntKind.i64.wrap (2 * (k : Int) + 1) = 2 * (k : Int) + 1 := IntWalk.i64_in _ ⟨by omega, by omega⟩
      have j0 : (2 * (k : Int)).toNat = 2 * k := by omega
      have j1 : (2 * (k : Int) + 1).toNat = 2 * k + 1 := by omega
      go_wp2_with fail
      go_region_held3 (fun w' => w'.cell? ⟨b, 2 * k, none⟩ = some (.string x) ∧ w'.cell? ⟨b, 2 * k + 1, none⟩ = some (.string y) ∧ Below w.heap.size w w')
        (first | (refine ⟨?_, ?_, HBr.out.drew⟩ <;> (simp [c0, c1]; done)) | (apply keepL2s (A := ⟨b, 2 * k, none⟩) (A' := ⟨b, 2 * k + 1, none⟩) hbl hbl; assumption) | (apply keepL2 (A := ⟨b, 2 * k, none⟩) (A' := ⟨b, 2 * k + 1, none⟩) hbl hbl; assumption; assumption))
        (first | (go_at_call 81; refine (nodeAbove_any x y _ (by omega) (by omega)).mono ?_; rintro e' w2 ⟨rfl, hb2⟩; have g0 := (HRr.out.below ((Below.refl _ _).drew.trans hb2)).1 k hlt; have g1 := (HRr.out.below ((Below.refl _ _).drew.trans hb2)).2.1 k; generalize fill _ k k = old at g0))
      have HS : Hid (StrRow (w2.setCell ⟨w.heap.size, k, none⟩ (.string (above x y))) w.heap.size n (fill (fun j => above (f (2 * j)) (f (2 * j + 1))) (k + 1))) := HP.out w2 ((Below.refl _ _).drew.trans hb2)
      have HB2 : Hid (Below w.heap.size w w2) := HBr.out.trans (((Below.refl _ _).drew.trans hb2).mono HBr.out.size)
      clear hb2 c0 c1 g0 g1
      go_wp2
      go_roundw
      case rel => exact ⟨k + 1, by omega, by go_num, HS.out, HB2.out.setCell (Nat.le_refl _) _⟩
      case measure => simp [intOf]; omega
    · obtain rfl : k = n := by omega
      go_wp2
      go_ret
      exact ⟨rfl, ⟨fun j hj => by rw [hRr.1 j hj, fill_all _ _ _ hj], hRr.2⟩, hbr⟩

theorem nod_succ (seed : ByteArray) (l : Nat) : (fun j : Nat => above (nod seed l ((2 * j : Nat) : Int)) (nod seed l ((2 * j + 1 : Nat) : Int))) = fun j : Nat => nod seed (l + 1) (j : Int) := by
  funext j
  show above _ _ = above _ _
  have e0 : ((2 * j : Nat) : Int) = 2 * (j : Int) := by omega
  have e1 : ((2 * j + 1 : Nat) : Int) = 2 * (j : Int) + 1 := by omega
  rw [e0, e1]

theorem level_any (seed : ByteArray) (l n m : Nat) (hm : m = 2 * n) (hn : 1 ≤ n ∧ n ≤ 100) (b cap : Nat) (w : World) (hR : StrRow w b m (fun j => nod seed l (j : Int))) :
    Calls Tryz.prog 48 #[.slice (some ⟨b, 0, none⟩) m cap] w fun e' w' => e' = .returned (.slice (some ⟨w.heap.size, 0, none⟩) n n) ∧ StrRow w' w.heap.size n (fun j => nod seed (l + 1) (j : Int)) ∧ Below w.heap.size w w' := by
  have h := levelAbove_any n m hm hn b cap (fun j => nod seed l (j : Int)) (fun j => nod_size _ _ _) w hR
  rw [nod_succ] at h
  exact h

set_option maxHeartbeats 1000000 in
theorem sigKey_any (seed : ByteArray) (w : World) (hs : seed.size ≤ 4611686018427387904) :
    Calls Tryz.prog 28 #[.string seed] w fun e' w' => e' = .returned (.string (keyOf seed)) ∧ Below w.heap.size w w' := by
  go_enter Tryz.func28, Tryz.ntmps28
  go_wp2_with fail
  refine (leafNodes_any seed _ hs).mono ?_
  rintro e' w1 ⟨rfl, hR1, hb1⟩
  go_wp2_with fail
  refine wp_loop_rounds 4 ?_
  rw [rounds_succ]
  go_wp2_with fail
  refine (level_any seed 0 4 8 rfl ⟨by omega, by omega⟩ _ _ _ hR1).mono ?_
  rintro e' w2 ⟨rfl, hR2, hb2⟩
  go_wp2_with fail
  rw [rounds_succ]
  go_wp2_with fail
  refine (level_any seed 1 2 4 rfl ⟨by omega, by omega⟩ _ _ _ hR2).mono ?_
  rintro e' w3 ⟨rfl, hR3, hb3⟩
  go_wp2_with fail
  rw [rounds_succ]
  go_wp2_with fail
  refine (level_any seed 2 1 2 rfl ⟨by omega, by omega⟩ _ _ _ hR3).mono ?_
  rintro e' w4 ⟨rfl, hR4, hb4⟩
  have HB : Hid (Below w.heap.size w w4) := keepB (keepB (keepB hb1 hb2) hb3) hb4
  have c0 : w4.cell? ⟨w3.heap.size, 0, none⟩ = some (.string (keyOf seed)) := hR4.1 0 (by omega)
  clear hb1 hb2 hb3 hb4 hR1 hR2 hR3 hR4
  go_wp2_with fail
  rw [rounds_succ]
  go_wp2
  go_ret
  exact ⟨rfl, HB.out⟩

set_option maxHeartbeats 400000 in
theorem key_any (seed : ByteArray) (w : World) (hs : seed.size ≤ 4611686018427387904) :
    Calls Tryz.prog 14 #[.string seed] w fun e' w' => e' = .returned (.string (keyOf seed)) ∧ Below w.heap.size w w' := by
  go_enter Tryz.func14, Tryz.ntmps14
  go_wp2_with fail
  refine (sigKey_any seed _ hs).mono ?_
  rintro e' w1 ⟨rfl, hb1⟩
  go_wp2
  go_ret
  exact ⟨rfl, hb1⟩
end Go.Proofs.YthphojdnbfghmaaGreat
