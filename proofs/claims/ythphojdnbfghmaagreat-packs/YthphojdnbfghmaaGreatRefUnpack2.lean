import Derived.Test.YthphojdnbfghmaaGreatUnpack
import Derived.Lib.SmallJoins
namespace Go.Proofs.YthphojdnbfghmaaGreat
open Go.RowKit

set_option maxHeartbeats 400000 in
theorem number_q (s : ByteArray) (a : Nat) (w : World) (hs : s.size ≤ 4611686018427387904) (ha : a + 1 < s.size) :
    Calls Tryz.prog 107 #[.string s, .int .i64 (a : Int)] w fun e w' => e = .returned (.int .i64 (numAt s a)) ∧ ∃ nq, w' = w.drewN nq := by
  have e0 := dby_get s a (by omega)
  have e1 := dby_get s (a + 1) (by omega)
  have b0 := dby_bd s a
  have b1 := dby_bd s (a + 1)
  have HN : Hid (numAt s a = dby s a + 256 * dby s (a + 1)) := rfl
  generalize dby s a = x at *
  generalize dby s (a + 1) = y at *
  have i0 : (0 : Int) ≤ (a : Int) := by omega
  have i1 : (a : Int) < (s.size : Int) := by omega
  have i2 : (0 : Int) ≤ (a : Int) + 1 := by omega
  have i3 : (a : Int) + 1 < (s.size : Int) := by omega
  have i6 : IntKind.i64.wrap ((a : Int) + 1) = (a : Int) + 1 := IntWalk.i64_in _ ⟨by omega, by omega⟩
  have i7 : IntKind.i64.wrap (256 * y) = 256 * y := IntWalk.i64_in _ ⟨by omega, by omega⟩
  have i8 : IntKind.i64.wrap (x + 256 * y) = x + 256 * y := IntWalk.i64_in _ ⟨by omega, by omega⟩
  have i9 : IntKind.i64.wrap x = x := IntWalk.i64_in _ ⟨by omega, by omega⟩
  have i10 : IntKind.i64.wrap y = y := IntWalk.i64_in _ ⟨by omega, by omega⟩
  have j1 : ((a : Int) + 1).toNat = a + 1 := by omega
  go_enter Tryz.func107, Tryz.ntmps107
  go_wp2_with fail
  go_quiet (fail)
  go_wp2
  go_ret
  exact ⟨by rw [HN.out]; rfl, _, rfl⟩
theorem number_qi (s : ByteArray) (x : Int) (w : World) (hs : s.size ≤ 4611686018427387904) (h0 : 0 ≤ x) (h1 : x + 1 < s.size) :
    Calls Tryz.prog 107 #[.string s, .int .i64 x] w fun e w' => e = .returned (.int .i64 (numAt s x.toNat)) ∧ ∃ nq, w' = w.drewN nq := by
  have h := number_q s x.toNat w hs (by omega)
  rw [show ((x.toNat : Nat) : Int) = x by omega] at h
  exact h

theorem blk_lt' {w : World} {b : Nat} {o : Obj} (hb : w.heap[b]? = some o) : b < w.heap.size := (Array.getElem?_eq_some_iff.1 hb).1
theorem part_world (wr : World) (m : Nat) (a b c d : Value) : ((((((wr.alloc (.cells #[.int .i64 0, .int .i64 0, .int .i64 0, .string ⟨#[]⟩] 43)).drewN m).setCell ⟨wr.heap.size, 0, none⟩ a).setCell ⟨wr.heap.size, 1, none⟩ b).setCell ⟨wr.heap.size, 2, none⟩ c).setCell ⟨wr.heap.size, 3, none⟩ d).heap[wr.heap.size]? = some (.cells #[a, b, c, d] 43 (0, 0)) ∧ Below wr.heap.size wr ((((((wr.alloc (.cells #[.int .i64 0, .int .i64 0, .int .i64 0, .string ⟨#[]⟩] 43)).drewN m).setCell ⟨wr.heap.size, 0, none⟩ a).setCell ⟨wr.heap.size, 1, none⟩ b).setCell ⟨wr.heap.size, 2, none⟩ c).setCell ⟨wr.heap.size, 3, none⟩ d) ∧ ((((((wr.alloc (.cells #[.int .i64 0, .int .i64 0, .int .i64 0, .string ⟨#[]⟩] 43)).drewN m).setCell ⟨wr.heap.size, 0, none⟩ a).setCell ⟨wr.heap.size, 1, none⟩ b).setCell ⟨wr.heap.size, 2, none⟩ c).setCell ⟨wr.heap.size, 3, none⟩ d).heap.size = wr.heap.size + 1 := by
  refine ⟨?_, ((((below_drewN ((Below.refl _ _).alloc (Nat.le_refl _) _) m).setCell (by simp) _).setCell (by simp) _).setCell (by simp) _).setCell (by simp) _, by simp⟩
  have h0 : ((wr.alloc (.cells #[.int .i64 0, .int .i64 0, .int .i64 0, .string ⟨#[]⟩] 43)).drewN m).heap[wr.heap.size]? = some (.cells #[.int .i64 0, .int .i64 0, .int .i64 0, .string ⟨#[]⟩] 43 (0, 0)) := heap_alloc_new wr _
  exact Go.Joins.block_setCell (Go.Joins.block_setCell (Go.Joins.block_setCell (Go.Joins.block_setCell h0 a) b) c) d
theorem UnpRel_far {w wr w3 : World} {W : World} {v : Value} {o : Obj} {n : Nat} {xs : List Value} {x : Nat} {ob : Obj} (hown : wr.ownsRow (w.heap.size + 2) 43 4 v n xs) (hb : Below wr.heap.size wr W) (hg : (W.alloc o).grownBy w3 v.ownBlock) (hx : wr.heap[x]? = some ob) (hlt : x < w.heap.size + 2) : w3.heap[x]? = some ob := by
  have h1 := blk_lt' hx
  have h2 := hb.size
  rw [hg.block x (by simp; omega) (fun e => by have := (hown.lt x e.symm).1; omega), heap_alloc_old _ _ (by omega), hb.block x h1]
  exact hx
/-- what holds behind k parts -/
structure UnpRel (s : ByteArray) (w wr : World) (k : Nat) (pv : Value) : Prop where
  all : ∀ j, j < k → (partOf s j).at' < (partOf s j).len
  own : wr.ownsRow (w.heap.size + 2) 43 4 pv k (partCells (partOf s) k)
  res : wr.heap[w.heap.size]? = some (.cells #[.int .i64 0, .slice none 0 0] 30 (0, 0))
  man : wr.heap[w.heap.size + 1]? = some (.cells #[.int .i64 (numAt s 2), pv] 30 (0, 0))
  size : w.heap.size + 2 ≤ wr.heap.size
  bel : Below w.heap.size w wr

set_option maxRecDepth 100000 in
set_option maxHeartbeats 2000000 in
theorem refunpack_head (s : ByteArray) (w : World) (hs : 5 ≤ s.size) (hs' : s.size ≤ 4611686018427387904) (hk : ((s.extract 0 2).toList == [75, 83]) = true) (h1 : 1 ≤ cnt s) (h8 : cnt s ≤ 8) (hz : 5 + 14 * cnt s ≤ s.size) :
    Calls Tryz.prog 71 #[.string s] w fun e w' => UnpPost s w e w' := by
  have HX : Hid (extOk s = true) := by simp only [extOk, Bool.and_eq_true, decide_eq_true_eq]; exact ⟨⟨hs, hk⟩, hz⟩
  have e0 : ((s[4]'(by omega)).toNat : Int) = (cnt s : Int) := by
    rw [dby_get s 4 (by omega), cnt]
    have := dby_bd s 4
    omega
  obtain ⟨n, hn⟩ : ∃ n, n = cnt s := ⟨_, rfl⟩
  rw [← hn] at e0 h1 h8 hz
  have HN := hid hn
  clear hn
  obtain ⟨ip, hi, hz0, hz1x, hz2⟩ := info_parts info_part
  have d5 : decide ((s.size : Int) < 5) = false := by simp; omega
  have d1 : decide ((n : Int) < 1) = false := by simp; omega
  have d8 : decide (8 < (n : Int)) = false := by simp; omega
  have dz : decide ((s.size : Int) < 5 + 14 * (n : Int)) = false := by simp; omega
  go_enter Tryz.func71, Tryz.ntmps71
  go_wp2_with fail
  refine (number_any s 2 _ hs' (by omega)).mono ?_
  rintro e w1 ⟨rfl, hb1⟩
  have hr1 : w1.heap[w.heap.size]? = some (.cells #[.int .i64 0, .slice none 0 0] 30 (0, 0)) := (hb1.block _ (by simp; omega)).trans ((heap_alloc_old _ _ (by simp)).trans (heap_alloc_new w _))
  have hm1 : w1.heap[w.heap.size + 1]? = some (.cells #[.int .i64 0, .slice none 0 0] 30 (0, 0)) := by
    refine (hb1.block _ (by simp)).trans ?_
    have h := heap_alloc_new (w.alloc (.cells #[.int .i64 0, .slice none 0 0] 30)) (.cells #[.int .i64 0, .slice none 0 0] 30)
    simpa using h
  obtain ⟨q0, q1, g0, g1⟩ := man_cells hm1
  have hz1 : w.heap.size + 2 ≤ w1.heap.size := by have := hb1.size; simpa using this
  have HB := hid (newB (newB hb1))
  have HR1 := hid hr1
  have HM1 := hid hm1
  clear hb1 e0 d1 d8 dz d5 hk hr1 hm1
  go_wp2
  go_loopw [8] (fun i wr => ∃ (k : Nat) (pv : Value), k ≤ n ∧ i = .int .i64 k ∧ UnpRel s w wr k pv) (fun i _ => n - (intOf i).toNat)
  case atStart =>
    refine ⟨0, .slice none 0 0, by omega, rfl, ⟨fun j hj => absurd hj (by omega), World.ownsRow_nil _ _ _ _, ?_, ?_, ?_, ?_⟩⟩
    · rw [Below.heap_setCell _ _ _ _ (by simp)]
      exact HR1.out
    · exact Go.Joins.block_setCell HM1.out _
    · simpa using hz1
    · exact HB.out.setCell (by simp) _
  case round =>
    clear q0 q1 g0 g1 hz1 HB HR1 HM1
    obtain ⟨k, pv, hk, rfl, R⟩ := hrel
    have HR := hid R
    have hzr := R.size
    obtain ⟨q0, q1, g0, g1⟩ := man_cells R.man
    obtain ⟨r0, r1, f0, f1⟩ := man_cells R.res
    clear R
    by_cases hlt : k < n
    · have i1 : IntKind.i64.wrap (14 * (k : Int)) = 14 * (k : Int) := IntWalk.i64_in _ ⟨by omega, by omega⟩
      have i2 : IntKind.i64.wrap (5 + 14 * (k : Int)) = 5 + 14 * (k : Int) := IntWalk.i64_in _ ⟨by omega, by omega⟩
      have i3 : IntKind.i64.wrap (5 + 14 * (k : Int) + 2) = 5 + 14 * (k : Int) + 2 := IntWalk.i64_in _ ⟨by omega, by omega⟩
      have i4 : IntKind.i64.wrap (5 + 14 * (k : Int) + 4) = 5 + 14 * (k : Int) + 4 := IntWalk.i64_in _ ⟨by omega, by omega⟩
      have i5 : IntKind.i64.wrap (5 + 14 * (k : Int) + 6) = 5 + 14 * (k : Int) + 6 := IntWalk.i64_in _ ⟨by omega, by omega⟩
      have i6 : IntKind.i64.wrap (5 + 14 * (k : Int) + 14) = 5 + 14 * (k : Int) + 14 := IntWalk.i64_in _ ⟨by omega, by omega⟩
      have j0 : (5 + 14 * (k : Int)).toNat = 5 + 14 * k := by omega
      have j1 : (5 + 14 * (k : Int) + 2).toNat = 5 + 14 * k + 2 := by omega
      have j2 : (5 + 14 * (k : Int) + 4).toNat = 5 + 14 * k + 4 := by omega
      have j3 : (5 + 14 * (k : Int) + 6).toNat = 5 + 14 * k + 6 := by omega
      have j4 : (5 + 14 * (k : Int) + 14).toNat = 5 + 14 * k + 14 := by omega
      have l0 : (0 : Int) ≤ 5 + 14 * (k : Int) + 6 := by omega
      have l1 : 5 + 14 * (k : Int) + 6 ≤ 5 + 14 * (k : Int) + 14 := by omega
      have l2 : 5 + 14 * (k : Int) + 14 ≤ (s.size : Int) := by omega
      go_wp2_with fail
      have hal : ∀ n o, (wr.drewN n).alloc o = (wr.alloc o).drewN n := fun _ _ => rfl
      have hal1 : ∀ o, wr.drew.alloc o = (wr.alloc o).drew := fun _ => rfl
      go_region_with (first | (go_at_call 107; refine (number_qi s _ _ hs' (by omega) (by omega)).mono ?_; rintro e w2 ⟨rfl, nq, rfl⟩))
      all_goals
        generalize 1 + _ + _ + nq = m
        have hP := part_world wr m (.int .i64 (numAt s (5 + 14 * k))) (.int .i64 (numAt s (5 + 14 * k + 2))) (.int .i64 (numAt s (5 + 14 * k + 4))) (.string (s.extract (5 + 14 * k + 6) (5 + 14 * k + 14)))
        generalize (((((wr.alloc (.cells #[.int .i64 0, .int .i64 0, .int .i64 0, .string ⟨#[]⟩] 43)).drewN m).setCell ⟨wr.heap.size, 0, none⟩ (.int .i64 (numAt s (5 + 14 * k)))).setCell ⟨wr.heap.size, 1, none⟩ (.int .i64 (numAt s (5 + 14 * k + 2)))).setCell ⟨wr.heap.size, 2, none⟩ (.int .i64 (numAt s (5 + 14 * k + 4)))).setCell ⟨wr.heap.size, 3, none⟩ (.string (s.extract (5 + 14 * k + 6) (5 + 14 * k + 14))) = W at hP ⊢
        obtain ⟨hblk, hbW, hzW⟩ := hP
        have HBW := hid hbW
        obtain ⟨p0, p1, p2, p3⟩ := part_cells hblk
        have q1' : W.cell? ⟨w.heap.size + 1, 1, none⟩ = some pv := (hbW.cell (p := ⟨w.heap.size + 1, 1, none⟩) (by show w.heap.size + 1 < wr.heap.size; omega)).trans q1
        have r0' : W.cell? ⟨w.heap.size, 0, none⟩ = some (.int .i64 0) := (hbW.cell (p := ⟨w.heap.size, 0, none⟩) (by show w.heap.size < wr.heap.size; omega)).trans r0
        have r1' : W.cell? ⟨w.heap.size, 1, none⟩ = some (.slice none 0 0) := (hbW.cell (p := ⟨w.heap.size, 1, none⟩) (by show w.heap.size < wr.heap.size; omega)).trans r1
        have f0' : W.frozen? ⟨w.heap.size, 0, none⟩ = false := (hbW.frozen (p := ⟨w.heap.size, 0, none⟩) (by show w.heap.size < wr.heap.size; omega)).trans f0
        have f1' : W.frozen? ⟨w.heap.size, 1, none⟩ = false := (hbW.frozen (p := ⟨w.heap.size, 1, none⟩) (by show w.heap.size < wr.heap.size; omega)).trans f1
        have hzz : w.heap.size + 1 < W.heap.size := by omega
        have HZ : Hid (w.heap.size + 2 ≤ W.heap.size) := by show _ ≤ _; omega
        have HQ : Hid ((partOf s k).len = numAt s (5 + 14 * k + 2) ∧ (partOf s k).at' = numAt s (5 + 14 * k + 4)) := ⟨rfl, rfl⟩
        have HL : Hid (partL (partOf s k) = [.int .i64 (numAt s (5 + 14 * k)), .int .i64 (numAt s (5 + 14 * k + 2)), .int .i64 (numAt s (5 + 14 * k + 4)), .string (s.extract (5 + 14 * k + 6) (5 + 14 * k + 14))]) := rfl
        clear hblk hbW hzW hal hal1 q0 q1 g0 g1 r0 r1 f0 f1 i1 i2 i3 i4 i5 i6 j0 j1 j2 j3 j4 l0 l1 l2
        generalize numAt s (5 + 14 * k) = xo at *
        generalize numAt s (5 + 14 * k + 2) = xl at *
        generalize numAt s (5 + 14 * k + 4) = xa at *
        generalize s.extract (5 + 14 * k + 6) (5 + 14 * k + 14) = xd at *
        by_cases hal : xa < xl
        · have d0 : decide (xl ≤ xa) = false := by simp; omega
          go_wp2_with (at_builtin; refine wpList_append_lies _ rfl _ _ 28 rfl (w.heap.size + 2) 43 ip (.agg #[.int .i64 0, .int .i64 0, .int .i64 0, .string ⟨#[]⟩]) 4 40 Tryz.underlying28 hi hz0 hz1x hz2 rfl (by decide) pv k (partCells (partOf s) k) rfl ((ownsRow_below HR.out.own HBW.out).alloc _) ⟨W.heap.size, 0, none⟩ 1 1 [.int .i64 xo, .int .i64 xl, .int .i64 xa, .string xd] rfl rfl (news4 _ _ _ _ _ _) (fun u hu => by simp at hu; rcases hu with rfl | rfl | rfl | rfl <;> rfl) (by omega) (by unfold maxLen; omega) (by omega) (by have := HZ.out; simp; omega) _ rfl ?_)
          intro g cap3 w3 hown3 hgrow3 _ _
          have hm3 := UnpRel_far HR.out.own HBW.out hgrow3 HR.out.man (by omega)
          have hr3 := UnpRel_far HR.out.own HBW.out hgrow3 HR.out.res (by omega)
          have HN3 : Hid (UnpRel s w (w3.setCell ⟨w.heap.size + 1, 1, none⟩ (.slice (some ⟨g, 0, none⟩) (k + 1) cap3)) (k + 1) (.slice (some ⟨g, 0, none⟩) (k + 1) cap3)) := by
            have hgb := (ownsRow_lt hown3).1
            refine ⟨fun j hj => ?_, ?_, ?_, man_put1 hm3, ?_, ?_⟩
            · rcases Nat.lt_succ_iff_lt_or_eq.1 hj with h | h
              · exact HR.out.all j h
              · rw [h, HQ.out.1, HQ.out.2]
                exact hal
            · rw [← HL.out] at hown3
              exact hown3.kept (grown_put w3 (w.heap.size + 1) 1 _) (Or.inr (fun e => by injection e with e; simp only at e; omega))
            · rw [Below.heap_setCell _ _ _ _ (by simp)]
              exact hr3
            · have := hgrow3.size
              have := HZ.out
              simp at *
              omega
            · exact (((HR.out.bel.trans (HBW.out.mono (by omega))).alloc (by have := HZ.out; omega) _).grown hgrow3 (by have := HZ.out; simp; omega) (fun x hx => by have := (HR.out.own.lt x hx).1; omega)).setCell (by simp) _
          obtain ⟨s0, s1, t0, t1⟩ := man_cells hm3
          clear hown3 hgrow3 hm3 hr3 p0 p1 p2 p3 q1' r0' r1' f0' f1' HR HBW
          go_wp2
          go_roundw
          case rel => exact ⟨k + 1, _, by omega, by go_num, HN3.out⟩
          case measure => simp [intOf]; omega
        · have d0 : decide (xl ≤ xa) = true := by simp; omega
          have HNo : Hid (hasMan s = false) := by
            have h1 : (List.range (cnt s)).all (fun j => decide ((partOf s j).at' < (partOf s j).len)) = false := by
              rw [List.all_eq_false]
              exact ⟨k, List.mem_range.2 (by rw [← HN.out]; exact hlt), by rw [HQ.out.1, HQ.out.2]; simp; omega⟩
            show _ = _
            rw [hasMan, h1, Bool.and_false]
          have HB9 : Hid (Below w.heap.size w W) := HR.out.bel.trans (HBW.out.mono (by omega))
          clear HR HBW
          go_wp2
          refine bodyPost_ret (v := unpackNo) (results_man Tryz.results71 _ _ w.heap.size _ _ _ _ rfl rfl rfl (range2 (by simp [go_sem, r0']) (by simp [go_sem, r1']))) rfl (unpPost_no HNo.out rfl ?_)
          exact (HB9.out.setCell (by simp) _).setCell (by simp) _
    · obtain rfl : k = n := by omega
      have hM : hasMan s = true := by
        obtain ⟨h5, hk5, hz5⟩ := extOk_parts HX.out
        simp only [hasMan, headOk, Bool.and_eq_true, decide_eq_true_eq, List.all_eq_true, List.mem_range]
        exact ⟨⟨⟨⟨⟨h5, hk5⟩, by rw [← HN.out]; exact h1⟩, by rw [← HN.out]; exact h8⟩, hz5⟩, fun j hj => HR.out.all j (by rw [HN.out]; exact hj)⟩
      have HM := hid hM
      obtain ⟨pa, pc, rfl⟩ := ownsRow_slice HR.out.own
      clear hM
      go_wp2
      refine bodyPost_ret (v := .tuple #[.agg #[.int .i64 (numAt s 2), .slice pa k pc], .int .i64 (5 + 14 * (k : Int)), .int .i64 0]) (results_man Tryz.results71 _ _ w.heap.size _ _ _ _ rfl rfl rfl (range2 (by simp [go_sem, r0]) (by simp [go_sem, r1]))) rfl ⟨⟨.slice pa k pc, ?_, ?_⟩, ?_⟩
      · simp only [unpVer, unpLen, unpErr, HM.out, if_true, ← HN.out]
        rfl
      · simp only [unpN, HM.out, if_true, ← HN.out]
        refine ownsRow_mono (((ownsRow_mono HR.out.own (Nat.le_succ _)).kept (grown_put _ _ _ _) ?_).kept (grown_put _ _ _ _) ?_) (by omega)
        all_goals (cases pa with | none => exact Or.inl rfl | some a => exact Or.inr (fun e => by have := (HR.out.own.lt _ e).1; omega))
      · exact (HR.out.bel.setCell (by simp) _).setCell (by simp) _

theorem refunpack_any (s : ByteArray) (w : World) (hs' : s.size ≤ 4611686018427387904) :
    Calls Tryz.prog 71 #[.string s] w fun e w' => UnpPost s w e w' := by
  by_cases h5 : 5 ≤ s.size
  · cases hk : ((s.extract 0 2).toList == [75, 83])
    · refine (refunpack_noKS s w h5 hs' hk).mono fun e w' ⟨he, hb⟩ => unpPost_no (hasMan_no ?_) he hb
      simp [extOk, hk]
    · by_cases hc : cnt s < 1 ∨ 8 < cnt s ∨ s.size < 5 + 14 * cnt s
      · refine (refunpack_noCnt s w h5 hs' hk hc).mono fun e w' ⟨he, hb⟩ => unpPost_no ?_ he hb
        cases hm : hasMan s
        · rfl
        · simp only [hasMan, headOk, Bool.and_eq_true, decide_eq_true_eq] at hm
          obtain ⟨⟨⟨⟨⟨_, _⟩, h1⟩, h8⟩, hz⟩, _⟩ := hm
          omega
      · exact refunpack_head s w h5 hs' hk (by omega) (by omega) (by omega)
  · refine (refunpack_short s w (by omega)).mono fun e w' ⟨he, hb⟩ => unpPost_no (hasMan_no ?_) he hb
    simp [extOk, h5]
end Go.Proofs.YthphojdnbfghmaaGreat
