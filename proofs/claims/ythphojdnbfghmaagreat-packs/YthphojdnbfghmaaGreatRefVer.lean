import Derived.Test.YthphojdnbfghmaaGreatVer2
namespace Go.Proofs.YthphojdnbfghmaaGreat
open Go.RowKit

set_option maxHeartbeats 1000000 in
theorem refVerify_no (key b t : ByteArray) (w : World) (ht : t.size ≠ 169) :
    Calls Tryz.prog 69 #[.string key, .string b, .string t] w fun e w' => e = .returned (.bool false) ∧ Below w.heap.size w w' := by
  have h1 : ((t.size : Int) != 169) = true := by simp; omega
  go_enter Tryz.func69, Tryz.ntmps69
  go_wp2_with fail
  go_ret
  exact ⟨rfl, Below.refl _ _⟩

set_option maxHeartbeats 1000000 in
theorem refVerify_high (key b t : ByteArray) (x : Int) (w : World) (ht : t.size = 169) (hx : (t[0].toNat : Int) = x) (h7 : 7 < x) :
    Calls Tryz.prog 69 #[.string key, .string b, .string t] w fun e w' => e = .returned (.bool false) ∧ Below w.heap.size w w' := by
  have h1 : ((t.size : Int) != 169) = false := by simp; omega
  go_enter Tryz.func69, Tryz.ntmps69
  go_wp2_with fail
  go_ret
  exact ⟨rfl, Below.refl _ _⟩

set_option maxHeartbeats 4000000 in
theorem refVerify_yes (key b t : ByteArray) (x : Int) (w : World) (hx : x = lead t) (hx7 : x ≤ 7) (hb : b.size ≤ 4611686018427387904) (ht : t.size = 169) :
    Calls Tryz.prog 69 #[.string key, .string b, .string t] w fun e w' => e = .returned (.bool ((vkey (ls b) t).toList == key.toList)) ∧ Below w.heap.size w w' := by
  have h1 : ((t.size : Int) != 169) = false := by simp; omega
  have hx0 : 0 ≤ x := by rw [hx]; exact (lead_bd t).1
  have h0 : (t[0].toNat : Int) = x := by rw [hx]; exact dby_get t 0 (by omega)
  have hss := strOfNums_size
  obtain ⟨d, hd⟩ : ∃ d, d = dd x (ls b) := ⟨_, rfl⟩
  have HV : Hid (vkey (ls b) t = vnode t x d 3) := by rw [vkey, ← hx, hd]; exact rfl
  clear hx
  go_enter Tryz.func69, Tryz.ntmps69
  go_wp2_with fail
  refine (refdigits_any x b _ ⟨hx0, by omega⟩ hb).mono ?_
  rintro e w1 ⟨rfl, hb1⟩
  rw [← hd]
  clear hd
  obtain ⟨C, hC⟩ : ∃ C : Array Value, C = #[Value.int IntKind.i64 0, Value.int IntKind.i64 0, Value.int IntKind.i64 0, Value.int IntKind.i64 0, Value.int IntKind.i64 0, Value.int IntKind.i64 0, Value.int IntKind.i64 0, Value.int IntKind.i64 0, Value.int IntKind.i64 0, Value.int IntKind.i64 0, Value.int IntKind.i64 0, Value.int IntKind.i64 0, Value.int IntKind.i64 0, Value.int IntKind.i64 0, Value.int IntKind.i64 0, Value.int IntKind.i64 0, Value.int IntKind.i64 0, Value.int IntKind.i64 0] := ⟨_, rfl⟩
  have hN := new_ints w1 100 C 18 (dgt d) hC
  have HT := hid ((ints_size (dgt d) 18).symm ▸ hN.there)
  have HI : Hid ((Tryz.prog.info? 100).map (·.size) = some (ints (dgt d) 18).toArray.size) := by rw [ints_size]; exact info_18
  have HR := hid (hN.stored (g := dgt d))
  have HB : Hid (Below w.heap.size w ((w1.alloc (.cells C 100)).setCells w1.heap.size 0 (ints (dgt d) 18))) := below_setCells (by have := hb1.size; omega) _ _ _ (hb1.alloc hb1.size _)
  rw [hC] at HT HR HB
  clear hN hC hb1
  go_wp2_with (refine wpList_store_mid rfl 100 _ _ rfl w1.heap.size 0 (ints (dgt d) 18).toArray (by rfl) (by rfl) (by exact HT.out) HI.out (all_oneCell_toArray (ints_one _ _)) ?_)
  refine (one_any 3 _ ⟨by omega, by omega⟩).mono ?_
  rintro e w2 ⟨rfl, hb2⟩
  have hR2 := HR.out.below hb2
  have HB2 := hid (keepB HB.out hb2)
  clear hb2 HR HB HT HI
  go_wp2_with fail
  refine (one_any x _ ⟨hx0, by omega⟩).mono ?_
  rintro e w3 ⟨rfl, hb3⟩
  have hR3 := hR2.below hb3
  have HB3 := hid (keepB HB2.out hb3)
  clear hb3 hR2 HB2
  go_wp2
  go_loopw [9, 10, 11] (fun a p i wr => ∃ (k : Nat) (s : ByteArray), k ≤ 18 ∧ i = .int .i64 k ∧ p = .int .i64 (1 + k * 8) ∧ a = .string s ∧ s.size = 2 + 8 * k ∧ ls s = [byt 3, byt x] ++ lss (vends t x d k) ∧ IntRow wr w1.heap.size 18 (dgt d) ∧ Below w.heap.size w wr) (fun _ _ i _ => 18 - (intOf i).toNat)
  case atStart => exact ⟨0, _, by omega, rfl, rfl, rfl, by simp [strOfNums_size], rfl, hR3, HB3.out⟩
  case round =>
    clear hR3
    obtain ⟨k, s, hk, rfl, rfl, rfl, hsz, hls, hRr, hbr⟩ := hrel
    have HL := hid hls
    clear hls
    by_cases hlt : k < 18
    · have c0 := hRr.1 k hlt
      have hdb := dgt_bd d k
      have hp8 := piece_size t k ht (by omega)
      have HX : Hid (vends t x d (k + 1) = vends t x d k ++ [walkN x (k : Int) (piece t k) (dgt d k) (15 - dgt d k).toNat]) := vends_succ _ _ _ _
      obtain ⟨g, hg⟩ : ∃ g, g = dgt d k := ⟨_, rfl⟩
      rw [← hg] at c0 HX hdb
      clear hg
      have HRr := hid hRr
      have HBr := hid hbr
      clear hRr hbr
      have hki : (k : Int) < 18 := by omega
      go_wp2
      go_loopw [12, 13] (fun y i wr' => ∃ j : Nat, g + j ≤ 15 ∧ i = .int .i64 (g + j + 1) ∧ y = .string (walkN x (k : Int) (piece t k) g j) ∧ IntRow wr' w1.heap.size 18 (dgt d) ∧ Below w.heap.size w wr') (fun _ i _ => (16 - intOf i).toNat)
      case atStart => exact ⟨0, by omega, by go_num, rfl, HRr.out, HBr.out⟩
      case round =>
        clear c0
        obtain ⟨j, hj, rfl, rfl, hRr2, hbr2⟩ := hrel
        have hy8 := walkN_size x (k : Int) (piece t k) g hp8 j
        by_cases hlt2 : g + j < 15
        · have HW : Hid (walkN x (k : Int) (piece t k) g (j + 1) = linkS x (k : Int) (g + j + 1) (walkN x (k : Int) (piece t k) g j)) := rfl
          generalize walkN x (k : Int) (piece t k) g j = y at *
          go_wp2_with fail
          refine (one_any 1 _ ⟨by omega, by omega⟩).mono ?_
          rintro e v1 ⟨rfl, hc1⟩
          go_wp2_with fail
          refine (one_any x _ ⟨hx0, by omega⟩).mono ?_
          rintro e v2 ⟨rfl, hc2⟩
          go_wp2_with fail
          refine (one_any _ _ ⟨by omega, by omega⟩).mono ?_
          rintro e v3 ⟨rfl, hc3⟩
          go_wp2_with fail
          refine (one_any _ _ ⟨by omega, by omega⟩).mono ?_
          rintro e v4 ⟨rfl, hc4⟩
          go_wp2_with fail
          refine (ref_any _ _ (by simp [hss, hy8])).mono ?_
          rintro e v5 ⟨rfl, hc5⟩
          have hbb := keepB (keepB (keepB (keepB hc1 hc2) hc3) hc4) hc5
          have hR5 := hRr2.below hbb
          have HB5 := hid (keepB hbr2 hbb)
          have hdl : dig (strOfNums [1] ++ strOfNums [x] ++ strOfNums [(k : Int)] ++ strOfNums [g + (j : Int) + 1] ++ y).data.toList = linkS x (k : Int) (g + j + 1) y := by
            show dig (ls _) = dig _
            rw [ls_append, ls_append, ls_append, ls_append]; rfl
          rw [hdl]
          clear hbb hc1 hc2 hc3 hc4 hc5 hRr2 hbr2 hdl
          go_wp2
          go_roundw
          case rel => exact ⟨j + 1, by omega, by go_num, by rw [HW.out], hR5, HB5.out⟩
          case measure => simp [intOf]; omega
        · have hjg : (15 - g).toNat = j := by omega
          rw [hjg] at HX
          clear hjg
          generalize walkN x (k : Int) (piece t k) g j = y at *
          go_wp2
          go_roundw
          case rel => exact ⟨k + 1, s ++ y, by omega, by go_num, by go_num, rfl, by simp; omega, by rw [ls_append, HL.out, HX.out, lss_append, lss_one, List.append_assoc], hRr2, hbr2⟩
          case measure => simp [intOf]; omega
    · obtain rfl : k = 18 := by omega
      have HBr := hid hbr
      clear hRr hbr
      go_wp2_with fail
      refine (ref_any s _ (by omega)).mono ?_
      rintro e v1 ⟨rfl, hc1⟩
      have HB1 := hid (keepB HBr.out hc1)
      have hdl : dig s.data.toList = vnode t x d 0 := by
        show dig (ls s) = leafN x _
        rw [HL.out]; rfl
      rw [hdl]
      clear hdl hc1 HBr
      go_wp2
      go_loopw [10, 14, 15, 16] (fun p nd n i wr => ∃ k : Nat, k ≤ 3 ∧ i = .int .i64 k ∧ p = .int .i64 (1 + (18 + k) * 8) ∧ nd = .string (vnode t x d k) ∧ n = .int .i64 (up x k) ∧ Below w.heap.size w wr) (fun _ _ _ i _ => 3 - (intOf i).toNat)
      case atStart => exact ⟨0, by omega, rfl, by go_num, rfl, rfl, HB1.out⟩
      case round =>
        obtain ⟨k, hk, rfl, rfl, rfl, rfl, hbr⟩ := hrel
        by_cases hlt : k < 3
        · have hub := up_bd x ⟨hx0, hx7⟩ k
          have hvs := vnode_size t x d k
          have hps := piece_size t (18 + k) ht (by omega)
          have HU : Hid (up x (k + 1) = up x k / 2) := rfl
          have HN : Hid (vnode t x d (k + 1) = aboveAt (up x k) (vnode t x d k) (piece t (18 + k))) := rfl
          have hpe : t.extract (1 + (18 + k) * 8) (1 + (18 + k) * 8 + 8) = piece t (18 + k) := rfl
          generalize up x k = p at *
          generalize vnode t x d k = nd at *
          by_cases hpar : p % 2 = 0
          · have HA : Hid (aboveAt p nd (piece t (18 + k)) = above nd (piece t (18 + k))) := by unfold aboveAt; rw [if_pos hpar]; exact rfl
            go_wp2_with fail
            refine (one_any 4 _ ⟨by omega, by omega⟩).mono ?_
            rintro e v2 ⟨rfl, hc2⟩
            go_wp2_with fail
            refine (ref_any _ _ (by simp [hss, hvs, hps])).mono ?_
            rintro e v3 ⟨rfl, hc3⟩
            have hdl : dig (strOfNums [4] ++ nd ++ piece t (18 + k)).data.toList = above nd (piece t (18 + k)) := by
              show dig (ls _) = dig _
              rw [ls_append, ls_append]; rfl
            rw [hdl]
            have HB3 := hid (keepB (keepB hbr hc2) hc3)
            clear hdl hc2 hc3 hbr hpe
            go_wp2
            go_roundw
            case rel => exact ⟨k + 1, by omega, by go_num, by go_num, by rw [HN.out, HA.out], by rw [HU.out], HB3.out⟩
            case measure => simp [intOf]; omega
          · have HA : Hid (aboveAt p nd (piece t (18 + k)) = above (piece t (18 + k)) nd) := by unfold aboveAt; rw [if_neg hpar]; exact rfl
            go_wp2_with fail
            refine (one_any 4 _ ⟨by omega, by omega⟩).mono ?_
            rintro e v2 ⟨rfl, hc2⟩
            go_wp2_with fail
            refine (ref_any _ _ (by simp [hss, hvs, hps])).mono ?_
            rintro e v3 ⟨rfl, hc3⟩
            have hdl : dig (strOfNums [4] ++ piece t (18 + k) ++ nd).data.toList = above (piece t (18 + k)) nd := by
              show dig (ls _) = dig _
              rw [ls_append, ls_append]; rfl
            rw [hdl]
            have HB3 := hid (keepB (keepB hbr hc2) hc3)
            clear hdl hc2 hc3 hbr hpe
            go_wp2
            go_roundw
            case rel => exact ⟨k + 1, by omega, by go_num, by go_num, by rw [HN.out, HA.out], by rw [HU.out], HB3.out⟩
            case measure => simp [intOf]; omega
        · obtain rfl : k = 3 := by omega
          go_wp2
          go_ret
          exact ⟨by rw [HV.out]; rfl, hbr⟩

theorem refVerify_any (key b t : ByteArray) (w : World) (hb : b.size ≤ 4611686018427387904) :
    Calls Tryz.prog 69 #[.string key, .string b, .string t] w fun e w' => e = .returned (.bool (verV key (ls b) t)) ∧ Below w.heap.size w w' := by
  by_cases ht : t.size = 169
  · by_cases h7 : lead t ≤ 7
    · rw [verV, if_pos ⟨ht, h7⟩]
      exact refVerify_yes key b t (lead t) w rfl h7 hb ht
    · rw [verV, if_neg (fun h => h7 h.2)]
      exact refVerify_high key b t (lead t) w ht (dby_get t 0 (by omega)) (by omega)
  · rw [verV, if_neg (fun h => ht h.1)]
    exact refVerify_no key b t w ht
end Go.Proofs.YthphojdnbfghmaaGreat
