import Derived.Test.YthphojdnbfghmaaGreatDigits
namespace Go.Proofs.YthphojdnbfghmaaGreat
open Go.RowKit

/-- the digest of which a leaf's digits are -/
def dd (leaf : Int) (l : List UInt8) : ByteArray := dig ([byt 6, byt leaf] ++ l)
theorem dd_size (leaf : Int) (l : List UInt8) : (dd leaf l).size = 8 := dig_size _

set_option maxHeartbeats 1000000 in
theorem digitsOf_any (leaf : Int) (v : Value) (l : List UInt8) (w : World) (hl : 0 ≤ leaf ∧ leaf ≤ 255) (hll : l.length ≤ 4611686018427387904) (hs : SeesBytes w v l) :
    Calls Tryz.prog 111 #[.int .u8 leaf, v] w fun e w' => e = .returned (.agg (ints (dgt (dd leaf l)) 18).toArray) ∧ Below w.heap.size w w' := by
  go_enter Tryz.func111, Tryz.ntmps111
  go_wp2_with fail
  obtain ⟨C, hC⟩ : ∃ C : Array Value, C = #[Value.int IntKind.i64 0, Value.int IntKind.i64 0, Value.int IntKind.i64 0, Value.int IntKind.i64 0, Value.int IntKind.i64 0, Value.int IntKind.i64 0, Value.int IntKind.i64 0, Value.int IntKind.i64 0, Value.int IntKind.i64 0, Value.int IntKind.i64 0, Value.int IntKind.i64 0, Value.int IntKind.i64 0, Value.int IntKind.i64 0, Value.int IntKind.i64 0, Value.int IntKind.i64 0, Value.int IntKind.i64 0, Value.int IntKind.i64 0, Value.int IntKind.i64 0] := ⟨_, rfl⟩
  rw [← hC]
  have hR := new_ints w 170 C 18 (dgt (dd leaf l)) hC
  clear hC
  have h2 := sees2 (w.alloc (Obj.cells C 170)) 6 leaf 5 ⟨by omega, by omega⟩ hl
  rw [World.size_alloc] at h2
  refine (begin_any _ [byt 6, byt leaf] _ (by simp) h2).mono ?_
  rintro e w1 ⟨rfl, hb1⟩
  have HB := hid (newB (newB hb1))
  have hR1 := hR.below (newB hb1)
  clear hb1 h2 hR
  go_wp2_with fail
  refine (bytes_any _ _ v l _ ⟨by omega, by omega⟩ (by omega) (hs.below HB.out)).mono ?_
  rintro e w2 ⟨rfl, hb2⟩
  have hR2 := hR1.below hb2
  have HB2 := hid (keepB HB.out hb2)
  clear hb2 hR1 HB
  go_wp2_with fail
  refine (end_any _ _ _).mono ?_
  rintro e w3 ⟨rfl, hb3⟩
  have hR3 := hR2.below hb3
  have HB3 := hid (keepB HB2.out hb3)
  clear hb3 hR2 HB2 hs
  have hd : dstr (kfin (kx (kx kinit [byt 6, byt leaf]) l) (2 + (l.length : Int))) = dd leaf l := by
    rw [dd, ← dig_two]; rfl
  go_wp2_with fail
  refine (split_any (dd leaf l) _ (dd_size _ _)).mono ?_
  rintro e w4 ⟨rfl, hb4⟩
  have hR4 := hR3.below hb4
  have HB4 := hid (keepB HB3.out hb4)
  have HT := hid ((ints_size (dgt (dd leaf l)) 18).symm ▸ hR4.there)
  have HI : Hid ((Tryz.prog.info? 170).map (·.size) = some (ints (dgt (dd leaf l)) 18).toArray.size) := by rw [ints_size]; exact info_digits
  have HR4 := hid hR4
  clear hb4 hR3 HB3 hd hR4
  go_wp2_with (refine wpList_store_mid rfl 170 _ _ rfl w.heap.size 0 (ints (dgt (dd leaf l)) 18).toArray rfl rfl HT.out HI.out (all_oneCell_toArray (ints_one _ _)) ?_)
  refine bodyPost_ret (v := .agg (ints (dgt (dd leaf l)) 18).toArray) (results_row Tryz.results111 _ _ w.heap.size (dgt (dd leaf l)) rfl HR4.out.stored _ Tryz.underlying170 info_digits) rfl ⟨rfl, ?_⟩
  exact below_setCells (Nat.le_refl _) _ _ _ HB4.out

set_option maxHeartbeats 1000000 in
theorem refdigits_any (leaf : Int) (b : ByteArray) (w : World) (hl : 0 ≤ leaf ∧ leaf ≤ 255) (hb : b.size ≤ 4611686018427387904) :
    Calls Tryz.prog 66 #[.int .i64 leaf, .string b] w fun e w' => e = .returned (.agg (ints (dgt (dd leaf (ls b))) 18).toArray) ∧ Below w.heap.size w w' := by
  have hss := strOfNums_size
  go_enter Tryz.func66, Tryz.ntmps66
  go_wp2_with fail
  obtain ⟨C, hC⟩ : ∃ C : Array Value, C = #[Value.int IntKind.i64 0, Value.int IntKind.i64 0, Value.int IntKind.i64 0, Value.int IntKind.i64 0, Value.int IntKind.i64 0, Value.int IntKind.i64 0, Value.int IntKind.i64 0, Value.int IntKind.i64 0, Value.int IntKind.i64 0, Value.int IntKind.i64 0, Value.int IntKind.i64 0, Value.int IntKind.i64 0, Value.int IntKind.i64 0, Value.int IntKind.i64 0, Value.int IntKind.i64 0, Value.int IntKind.i64 0, Value.int IntKind.i64 0, Value.int IntKind.i64 0] := ⟨_, rfl⟩
  rw [← hC]
  obtain ⟨d, hd⟩ : ∃ d, d = dd leaf (ls b) := ⟨_, rfl⟩
  have hd8 : d.size = 8 := by rw [hd]; exact dd_size _ _
  have hR := (new_ints w 100 C 18 (dgt d) hC).below ((Below.refl _ _).alloc (Nat.le_refl _) (Obj.cells C 100))
  have hQ := new_ints (w.alloc (Obj.cells C 100)) 100 C 18 (dgt d) hC
  rw [World.size_alloc] at hQ
  clear hC
  refine (one_any 6 _ ⟨by omega, by omega⟩).mono ?_
  rintro e w1 ⟨rfl, hb1⟩
  have hR1 := hR.below hb1
  have hQ1 := hQ.below hb1
  have HB1 := hid (newB (newB hb1))
  clear hb1 hR hQ
  go_wp2_with fail
  refine (one_any leaf _ hl).mono ?_
  rintro e w2 ⟨rfl, hb2⟩
  have hR2 := hR1.below hb2
  have hQ2 := hQ1.below hb2
  have HB2 := hid (keepB HB1.out hb2)
  clear hb2 hR1 hQ1 HB1
  go_wp2_with fail
  refine (ref_any _ _ (by simp [hss]; omega)).mono ?_
  rintro e w3 ⟨rfl, hb3⟩
  have hR3 := hR2.below hb3
  have hQ3 := hQ2.below hb3
  have HB3 := hid (keepB HB2.out hb3)
  clear hb3 hR2 hQ2 HB2
  have hdd : dig (strOfNums [6] ++ strOfNums [leaf] ++ b).data.toList = d := by
    rw [hd]
    show dig (ls _) = dig _
    rw [ls_append, ls_append]; rfl
  have HD := hid hd
  clear hd
  rw [hdd]
  clear hdd
  go_wp2
  go_loopw [7, 8] (fun l i wr => ∃ k : Nat, k ≤ 8 ∧ i = .int .i64 k ∧ l = .int .i64 (lackN d k) ∧ IntRow wr w.heap.size 18 (fillI (dgt d) 0) ∧ IntRow wr (w.heap.size + 1) 18 (fillI (dgt d) (2 * k)) ∧ Below w.heap.size w wr) (fun _ i _ => 8 - (intOf i).toNat)
  case atStart => exact ⟨0, by omega, rfl, rfl, hR3, hQ3, HB3.out⟩
  case round =>
    clear hR3 hQ3
    obtain ⟨k, hk, rfl, rfl, hR0, hR1, hbr⟩ := hrel
    have hlb := lackN_bd d k
    by_cases hlt : k < 8
    · have hdk := dby_get d k (by omega)
      have hbd := dby_bd d k
      have HL : Hid (lackN d (k + 1) = lackN d k + (30 - dby d k % 16 - dby d k / 16)) := rfl
      have HE := hid (dgt_even d k hlt)
      have HO := hid (dgt_odd d k hlt)
      have hks : (k : Int) < (d.size : Int) := by omega
      generalize dby d k = x at *
      generalize lackN d k = lk at *
      have c0 := hR1.1 (2 * k) (by omega)
      have c1 := hR1.1 (2 * k + 1) (by omega)
      have g0 := hR1.2.1 (2 * k)
      have g1 := hR1.2.1 (2 * k + 1)
      have HP : Hid (IntRow ((wr.setCell ⟨w.heap.size + 1, 2 * k, none⟩ (.int .i64 (x % 16))).setCell ⟨w.heap.size + 1, 2 * k + 1, none⟩ (.int .i64 (x / 16))) (w.heap.size + 1) 18 (fillI (dgt d) (2 * k + 2))) := by
        have h1 := (hR1.put (k := 2 * k) (by omega)).put (by omega)
        rw [HE.out, HO.out] at h1
        exact h1
      have HP0 : Hid (IntRow ((wr.setCell ⟨w.heap.size + 1, 2 * k, none⟩ (.int .i64 (x % 16))).setCell ⟨w.heap.size + 1, 2 * k + 1, none⟩ (.int .i64 (x / 16))) w.heap.size 18 (fillI (dgt d) 0)) := (hR0.other _ _ (by simp)).other _ _ (by simp)
      have HBr : Hid (Below w.heap.size w ((wr.setCell ⟨w.heap.size + 1, 2 * k, none⟩ (.int .i64 (x % 16))).setCell ⟨w.heap.size + 1, 2 * k + 1, none⟩ (.int .i64 (x / 16)))) := (hbr.setCell (by simp) _).setCell (by simp) _
      clear hR0 hR1 hbr
      generalize fillI (dgt d) (2 * k) (2 * k) = o0 at c0
      generalize fillI (dgt d) (2 * k) (2 * k + 1) = o1 at c1
      go_wp2_with fail
      have d0 : ((wr.setCell ⟨w.heap.size + 1, 2 * k, none⟩ (.int .i64 (x % 16))).setCell ⟨w.heap.size + 1, 2 * k + 1, none⟩ (.int .i64 (x / 16))).cell? ⟨w.heap.size + 1, 2 * k, none⟩ = some (.int .i64 (x % 16)) := by
        rw [World.cell?_setCell_other _ _ _ _ (fun e' => by injection e'; omega), World.cell?_setCell_same _ _ _ c0]
      have d1 : ((wr.setCell ⟨w.heap.size + 1, 2 * k, none⟩ (.int .i64 (x % 16))).setCell ⟨w.heap.size + 1, 2 * k + 1, none⟩ (.int .i64 (x / 16))).cell? ⟨w.heap.size + 1, 2 * k + 1, none⟩ = some (.int .i64 (x / 16)) :=
        World.cell?_setCell_same _ _ _ (by rw [World.cell?_setCell_other _ _ _ _ (fun e' => by injection e'; omega)]; exact c1)
      generalize ((wr.setCell ⟨w.heap.size + 1, 2 * k, none⟩ (.int .i64 (x % 16))).setCell ⟨w.heap.size + 1, 2 * k + 1, none⟩ (.int .i64 (x / 16))) = W at *
      clear c0 c1 g0 g1
      go_quiet (fail)
      go_wp2
      go_roundw
      case rel => exact ⟨k + 1, by omega, by go_num, by rw [HL.out]; go_num, HP0.out.drewN _, HP.out.drewN _, below_drewN HBr.out _⟩
      case measure => simp [intOf]; omega
    · obtain rfl : k = 8 := by omega
      have c0 := hR1.1 16 (by omega)
      have c1 := hR1.1 17 (by omega)
      have g0 := hR1.2.1 16
      have g1 := hR1.2.1 17
      have HF : Hid (IntRow ((wr.setCell ⟨w.heap.size + 1, 16, none⟩ (.int .i64 (lackN d 8 / 16))).setCell ⟨w.heap.size + 1, 17, none⟩ (.int .i64 (lackN d 8 % 16))) (w.heap.size + 1) 18 (fillI (dgt d) 18)) := (hR1.put (k := 16) (by omega)).put (by omega)
      have HF0 : Hid (IntRow ((wr.setCell ⟨w.heap.size + 1, 16, none⟩ (.int .i64 (lackN d 8 / 16))).setCell ⟨w.heap.size + 1, 17, none⟩ (.int .i64 (lackN d 8 % 16))) w.heap.size 18 (fillI (dgt d) 0)) := (hR0.other _ _ (by simp)).other _ _ (by simp)
      have HB : Hid (Below w.heap.size w ((wr.setCell ⟨w.heap.size + 1, 16, none⟩ (.int .i64 (lackN d 8 / 16))).setCell ⟨w.heap.size + 1, 17, none⟩ (.int .i64 (lackN d 8 % 16)))) := (hbr.setCell (by simp) _).setCell (by simp) _
      clear hR0 hR1 hbr
      generalize lackN d 8 = lk at *
      generalize fillI (dgt d) (2 * 8) 16 = o0 at c0
      generalize fillI (dgt d) (2 * 8) 17 = o1 at c1
      have hr := HF.out.range
      rw [ints_fill] at hr
      have HT := hid ((ints_size (dgt d) 18).symm ▸ HF0.out.there)
      have HI : Hid ((Tryz.prog.info? 100).map (·.size) = some (ints (dgt d) 18).toArray.size) := by rw [ints_size]; exact info_18
      go_wp2_with (first | (refine wpList_load_mid rfl 100 _ rfl (w.heap.size + 1) 0 rfl (ints (dgt d) 18) _ hr Tryz.underlying100 rfl (by rw [ints_length]; exact info_18) ?_) | (refine wpList_store_mid rfl 100 _ _ rfl w.heap.size 0 (ints (dgt d) 18).toArray rfl rfl HT.out HI.out (all_oneCell_toArray (ints_one _ _)) ?_))
      refine bodyPost_ret (v := .agg (ints (dgt d) 18).toArray) (results_row Tryz.results66 _ _ w.heap.size (dgt d) rfl HF0.out.stored _ Tryz.underlying100 info_18) rfl ⟨by rw [HD.out], ?_⟩
      exact below_setCells (Nat.le_refl _) _ _ _ HB.out
end Go.Proofs.YthphojdnbfghmaaGreat
