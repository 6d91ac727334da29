import Derived.Test.YthphojdnbfghmaaGreatRefTree
namespace Go.Proofs.YthphojdnbfghmaaGreat
open Go.RowKit

theorem and_u8 (x : Int) (h : 0 ≤ x ∧ x ≤ 255) : bits BinOp.and IntKind.u8 x 15 = x % 16 := by
  have hd : ∀ n : Fin 256, bits BinOp.and IntKind.u8 ((n.val : Nat) : Int) 15 = ((n.val : Nat) : Int) % 16 := by decide +kernel
  have := hd ⟨x.toNat, by omega⟩
  simpa [show ((x.toNat : Nat) : Int) = x by omega] using this
theorem and_i64 (x : Int) (h : 0 ≤ x ∧ x ≤ 255) : bits BinOp.and IntKind.i64 x 15 = x % 16 := by
  have hd : ∀ n : Fin 256, bits BinOp.and IntKind.i64 ((n.val : Nat) : Int) 15 = ((n.val : Nat) : Int) % 16 := by decide +kernel
  have := hd ⟨x.toNat, by omega⟩
  simpa [show ((x.toNat : Nat) : Int) = x by omega] using this
theorem xor_i64 (x : Int) (h : 0 ≤ x ∧ x ≤ 7) : bits BinOp.xor IntKind.i64 x 1 = if x % 2 = 1 then x - 1 else x + 1 := by
  have hd : ∀ n : Fin 8, bits BinOp.xor IntKind.i64 ((n.val : Nat) : Int) 1 = if ((n.val : Nat) : Int) % 2 = 1 then ((n.val : Nat) : Int) - 1 else ((n.val : Nat) : Int) + 1 := by decide +kernel
  have := hd ⟨x.toNat, by omega⟩
  simpa [show ((x.toNat : Nat) : Int) = x by omega] using this

/-- a byte of a digest -/
def dby (d : ByteArray) (i : Nat) : Int := ((ls d)[i]?.getD 0).toNat
theorem dby_bd (d : ByteArray) (i : Nat) : 0 ≤ dby d i ∧ dby d i ≤ 255 := by
  unfold dby
  have := ((ls d)[i]?.getD 0).toNat_lt
  omega
theorem dby_get (d : ByteArray) (i : Nat) (h : i < d.size) : (d[i].toNat : Int) = dby d i := by
  unfold dby
  rw [List.getElem?_eq_getElem (by rw [ls_length]; exact h)]
  rfl
/-- what the digits of the first k bytes lack -/
def lackN (d : ByteArray) : Nat → Int
  | 0 => 0
  | k + 1 => lackN d k + (30 - dby d k % 16 - dby d k / 16)
theorem lackN_bd (d : ByteArray) : ∀ k, 0 ≤ lackN d k ∧ lackN d k ≤ 30 * k
  | 0 => ⟨by simp [lackN], by simp [lackN]⟩
  | k + 1 => by
    have h := lackN_bd d k
    have h2 := dby_bd d k
    simp only [lackN]
    omega
/-- digit j of a digest -/
def dgt (d : ByteArray) (j : Nat) : Int :=
  if j < 16 then (if j % 2 = 0 then dby d (j / 2) % 16 else dby d (j / 2) / 16) else if j = 16 then lackN d 8 / 16 else lackN d 8 % 16
theorem dgt_bd (d : ByteArray) (j : Nat) : 0 ≤ dgt d j ∧ dgt d j ≤ 15 := by
  have h := lackN_bd d 8
  have h2 := dby_bd d (j / 2)
  unfold dgt
  split
  · split <;> omega
  · split <;> omega
theorem dgt_even (d : ByteArray) (k : Nat) (h : k < 8) : dgt d (2 * k) = dby d k % 16 := by
  rw [dgt, if_pos (by omega), if_pos (by omega), show 2 * k / 2 = k by omega]
theorem dgt_odd (d : ByteArray) (k : Nat) (h : k < 8) : dgt d (2 * k + 1) = dby d k / 16 := by
  rw [dgt, if_pos (by omega), if_neg (by omega), show (2 * k + 1) / 2 = k by omega]

/-- a row of n numbers of the call's own -/
def IntRow (w : World) (B n : Nat) (f : Nat → Int) : Prop :=
  (∀ j, j < n → w.cell? ⟨B, j, none⟩ = some (.int .i64 (f j))) ∧ (∀ j, w.frozen? ⟨B, j, none⟩ = false) ∧ B < w.heap.size
def fillI (g : Nat → Int) (k : Nat) (j : Nat) : Int := if j < k then g j else 0
theorem fillI_all (g : Nat → Int) (k j : Nat) (h : j < k) : fillI g k j = g j := if_pos h
theorem IntRow.put {w : World} {B n k : Nat} {g : Nat → Int} (h : IntRow w B n (fillI g k)) (hk : k < n) : IntRow (w.setCell ⟨B, k, none⟩ (.int .i64 (g k))) B n (fillI g (k + 1)) := by
  obtain ⟨h1, h2, h3⟩ := h
  refine ⟨fun j hj => ?_, fun j => ?_, ?_⟩
  · by_cases e : j = k
    · subst e
      rw [World.cell?_setCell_same _ _ _ (h1 j hj), fillI, if_pos (by omega)]
    · rw [World.cell?_setCell_other _ _ _ _ (fun e' => by injection e'; omega), h1 j hj, fillI, fillI]
      have : (j < k + 1) = (j < k) := by apply propext; omega
      simp only [this]
  · rw [World.frozen?_setCell]; exact h2 j
  · simpa using h3
theorem IntRow.other {w : World} {B n : Nat} {f : Nat → Int} (h : IntRow w B n f) (a : Addr) (v : Value) (ha : a.block ≠ B) : IntRow (w.setCell a v) B n f :=
  ⟨fun j hj => by rw [World.cell?_setCell_other _ _ _ _ (fun e => ha (by rw [e]))]; exact h.1 j hj, fun j => by rw [World.frozen?_setCell]; exact h.2.1 j, by simpa using h.2.2⟩
theorem IntRow.below {w w1 : World} {B n : Nat} {f : Nat → Int} (h : IntRow w B n f) (hb : Below w.heap.size w w1) : IntRow w1 B n f :=
  ⟨fun j hj => (hb.cell (p := ⟨B, j, none⟩) h.2.2).trans (h.1 j hj), fun j => (hb.frozen (p := ⟨B, j, none⟩) h.2.2).trans (h.2.1 j), by have := hb.size; have := h.2.2; omega⟩
theorem IntRow.drewN {w : World} {B n : Nat} {f : Nat → Int} (h : IntRow w B n f) (m : Nat) : IntRow (w.drewN m) B n f := h.below (below_drewN (Below.refl _ _) m)
def ints (f : Nat → Int) (n : Nat) : List Value := (List.range n).map fun j => Value.int .i64 (f j)
theorem ints_length (f : Nat → Int) (n : Nat) : (ints f n).length = n := by simp [ints]
theorem IntRow.range {w : World} {B n : Nat} {f : Nat → Int} (h : IntRow w B n f) : w.rangeAt B 0 (ints f n) := by
  intro j v hv
  have hj : j < n := by
    have := (List.getElem?_eq_some_iff.1 hv).1
    simpa [ints] using this
  rw [Nat.zero_add, h.1 j hj]
  simpa [ints, hj] using hv
theorem IntRow.there {w : World} {B n : Nat} {f : Nat → Int} (h : IntRow w B n f) : w.there B 0 n := by
  intro j hj
  rw [Nat.zero_add, h.1 j hj]
  exact ⟨rfl, h.2.1 j⟩
theorem new_ints (w : World) (t : TypeId) (C : Array Value) (n : Nat) (g : Nat → Int) (hC : C = Array.replicate n (.int .i64 0)) : IntRow (w.alloc (.cells C t)) w.heap.size n (fillI g 0) := by
  refine ⟨fun j hj => ?_, fun j => by simp [go_sem], by simp⟩
  rw [World.cell?_alloc_at _ _ _ _ rfl, hC]
  simp [hj, fillI]
theorem ints_one (f : Nat → Int) (n : Nat) : ∀ v ∈ ints f n, v.oneCell' = true := by
  intro v hv
  obtain ⟨j, _, rfl⟩ := List.mem_map.1 hv
  rfl
theorem ints_size (f : Nat → Int) (n : Nat) : (ints f n).toArray.size = n := by simp [ints]
theorem ints_fill (g : Nat → Int) (n : Nat) : ints (fillI g n) n = ints g n := by
  refine List.map_congr_left fun j hj => ?_
  rw [fillI_all _ _ _ (List.mem_range.1 hj)]
/-- a row that was stored whole -/
theorem IntRow.stored {w : World} {B n : Nat} {f g : Nat → Int} (h : IntRow w B n f) : IntRow (w.setCells B 0 (ints g n)) B n g := by
  refine ⟨fun j hj => ?_, fun j => ?_, ?_⟩
  · have := World.cell?_setCells_in B (ints g n) 0 w (fun i hi => by rw [Nat.zero_add, h.1 i (by rw [ints_length] at hi; exact hi)]; rfl) j (by rw [ints_length]; exact hj)
    rw [Nat.zero_add] at this
    rw [this]
    simp [ints]
  · rw [World.frozen?_setCells]; exact h.2.1 j
  · have hb := (below_setCells (Nat.le_refl _) (ints g n) 0 w (Below.refl B w)).size
    have := h.2.2
    omega
/-- a result that lies in memory: a row of numbers -/
theorem results_row {fn : Func} {p : Tmp} {ty : TypeId} (hfn : fn.results = #[.cell p ty]) (tmps : Array Value) (w : World) (B : Nat) (f : Nat → Int) (hp : tmps[p]?.getD undef = .pointer (some ⟨B, 0, none⟩)) (h : IntRow w B 18 f)
    (e : TypeId) (hu : Tryz.prog.underlying ty = some (.array 18 e)) (hi : (Tryz.prog.info? ty).map (·.size) = some 18) : (results fn tmps).run Tryz.prog w = .ok (.agg (ints f 18).toArray) w := by
  have hl := run_loadVar_mid (P := Tryz.prog) w B 0 ty (ints f 18) _ h.range hu rfl (by rw [ints_length]; exact hi)
  simp [results, hfn, hp, hl, asAddr]

theorem info_digits : (Tryz.prog.info? 170).map (·.size) = some 18 := by kernel_rfl
theorem info_18 : (Tryz.prog.info? 100).map (·.size) = some 18 := by kernel_rfl

set_option maxHeartbeats 1000000 in
theorem split_any (d : ByteArray) (w : World) (hd : d.size = 8) :
    Calls Tryz.prog 147 #[.string d] w fun e w' => e = .returned (.agg (ints (dgt d) 18).toArray) ∧ Below w.heap.size w w' := by
  go_enter Tryz.func147, Tryz.ntmps147
  go_wp2
  go_loopw [4, 8] (fun l i wr => ∃ k : Nat, k ≤ 8 ∧ i = .int .i64 k ∧ l = .int .i64 (lackN d k) ∧ IntRow wr w.heap.size 18 (fillI (dgt d) 0) ∧ IntRow wr (w.heap.size + 1) 18 (fillI (dgt d) (2 * k)) ∧ Below w.heap.size w wr) (fun _ i _ => 8 - (intOf i).toNat)
  case atStart =>
    refine ⟨0, by omega, rfl, rfl, ?_, ?_, ((Below.refl _ _).alloc (Nat.le_refl _) _).alloc (by simp) _⟩
    · exact (new_ints w _ _ _ _ rfl).below ((Below.refl _ _).alloc (Nat.le_refl _) _)
    · have := new_ints (w.alloc (Obj.cells #[Value.int IntKind.i64 0, Value.int IntKind.i64 0, Value.int IntKind.i64 0, Value.int IntKind.i64 0, Value.int IntKind.i64 0, Value.int IntKind.i64 0, Value.int IntKind.i64 0, Value.int IntKind.i64 0, Value.int IntKind.i64 0, Value.int IntKind.i64 0, Value.int IntKind.i64 0, Value.int IntKind.i64 0, Value.int IntKind.i64 0, Value.int IntKind.i64 0, Value.int IntKind.i64 0, Value.int IntKind.i64 0, Value.int IntKind.i64 0, Value.int IntKind.i64 0] 170)) 170 _ 18 (dgt d) rfl
      rw [World.size_alloc] at this
      exact this
  case round =>
    obtain ⟨k, hk, rfl, rfl, hR0, hR1, hbr⟩ := hrel
    have hlb := lackN_bd d k
    by_cases hlt : k < 8
    · have hdk := dby_get d k (by omega)
      have hbd := dby_bd d k
      have hand := and_u8 (dby d k) hbd
      have HL : Hid (lackN d (k + 1) = lackN d k + (30 - dby d k % 16 - dby d k / 16)) := rfl
      have HE := hid (dgt_even d k hlt)
      have HO := hid (dgt_odd d k hlt)
      have hks : (k : Int) < (d.size : Int) := by omega
      generalize dby d k = x at *
      generalize lackN d k = lk at *
      have c0 := hR1.1 (2 * k) (by omega)
      have c1 := hR1.1 (2 * k + 1) (by omega)
      have g0 := hR1.2.1 (2 * k)
      have g1 := hR1.2.1 (2 * k + 1)
      generalize fillI (dgt d) (2 * k) (2 * k) = o0 at c0
      generalize fillI (dgt d) (2 * k) (2 * k + 1) = o1 at c1
      go_wp2_with fail
      go_quiet (fail)
      go_wp2
      go_roundw
      case rel =>
        refine ⟨k + 1, by omega, by go_num, by rw [HL.out], ?_, ?_, ?_⟩
        · exact ((hR0.drewN _).other _ _ (by simp)).other _ _ (by simp)
        · have h1 := ((hR1.drewN nq).put (by omega)).put (by omega)
          rw [HE.out, HO.out] at h1
          exact h1
        · exact ((below_drewN hbr _).setCell (by simp) _).setCell (by simp) _
      case measure => simp [intOf]; omega
    · obtain rfl : k = 8 := by omega
      have hand := and_i64 (lackN d 8) ⟨by omega, by omega⟩
      have c0 := hR1.1 16 (by omega)
      have c1 := hR1.1 17 (by omega)
      have g0 := hR1.2.1 16
      have g1 := hR1.2.1 17
      have HE : Hid (dgt d 16 = lackN d 8 / 16) := rfl
      have HO : Hid (dgt d 17 = lackN d 8 % 16) := rfl
      have HF : Hid (IntRow ((wr.setCell ⟨w.heap.size + 1, 16, none⟩ (.int .i64 (lackN d 8 / 16))).setCell ⟨w.heap.size + 1, 17, none⟩ (.int .i64 (lackN d 8 % 16))) (w.heap.size + 1) 18 (fillI (dgt d) 18)) := (hR1.put (k := 16) (by omega)).put (by omega)
      have HF0 : Hid (IntRow ((wr.setCell ⟨w.heap.size + 1, 16, none⟩ (.int .i64 (lackN d 8 / 16))).setCell ⟨w.heap.size + 1, 17, none⟩ (.int .i64 (lackN d 8 % 16))) w.heap.size 18 (fillI (dgt d) 0)) := (hR0.other _ _ (by simp)).other _ _ (by simp)
      have HB : Hid (Below w.heap.size w ((wr.setCell ⟨w.heap.size + 1, 16, none⟩ (.int .i64 (lackN d 8 / 16))).setCell ⟨w.heap.size + 1, 17, none⟩ (.int .i64 (lackN d 8 % 16)))) := (hbr.setCell (by simp) _).setCell (by simp) _
      clear hR0 hR1 hbr HE HO
      generalize lackN d 8 = lk at *
      generalize fillI (dgt d) (2 * 8) 16 = o0 at c0
      generalize fillI (dgt d) (2 * 8) 17 = o1 at c1
      have hr := HF.out.range
      rw [ints_fill] at hr
      have HT := hid ((ints_size (dgt d) 18).symm ▸ HF0.out.there)
      have HI : Hid ((Tryz.prog.info? 170).map (·.size) = some (ints (dgt d) 18).toArray.size) := by rw [ints_size]; exact info_digits
      go_wp2_with (first | (refine wpList_load_mid rfl 170 _ rfl (w.heap.size + 1) 0 rfl (ints (dgt d) 18) _ hr Tryz.underlying170 rfl (by rw [ints_length]; exact info_digits) ?_) | (refine wpList_store_mid rfl 170 _ _ rfl w.heap.size 0 (ints (dgt d) 18).toArray rfl rfl HT.out HI.out (all_oneCell_toArray (ints_one _ _)) ?_))
      refine bodyPost_ret (v := .agg (ints (dgt d) 18).toArray) (results_row Tryz.results147 _ _ w.heap.size (dgt d) rfl HF0.out.stored _ Tryz.underlying170 info_digits) rfl ⟨rfl, ?_⟩
      exact below_setCells (Nat.le_refl _) _ _ _ HB.out
end Go.Proofs.YthphojdnbfghmaaGreat
