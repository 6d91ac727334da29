import Derived.Test.YthphojdnbfghmaaGreatRead2
namespace Go.Proofs.YthphojdnbfghmaaGreat
open Go.RowKit

/-- a list of bytes as it lies in memory, its capacity told -/
def SeesB (w : World) (v : Value) (s : ByteArray) : Prop :=
  ((∃ ao cap, v = .slice ao 0 cap ∧ (ao = none → cap = 0)) ∧ s.size = 0) ∨ ∃ b off cap : Nat, b < w.heap.size ∧ s.size ≤ cap ∧ cap ≤ 9223372036854775807 ∧ v = .slice (some ⟨b, off, none⟩) s.size cap ∧ ∀ j, j < s.size → w.cell? ⟨b, off + j, none⟩ = some (.int .u8 (dby s j))
theorem SeesB.below {w w1 : World} {v : Value} {s : ByteArray} {m : Nat} (h : SeesB w v s) (hm : w.heap.size ≤ m) (hb : Below m w w1) : SeesB w1 v s := by
  rcases h with h | ⟨b, off, cap, h1, h2, h3, h4, h5⟩
  · exact Or.inl h
  · exact Or.inr ⟨b, off, cap, by have := hb.size; omega, h2, h3, h4, fun j hj => (hb.cell (p := ⟨b, off + j, none⟩) (by show b < m; omega)).trans (h5 j hj)⟩
theorem SeesB.slice {w : World} {v : Value} {s : ByteArray} (h : SeesB w v s) : ∃ a c, v = .slice a s.size c := by
  rcases h with ⟨⟨ao, cap, rfl, _⟩, h0⟩ | ⟨b, off, cap, h1, h2, h3, rfl, h5⟩
  · exact ⟨ao, cap, by rw [h0]⟩
  · exact ⟨_, _, rfl⟩

theorem conv2s {W : World} {B o c : Nat} {s : ByteArray} (ha : 2 ≤ s.size) (h0 : W.cell? ⟨B, o, none⟩ = some (.int .u8 (dby s 0))) (h1 : W.cell? ⟨B, o + 1, none⟩ = some (.int .u8 (dby s 1))) :
    (convert 27 9 (.slice (some ⟨B, o, none⟩) 2 c)).run Tryz.prog W = .ok (.string (s.extract 0 2)) W := by
  have h1 := run_convert_bytes_arg (P := Tryz.prog) W 27 5 Tryz.underlying27 Tryz.underlying5 B o 2 c ((List.range 2).map fun j => dby s (0 + j)) (by simp) (fun i hi => by
    match i, hi with
    | 0, _ => exact h0
    | 1, _ => exact h1) 9 Tryz.underlying9
  rw [h1, strOfNums_extract s 0 2 (by omega)]

def extOk (s : ByteArray) : Bool := decide (5 ≤ s.size) && ((s.extract 0 2).toList == [75, 83]) && decide (5 + 14 * cnt s ≤ s.size)

set_option maxRecDepth 100000 in
set_option maxHeartbeats 1000000 in
theorem extent_any (v : Value) (s : ByteArray) (w : World) (hs : s.size ≤ 4611686018427387904) (hv : SeesB w v s) :
    Calls Tryz.prog 59 #[v] w fun e w' => (∃ x : Int, e = .returned (.tuple #[.int .i64 x, .bool (extOk s)]) ∧ (extOk s = true → x = ((5 + 14 * cnt s : Nat) : Int))) ∧ w' = w := by
  by_cases h5 : 5 ≤ s.size
  · obtain ⟨b, off, cap, h1, h2, h3, rfl, hc⟩ : ∃ b off cap : Nat, b < w.heap.size ∧ s.size ≤ cap ∧ cap ≤ 9223372036854775807 ∧ v = .slice (some ⟨b, off, none⟩) s.size cap ∧ ∀ j, j < s.size → w.cell? ⟨b, off + j, none⟩ = some (.int .u8 (dby s j)) := by
      rcases hv with ⟨_, h0⟩ | h
      · omega
      · exact h
    have hcv := conv2s (W := w) (B := b) (o := off) (c := cap) (s := s) (by omega) (hc 0 (by omega)) (hc 1 (by omega))
    have c4 := hc 4 (by omega)
    have hcnt : dby s 4 = (cnt s : Int) := by have := dby_bd s 4; unfold cnt; omega
    have hb4 : cnt s ≤ 255 := by have := dby_bd s 4; unfold cnt; omega
    rw [hcnt] at c4
    clear hc hv
    obtain ⟨z, hz⟩ : ∃ z, z = s.size := ⟨_, rfl⟩
    have d5 : decide ((s.size : Int) < 5) = false := by simp; omega
    have i2 : (2 : Int) ≤ (cap : Int) := by omega
    have i4 : (4 : Int) < (s.size : Int) := by omega
    cases hk : ((s.extract 0 2).toList == [75, 83])
    · have HX : Hid (extOk s = false) := by simp only [extOk, hk]; simp [Hid]
      go_enter Tryz.func59, Tryz.ntmps59
      go_wp2
      go_ret2
      exact ⟨⟨0, by rw [HX.out]; rfl, fun h => by rw [HX.out] at h; cases h⟩, rfl⟩
    · have HX : Hid (extOk s = decide (5 + 14 * cnt s ≤ s.size)) := by simp only [extOk, hk]; simp [Hid, h5]
      generalize cnt s = n at *
      go_enter Tryz.func59, Tryz.ntmps59
      go_wp2_with fail
      refine (size_any n _ hb4).mono ?_
      rintro e w1 ⟨rfl, rfl⟩
      obtain ⟨c, hcc⟩ : ∃ c : Nat, c = 5 + 14 * n := ⟨_, rfl⟩
      rw [← hcc]
      by_cases hle : c ≤ s.size
      · have dle : decide ((c : Int) ≤ (s.size : Int)) = true := by simp; omega
        have HC := hid hcc
        clear hcc
        go_wp2
        go_ret2
        exact ⟨⟨_, by rw [HX.out, ← HC.out]; simp [hle]; rfl, fun _ => by rw [← HC.out]⟩, rfl⟩
      · have dle : decide ((c : Int) ≤ (s.size : Int)) = false := by simp; omega
        have HC := hid hcc
        clear hcc
        go_wp2
        go_ret2
        exact ⟨⟨_, by rw [HX.out, ← HC.out]; simp [hle]; rfl, fun _ => by rw [← HC.out]⟩, rfl⟩
  · obtain ⟨ao, cap, rfl⟩ := hv.slice
    have d5 : decide ((s.size : Int) < 5) = true := by simp; omega
    have HX : Hid (extOk s = false) := by simp only [extOk]; simp [Hid, h5]
    clear hv
    go_enter Tryz.func59, Tryz.ntmps59
    go_wp2
    go_ret2
    exact ⟨⟨0, by rw [HX.out]; rfl, fun h => by rw [HX.out] at h; cases h⟩, rfl⟩

theorem extOk_parts {s : ByteArray} (h : extOk s = true) : 5 ≤ s.size ∧ ((s.extract 0 2).toList == [75, 83]) = true ∧ 5 + 14 * cnt s ≤ s.size := by
  simp only [extOk, Bool.and_eq_true, decide_eq_true_eq] at h
  exact ⟨h.1.1, h.1.2, h.2⟩
theorem hasMan_no {s : ByteArray} (h : extOk s = false) : hasMan s = false := by
  cases hm : hasMan s
  · rfl
  · simp only [hasMan, headOk, Bool.and_eq_true, decide_eq_true_eq] at hm
    have : extOk s = true := by simp only [extOk, Bool.and_eq_true, decide_eq_true_eq]; exact ⟨⟨hm.1.1.1.1.1, hm.1.1.1.1.2⟩, hm.1.2⟩
    rw [this] at h
    cases h
theorem isW_num (s : ByteArray) (a : Nat) : isW (numAt s a) = true := by
  have := numAt_bd s a
  simp [isW, this.1, this.2]
theorem isPart_of (s : ByteArray) (j : Nat) (h : 5 + 14 * j + 14 ≤ s.size) : isPart (partOf s j) = decide ((partOf s j).at' < (partOf s j).len) := by
  have h8 : (partOf s j).dig.size = 8 := by simp only [partOf, ByteArray.size_extract]; omega
  simp only [isPart, h8]
  simp [partOf, isW_num]
theorem isMan_has {s : ByteArray} (h : extOk s = true) : isMan (numAt s 2) (cnt s) (partOf s) = hasMan s := by
  obtain ⟨h5, hk, hz⟩ := extOk_parts h
  have hall : (List.range (cnt s)).all (fun j => isPart (partOf s j)) = (List.range (cnt s)).all (fun j => decide ((partOf s j).at' < (partOf s j).len)) := by
    rw [Bool.eq_iff_iff, List.all_eq_true, List.all_eq_true]
    constructor
    · intro hh j hj
      rw [← isPart_of s j (by have := List.mem_range.1 hj; omega)]
      exact hh j hj
    · intro hh j hj
      rw [isPart_of s j (by have := List.mem_range.1 hj; omega)]
      exact hh j hj
  rw [isMan, hasMan, headOk, hall, isW_num, hk]
  simp [h5, hz]

def unpN (s : ByteArray) : Nat := if hasMan s = true then cnt s else 0
def unpVer (s : ByteArray) : Int := if hasMan s = true then numAt s 2 else 0
def unpLen (s : ByteArray) : Int := if hasMan s = true then ((5 + 14 * cnt s : Nat) : Int) else 0
def unpErr (s : ByteArray) : Int := if hasMan s = true then 0 else 1
/-- what Unpack owes -/
def UnpPost (s : ByteArray) (w : World) (e : Ending) (w' : World) : Prop :=
  (∃ pv, e = .returned (.tuple #[.agg #[.int .i64 (unpVer s), pv], .int .i64 (unpLen s), .int .i64 (unpErr s)]) ∧ w'.ownsRow w.heap.size 43 4 pv (unpN s) (partCells (partOf s) (unpN s))) ∧ Below w.heap.size w w'
theorem unpPost_no {s : ByteArray} {w w' : World} {e : Ending} (h : hasMan s = false) (he : e = .returned unpackNo) (hb : Below w.heap.size w w') : UnpPost s w e w' :=
  ⟨⟨.slice none 0 0, by rw [he]; simp [unpackNo, unpVer, unpLen, unpErr, h], by simp only [unpN, h]; exact World.ownsRow_nil _ _ _ _⟩, hb⟩

theorem range2 {w : World} {B : Nat} {a b : Value} (h0 : w.cell? ⟨B, 0, none⟩ = some a) (h1 : w.cell? ⟨B, 1, none⟩ = some b) : w.rangeAt B 0 [a, b] := by
  intro j v hv
  match j, hv with
  | 0, hv => simp at hv; subst hv; exact h0
  | 1, hv => simp at hv; subst hv; exact h1

theorem read_any (B o c cap n : Nat) (s : ByteArray) (w : World) (hc : c = 5 + 14 * n) (hB : B < w.heap.size) (hn : n ≤ 255) (hN : 5 + 14 * n ≤ s.size) (hcap : s.size ≤ cap) (hcap2 : cap ≤ 9223372036854775807) (hs : ∀ j, j < s.size → w.cell? ⟨B, o + j, none⟩ = some (.int .u8 (dby s j))) :
    Calls Tryz.prog 60 #[.slice (some ⟨B, o, none⟩) c cap] w fun e w' => ∃ pv, e = .returned (.agg #[.int .i64 (numAt s 2), pv]) ∧ w'.ownsRow w.heap.size 43 4 pv n (partCells (partOf s) n) ∧ Below w.heap.size w w' := by
  subst hc
  by_cases h0 : n = 0
  · subst h0
    exact read_zero B o cap s w hB (by omega) hcap2 (fun j hj => hs j (by omega))
  · exact read_some B o cap n s w hB (by omega) hn hN (by omega) hcap2 (fun j hj => hs j (by omega))

set_option maxRecDepth 100000 in
set_option maxHeartbeats 2000000 in
theorem unpack_any (v : Value) (s : ByteArray) (w : World) (hs : s.size ≤ 4611686018427387904) (hv : SeesB w v s) :
    Calls Tryz.prog 31 #[v] w fun e w' => UnpPost s w e w' := by
  have HV := hid hv
  clear hv
  have HB0 := hid ((Below.refl w.heap.size w).alloc (Nat.le_refl _) (.cells #[.int .i64 0, .slice none 0 0] 30))
  go_enter Tryz.func31, Tryz.ntmps31
  go_wp2_with fail
  refine (extent_any v s _ hs (HV.out.below (Nat.le_refl _) HB0.out)).mono ?_
  rintro e w1 ⟨⟨x, rfl, hx⟩, rfl⟩
  cases hX : extOk s
  · have HM := hid (hasMan_no hX)
    clear hx
    go_wp2
    refine bodyPost_ret (v := unpackNo) (results_man Tryz.results31 _ _ w.heap.size _ _ _ _ rfl rfl rfl (range2 (by simp [go_sem]) (by simp [go_sem]))) rfl (unpPost_no HM.out rfl ?_)
    exact (Below.refl _ _).alloc (Nat.le_refl _) _
  · obtain ⟨h5, hk, hz⟩ := extOk_parts hX
    obtain ⟨b, off, cap, h1, h2, h3, rfl, hc⟩ : ∃ b off cap : Nat, b < w.heap.size ∧ s.size ≤ cap ∧ cap ≤ 9223372036854775807 ∧ v = .slice (some ⟨b, off, none⟩) s.size cap ∧ ∀ j, j < s.size → w.cell? ⟨b, off + j, none⟩ = some (.int .u8 (dby s j)) := by
      rcases HV.out with ⟨_, h0⟩ | h
      · omega
      · exact h
    have HC := hid hc
    have HX := hid hX
    have hx' := hx hX
    subst hx'
    clear hx hc hk hX HV
    have hb4 : cnt s ≤ 255 := by have := dby_bd s 4; unfold cnt; omega
    obtain ⟨c, hcc⟩ : ∃ c : Nat, c = 5 + 14 * cnt s := ⟨_, rfl⟩
    rw [← hcc]
    have HCC := hid hcc
    have i1 : (0 : Int) ≤ (c : Int) := by omega
    have i2 : (c : Int) ≤ (cap : Int) := by omega
    clear hcc
    go_wp2_with fail
    refine (read_any b off c cap (cnt s) s _ HCC.out (by simp; omega) hb4 hz (by omega) h3 (fun j hj => (HB0.out.cell (p := ⟨b, off + j, none⟩) h1).trans (HC.out j hj))).mono ?_
    rintro e w2 ⟨pv, rfl, ho2, hb2⟩
    obtain ⟨pa, pc, rfl⟩ := ownsRow_slice ho2
    have HO2 := hid ho2
    have HB2 := hid (newB hb2)
    have hr2 : w2.heap[w.heap.size]? = some (.cells #[.int .i64 0, .slice none 0 0] 30 (0, 0)) := (hb2.block _ (by simp)).trans (heap_alloc_new w _)
    have HR2 := hid hr2
    have hz2 : w.heap.size < w2.heap.size := by have := hb2.size; simp at this; omega
    clear ho2 hb2 hr2
    go_wp2_with fail
    refine (lman_any (numAt s 2) _ (cnt s) (partOf s) _ (by omega) (ownsRow_parts (HO2.out.alloc _))).mono ?_
    rintro e w3 ⟨rfl, hb3⟩
    rw [isMan_has HX.out]
    have hr3 : w3.heap[w.heap.size]? = some (.cells #[.int .i64 0, .slice none 0 0] 30 (0, 0)) := (hb3.block _ (by simp; omega)).trans ((heap_alloc_old _ _ hz2).trans HR2.out)
    have hm3 : w3.heap[w2.heap.size]? = some (.cells #[.int .i64 (numAt s 2), .slice pa (cnt s) pc] 30 (0, 0)) := (hb3.block _ (by simp)).trans (heap_alloc_new w2 _)
    obtain ⟨r0, r1, f0, f1⟩ := man_cells hr3
    obtain ⟨q0, q1, g0, g1⟩ := man_cells hm3
    have HB3 : Hid (Below w.heap.size w w3) := HB2.out.trans ((newB hb3).mono (by omega))
    have HO3 : Hid (w3.ownsRow (w.heap.size + 1) 43 4 (.slice pa (cnt s) pc) (cnt s) (partCells (partOf s) (cnt s))) := ownsRow_mono (ownsRow_below (HO2.out.alloc _) hb3) (by simp)
    clear hr3 hm3 hb3 HO2 HB2 HR2
    cases hm : hasMan s
    · have HM := hid hm
      clear hm
      go_wp2
      refine bodyPost_ret (v := unpackNo) (results_man Tryz.results31 _ _ w.heap.size _ _ _ _ rfl rfl rfl (range2 (by simp [go_sem, r0]) (by simp [go_sem, r1]))) rfl (unpPost_no HM.out rfl ?_)
      exact (HB3.out.setCell (by simp) _).setCell (by simp) _
    · have HM := hid hm
      clear hm
      go_wp2
      refine bodyPost_ret (v := .tuple #[.agg #[.int .i64 (numAt s 2), .slice pa (cnt s) pc], .int .i64 (c : Int), .int .i64 0]) (results_man Tryz.results31 _ _ w.heap.size _ _ _ _ rfl rfl rfl (range2 (by simp [go_sem, r0]) (by simp [go_sem, r1]))) rfl ⟨⟨.slice pa (cnt s) pc, ?_, ?_⟩, ?_⟩
      · simp only [unpVer, unpLen, unpErr, HM.out, if_true, HCC.out]
      · simp only [unpN, HM.out, if_true]
        refine ownsRow_mono ((HO3.out.kept (grown_put _ _ _ _) ?_).kept (grown_put _ _ _ _) ?_) (by omega)
        all_goals (cases pa with | none => exact Or.inl rfl | some a => exact Or.inr (fun e => by have := (HO3.out.lt _ e).1; omega))
      · exact (HB3.out.setCell (by simp) _).setCell (by simp) _

theorem ownsRow_sees {w : World} {base : Nat} {v : Value} {s : ByteArray} (h : w.ownsRow base 5 1 v s.size (Lib.strCells s)) : SeesB w v s := by
  rcases h.2 with ⟨rfl, h0⟩ | ⟨g, cap, cur, rfl, _, hg, hn, hm, _⟩
  · exact Or.inl ⟨⟨_, _, rfl, fun _ => rfl⟩, h0⟩
  · refine Or.inr ⟨g, 0, cap, (Array.getElem?_eq_some_iff.1 hg).1, hn, hm, rfl, fun j hj => ?_⟩
    have hc := h.cells (g := g) rfl j (.int .u8 (dby s j)) ?_
    · have hadd : (⟨g, 0, none⟩ : Addr).add j = ⟨g, 0 + j, none⟩ := by unfold Addr.add; split <;> simp_all
      rw [hadd] at hc
      exact hc
    · have hj' : j < (ls s).length := by rw [ls_length]; exact hj
      simp only [Lib.strCells, dby]
      show ((ls s).map _)[j]? = _
      rw [List.getElem?_map, List.getElem?_eq_getElem hj']
      rfl

def packS (v : Int) (n : Nat) (f : Nat → PartR) : ByteArray := if isMan v n f = true then manS v n f else ⟨#[]⟩
def packE (v : Int) (n : Nat) (f : Nat → PartR) : Int := if isMan v n f = true then 0 else 1
/-- what Pack owes -/
def PackPost (v : Int) (n : Nat) (f : Nat → PartR) (w : World) (e : Ending) (w' : World) : Prop :=
  (∃ pv, e = .returned (.tuple #[pv, .int .i64 (packE v n f)]) ∧ w'.ownsRow w.heap.size 5 1 pv (packS v n f).size (Lib.strCells (packS v n f))) ∧ Below w.heap.size w w'

set_option maxHeartbeats 1000000 in
theorem pack_any (v : Int) (sv : Value) (n : Nat) (f : Nat → PartR) (w : World) (hn : n ≤ 4611686018427387904) (hp : SeesParts w sv n f) :
    Calls Tryz.prog 45 #[.agg #[.int .i64 v, sv]] w fun e w' => PackPost v n f w e w' := by
  cases hM : isMan v n f
  · obtain ⟨p, cap, rfl⟩ : ∃ p cap, sv = .slice p n cap := by
      rcases hp with ⟨rfl, p, cap, rfl⟩ | ⟨b, o, cap, rfl, _⟩ <;> exact ⟨_, _, rfl⟩
    have HP := hid hp
    clear hp
    go_enter Tryz.func45, Tryz.ntmps45
    go_wp2_with fail
    refine (lman_any v _ n f _ hn (HP.out.below (Nat.le_refl _) ((Below.refl _ _).alloc (Nat.le_refl _) _))).mono ?_
    rintro e w1 ⟨rfl, hb1⟩
    rw [hM]
    have HB1 := hid (newB hb1)
    clear hb1
    go_wp2
    go_ret2
    exact ⟨⟨_, by simp only [packE, hM]; rfl, by simp only [packS, hM]; exact World.ownsRow_nil _ _ _ _⟩, HB1.out⟩
  · obtain ⟨_, h1, _, hall⟩ := isMan_parts hM
    rcases hp with ⟨rfl, _⟩ | ⟨b, o, cap, rfl, hb, hP⟩
    · omega
    · refine (pack_yes v b o n cap f w hM hb hP).mono ?_
      rintro e w' ⟨⟨g, c, rfl, ho⟩, hbe⟩
      have hz : (manS v n f).size = 5 + 14 * n := by rw [manS, partsS_size f _ n hall, headS_size]
      exact ⟨⟨_, by simp only [packE, hM]; rfl, by simp only [packS, hM, if_true, hz]; exact ho⟩, hbe⟩

set_option maxHeartbeats 1000000 in
theorem kpack_any (v : Int) (sv : Value) (n : Nat) (f : Nat → PartR) (w : World) (hn : n ≤ 4611686018427387904) (hp : SeesParts w sv n f) :
    Calls Tryz.prog 26 #[.agg #[.int .i64 v, sv]] w fun e w' => PackPost v n f w e w' := by
  obtain ⟨p, cap, rfl⟩ : ∃ p cap, sv = .slice p n cap := by
    rcases hp with ⟨rfl, p, cap, rfl⟩ | ⟨b, o, cap, rfl, _⟩ <;> exact ⟨_, _, rfl⟩
  have HP := hid hp
  clear hp
  go_enter Tryz.func26, Tryz.ntmps26
  go_wp2_with fail
  refine (pack_any v _ n f _ hn (HP.out.below (Nat.le_refl _) ((Below.refl _ _).alloc (Nat.le_refl _) _))).mono ?_
  rintro e w1 ⟨⟨pv, rfl, ho⟩, hb1⟩
  obtain ⟨pa, pc, rfl⟩ := ownsRow_slice ho
  have HO := hid ho
  have HB1 := hid (newB hb1)
  clear hb1 ho
  go_wp2
  go_ret2
  exact ⟨⟨_, rfl, ownsRow_mono HO.out (by simp)⟩, HB1.out⟩

set_option maxHeartbeats 1000000 in
theorem kunpack_any (v : Value) (s : ByteArray) (w : World) (hs : s.size ≤ 4611686018427387904) (hv : SeesB w v s) :
    Calls Tryz.prog 19 #[v] w fun e w' => UnpPost s w e w' := by
  have HV := hid hv
  clear hv
  have HB0 := hid ((Below.refl w.heap.size w).alloc (Nat.le_refl _) (.cells #[.int .i64 0, .slice none 0 0] 30))
  go_enter Tryz.func19, Tryz.ntmps19
  go_wp2_with fail
  refine (unpack_any v s _ hs (HV.out.below (Nat.le_refl _) HB0.out)).mono ?_
  rintro e w1 ⟨⟨pv, rfl, ho⟩, hb1⟩
  obtain ⟨pa, pc, rfl⟩ := ownsRow_slice ho
  have hr : w1.heap[w.heap.size]? = some (.cells #[.int .i64 0, .slice none 0 0] 30 (0, 0)) := (hb1.block _ (by simp)).trans (heap_alloc_new w _)
  obtain ⟨r0, r1, f0, f1⟩ := man_cells hr
  have HO : Hid (w1.ownsRow (w.heap.size + 1) 43 4 (.slice pa (unpN s) pc) (unpN s) (partCells (partOf s) (unpN s))) := ownsRow_mono ho (by simp)
  have HB1 := hid (newB hb1)
  clear hb1 ho hr
  go_wp2
  refine bodyPost_ret (v := .tuple #[.agg #[.int .i64 (unpVer s), .slice pa (unpN s) pc], .int .i64 (unpLen s), .int .i64 (unpErr s)]) (results_man Tryz.results19 _ _ w.heap.size _ _ _ _ rfl rfl rfl (range2 (by simp [go_sem, r0]) (by simp [go_sem, r1]))) rfl ⟨⟨.slice pa (unpN s) pc, rfl, ?_⟩, ?_⟩
  · refine ownsRow_mono ((HO.out.kept (grown_put _ _ _ _) ?_).kept (grown_put _ _ _ _) ?_) (by omega)
    all_goals (cases pa with | none => exact Or.inl rfl | some a => exact Or.inr (fun e => by have := (HO.out.lt _ e).1; omega))
  · exact (HB1.out.setCell (by simp) _).setCell (by simp) _
end Go.Proofs.YthphojdnbfghmaaGreat
