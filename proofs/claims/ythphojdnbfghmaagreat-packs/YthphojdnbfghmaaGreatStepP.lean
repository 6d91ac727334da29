import Derived.Test.YthphojdnbfghmaaGreatPartsW
import Derived.Test.YthphojdnbfghmaaGreatPacked
namespace Go.Proofs.YthphojdnbfghmaaGreat
open Go.RowKit

theorem refpack_val (v : Int) (n : Nat) (f : Nat → PartR) : packV v n f = .tuple #[.string (packS v n f), .int .i64 (packE v n f)] := by
  unfold packV packS packE
  by_cases h : isMan v n f = true <;> simp [h]
theorem packS_size (v : Int) (n : Nat) (f : Nat → PartR) : (packS v n f).size ≤ 117 := by
  unfold packS
  split
  · rename_i h
    rw [man_size h]
    have := (isMan_parts h).2.2.1
    omega
  · show 0 ≤ 117
    omega
theorem keep2 {w0 W w2 : World} {B : Nat} {a b : Value} (hB : B < w0.heap.size) (h : W.cell? ⟨B, 8, none⟩ = some a ∧ W.cell? ⟨B, 9, none⟩ = some b ∧ Below w0.heap.size w0 W) (hb : Below W.heap.size W w2) : w2.cell? ⟨B, 8, none⟩ = some a ∧ w2.cell? ⟨B, 9, none⟩ = some b ∧ Below w0.heap.size w0 w2 :=
  have hz := h.2.2.size
  ⟨(hb.cell (p := ⟨B, 8, none⟩) (by show B < _; omega)).trans h.1, (hb.cell (p := ⟨B, 9, none⟩) (by show B < _; omega)).trans h.2.1, h.2.2.trans (hb.mono hz)⟩
theorem zP_elem {w : World} {lo : Nat} {g n cap k : Nat} {f : Nat → PartR} (h : w.ownsRow lo 43 4 (.slice (some ⟨g, 0, none⟩) (n + 8) cap) (n + 8) (partCells f n ++ rows zP 8)) :
    (k < n → w.cell? ⟨g, k * 4, none⟩ = some (.int .i64 (f k).off) ∧ w.cell? ⟨g, k * 4 + 1, none⟩ = some (.int .i64 (f k).len) ∧ w.cell? ⟨g, k * 4 + 2, none⟩ = some (.int .i64 (f k).at') ∧ w.cell? ⟨g, k * 4 + 3, none⟩ = some (.string (f k).dig)) ∧
    (n ≤ k → k < n + 8 → w.cell? ⟨g, k * 4, none⟩ = some (.int .i64 0) ∧ w.cell? ⟨g, k * 4 + 1, none⟩ = some (.int .i64 0) ∧ w.cell? ⟨g, k * 4 + 2, none⟩ = some (.int .i64 0) ∧ w.cell? ⟨g, k * 4 + 3, none⟩ = some (.string ⟨#[]⟩)) := by
  have hl := partCells_length f n
  refine ⟨fun hk => ?_, fun hk hk2 => ?_⟩
  · have hget : ∀ i u, i < 4 → (partL (f k))[i]? = some u → w.cell? ⟨g, k * 4 + i, none⟩ = some u := fun i u hi hu => own_cell h _ u (by rw [List.getElem?_append_left (by omega), partCells_get f n k i hk hi]; exact hu)
    exact ⟨hget 0 _ (by omega) rfl, hget 1 _ (by omega) rfl, hget 2 _ (by omega) rfl, hget 3 _ (by omega) rfl⟩
  · have hget : ∀ i u, i < 4 → (zP (k - n))[i]? = some u → w.cell? ⟨g, k * 4 + i, none⟩ = some u := fun i u hi hu => own_cell h _ u (by
      rw [List.getElem?_append_right (by omega), hl, show k * 4 + i - n * 4 = (k - n) * 4 + i by omega, rows_get (size := 4) (fun _ => rfl) 8 (k - n) i (by omega) hi]
      exact hu)
    exact ⟨hget 0 _ (by omega) rfl, hget 1 _ (by omega) rfl, hget 2 _ (by omega) rfl, hget 3 _ (by omega) rfl⟩
theorem zP_sees {w : World} {lo : Nat} {g n cap cap2 : Nat} {f : Nat → PartR} (h : w.ownsRow lo 43 4 (.slice (some ⟨g, 0, none⟩) (n + 8) cap) (n + 8) (partCells f n ++ rows zP 8)) : SeesParts w (.slice (some ⟨g, 0, none⟩) n cap2) n f :=
  Or.inr ⟨g, 0, cap2, rfl, (ownsRow_lt h).2, fun j hj => by
    have := (zP_elem (k := j) h).1 hj
    simpa using this⟩

/-- what a step that keeps lists owes -/
def StepPost (B : Nat) (hs : List HoldD) (w : World) (e : Ending) (w' : World) : Prop := e = .returned (.bool true) ∧ (∃ hs', Inv B w' hs' ∧ hs'.length ≤ hs.length + 4) ∧ Below B w w'

set_option maxRecDepth 100000 in
set_option maxHeartbeats 4000000 in
theorem packed_any (B : Nat) (hs : List HoldD) (kd on oc of ver : Int) (ob os ot ok : ByteArray) (ofa sv : Value) (om orw : Bool) (np : Nat) (f : Nat → PartR) (w : World) (I : Inv B w hs) (hlen : hs.length ≤ 8796093022208) (hnp : np * 40 ≤ 140737488351232) (hsv : SeesParts w sv np f) :
    Calls Tryz.prog 41 #[.pointer (some ⟨B, 0, none⟩), .agg #[.int .i64 kd, .string ob, .string os, .string ot, .int .i64 on, .int .i64 oc, .int .i64 of, ofa, .int .i64 ver, sv, .bool om, .bool orw, .string ok]] w fun e w' => StepPost B hs w e w' := by
  obtain ⟨pa, pc, rfl⟩ : ∃ p cap, sv = .slice p np cap := by
    rcases hsv with ⟨rfl, p, cap, rfl⟩ | ⟨b, o, cap, rfl, _⟩ <;> exact ⟨_, _, rfl⟩
  have HI := hid I
  have HSv := hid hsv
  have hw0 : Below w.heap.size w (w.alloc (.cells #[.int .i64 kd, .string ob, .string os, .string ot, .int .i64 on, .int .i64 oc, .int .i64 of, ofa, .int .i64 ver, .slice pa np pc, .bool om, .bool orw, .string ok] 61)) := (Below.refl _ _).alloc (Nat.le_refl _) _
  obtain ⟨W1, W2, hmk, hcp, ho2, hb2, hz2, hb1⟩ := parts_worlds (.slice pa np pc) np f _ hnp (hsv.below (Nat.le_refl _) hw0)
  have HO2 := hid ho2
  have HB2 := hid (newB hb2)
  have c8 : W2.cell? ⟨w.heap.size, 8, none⟩ = some (.int .i64 ver) := (hb2.cell (p := ⟨w.heap.size, 8, none⟩) (by simp)).trans (by simp [go_sem])
  have c9 : W2.cell? ⟨w.heap.size, 9, none⟩ = some (.slice pa np pc) := (hb2.cell (p := ⟨w.heap.size, 9, none⟩) (by simp)).trans (by simp [go_sem])
  have k9 : W1.cell? ⟨w.heap.size, 9, none⟩ = some (.slice pa np pc) := (hb1.cell (p := ⟨w.heap.size, 9, none⟩) (by simp)).trans (by simp [go_sem])
  have hzz : w.heap.size + 1 < W2.heap.size := by simpa using hz2
  simp only [World.size_alloc] at HO2 hmk hcp
  clear I hsv hw0 ho2 hb2 hz2 hb1
  have i0 : (0 : Int) ≤ (np : Int) := by omega
  have i1 : (np : Int) ≤ (np : Int) + 8 := by omega
  go_enter Tryz.func41, Tryz.ntmps41
  go_wp2_with fail
  clear hmk hcp k9
  go_region_held3 (fun W => W.cell? ⟨w.heap.size, 8, none⟩ = some (.int .i64 ver) ∧ W.cell? ⟨w.heap.size, 9, none⟩ = some (.slice pa np pc) ∧ Below W2.heap.size W2 W)
    (first | (refine ⟨?_, ?_, (Below.refl _ _).drew⟩ <;> (simp [c8, c9]; done)) | (apply keep2 (w0 := W2) (B := w.heap.size) (by omega); assumption; assumption))
    (first | (go_at_call 26; refine (kpack_any ver _ np f _ (by omega) (zP_sees (ownsRow_drew HO2.out))).mono ?_; rintro e w3 ⟨⟨pv, rfl, ho3⟩, hb3⟩))
  have hb3' : Below W2.heap.size W2 w3 := ((Below.refl W2.heap.size W2).drew).trans hb3
  obtain ⟨a3, q3, rfl⟩ := ownsRow_slice ho3
  have HP3 : Hid (w3.ownsRow w.heap.size 5 1 (.slice a3 (packS ver np f).size q3) (packS ver np f).size (Lib.strCells (packS ver np f))) := ownsRow_mono ho3 (by show w.heap.size ≤ W2.heap.size; omega)
  have HO3 : Hid (w3.ownsRow (w.heap.size + 1) 43 4 (.slice (some ⟨w.heap.size + 1, 0, none⟩) (np + 8) (np + 8)) (np + 8) (partCells f np ++ rows zP 8)) := ownsRow_below HO2.out hb3'
  have HB3 : Hid (Below w.heap.size w w3) := HB2.out.trans (hb3'.mono (by omega))
  have e8 : w3.cell? ⟨w.heap.size, 8, none⟩ = some (.int .i64 ver) := (hb3'.cell (p := ⟨w.heap.size, 8, none⟩) (by show w.heap.size < W2.heap.size; omega)).trans c8
  have e9 : w3.cell? ⟨w.heap.size, 9, none⟩ = some (.slice pa np pc) := (hb3'.cell (p := ⟨w.heap.size, 9, none⟩) (by show w.heap.size < W2.heap.size; omega)).trans c9
  have hz3 : W2.heap.size ≤ w3.heap.size := hb3'.size
  have hXs := packS_size ver np f
  clear ho3 hb3 hb3' HO2 HB2 c8 c9
  go_wp2_with fail
  refine (refpack_any ver _ np f _ (by omega) (HSv.out.below (Nat.le_refl _) HB3.out)).mono ?_
  rintro e w4 ⟨rfl, hb4⟩
  rw [refpack_val]
  have HP4 : Hid (w4.ownsRow w.heap.size 5 1 (.slice a3 (packS ver np f).size q3) (packS ver np f).size (Lib.strCells (packS ver np f))) := ownsRow_below HP3.out hb4
  have HO4 : Hid (w4.ownsRow (w.heap.size + 1) 43 4 (.slice (some ⟨w.heap.size + 1, 0, none⟩) (np + 8) (np + 8)) (np + 8) (partCells f np ++ rows zP 8)) := ownsRow_below HO3.out hb4
  have HB4 : Hid (Below w.heap.size w w4) := HB3.out.trans (hb4.mono (by omega))
  have k9 : w4.cell? ⟨w.heap.size, 9, none⟩ = some (.slice pa np pc) := (hb4.cell (p := ⟨w.heap.size, 9, none⟩) (by show w.heap.size < w3.heap.size; omega)).trans e9
  have hz4 : w3.heap.size ≤ w4.heap.size := hb4.size
  have hcv := conv_own HP4.out
  clear hb4 e8 e9 HP3 HO3 HB3
  generalize packS ver np f = X at *
  generalize packE ver np f = xe at *
  go_wp2
  clear hcv
  go_loopw [10, 11] (fun okv x wr => ∃ k nd : Nat, k ≤ np + 8 ∧ okv = .bool true ∧ x = .int .i64 k ∧ wr = w4.drewN nd) (fun _ x _ => np + 8 - (intOf x).toNat)
  case atStart => exact ⟨0, 0, by omega, rfl, rfl, rfl⟩
  case round =>
    obtain ⟨k, nd, hk, rfl, rfl, rfl⟩ := hrel
    by_cases hlt : k < np
    · obtain ⟨z0, z1, z2, z3⟩ := (zP_elem (k := k) HO4.out).1 hlt
      have hp4 : SeesParts w4 (.slice pa np pc) np f := HSv.out.below (Nat.le_refl _) HB4.out
      obtain ⟨b, o, rfl, hbm, hPm⟩ := hp4.at hlt
      obtain ⟨y0, y1, y2, y3⟩ := hPm k hlt
      clear hp4 hPm
      generalize f k = q at *
      obtain ⟨qo, ql, qa, qd⟩ := q
      simp only at z0 z1 z2 z3 y0 y1 y2 y3
      have d0 : decide ((k : Int) < (np : Int)) = true := by simp; omega
      go_wp2_with fail
      go_quiet (fail)
      go_wp2
      go_roundw
      case rel => exact ⟨k + 1, nd + nq, by omega, rfl, by go_num, by simp⟩
      case measure => simp [intOf]; omega
    · by_cases hl2 : k < np + 8
      · obtain ⟨z0, z1, z2, z3⟩ := (zP_elem (k := k) HO4.out).2 (by omega) hl2
        have hge : np ≤ k := by omega
        have d0 : decide (k < np) = false := by simp; omega
        have d1 : decide ((k : Int) < (np : Int)) = false := by simp; omega
        clear hlt HSv
        go_wp2_with fail
        go_quiet (fail)
        go_wp2
        go_roundw
        case rel => exact ⟨k + 1, nd + nq, by omega, rfl, by go_num, by simp⟩
        case measure => simp [intOf]; omega
      · obtain rfl : k = np + 8 := by omega
        have HB5 : Hid (Below w.heap.size w (w4.drewN nd)) := below_drewN HB4.out nd
        have HP5 : Hid ((w4.drewN nd).ownsRow w.heap.size 5 1 (.slice a3 X.size q3) X.size (Lib.strCells X)) := ownsRow_below HP4.out (below_drewN (Below.refl _ _) nd)
        have HO5 : Hid ((w4.drewN nd).ownsRow w.heap.size 43 4 (.slice (some ⟨w.heap.size + 1, 0, none⟩) (np + 8) (np + 8)) (np + 8) (partCells f np ++ rows zP 8)) := ownsRow_mono (ownsRow_below HO4.out (below_drewN (Below.refl _ _) nd)) (by omega)
        have hz5 : w.heap.size ≤ (w4.drewN nd).heap.size := HB5.out.size
        clear HB4 HP4 HO4 k9 HSv
        generalize w4.drewN nd = w5 at *
        go_wp2_with fail
        refine (keep_any B hs ⟨w5.heap.size, 0, .slice a3 X.size q3, X.size, .slice (some ⟨w.heap.size + 1, 0, none⟩) (np + 8) (np + 8), np + 8, .slice none 0 0, 0, .slice none 0 0, 0, .slice none 0 0, 0, .slice none 0 0, 0⟩ (Lib.strCells X) (partCells f np ++ rows zP 8) [] [] [] [] w _ HI.out (HB5.out.alloc hz5 _) ⟨hz5, heap_alloc_new w5 _, by show 0 ≤ _; omega, HP5.out.alloc _, HO5.out.alloc _, World.ownsRow_nil _ _ _ _, World.ownsRow_nil _ _ _ _, World.ownsRow_nil _ _ _ _, World.ownsRow_nil _ _ _ _, by show X.size ≤ _; omega, by show np + 8 ≤ _; omega, by show 0 ≤ _; omega, by show 0 ≤ _; omega, by show 0 ≤ _; omega, by show 0 ≤ _; omega⟩ hlen (by show (X.size + 3) * 1 ≤ _; omega) (by show (np + 8 + 3) * 40 ≤ _; omega) (by show (0 + 3) * 8 ≤ _; omega) (by show (0 + 3) * 24 ≤ _; omega) (by show (0 + 3) * 32 ≤ _; omega) (by show (0 + 3) * 8 ≤ _; omega)).mono ?_
        rintro e w6 ⟨rfl, ⟨hs', hI6, hl6⟩, hb6⟩
        have H6 : Hid (Inv B w6 hs' ∧ hs'.length ≤ hs.length + 4 ∧ Below B w w6) := ⟨hI6, by omega, hb6⟩
        clear hI6 hl6 hb6 HI HB5 HP5 HO5
        go_wp2
        go_ret
        exact ⟨rfl, ⟨hs', H6.out.1, H6.out.2.1⟩, H6.out.2.2⟩
end Go.Proofs.YthphojdnbfghmaaGreat
