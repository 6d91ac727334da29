import Derived.Test.YthphojdnbfghmaaGreatChain
import Derived.Deep.MidRow
import Derived.Deep.OwnRows
namespace Go.Proofs.YthphojdnbfghmaaGreat
open Go.RowKit

theorem info_ends : (Tryz.prog.info? 157).map (·.size) = some 18 := by kernel_rfl
theorem size_str (w : World) : (Go.sizeOf 9).run Tryz.prog w = .ok 1 w := by
  have h : (Tryz.prog.info? 9).map (·.size) = some 1 := by kernel_rfl
  obtain ⟨i, hi, h⟩ := Option.map_eq_some_iff.1 h
  simp [Go.sizeOf, typeInfo, hi, h]
/-- strings, as an array's cells -/
def strs (e : List ByteArray) : List Value := e.map Value.string
theorem strs_length (e : List ByteArray) : (strs e).length = e.length := by simp [strs]
theorem strs_get (e : List ByteArray) (k : Nat) (hk : k < e.length) : (strs e)[k]? = some (.string e[k]) := by
  simp [strs, hk]
theorem index_ends (e : List ByteArray) (he : e.length = 18) (k : Nat) (hk : k < e.length) (w : World) : (Instr.index 157 (.agg (strs e).toArray) (.int .i64 (k : Int))).run Tryz.prog w = .ok (.string e[k]) w := by
  have hg := strs_get e k hk
  have hi : k < 18 := by omega
  simp [Instr.index, run_underlying Tryz.underlying157, asIntOf, hi, part, isAgg, run_underlying Tryz.underlying9, hg]

set_option maxHeartbeats 1000000 in
theorem leafNode_any (leaf : Int) (e : List ByteArray) (w : World) (hl : 0 ≤ leaf ∧ leaf ≤ 255) (he : e.length = 18) (h8 : ∀ s ∈ e, s.size = 8) :
    Calls Tryz.prog 101 #[.int .u8 leaf, .agg (strs e).toArray] w fun e' w' => e' = .returned (.string (leafN leaf e)) ∧ Below w.heap.size w w' := by
  have H8 := hid h8
  have HE := hid he
  clear h8 he
  go_enter Tryz.func101, Tryz.ntmps101
  go_wp2_with fail
  have hs := sees2 (w.alloc (Obj.cells (strs e).toArray 157)) 3 leaf 5 ⟨by omega, by omega⟩ hl
  rw [World.size_alloc] at hs
  refine (begin_any _ [byt 3, byt leaf] _ (by simp) hs).mono ?_
  rintro e' w1 ⟨rfl, hb1⟩
  clear hs
  have hr : w1.rangeAt w.heap.size 0 (strs e) := by
    intro j v hv
    rw [hb1.cell (p := ⟨w.heap.size, 0 + j, none⟩) (by simp; omega), World.cell?_alloc_lt _ _ _ (by simp), World.cell?_alloc_at _ _ _ _ rfl, Nat.zero_add]
    simpa using hv
  have hr' := fun o => World.rangeAt_alloc hr o
  have HB : Hid (Below w.heap.size w w1) := newB (newB hb1)
  have hz : w.heap.size + 2 ≤ w1.heap.size := by have := hb1.size; simpa using this
  clear hb1 hr
  go_wp2_with (refine wpList_load_mid rfl 157 _ rfl w.heap.size 0 rfl (strs e) _ (hr' _) Tryz.underlying157 rfl (by rw [strs_length, HE.out]; exact info_ends) ?_)
  go_loopw [12] (fun i wr => ∃ k : Nat, k ≤ 18 ∧ i = .int .i64 k ∧ wr.cell? ⟨w1.heap.size, 0, none⟩ = some (.int .u64 (kx (kx kinit [byt 3, byt leaf]) (lss (e.take k)))) ∧ wr.cell? ⟨w1.heap.size, 1, none⟩ = some (.int .u64 (2 + 8 * k)) ∧
      wr.frozen? ⟨w1.heap.size, 0, none⟩ = false ∧ wr.frozen? ⟨w1.heap.size, 1, none⟩ = false ∧ w1.heap.size < wr.heap.size ∧ Below w.heap.size w wr) (fun i _ => 18 - (intOf i).toNat)
  case atStart => exact ⟨0, by omega, rfl, by simp [go_sem, lss, kx], by simp [go_sem], by simp [go_sem], by simp [go_sem], by simp, HB.out.alloc (by omega) _⟩
  case round =>
    obtain ⟨k, hk, rfl, h0, h1, f0, f1, hz1, hbr⟩ := hrel
    by_cases hlt : k < 18
    · have hke : k < e.length := by rw [HE.out]; exact hlt
      have hidx := index_ends e HE.out k hke
      obtain ⟨s, hs⟩ : ∃ s, s = e[k] := ⟨_, rfl⟩
      have hs8 : s.size = 8 := by rw [hs]; exact H8.out _ (List.getElem_mem hke)
      have HK : Hid (lss (e.take (k + 1)) = lss (e.take k) ++ ls s) := by
        rw [hs, List.take_succ_eq_append_getElem hke, lss_append, lss_one]; exact rfl
      rw [← hs] at hidx
      clear hs hr'
      obtain ⟨x, hx⟩ : ∃ x, x = kx (kx kinit [byt 3, byt leaf]) (lss (e.take k)) := ⟨_, rfl⟩
      rw [← hx] at h0
      have HX := hid hx
      clear hx
      go_wp2_with fail
      refine (text_any _ _ s _ ⟨by omega, by omega⟩ (by omega)).mono ?_
      rintro e' w2 ⟨rfl, hb2⟩
      have e0 : w2.cell? ⟨w1.heap.size, 0, none⟩ = some (.int .u64 x) := (hb2.cell (p := ⟨w1.heap.size, 0, none⟩) hz1).trans h0
      have e1 : w2.cell? ⟨w1.heap.size, 1, none⟩ = some (.int .u64 (2 + 8 * k)) := (hb2.cell (p := ⟨w1.heap.size, 1, none⟩) hz1).trans h1
      have e2 : w2.frozen? ⟨w1.heap.size, 0, none⟩ = false := (hb2.frozen (p := ⟨w1.heap.size, 0, none⟩) hz1).trans f0
      have e3 : w2.frozen? ⟨w1.heap.size, 1, none⟩ = false := (hb2.frozen (p := ⟨w1.heap.size, 1, none⟩) hz1).trans f1
      have HB2 : Hid (Below w.heap.size w w2) := keepB hbr hb2
      have hz2 : w1.heap.size < w2.heap.size := by have := hb2.size; omega
      clear hb2 hbr h0 h1 f0 f1 hidx hz1
      go_wp2
      go_roundw
      case rel =>
        refine ⟨k + 1, by omega, by go_num, ?_, ?_, ?_, ?_, ?_, ?_⟩
        · rw [HK.out, kx_append, ← HX.out]
          simp [go_sem, e0]
          rfl
        · simp [go_sem, e1]; omega
        · simp [go_sem, e2]
        · simp [go_sem, e3]
        · simpa using hz2
        · exact (HB2.out.setCell (by simp; omega) _).setCell (by simp; omega) _
      case measure => simp [intOf]; omega
    · obtain rfl : k = 18 := by omega
      clear hr'
      have ht : e.take 18 = e := List.take_of_length_le (by rw [HE.out]; omega)
      rw [ht] at h0
      clear ht
      go_wp2_with fail
      refine (end_any _ _ _).mono ?_
      rintro e' w2 ⟨rfl, hb2⟩
      have HB2 : Hid (Below w.heap.size w w2) := keepB hbr hb2
      clear hb2 hbr
      have hlen : (lss e).length = 144 := lss_length e 18 HE.out H8.out
      have hd : dstr (kfin (kx (kx kinit [byt 3, byt leaf]) (lss e)) (2 + 8 * 18)) = leafN leaf e := by
        rw [leafN, ← dig_two, hlen]; rfl
      have HD := hid hd
      clear hd
      go_wp2
      go_ret
      exact ⟨by rw [← HD.out]; rfl, HB2.out⟩

/-- a row of n strings of the call's own -/
def StrRow (w : World) (B n : Nat) (f : Nat → ByteArray) : Prop :=
  (∀ j, j < n → w.cell? ⟨B, j, none⟩ = some (.string (f j))) ∧ (∀ j, w.frozen? ⟨B, j, none⟩ = false) ∧ B < w.heap.size ∧ ∃ C t fz, w.heap[B]? = some (.cells C t fz) ∧ t ≠ 5
/-- a store leaves a row a row -/
theorem lab_set {w : World} {B : Nat} (a : Addr) (v : Value) (h : ∃ C t fz, w.heap[B]? = some (.cells C t fz) ∧ t ≠ 5) : ∃ C t fz, (w.setCell a v).heap[B]? = some (.cells C t fz) ∧ t ≠ 5 := by
  obtain ⟨C, t, fz, h1, h2⟩ := h
  by_cases e : a.block = B
  · obtain ⟨ab, ao, asp⟩ := a
    simp only at e
    subst e
    cases asp with
    | none => exact ⟨_, t, fz, by simp [World.setCell, Array.getElem?_modify, h1]; rfl, h2⟩
    | some _ => exact ⟨C, t, fz, by simp [World.setCell, Array.getElem?_modify, h1], h2⟩
  · exact ⟨C, t, fz, by rw [Below.heap_setCell _ _ _ _ (fun e' => e e'.symm)]; exact h1, h2⟩
theorem lab_below {w w1 : World} {B : Nat} (hB : B < w.heap.size) (hb : Below w.heap.size w w1) (h : ∃ C t fz, w.heap[B]? = some (.cells C t fz) ∧ t ≠ 5) : ∃ C t fz, w1.heap[B]? = some (.cells C t fz) ∧ t ≠ 5 := by
  obtain ⟨C, t, fz, h1, h2⟩ := h
  exact ⟨C, t, fz, (hb.block B hB).trans h1, h2⟩
/-- the first k filled -/
def fill (g : Nat → ByteArray) (k : Nat) (j : Nat) : ByteArray := if j < k then g j else ⟨#[]⟩
theorem fill_all (g : Nat → ByteArray) (k j : Nat) (h : j < k) : fill g k j = g j := if_pos h
theorem StrRow.put {w : World} {B n k : Nat} {g : Nat → ByteArray} (h : StrRow w B n (fill g k)) (hk : k < n) : StrRow (w.setCell ⟨B, k, none⟩ (.string (g k))) B n (fill g (k + 1)) := by
  obtain ⟨h1, h2, h3, h4⟩ := h
  refine ⟨fun j hj => ?_, fun j => ?_, ?_, lab_set _ _ h4⟩
  · by_cases e : j = k
    · subst e
      rw [World.cell?_setCell_same _ _ _ (h1 j hj), fill, if_pos (by omega)]
    · rw [World.cell?_setCell_other _ _ _ _ (fun e' => by injection e'; omega), h1 j hj, fill, fill]
      have : (j < k + 1) = (j < k) := by apply propext; omega
      simp only [this]
  · rw [World.frozen?_setCell]; exact h2 j
  · simpa using h3
theorem StrRow.below {w w1 : World} {B n : Nat} {f : Nat → ByteArray} (h : StrRow w B n f) (hb : Below w.heap.size w w1) : StrRow w1 B n f :=
  ⟨fun j hj => (hb.cell (p := ⟨B, j, none⟩) h.2.2.1).trans (h.1 j hj), fun j => (hb.frozen (p := ⟨B, j, none⟩) h.2.2.1).trans (h.2.1 j), by have := hb.size; have := h.2.2.1; omega, lab_below h.2.2.1 hb h.2.2.2⟩
theorem StrRow.range {w : World} {B n : Nat} {f : Nat → ByteArray} (h : StrRow w B n f) : w.rangeAt B 0 (strs ((List.range n).map f)) := by
  intro j v hv
  have hj : j < n := by
    have := (List.getElem?_eq_some_iff.1 hv).1
    simpa [strs] using this
  rw [Nat.zero_add, h.1 j hj]
  simpa [strs, hj] using hv

theorem new_row (w : World) (t : TypeId) (C : Array Value) (n : Nat) (g : Nat → ByteArray) (hC : C = Array.replicate n (.string ⟨#[]⟩)) (ht : t ≠ 5) : StrRow (w.alloc (.cells C t)) w.heap.size n (fill g 0) := by
  refine ⟨fun j hj => ?_, fun j => by simp [go_sem], by simp, C, t, (0, 0), heap_alloc_new w _, ht⟩
  rw [World.cell?_alloc_at _ _ _ _ rfl, hC]
  simp [hj, fill]

set_option maxHeartbeats 1000000 in
theorem seedLeafNode_any (seed : ByteArray) (leaf : Int) (w : World) (hs : seed.size ≤ 4611686018427387904) (hl : 0 ≤ leaf ∧ leaf ≤ 255) :
    Calls Tryz.prog 80 #[.string seed, .int .u8 leaf] w fun e' w' => e' = .returned (.string (nod seed 0 leaf)) ∧ Below w.heap.size w w' := by
  go_enter Tryz.func80, Tryz.ntmps80
  go_wp2
  go_loopw [7] (fun i wr => ∃ k : Nat, k ≤ 18 ∧ i = .int .i64 k ∧ StrRow wr w.heap.size 18 (fill (fun c => lnk seed leaf (c : Int) 15) k) ∧ Below w.heap.size w wr) (fun i _ => 18 - (intOf i).toNat)
  case atStart => exact ⟨0, by omega, rfl, new_row _ _ _ _ _ rfl (by decide), (Below.refl _ _).alloc (Nat.le_refl _) _⟩
  case round =>
    obtain ⟨k, hk, rfl, hR, hbr⟩ := hrel
    by_cases hlt : k < 18
    · go_wp2_with fail
      refine (seedLink_any seed leaf _ 15 _ hs hl ⟨by omega, by omega⟩ ⟨by omega, by omega⟩).mono ?_
      rintro e' w2 ⟨rfl, hb2⟩
      have hR2 := hR.below hb2
      have c0 := hR2.1 k hlt
      have f0 := hR2.2.1 k
      have HB2 : Hid (Below w.heap.size w w2) := keepB hbr hb2
      clear hb2 hbr hR
      generalize fill (fun c => lnk seed leaf (c : Int) 15) k k = old at c0
      go_wp2
      go_roundw
      case rel => exact ⟨k + 1, by omega, by go_num, hR2.put hlt, HB2.out.setCell (by simp) _⟩
      case measure => simp [intOf]; omega
    · obtain rfl : k = 18 := by omega
      have hr := hR.range
      have HE : Hid ((List.range 18).map (fill (fun c => lnk seed leaf (c : Int) 15) 18) = endsOf seed leaf 18) := by
        refine List.map_congr_left fun j hj => ?_
        exact fill_all _ _ _ (List.mem_range.1 hj)
      rw [HE.out] at hr
      have h18 : (endsOf seed leaf 18).length = 18 := by simp [endsOf]
      have H18 := hid h18
      have H8 : Hid (∀ s ∈ endsOf seed leaf 18, s.size = 8) := by
        intro s hs'
        obtain ⟨c, _, rfl⟩ := List.mem_map.1 hs'
        exact lnk_size _ _ _ _
      clear hR h18
      go_wp2_with (refine wpList_load_mid rfl 157 _ rfl w.heap.size 0 rfl (strs (endsOf seed leaf 18)) _ hr Tryz.underlying157 rfl (by rw [strs_length, H18.out]; exact info_ends) ?_)
      refine (leafNode_any leaf _ _ hl H18.out H8.out).mono ?_
      rintro e' w2 ⟨rfl, hb2⟩
      have HB2 : Hid (Below w.heap.size w w2) := keepB hbr hb2
      clear hb2 hbr hr
      go_wp2
      go_ret
      exact ⟨rfl, HB2.out⟩
end Go.Proofs.YthphojdnbfghmaaGreat
