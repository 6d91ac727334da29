import Derived.Test.YthphojdnbfghmaaGreatLooks
import Derived.Test.YthphojdnbfghmaaGreatUnpack
import Derived.Test.YthphojdnbfghmaaGreatPmath
namespace Go.Proofs.YthphojdnbfghmaaGreat
open Go.RowKit

def zP (_i : Nat) : List Value := [.int .i64 0, .int .i64 0, .int .i64 0, .string ⟨#[]⟩]
theorem rows_ext {el : Nat → List Value} {size : Nat} (hsz : 0 < size) (h : ∀ i, (el i).length = size) (n : Nat) (l : List Value) (hl : l.length = n * size) (hg : ∀ j, j < n * size → l[j]? = (el (j / size))[j % size]?) : l = rows el n := by
  apply List.ext_getElem?
  intro j
  by_cases hj : j < n * size
  · have h1 : j / size < n := Nat.div_lt_of_lt_mul (by rw [Nat.mul_comm]; exact hj)
    have h2 : j % size < size := Nat.mod_lt _ hsz
    have h3 := rows_get h n (j / size) (j % size) h1 h2
    rw [Nat.mul_comm, Nat.div_add_mod] at h3
    rw [hg j hj, h3]
  · rw [List.getElem?_eq_none (by omega), List.getElem?_eq_none (by rw [rows_length h]; omega)]
theorem made_parts (n : Nat) : (madeCells #[.int .i64 0, .int .i64 0, .int .i64 0, .string ⟨#[]⟩] (n * 4)).toList = rows zP n := by
  refine rows_ext (size := 4) (by decide) (fun _ => rfl) n _ (by rw [Array.length_toList, size_madeCells]) (fun j hj => ?_)
  have h4 : j % 4 < 4 := Nat.mod_lt _ (by decide)
  simp only [madeCells, Array.toList_map, List.getElem?_map, Array.toList_range, List.getElem?_range hj, Option.map_some, zP]
  have : ∀ r, r < 4 → some ((#[.int .i64 0, .int .i64 0, .int .i64 0, .string ⟨#[]⟩] : Array Value)[r % 4]!) = ([.int .i64 0, .int .i64 0, .int .i64 0, .string ⟨#[]⟩] : List Value)[r]? := by
    intro r hr
    match r, hr with
    | 0, _ => rfl
    | 1, _ => rfl
    | 2, _ => rfl
    | 3, _ => rfl
  have h5 := this (j % 4) h4
  rw [Nat.mod_mod] at h5
  exact h5
theorem rows_append {el : Nat → List Value} (m : Nat) : ∀ n, rows el (m + n) = rows el m ++ rows (fun i => el (m + i)) n
  | 0 => by simp [rows]
  | n + 1 => by rw [← Nat.add_assoc, rows, rows_append m n, rows, List.append_assoc]

/-- copy of parts into the head of a row of one's own -/
theorem run_copy_parts (w : World) (ty : TypeId) (g dLen dCap : Nat) (sv : Value) (n : Nat) (f : Nat → PartR) (cur : Array Value) (hg : w.heap[g]? = some (.cells cur 43 (0, 0))) (hs : SeesParts w sv n f) (hn : n ≤ dLen) (hfit : n * 4 ≤ cur.size) :
    ∃ w', (Builtin.copy_ #[28, 28] ty #[.slice (some ⟨g, 0, none⟩) dLen dCap, sv]).run Tryz.prog w = .ok (goInt n) w' ∧ w'.heap[g]? = some (.cells (partCells f n ++ cur.toList.drop (n * 4)).toArray 43 (0, 0)) ∧ w.grownBy w' (some g) := by
  obtain ⟨i, hi, hz0, hz1, hz2⟩ := info_parts info_part
  have hmin : Nat.min n dLen = n := Nat.min_eq_left hn
  rcases hs with ⟨rfl, p, cap, rfl⟩ | ⟨b, o, cap, rfl, hb, hP⟩
  · refine ⟨w, ?_, ?_, ⟨rfl, rfl, rfl, Nat.le_refl _, fun _ _ _ => rfl⟩⟩
    · cases p with
      | none => simp [Builtin.copy_, run_underlying Tryz.underlying28, Builtin.lenOf, Builtin.firstCells, sizeOf, typeInfo, hi, storeCells]
      | some a => simp [Builtin.copy_, run_underlying Tryz.underlying28, Builtin.lenOf, Builtin.firstCells, sizeOf, typeInfo, hi, storeCells, loadCells, loadCellsFrom]
    · simpa [partCells] using hg
  · have hcs : ∀ j v, (partCells f n)[j]? = some v → w.cell? ((⟨b, o, none⟩ : Addr).add j) = some v := by
      intro j v hv
      have hj : j < n * 4 := by rw [← partCells_length f n]; exact (List.getElem?_eq_some_iff.1 hv).1
      have hadd : (⟨b, o, none⟩ : Addr).add j = ⟨b, o + j, none⟩ := by unfold Addr.add; split <;> simp_all
      have h1 : j / 4 < n := by omega
      have h2 : j % 4 < 4 := Nat.mod_lt _ (by decide)
      have h3 := partCells_get f n (j / 4) (j % 4) h1 h2
      rw [Nat.mul_comm, Nat.div_add_mod, hv] at h3
      obtain ⟨c0, c1, c2, c3⟩ := hP (j / 4) h1
      rw [hadd, show o + j = o + j / 4 * 4 + j % 4 by omega]
      generalize j % 4 = r at *
      match r, h2, h3 with
      | 0, _, h3 => rw [Nat.add_zero, c0]; exact h3.symm
      | 1, _, h3 => rw [c1]; exact h3.symm
      | 2, _, h3 => rw [c2]; exact h3.symm
      | 3, _, h3 => rw [c3]; exact h3.symm
    have hf := run_firstCells_some (P := Tryz.prog) w 4 n ⟨b, o, none⟩ n cap (partCells f n) (partCells_length f n) hcs
    have h1c : ∀ u ∈ partCells f n, u.oneCell' = true := by
      intro u hu
      clear hf hcs hP hb hmin hfit hn
      induction n with
      | zero => simp [partCells] at hu
      | succ n ih =>
        rw [partCells, List.mem_append] at hu
        rcases hu with hu | hu
        · exact ih hu
        · simp [partL] at hu
          rcases hu with rfl | rfl | rfl | rfl <;> rfl
    have hst := run_storeCells_at Tryz.prog g 0 43 (partCells f n) 0 cur w hg (by rw [partCells_length]; omega) h1c
    simp only [Nat.add_zero, Nat.zero_add, List.take_zero, List.nil_append] at hst
    refine ⟨_, ?_, setRow_heap w g cur _ 43 _ hg, ⟨rfl, rfl, rfl, by simp [World.setRow], fun k _ hk => setRow_other w g k _ (fun e => hk (by simp [e]))⟩⟩
    have hpl := partCells_length f n
    simp [Builtin.copy_, run_underlying Tryz.underlying28, Builtin.lenOf, sizeOf, typeInfo, hi, hz1, Nat.min_eq_left hn, hf, hst, hpl]

/-- what 'make' and 'copy' of parts do -/
theorem parts_worlds (sv : Value) (n : Nat) (f : Nat → PartR) (w : World) (hn : n * 40 ≤ 140737488351232) (hs : SeesParts w sv n f) :
    ∃ W1 W2 : World, (Instr.makeSlice 28 (.int .i64 ((n : Int) + 8)) (.int .i64 ((n : Int) + 8))).run Tryz.prog w = .ok (.slice (some ⟨w.heap.size, 0, none⟩) (n + 8) (n + 8)) W1 ∧
      (Builtin.copy_ #[28, 28] 3 #[.slice (some ⟨w.heap.size, 0, none⟩) (n + 8) (n + 8), sv]).run Tryz.prog W1 = .ok (goInt n) W2 ∧
      W2.ownsRow w.heap.size 43 4 (.slice (some ⟨w.heap.size, 0, none⟩) (n + 8) (n + 8)) (n + 8) (partCells f n ++ rows zP 8) ∧ Below w.heap.size w W2 ∧ w.heap.size < W2.heap.size ∧ Below w.heap.size w W1 := by
  obtain ⟨i, hi, hz0, hz1, hz2⟩ := info_parts info_part
  have h1 := run_make (P := Tryz.prog) w 28 43 i _ Tryz.underlying28 hi hz0 .i64 .i64 ((n : Int) + 8) ((n : Int) + 8) (by omega) (by omega) (by rw [hz2]; omega) (by omega)
  rw [show ((n : Int) + 8).toNat = n + 8 by omega, hz1] at h1
  have hsw := hs.below (Nat.le_refl _) ((Below.refl w.heap.size w).alloc (Nat.le_refl _) (.cells (madeCells (Value.cells (.agg #[.int .i64 0, .int .i64 0, .int .i64 0, .string ⟨#[]⟩])) ((n + 8) * 4)) 43))
  obtain ⟨W2, h2, h3, h4⟩ := run_copy_parts _ 3 w.heap.size (n + 8) (n + 8) sv n f _ (heap_alloc_new w _) hsw (by omega) (by rw [size_madeCells]; omega)
  refine ⟨_, W2, h1, h2, ?_, ?_, ?_, (Below.refl _ _).alloc (Nat.le_refl _) _⟩
  · have hm : (madeCells (Value.cells (.agg #[.int .i64 0, .int .i64 0, .int .i64 0, .string ⟨#[]⟩])) ((n + 8) * 4)).toList = rows zP (n + 8) := made_parts (n + 8)
    have hd : (rows zP (n + 8)).drop (n * 4) = rows zP 8 := by
      rw [rows_append n 8, List.drop_append_of_le_length (by rw [rows_length (size := 4) (fun _ => rfl)]; omega), List.drop_of_length_le (by rw [rows_length (size := 4) (fun _ => rfl)]; omega), List.nil_append]
      rfl
    rw [hm, hd] at h3
    have hl : (partCells f n ++ rows zP 8).length = (n + 8) * 4 := by rw [List.length_append, partCells_length, rows_length (size := 4) (fun _ => rfl)]; omega
    refine ⟨hl, Or.inr ⟨w.heap.size, n + 8, _, rfl, Nat.le_refl _, h3, Nat.le_refl _, by unfold maxLen; omega, ?_, ?_⟩⟩
    · rw [List.size_toArray, hl]
    · rw [← hl]
      exact List.take_length
  · exact ((Below.refl _ _).alloc (Nat.le_refl _) _).grown h4 (by simp) (fun k hk => by injection hk; omega)
  · have := h4.size
    simp at this
    omega
/-- bytes of one's own as a string -/
theorem conv_own {W : World} {lo : Nat} {v : Value} {s : ByteArray} (h : W.ownsRow lo 5 1 v s.size (Lib.strCells s)) : (convert 27 9 v).run Tryz.prog W = .ok (.string s) W := by
  have hE : s.extract 0 s.size = s := by
    apply ls_inj
    rw [ls_extract, List.drop_zero, List.take_of_length_le (by rw [ls_length]; omega)]
  rcases h.2 with ⟨rfl, h0⟩ | ⟨g, cap, cur, rfl, _⟩
  · rw [run_convert_bytes_nil W 27 5 Tryz.underlying27 Tryz.underlying5 0 0 9 Tryz.underlying9]
    have : s = ByteArray.empty := by
      apply ls_inj
      have : (ls s).length = 0 := by rw [ls_length]; exact h0
      exact (List.eq_nil_of_length_eq_zero this).trans rfl
    rw [this]
  · have h1 := run_convert_bytes_arg (P := Tryz.prog) W 27 5 Tryz.underlying27 Tryz.underlying5 g 0 s.size cap ((List.range s.size).map fun j => dby s (0 + j)) (by simp) (fun i hi => by
      rw [List.getD_eq_getElem?_getD, List.getElem?_map, List.getElem?_range hi, Nat.zero_add]
      refine own_cell h i _ ?_
      have hj' : i < (ls s).length := by rw [ls_length]; exact hi
      show ((ls s).map fun b => Value.int .u8 b.toNat)[i]? = _
      rw [List.getElem?_map, List.getElem?_eq_getElem hj']
      simp [dby, List.getElem?_eq_getElem hj']) 9 Tryz.underlying9
    rw [h1, strOfNums_extract s 0 s.size (by omega), Nat.zero_add, hE]
end Go.Proofs.YthphojdnbfghmaaGreat
