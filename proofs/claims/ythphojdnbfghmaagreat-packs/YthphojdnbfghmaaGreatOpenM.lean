import Derived.Test.YthphojdnbfghmaaGreatUnpack
import Derived.ProofKit
import Derived.OpenShut
import Derived.ShutString
import Derived.ChangeOld
import Derived.Deep.Slices
import Derived.SizedLaws
namespace Go.Proofs.YthphojdnbfghmaaGreat
open Go.ChangeShapes Go.WideShapes Go.ChangeAt Go.RowKit

theorem pcells : Tryz.prog.cellsOf 43 = 4 := by kernel_rfl
theorem pcellsInt : Tryz.prog.cellsOf 3 = 1 := by kernel_rfl
theorem pcellsStr : Tryz.prog.cellsOf 9 = 1 := by kernel_rfl
theorem pbytes : Tryz.prog.bytesOf 43 = 40 := by kernel_rfl

theorem list4 {l : List Value} (h : l.length = 4) : ∃ a0 a1 a2 a3, l = [a0, a1, a2, a3] := by
  match l, h with
  | [a0, a1, a2, a3], _ => exact ⟨_, _, _, _, rfl⟩
/-- a part that came in -/
theorem part_read {H : Type} {enc : TypeId × Value → H} {w : World} {base : Nat} {spare : Nat → Bool} {held : Bool} {fuel : Nat} {cs : List Value} {x : DataW H × List MemPlace}
    (h : DataW.trod enc Tryz.prog w base spare held fuel 43 cs = some x) : ∃ p : PartR, cs = partL p := by
  obtain ⟨xs, n, _, rfl, hlen, hxs, hf⟩ := DataW.trod_struct Tryz.underlying43 h
  rw [pcells] at hlen
  obtain ⟨a0, a1, a2, a3, rfl⟩ := list4 hlen
  have hx : ∀ i, i < 4 → ∃ y, xs[i]? = some y := fun i hi => ⟨_, List.getElem?_eq_getElem (by rw [hxs]; exact hi)⟩
  obtain ⟨y0, e0⟩ := hx 0 (by omega)
  obtain ⟨y1, e1⟩ := hx 1 (by omega)
  obtain ⟨y2, e2⟩ := hx 2 (by omega)
  obtain ⟨y3, e3⟩ := hx 3 (by omega)
  have f0 : DataW.trod enc Tryz.prog w base spare held n 3 (List.take (Tryz.prog.cellsOf 3) (List.drop 0 [a0, a1, a2, a3])) = some y0 := (hf 0 _ rfl).trans e0
  have f1 : DataW.trod enc Tryz.prog w base spare held n 3 (List.take (Tryz.prog.cellsOf 3) (List.drop 1 [a0, a1, a2, a3])) = some y1 := (hf 1 _ rfl).trans e1
  have f2 : DataW.trod enc Tryz.prog w base spare held n 3 (List.take (Tryz.prog.cellsOf 3) (List.drop 2 [a0, a1, a2, a3])) = some y2 := (hf 2 _ rfl).trans e2
  have f3 : DataW.trod enc Tryz.prog w base spare held n 9 (List.take (Tryz.prog.cellsOf 9) (List.drop 3 [a0, a1, a2, a3])) = some y3 := (hf 3 _ rfl).trans e3
  simp only [pcellsInt, pcellsStr, List.drop_succ_cons, List.drop_zero, List.take_succ_cons, List.take_zero] at f0 f1 f2 f3
  obtain ⟨x0, c0, _, _⟩ := DataW.trod_int Tryz.underlying3 f0
  obtain ⟨x1, c1, _, _⟩ := DataW.trod_int Tryz.underlying3 f1
  obtain ⟨x2, c2, _, _⟩ := DataW.trod_int Tryz.underlying3 f2
  obtain ⟨x3, c3, _, _⟩ := DataW.trod_string Tryz.underlying9 f3
  simp only [List.cons.injEq, and_true] at c0 c1 c2 c3
  subst c0 c1 c2 c3
  exact ⟨⟨x0, x1, x2, x3⟩, rfl⟩

/-- a list of parts that came in -/
theorem parts_read {H : Type} {enc : TypeId × Value → H} {W : World} {spare : Nat → Bool} {held : Bool} {fuel : Nat} {v : Value} {x : DataW H × List MemPlace}
    (h : DataW.trod enc Tryz.prog W 0 spare held fuel 28 [v] = some x) (hz : ∀ n ∈ x.1.weights Tryz.prog 28, n ≤ reachBytes) : ∃ n f, SeesParts W v n f ∧ n * 40 ≤ 140737488351232 := by
  rcases Go.Deep.open_slice Tryz.underlying28 h with ⟨hcs, _⟩ | ⟨a, len, cap, m, n, D, Pl, hcs, _, hl, hm, hmm, hx, hel⟩
  · simp only [List.cons.injEq, and_true] at hcs
    subst hcs
    exact ⟨0, fun _ => ⟨0, 0, 0, ⟨#[]⟩⟩, Or.inl ⟨rfl, _, _, rfl⟩, by omega⟩
  · simp only [List.cons.injEq, and_true] at hcs
    subst hcs
    rw [pcells] at hel
    have hmm' : len ≤ m := by rw [hmm]; split <;> omega
    have hbd : len * 40 ≤ 140737488351232 := by
      have hd := (Prod.ext_iff.1 hx).1
      have := hz (((List.range len).map D).length * 40 + ((List.range (m - len)).map fun j => D (len + j)).length * 40) (by
        rw [hd]
        simp only [DataW.weights, Tryz.underlying28, pbytes, List.mem_cons]
        left
        omega)
      simp [reachBytes] at this
      omega
    by_cases h0 : len = 0
    · subst h0
      exact ⟨0, fun _ => ⟨0, 0, 0, ⟨#[]⟩⟩, Or.inl ⟨rfl, _, _, rfl⟩, by omega⟩
    · have hch : ∀ i, i < len → ∃ p : PartR, ∀ j, j < 4 → W.cell? (a.add (i * 4 + j)) = (partL p)[j]? := by
        intro i hi
        obtain ⟨cs', h1, h2⟩ := hel i (by omega)
        obtain ⟨p, rfl⟩ := part_read h2
        obtain ⟨_, _, hc⟩ := World.cells?_some h1
        refine ⟨p, fun j hj => ?_⟩
        have := hc j hj
        rw [Go.Deep.add_add] at this
        exact this
      obtain ⟨p0, hc0⟩ := hch 0 (by omega)
      obtain ⟨b, off, spot⟩ := a
      have hadd : ∀ i, (⟨b, off, none⟩ : Addr).add i = ⟨b, off + i, none⟩ := fun i => by unfold Addr.add; split <;> simp_all
      have h13 := hc0 0 (by omega)
      have hspot : spot = none := by
        have h14 : (⟨b, off, spot⟩ : Addr).add (0 * 4 + 0) = ⟨b, off, spot⟩ := by simp [Addr.add]
        rw [h14] at h13
        exact World.cell?_spot (h13.trans rfl)
      subst hspot
      rw [hadd] at h13
      have hbl : b < W.heap.size := World.block_lt_of_cell? W _ (h13.trans rfl)
      refine ⟨len, fun i => if hi : i < len then Classical.choose (hch i hi) else p0, Or.inr ⟨b, off, cap, rfl, hbl, fun j hj => ?_⟩, hbd⟩
      have hs := Classical.choose_spec (hch j hj)
      simp only [dif_pos hj]
      generalize Classical.choose (hch j hj) = q at *
      have hs' : ∀ i, i < 4 → W.cell? ⟨b, off + j * 4 + i, none⟩ = (partL q)[i]? := fun i hi => by
        rw [Nat.add_assoc, ← hadd]
        exact hs i hi
      exact ⟨hs' 0 (by omega), hs' 1 (by omega), hs' 2 (by omega), hs' 3 (by omega)⟩

/-- a list of bytes that came in, its capacity told -/
theorem bytes_readB {H : Type} {enc : TypeId × Value → H} {W : World} {v : Value} {d : DataW H} {p : List MemPlace} (hv : ∃ a l c, v = .slice a l c)
    (h : DataW.Trod enc Tryz.prog W 0 (fun _ => true) true 27 v d p) (hz : ∀ n ∈ d.weights Tryz.prog 27, n ≤ reachBytes) : ∃ s : ByteArray, SeesB W v s ∧ s.size ≤ 140737488351232 := by
  obtain ⟨ao, len0, cap0, rfl⟩ := hv
  obtain ⟨fuel, hf⟩ := h
  rcases Go.Deep.open_slice1 Tryz.underlying27 (by kernel_rfl) hf with ⟨hcs, _⟩ | ⟨a, len, cap, m, n, V, D, Pl, hcs, _, hl, hm, hmm, hx, hel⟩
  · simp [Value.cells] at hcs
    obtain ⟨rfl, rfl, rfl⟩ := hcs
    exact ⟨⟨#[]⟩, Or.inl ⟨⟨_, _, rfl, fun _ => rfl⟩, rfl⟩, by decide⟩
  · simp [Value.cells] at hcs
    obtain ⟨rfl, rfl, rfl⟩ := hcs
    have hmm' : len0 ≤ m := by rw [hmm]; split <;> omega
    by_cases h0 : len0 = 0
    · subst h0
      exact ⟨⟨#[]⟩, Or.inl ⟨⟨_, _, rfl, fun h => by cases h⟩, rfl⟩, by decide⟩
    · obtain ⟨b, off, spot⟩ := a
      have hc0 := (hel 0 (by omega)).1
      have hadd : ∀ i, (⟨b, off, none⟩ : Addr).add i = ⟨b, off + i, none⟩ := fun i => by unfold Addr.add; split <;> simp_all
      have hspot : spot = none := by
        have h14 : (⟨b, off, spot⟩ : Addr).add 0 = ⟨b, off, spot⟩ := by simp [Addr.add]
        rw [h14] at hc0
        exact World.cell?_spot hc0
      subst hspot
      rw [hadd] at hc0
      have hbl : b < W.heap.size := World.block_lt_of_cell? W _ hc0
      have hV : ∀ i, i < len0 → ∃ x : Int, V i = .int .u8 x ∧ 0 ≤ x ∧ x ≤ 255 := by
        intro i hi
        obtain ⟨x, hx1, _, hw⟩ := DataW.trod_int Tryz.underlying5 (hel i (by omega)).2
        exact ⟨x, by simpa using hx1, Go.bounds_u8 hw⟩
      obtain ⟨s, hs⟩ : ∃ s : ByteArray, s = strOfNums ((List.range len0).map fun i => (match V i with | .int _ x => x | _ => 0)) := ⟨_, rfl⟩
      have hsz : s.size = len0 := by rw [hs, strOfNums_size]; simp
      refine ⟨s, Or.inr ⟨b, off, cap0, hbl, by omega, by unfold maxLen at hm; omega, by rw [hsz], fun j hj => ?_⟩, ?_⟩
      · rw [hsz] at hj
        obtain ⟨x, hx1, hx2, hx3⟩ := hV j hj
        have hc := (hel j (by omega)).1
        rw [hadd, hx1] at hc
        rw [hc]
        have : dby s j = x := by
          unfold dby
          rw [hs, ls_nums, List.getElem?_map, List.getElem?_map, List.getElem?_range hj]
          simp [hx1, byt_toNat x hx2 hx3]
        rw [this]
      · have hd := (Prod.mk.inj hx).1
        have hb : Tryz.prog.bytesOf 5 = 1 := by kernel_rfl
        have := hz (((List.range len0).map D).length * 1 + ((List.range (m - len0)).map fun j => D (len0 + j)).length * 1) (by
          rw [hd]
          simp only [DataW.weights, Tryz.underlying27, hb, List.mem_cons]
          left
          omega)
        simp [reachBytes] at this
        omega
end Go.Proofs.YthphojdnbfghmaaGreat
