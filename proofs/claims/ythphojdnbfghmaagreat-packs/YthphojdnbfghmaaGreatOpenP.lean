import Derived.Test.YthphojdnbfghmaaGreatOpen
import Derived.Test.YthphojdnbfghmaaGreatOpenM
import Derived.Test.YthphojdnbfghmaaGreatPacks2
namespace Go.Proofs.YthphojdnbfghmaaGreat
open Go.ChangeShapes Go.WideShapes Go.ChangeAt Go.RowKit

theorem bytesOp : Tryz.prog.bytesOf 61 = 160 := by kernel_rfl

/-- the parts of a step that was read -/
theorem op_parts {H : Type} {enc : TypeId × Value → H} {w : World} {spare : Nat → Bool} {held : Bool} {fuel : Nat} {o : OpV} {x : DataW H × List MemPlace}
    (h : DataW.trod enc Tryz.prog w 0 spare held fuel 61 o.cells.toList = some x) (hz : ∀ n ∈ x.1.weights Tryz.prog 61, n ≤ reachBytes) : PartsSeen w o := by
  obtain ⟨xs, n, _, rfl, hlen, hxs, hf⟩ := DataW.trod_struct Tryz.underlying61 h
  obtain ⟨y8, e8⟩ : ∃ y, xs[8]? = some y := ⟨_, List.getElem?_eq_getElem (by rw [hxs]; decide)⟩
  have f8 : DataW.trod enc Tryz.prog w 0 spare held n 30 (List.take (Tryz.prog.cellsOf 30) (List.drop 8 o.cells.toList)) = some y8 := (hf 8 _ rfl).trans e8
  rw [cellsMan] at f8
  have f8' : DataW.trod enc Tryz.prog w 0 spare held n 30 [.int .i64 o.ver, o.parts] = some y8 := f8
  obtain ⟨xs8, n8, _, hx8, hlen8, hxs8, hf8⟩ := DataW.trod_struct Tryz.underlying30 f8'
  obtain ⟨z1, e1⟩ : ∃ y, xs8[1]? = some y := ⟨_, List.getElem?_eq_getElem (by rw [hxs8]; decide)⟩
  have g1 : DataW.trod enc Tryz.prog w 0 spare held n8 28 (List.take (Tryz.prog.cellsOf 28) (List.drop 1 [.int .i64 o.ver, o.parts])) = some z1 := (hf8 1 _ rfl).trans e1
  rw [cellsParts] at g1
  have g1' : DataW.trod enc Tryz.prog w 0 spare held n8 28 [o.parts] = some z1 := g1
  obtain ⟨np, f, h1, h2⟩ := parts_read g1' (fun m hm => hz m (by
    simp only [DataW.weights, Tryz.underlying61]
    refine DataW.weights_mem_each (j := 8) (t := 30) (d := y8.1) rfl ?_ _ ?_
    · rw [List.getElem?_map, e8]
      rfl
    · rw [hx8]
      simp only [DataW.weights, Tryz.underlying30]
      refine DataW.weights_mem_each (j := 1) (t := 28) (d := z1.1) rfl ?_ _ hm
      rw [List.getElem?_map, e1]
      rfl))
  exact ⟨np, f, h1, h2⟩

/-- a script read: as it lies in memory, its parts seen -/
theorem script_read2 {H : Type} {enc : TypeId × Value → H} {W : World} {v : Value} {d : DataW H} {p : List MemPlace} (hv : ∃ a l c, v = .slice a l c)
    (h : DataW.Trod enc Tryz.prog W 0 (fun _ => true) true 22 v d p) (hz : ∀ n ∈ d.weights Tryz.prog 22, n ≤ reachBytes) : ∃ ops, Script W v ops ∧ ops.length ≤ 879609302200 ∧ (∀ o ∈ ops, o.ok) ∧ ∀ o ∈ ops, PartsSeen W o := by
  obtain ⟨ao, len0, cap0, rfl⟩ := hv
  obtain ⟨fuel, hf⟩ := h
  rcases Go.Deep.open_slice Tryz.underlying22 hf with ⟨hcs, _⟩ | ⟨a, len, cap, m, n, D, Pl, hcs, _, hl, hm, hmm, hx, hel⟩
  · simp [Value.cells] at hcs
    obtain ⟨rfl, rfl, rfl⟩ := hcs
    exact ⟨[], Or.inl ⟨⟨_, _, rfl⟩, rfl⟩, by show 0 ≤ _; omega, by simp, by simp⟩
  · simp [Value.cells] at hcs
    obtain ⟨rfl, rfl, rfl⟩ := hcs
    rw [cellsOp] at hel
    have hmm' : len0 ≤ m := by rw [hmm]; split <;> omega
    have hd := (Prod.mk.inj hx).1
    have hbd : len0 ≤ 879609302200 := by
      have := hz (((List.range len0).map D).length * 160 + ((List.range (m - len0)).map fun j => D (len0 + j)).length * 160) (by
        rw [hd]
        simp only [DataW.weights, Tryz.underlying22, bytesOp, List.mem_cons]
        left
        omega)
      simp [reachBytes] at this
      omega
    have hch : ∀ i, i < len0 → ∃ o : OpV, (o.ok ∧ PartsSeen W o) ∧ ∀ j, j < 13 → W.cell? (a.add (i * 13 + j)) = o.cells[j]? := by
      intro i hi
      obtain ⟨cs', h1, h2⟩ := hel i (by omega)
      have hzi : ∀ nn ∈ (D i).weights Tryz.prog 61, nn ≤ reachBytes := fun nn hn => hz nn (by
        rw [hd]
        simp only [DataW.weights, Tryz.underlying22, List.mem_cons, List.mem_append]
        exact Or.inr (Or.inl (weightsAll_mem hn (List.mem_map.2 ⟨i, List.mem_range.2 hi, rfl⟩))))
      obtain ⟨o, rfl, hok⟩ := op_read h2 hzi
      have hps := op_parts h2 hzi
      obtain ⟨_, _, hc⟩ := World.cells?_some h1
      refine ⟨o, ⟨hok, hps⟩, fun j hj => ?_⟩
      have := hc j hj
      rw [Go.Deep.add_add] at this
      rw [this, Array.getElem?_toList]
    by_cases h0 : len0 = 0
    · subst h0
      exact ⟨[], Or.inl ⟨⟨_, _, rfl⟩, rfl⟩, by show 0 ≤ _; omega, by simp, by simp⟩
    · obtain ⟨o0, _, hc0⟩ := hch 0 (by omega)
      obtain ⟨b, off, spot⟩ := a
      have hadd : ∀ i, (⟨b, off, none⟩ : Addr).add i = ⟨b, off + i, none⟩ := fun i => by unfold Addr.add; split <;> simp_all
      have h13 := hc0 0 (by omega)
      have hspot : spot = none := by
        have h14 : (⟨b, off, spot⟩ : Addr).add (0 * 13 + 0) = ⟨b, off, spot⟩ := by simp [Addr.add]
        rw [h14] at h13
        exact World.cell?_spot (h13.trans rfl)
      subst hspot
      rw [hadd] at h13
      have hbl : b < W.heap.size := World.block_lt_of_cell? W _ (h13.trans rfl)
      have : Nonempty OpV := ⟨o0⟩
      obtain ⟨f, hfo⟩ : ∃ f : Nat → OpV, ∀ i, i < len0 → ((f i).ok ∧ PartsSeen W (f i)) ∧ ∀ j, j < 13 → W.cell? ((⟨b, off, none⟩ : Addr).add (i * 13 + j)) = (f i).cells[j]? :=
        ⟨fun i => if hi : i < len0 then Classical.choose (hch i hi) else o0, fun i hi => by simp only [dif_pos hi]; exact Classical.choose_spec (hch i hi)⟩
      refine ⟨(List.range len0).map f, Or.inr ⟨b, off, cap0, by simp, hbl, by simp; unfold maxLen at hm; omega, ?_⟩, by simpa using hbd, ?_, ?_⟩
      · intro i hi j hj
        simp at hi
        have := (hfo i hi).2 j hj
        rw [hadd] at this
        rw [Nat.add_assoc, this]
        simp
      · intro o ho
        obtain ⟨i, hi, rfl⟩ := List.mem_map.1 ho
        exact (hfo i (by simpa using hi)).1.1
      · intro o ho
        obtain ⟨i, hi, rfl⟩ := List.mem_map.1 ho
        exact (hfo i (by simpa using hi)).1.2
end Go.Proofs.YthphojdnbfghmaaGreat
