import Derived.Test.YthphojdnbfghmaaGreatDigests
import Derived.ProofKit
import Derived.OpenShut
import Derived.ShutString
import Derived.ChangeOld
import Derived.Deep.Slices
import Derived.SizedLaws
namespace Go.Proofs.YthphojdnbfghmaaGreat
open Go.ChangeShapes Go.WideShapes Go.ChangeAt Go.RowKit

theorem cellsOp : Tryz.prog.cellsOf 61 = 13 := by kernel_rfl
theorem cellsInt : Tryz.prog.cellsOf 3 = 1 := by kernel_rfl
theorem cellsStr : Tryz.prog.cellsOf 9 = 1 := by kernel_rfl
theorem cellsInts : Tryz.prog.cellsOf 49 = 1 := by kernel_rfl
theorem cellsBool : Tryz.prog.cellsOf 4 = 1 := by kernel_rfl
theorem cellsMan : Tryz.prog.cellsOf 30 = 2 := by kernel_rfl
theorem cellsParts : Tryz.prog.cellsOf 28 = 1 := by kernel_rfl

theorem list13 {l : List Value} (h : l.length = 13) : ∃ a0 a1 a2 a3 a4 a5 a6 a7 a8 a9 a10 a11 a12, l = [a0, a1, a2, a3, a4, a5, a6, a7, a8, a9, a10, a11, a12] := by
  match l, h with
  | [a0, a1, a2, a3, a4, a5, a6, a7, a8, a9, a10, a11, a12], _ => exact ⟨_, _, _, _, _, _, _, _, _, _, _, _, _, rfl⟩

theorem weightsAll_mem {H : Type} {P : Program} {e : TypeId} {d : DataW H} {n : Nat} (hn : n ∈ d.weights P e) : ∀ {l : List (DataW H)}, d ∈ l → n ∈ DataW.weightsAll P e l
  | x :: r, h => by
    simp only [DataW.weightsAll, List.mem_append]
    rcases List.mem_cons.1 h with rfl | h
    · exact Or.inl hn
    · exact Or.inr (weightsAll_mem hn h)

/-- a step read: its cells -/
theorem op_read {H : Type} {enc : TypeId × Value → H} {w : World} {base : Nat} {spare : Nat → Bool} {held : Bool} {fuel : Nat} {cs : List Value} {x : DataW H × List MemPlace}
    (h : DataW.trod enc Tryz.prog w base spare held fuel 61 cs = some x) (hz : ∀ n ∈ x.1.weights Tryz.prog 61, n ≤ reachBytes) : ∃ o : OpV, cs = o.cells.toList ∧ o.ok := by
  obtain ⟨xs, n, _, rfl, hlen, hxs, hf⟩ := DataW.trod_struct Tryz.underlying61 h
  have hstr : ∀ (i : Nat) (y : DataW H × List MemPlace) (bytes : List UInt8) (t : TypeId), xs[i]? = some y → y.1 = .lit (.string bytes) → ([3, 9, 9, 9, 3, 3, 3, 49, 30, 4, 4, 9] : List TypeId)[i]? = some t → bytes.length ≤ 140737488351232 := by
    intro i y bytes t hy hb ht
    refine hz _ ?_
    simp only [DataW.weights, Tryz.underlying61]
    refine DataW.weights_mem_each (j := i) (t := t) (d := .lit (.string bytes)) ht ?_ _ (by simp [DataW.weights])
    rw [List.getElem?_map, hy, Option.map_some, hb]
  rw [cellsOp] at hlen
  obtain ⟨a0, a1, a2, a3, a4, a5, a6, a7, a8, a9, a10, a11, a12, rfl⟩ := list13 hlen
  have hx : ∀ i, i < 12 → ∃ y, xs[i]? = some y := fun i hi => ⟨_, List.getElem?_eq_getElem (by rw [hxs]; exact hi)⟩
  obtain ⟨y0, e0⟩ := hx 0 (by omega)
  obtain ⟨y1, e1⟩ := hx 1 (by omega)
  obtain ⟨y2, e2⟩ := hx 2 (by omega)
  obtain ⟨y3, e3⟩ := hx 3 (by omega)
  obtain ⟨y4, e4⟩ := hx 4 (by omega)
  obtain ⟨y5, e5⟩ := hx 5 (by omega)
  obtain ⟨y6, e6⟩ := hx 6 (by omega)
  obtain ⟨y8, e8⟩ := hx 8 (by omega)
  obtain ⟨y9, e9⟩ := hx 9 (by omega)
  obtain ⟨y10, e10⟩ := hx 10 (by omega)
  obtain ⟨y11, e11⟩ := hx 11 (by omega)
  have f0 : DataW.trod enc Tryz.prog w base spare held n 3 (List.take (Tryz.prog.cellsOf 3) (List.drop 0 [a0, a1, a2, a3, a4, a5, a6, a7, a8, a9, a10, a11, a12])) = some y0 := (hf 0 _ rfl).trans e0
  have f1 : DataW.trod enc Tryz.prog w base spare held n 9 (List.take (Tryz.prog.cellsOf 9) (List.drop 1 [a0, a1, a2, a3, a4, a5, a6, a7, a8, a9, a10, a11, a12])) = some y1 := (hf 1 _ rfl).trans e1
  have f2 : DataW.trod enc Tryz.prog w base spare held n 9 (List.take (Tryz.prog.cellsOf 9) (List.drop 2 [a0, a1, a2, a3, a4, a5, a6, a7, a8, a9, a10, a11, a12])) = some y2 := (hf 2 _ rfl).trans e2
  have f3 : DataW.trod enc Tryz.prog w base spare held n 9 (List.take (Tryz.prog.cellsOf 9) (List.drop 3 [a0, a1, a2, a3, a4, a5, a6, a7, a8, a9, a10, a11, a12])) = some y3 := (hf 3 _ rfl).trans e3
  have f4 : DataW.trod enc Tryz.prog w base spare held n 3 (List.take (Tryz.prog.cellsOf 3) (List.drop 4 [a0, a1, a2, a3, a4, a5, a6, a7, a8, a9, a10, a11, a12])) = some y4 := (hf 4 _ rfl).trans e4
  have f5 : DataW.trod enc Tryz.prog w base spare held n 3 (List.take (Tryz.prog.cellsOf 3) (List.drop 5 [a0, a1, a2, a3, a4, a5, a6, a7, a8, a9, a10, a11, a12])) = some y5 := (hf 5 _ rfl).trans e5
  have f6 : DataW.trod enc Tryz.prog w base spare held n 3 (List.take (Tryz.prog.cellsOf 3) (List.drop 6 [a0, a1, a2, a3, a4, a5, a6, a7, a8, a9, a10, a11, a12])) = some y6 := (hf 6 _ rfl).trans e6
  have f8 : DataW.trod enc Tryz.prog w base spare held n 30 (List.take (Tryz.prog.cellsOf 30) (List.drop 8 [a0, a1, a2, a3, a4, a5, a6, a7, a8, a9, a10, a11, a12])) = some y8 := (hf 8 _ rfl).trans e8
  have f9 : DataW.trod enc Tryz.prog w base spare held n 4 (List.take (Tryz.prog.cellsOf 4) (List.drop 10 [a0, a1, a2, a3, a4, a5, a6, a7, a8, a9, a10, a11, a12])) = some y9 := (hf 9 _ rfl).trans e9
  have f10 : DataW.trod enc Tryz.prog w base spare held n 4 (List.take (Tryz.prog.cellsOf 4) (List.drop 11 [a0, a1, a2, a3, a4, a5, a6, a7, a8, a9, a10, a11, a12])) = some y10 := (hf 10 _ rfl).trans e10
  have f11 : DataW.trod enc Tryz.prog w base spare held n 9 (List.take (Tryz.prog.cellsOf 9) (List.drop 12 [a0, a1, a2, a3, a4, a5, a6, a7, a8, a9, a10, a11, a12])) = some y11 := (hf 11 _ rfl).trans e11
  simp only [cellsInt, cellsStr, cellsBool, cellsMan, List.drop_succ_cons, List.drop_zero, List.take_succ_cons, List.take_zero] at f0 f1 f2 f3 f4 f5 f6 f8 f9 f10 f11
  obtain ⟨kind, c0, _, _⟩ := DataW.trod_int Tryz.underlying3 f0
  obtain ⟨b, c1, q1, _⟩ := DataW.trod_string Tryz.underlying9 f1
  obtain ⟨s, c2, q2, _⟩ := DataW.trod_string Tryz.underlying9 f2
  obtain ⟨t, c3, q3, _⟩ := DataW.trod_string Tryz.underlying9 f3
  obtain ⟨nn, c4, _, wn⟩ := DataW.trod_int Tryz.underlying3 f4
  obtain ⟨cut, c5, _, _⟩ := DataW.trod_int Tryz.underlying3 f5
  obtain ⟨fuse, c6, _, _⟩ := DataW.trod_int Tryz.underlying3 f6
  obtain ⟨xs8, n8, _, _, hlen8, hxs8, hf8⟩ := DataW.trod_struct Tryz.underlying30 f8
  have g0 : DataW.trod enc Tryz.prog w base spare held n8 3 (List.take (Tryz.prog.cellsOf 3) (List.drop 0 [a8, a9])) = xs8[0]? := hf8 0 _ rfl
  rw [List.getElem?_eq_getElem (show 0 < xs8.length by rw [hxs8]; decide)] at g0
  simp only [cellsInt, List.drop_zero, List.take_succ_cons, List.take_zero] at g0
  obtain ⟨ver, c8, _, _⟩ := DataW.trod_int Tryz.underlying3 g0
  obtain ⟨made, c10, _⟩ := DataW.trod_bool Tryz.underlying4 f9
  obtain ⟨raw, c11, _⟩ := DataW.trod_bool Tryz.underlying4 f10
  obtain ⟨k, c12, q11, _⟩ := DataW.trod_string Tryz.underlying9 f11
  simp only [List.cons.injEq, and_true] at c0 c1 c2 c3 c4 c5 c6 c8 c10 c11 c12
  subst c0 c1 c2 c3 c4 c5 c6 c8 c10 c11 c12
  have hb := hstr 1 y1 _ 9 e1 (by rw [q1]) rfl
  have hs := hstr 2 y2 _ 9 e2 (by rw [q2]) rfl
  have ht := hstr 3 y3 _ 9 e3 (by rw [q3]) rfl
  have hk := hstr 11 y11 _ 9 e11 (by rw [q11]) rfl
  rw [Array.length_toList] at hb hs ht hk
  exact ⟨⟨kind, b, s, t, nn, cut, fuse, a7, ver, a9, made, raw, k⟩, rfl, hb, hs, ht, hk, by have := Go.bounds_i64 wn; omega⟩

/-- a script read: as it lies in memory -/
theorem script_read {H : Type} {enc : TypeId × Value → H} {W : World} {v : Value} {d : DataW H} {p : List MemPlace} (hv : ∃ a l c, v = .slice a l c)
    (h : DataW.Trod enc Tryz.prog W 0 (fun _ => true) true 22 v d p) (hz : ∀ n ∈ d.weights Tryz.prog 22, n ≤ reachBytes) : ∃ ops, Script W v ops ∧ ∀ o ∈ ops, o.ok := by
  obtain ⟨ao, len0, cap0, rfl⟩ := hv
  obtain ⟨fuel, hf⟩ := h
  rcases Go.Deep.open_slice Tryz.underlying22 hf with ⟨hcs, _⟩ | ⟨a, len, cap, m, n, D, Pl, hcs, _, hl, hm, hmm, hx, hel⟩
  · simp [Value.cells] at hcs
    obtain ⟨rfl, rfl, rfl⟩ := hcs
    exact ⟨[], Or.inl ⟨⟨_, _, rfl⟩, rfl⟩, by simp⟩
  · simp [Value.cells] at hcs
    obtain ⟨rfl, rfl, rfl⟩ := hcs
    rw [cellsOp] at hel
    have hmm' : len0 ≤ m := by rw [hmm]; split <;> omega
    have hch : ∀ i, i < len0 → ∃ o : OpV, o.ok ∧ ∀ j, j < 13 → W.cell? (a.add (i * 13 + j)) = o.cells[j]? := by
      intro i hi
      obtain ⟨cs', h1, h2⟩ := hel i (by omega)
      obtain ⟨o, rfl, hok⟩ := op_read h2 (fun nn hn => hz nn (by
        have hd := (Prod.mk.inj hx).1
        rw [hd]
        simp only [DataW.weights, Tryz.underlying22, List.mem_cons, List.mem_append]
        exact Or.inr (Or.inl (weightsAll_mem hn (List.mem_map.2 ⟨i, List.mem_range.2 hi, rfl⟩)))))
      obtain ⟨_, _, hc⟩ := World.cells?_some h1
      refine ⟨o, hok, fun j hj => ?_⟩
      have := hc j hj
      rw [Go.Deep.add_add] at this
      rw [this, Array.getElem?_toList]
    by_cases h0 : len0 = 0
    · subst h0
      exact ⟨[], Or.inl ⟨⟨_, _, rfl⟩, rfl⟩, by simp⟩
    · obtain ⟨o0, _, hc0⟩ := hch 0 (by omega)
      obtain ⟨b, off, spot⟩ := a
      have hadd : ∀ i, (⟨b, off, none⟩ : Addr).add i = ⟨b, off + i, none⟩ := fun i => by unfold Addr.add; split <;> simp_all
      have h13 := hc0 0 (by omega)
      have hspot : spot = none := by
        have h14 : (⟨b, off, spot⟩ : Addr).add (0 * 13 + 0) = ⟨b, off, spot⟩ := by simp [Addr.add]
        rw [h14] at h13
        exact World.cell?_spot (h13.trans rfl)
      subst hspot
      rw [hadd] at h13
      have hbl : b < W.heap.size := World.block_lt_of_cell? W _ (h13.trans rfl)
      have : Nonempty OpV := ⟨o0⟩
      obtain ⟨f, hfo⟩ : ∃ f : Nat → OpV, ∀ i, i < len0 → (f i).ok ∧ ∀ j, j < 13 → W.cell? ((⟨b, off, none⟩ : Addr).add (i * 13 + j)) = (f i).cells[j]? :=
        ⟨fun i => if hi : i < len0 then Classical.choose (hch i hi) else o0, fun i hi => by simp only [dif_pos hi]; exact Classical.choose_spec (hch i hi)⟩
      refine ⟨(List.range len0).map f, Or.inr ⟨b, off, cap0, by simp, hbl, by simp; unfold maxLen at hm; omega, ?_⟩, ?_⟩
      · intro i hi j hj
        simp at hi
        have := (hfo i hi).2 j hj
        rw [hadd] at this
        rw [Nat.add_assoc, this]
        simp
      · intro o ho
        obtain ⟨i, hi, rfl⟩ := List.mem_map.1 ho
        exact (hfo i (by simpa using hi)).1
end Go.Proofs.YthphojdnbfghmaaGreat
