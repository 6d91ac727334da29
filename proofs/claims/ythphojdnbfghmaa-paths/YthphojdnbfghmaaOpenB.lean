import Derived.Test.YthphojdnbfghmaaSigned
import Derived.ProofKit
import Derived.OpenShut
import Derived.ShutString
import Derived.ChangeOld
import Derived.Deep.Slices
import Derived.SizedLaws
namespace Go.Proofs.Ythphojdnbfghmaa
open Go.ChangeShapes Go.WideShapes Go.ChangeAt Go.RowKit

/-- a list of bytes that came in -/
theorem bytes_read {H : Type} {enc : TypeId × Value → H} {W : World} {v : Value} {d : DataW H} {p : List MemPlace} (hv : ∃ a l c, v = .slice a l c)
    (h : DataW.Trod enc Try.prog W 0 (fun _ => true) true 22 v d p) (hz : ∀ n ∈ d.weights Try.prog 22, n ≤ reachBytes) : ∃ l : List UInt8, SeesBytes W v l ∧ l.length ≤ 140737488351232 := by
  obtain ⟨ao, len0, cap0, rfl⟩ := hv
  obtain ⟨fuel, hf⟩ := h
  rcases Go.Deep.open_slice1 Try.underlying22 (by kernel_rfl) hf with ⟨hcs, _⟩ | ⟨a, len, cap, m, n, V, D, Pl, hcs, _, hl, hm, hmm, hx, hel⟩
  · simp [Value.cells] at hcs
    obtain ⟨rfl, rfl, rfl⟩ := hcs
    exact ⟨[], Or.inl ⟨⟨_, _, rfl⟩, rfl⟩, by simp⟩
  · simp [Value.cells] at hcs
    obtain ⟨rfl, rfl, rfl⟩ := hcs
    have hmm' : len0 ≤ m := by rw [hmm]; split <;> omega
    by_cases h0 : len0 = 0
    · subst h0
      exact ⟨[], Or.inl ⟨⟨_, _, rfl⟩, rfl⟩, by simp⟩
    · obtain ⟨b, off, spot⟩ := a
      have hc0 := (hel 0 (by omega)).1
      have hadd : ∀ i, (⟨b, off, none⟩ : Addr).add i = ⟨b, off + i, none⟩ := fun i => by unfold Addr.add; split <;> simp_all
      have hspot : spot = none := by
        have h14 : (⟨b, off, spot⟩ : Addr).add 0 = ⟨b, off, spot⟩ := by simp [Addr.add]
        rw [h14] at hc0
        exact World.cell?_spot hc0
      subst hspot
      rw [hadd] at hc0
      have hbl : b < W.heap.size := World.block_lt_of_cell? W _ hc0
      have hV : ∀ i, i < len0 → ∃ x : Int, V i = .int .u8 x ∧ 0 ≤ x ∧ x ≤ 255 := by
        intro i hi
        obtain ⟨x, hx1, _, hw⟩ := DataW.trod_int Try.underlying5 (hel i (by omega)).2
        exact ⟨x, by simpa using hx1, Go.bounds_u8 hw⟩
      refine ⟨(List.range len0).map fun i => byt (match V i with | .int _ x => x | _ => 0), Or.inr ⟨b, off, cap0, hbl, by simp, fun j hj => ?_⟩, ?_⟩
      · simp at hj
        obtain ⟨x, hx1, hx2, hx3⟩ := hV j hj
        have hc := (hel j (by omega)).1
        rw [hadd, hx1] at hc
        rw [hc]
        simp [hj, hx1, byt_toNat x hx2 hx3]
      · have hd := (Prod.mk.inj hx).1
        have hb : Try.prog.bytesOf 5 = 1 := by kernel_rfl
        have := hz (((List.range len0).map D).length * 1 + ((List.range (m - len0)).map fun j => D (len0 + j)).length * 1) (by
          rw [hd]
          simp only [DataW.weights, Try.underlying22, hb, List.mem_cons]
          left
          omega)
        simp [reachBytes] at this
        simp
        omega
end Go.Proofs.Ythphojdnbfghmaa
