import Derived.Test.YthphojdnbfghmaaGreatKeep
namespace Go.Proofs.YthphojdnbfghmaaGreat
open Go.RowKit

set_option maxHeartbeats 1000000 in
theorem looks_any (B : Nat) (hs : List HoldD) (w : World) (I : Inv B w hs) (hlen : hs.length ≤ 1152921504606846976) :
    Calls Tryz.prog 25 #[.pointer (some ⟨B, 0, none⟩)] w fun e w' => e = .returned (.bool true) ∧ ∃ nd, w' = w.drewN nd := by
  obtain ⟨hv, hB, ho⟩ := I.blk
  obtain ⟨qa, qc, rfl⟩ := ownsRow_slice ho
  have b0 : w.cell? ⟨B, 0, none⟩ = some (.slice qa hs.length qc) := by rw [Lib.cell_of_heap hB]; rfl
  have HI := hid I.ok
  have HO := hid ho
  clear I ho hB
  go_enter Tryz.func25, Tryz.ntmps25
  go_wp2
  go_loopw [3] (fun x wr => ∃ k nd : Nat, k ≤ hs.length ∧ x = .int .i64 k ∧ wr = w.drewN nd) (fun x _ => hs.length - (intOf x).toNat)
  case atStart => exact ⟨0, 0, by omega, rfl, rfl⟩
  case round =>
    obtain ⟨k, nd, hk, rfl, rfl⟩ := hrel
    by_cases hlt : k < hs.length
    · obtain ⟨g, cp, hv, _, _⟩ := HO.out.form (by omega)
      injection hv with hv1 hv2 hv3
      subst hv1 hv3
      have z0 : w.cell? ⟨g, k, none⟩ = some (hptr (hs[k])) := own_cell HO.out k _ (by rw [List.getElem?_map, List.getElem?_eq_getElem hlt]; rfl)
      have HM := hid (HI.out (hs[k]) (List.getElem_mem hlt))
      generalize hs[k] = h at *
      unfold hptr at z0
      go_wp2_with fail
      refine (marked_any h (B + 1) _ (HoldX.drewN HM.out)).mono ?_
      rintro e w2 ⟨rfl, nd2, rfl⟩
      go_wp2
      go_roundw
      case rel => exact ⟨k + 1, nd + nd2, by omega, by go_num, by simp⟩
      case measure => simp [intOf]; omega
    · obtain rfl : k = hs.length := by omega
      go_wp2
      go_ret
      exact ⟨rfl, nd, rfl⟩
end Go.Proofs.YthphojdnbfghmaaGreat
