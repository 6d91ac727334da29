import Derived.Test.YthphojdnbfghmaaGreatLaw
namespace Go.Proofs.YthphojdnbfghmaaGreat
open Go.RowKit

/-- what a script owes: as it lies in memory, nil or not -/
def Script (w : World) (v : Value) (ops : List OpV) : Prop := ((∃ ao cap, v = .slice ao 0 cap) ∧ ops = []) ∨ ∃ b off cap : Nat, v = .slice (some ⟨b, off, none⟩) ops.length cap ∧ b < w.heap.size ∧ ops.length ≤ 9223372036854775807 ∧ ScriptAt w b off ops

theorem upto_any (v : Value) (ops : List OpV) (least last : Int) (w : World) (hs : Script w v ops) (hst : ∀ o ∈ ops, least ≤ o.kind → o.kind ≤ last → StepOk o) :
    Calls Tryz.prog 12 #[v, .int .i64 least, .int .i64 last] w fun e w' => e = .returned (.int .i64 (-1)) ∧ Below w.heap.size w w' := by
  rcases hs with ⟨⟨ao, cap, rfl⟩, rfl⟩ | ⟨b, off, cap, rfl, hb, hl, hs⟩
  · exact upto_none ao cap least last w
  · exact upto_some ops least last b off cap w hl hb hs hst

theorem Script.below {w w1 : World} {v : Value} {ops : List OpV} (h : Script w v ops) (hb : Below w.heap.size w w1) : Script w1 v ops := by
  rcases h with h | ⟨b, off, cap, h1, h2, h3, h4⟩
  · exact Or.inl h
  · exact Or.inr ⟨b, off, cap, h1, by have := hb.size; omega, h3, fun i hi j hj => (hb.cell (p := ⟨b, _, none⟩) h2).trans (h4 i hi j hj)⟩

set_option maxHeartbeats 400000 in
theorem digests_walk (v : Value) (ops : List OpV) (w : World) (hs : Script w v ops) (hok : ∀ o ∈ ops, o.ok) :
    Calls Tryz.prog 3 #[v] w fun e w' => e = .returned (.bool true) ∧ Below w.heap.size w w' := by
  have hst : ∀ o : OpV, o.ok → 1 ≤ o.kind → o.kind ≤ 1 → StepOk o := fun o h a b => stepOk_digest o h (by omega)
  have HST := hid hst
  have HOK := hid hok
  clear hst hok
  go_enter Tryz.func3, Tryz.ntmps3
  go_wp2_with fail
  refine (example_any 1 _ HST.out).mono ?_
  rintro e w1 ⟨rfl, hb1⟩
  have hs1 := hs.below hb1
  have HB := hid hb1
  clear hb1 hs
  go_wp2_with fail
  refine (upto_any v ops 1 1 _ hs1 (fun o ho => HST.out o (HOK.out o ho))).mono ?_
  rintro e w2 ⟨rfl, hb2⟩
  have HB2 : Hid (Below w.heap.size w w2) := HB.out.trans (hb2.mono HB.out.size)
  clear hb2 hs1 HB
  go_wp2
  go_ret
  exact ⟨by simp, HB2.out⟩

end Go.Proofs.YthphojdnbfghmaaGreat
