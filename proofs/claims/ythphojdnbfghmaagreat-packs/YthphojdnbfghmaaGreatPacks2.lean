import Derived.Test.YthphojdnbfghmaaGreatPacks
namespace Go.Proofs.YthphojdnbfghmaaGreat
open Go.RowKit

theorem upto2_len (n : Nat) (ops : List OpV) (hn : n = ops.length) (least last : Int) (b off cap : Nat) (w : World) (hlen : ops.length ≤ 879609302200) (hb : b < w.heap.size) (hs : ScriptAt w b off ops) (hps : ∀ o ∈ ops, PartsSeen w o) (hst : ∀ o ∈ ops, least ≤ o.kind → o.kind ≤ last → StepOk2 o) :
    Calls Tryz.prog 12 #[.slice (some ⟨b, off, none⟩) n cap, .int .i64 least, .int .i64 last] w fun e w' => e = .returned (.int .i64 (-1)) ∧ Below w.heap.size w w' := by
  subst hn
  exact upto2_some ops least last b off cap w hlen hb hs hps hst
theorem upto2_any (v : Value) (ops : List OpV) (least last : Int) (w : World) (hs : Script w v ops) (hlen : ops.length ≤ 879609302200) (hps : ∀ o ∈ ops, PartsSeen w o) (hst : ∀ o ∈ ops, least ≤ o.kind → o.kind ≤ last → StepOk2 o) :
    Calls Tryz.prog 12 #[v, .int .i64 least, .int .i64 last] w fun e w' => e = .returned (.int .i64 (-1)) ∧ Below w.heap.size w w' := by
  rcases hs with ⟨⟨ao, cap, rfl⟩, rfl⟩ | ⟨b, off, cap, rfl, hb, hl, hs⟩
  · exact upto_none ao cap least last w
  · exact upto2_some ops least last b off cap w hlen hb hs hps hst
theorem exOps_parts (p : ByteArray) (parts : Value) : ∀ o ∈ exOps p parts, o.parts = .slice none 0 0 ∨ o.parts = parts := by
  intro o ho
  simp only [exOps, List.mem_cons, List.not_mem_nil, or_false] at ho
  rcases ho with rfl | rfl | rfl | rfl | rfl | rfl | rfl <;> first | exact Or.inl rfl | exact Or.inr rfl

set_option maxRecDepth 100000 in
set_option maxHeartbeats 1000000 in
theorem example2_any (last : Int) (w : World) (h6 : last ≤ 6) :
    Calls Tryz.prog 11 #[.int .i64 last] w fun e w' => e = .returned (.bool true) ∧ Below w.heap.size w w' := by
  go_enter Tryz.func11, Tryz.ntmps11
  go_wp2_with fail
  refine (ref_any _ _ (by decide)).mono ?_
  rintro e w1 ⟨rfl, hb1⟩
  generalize hd : dig _ = d
  have hd8 : d.size = 8 := by rw [← hd]; exact dig_size _
  clear hd
  go_wp2_with fail
  refine (pack_one d _ _ hd8 (by simp; omega) (by simp [go_sem]) (by simp [go_sem]) (by simp [go_sem]) (by simp [go_sem])).mono ?_
  rintro e w2 ⟨⟨p, hp, rfl⟩, hb2⟩
  have hz2 : w1.heap.size + 1 < w2.heap.size := by have := hb2.size; simp at this; omega
  have HB : Hid (Below w.heap.size w w2) := ((hb1.alloc hb1.size _).alloc (by have := hb1.size; simp; omega) _).trans (hb2.mono (by have := hb1.size; simp; omega))
  have e0 : w2.cell? ⟨w1.heap.size + 1, 0, none⟩ = some (.int .i64 258) := (hb2.cell (p := ⟨w1.heap.size + 1, 0, none⟩) (by simp)).trans (by simp [go_sem])
  have e1 : w2.cell? ⟨w1.heap.size + 1, 1, none⟩ = some (.slice (some ⟨w1.heap.size, 0, none⟩) 1 1) := (hb2.cell (p := ⟨w1.heap.size + 1, 1, none⟩) (by simp)).trans (by simp [go_sem])
  have p0 : w2.cell? ⟨w1.heap.size, 0, none⟩ = some (.int .i64 188) := (hb2.cell (p := ⟨w1.heap.size, 0, none⟩) (by simp; omega)).trans (by simp [go_sem])
  have p1 : w2.cell? ⟨w1.heap.size, 1, none⟩ = some (.int .i64 4) := (hb2.cell (p := ⟨w1.heap.size, 1, none⟩) (by simp; omega)).trans (by simp [go_sem])
  have p2 : w2.cell? ⟨w1.heap.size, 2, none⟩ = some (.int .i64 1) := (hb2.cell (p := ⟨w1.heap.size, 2, none⟩) (by simp; omega)).trans (by simp [go_sem])
  have p3 : w2.cell? ⟨w1.heap.size, 3, none⟩ = some (.string d) := (hb2.cell (p := ⟨w1.heap.size, 3, none⟩) (by simp; omega)).trans (by simp [go_sem])
  have HPS : Hid (SeesParts w2 (.slice (some ⟨w1.heap.size, 0, none⟩) 1 1) 1 (fun _ => ⟨188, 4, 1, d⟩)) := Or.inr ⟨w1.heap.size, 0, 1, rfl, by omega, fun j hj => by
    obtain rfl : j = 0 := by omega
    exact ⟨p0, p1, p2, p3⟩⟩
  clear hb1 hb2 p0 p1 p2 p3
  go_wp2_with fail
  refine (upto2_len 7 (exOps p (.slice (some ⟨w1.heap.size, 0, none⟩) 1 1)) rfl 1 last w2.heap.size 0 7 _ (by show 7 ≤ _; omega) (by simp) ?_ ?_ (fun o ho h1 h2 => stepOk2_six o (exOps_ok _ _ hp o ho) h1 (by omega))).mono ?_
  · intro i h j hj
    rw [World.cell?_alloc_at _ _ _ _ rfl, ← flat_cells _ i h j hj, ← Array.getElem?_toList, Nat.zero_add]
    rfl
  · intro o ho
    rcases exOps_parts _ _ o ho with h | h
    · exact ⟨0, fun _ => ⟨0, 0, 0, ⟨#[]⟩⟩, by rw [h]; exact Or.inl ⟨rfl, _, _, rfl⟩, by omega⟩
    · exact ⟨1, _, by rw [h]; exact HPS.out.below (Nat.le_refl _) ((Below.refl _ _).alloc (Nat.le_refl _) _), by omega⟩
  rintro e w3 ⟨rfl, hb3⟩
  have HB3 : Hid (Below w.heap.size w w3) := (HB.out.alloc (by have := HB.out.size; omega) _).trans (hb3.mono (by have := HB.out.size; simp; omega))
  clear hb3
  go_wp2
  go_ret
  exact ⟨by simp, HB3.out⟩

set_option maxHeartbeats 400000 in
theorem packs_walk (v : Value) (ops : List OpV) (w : World) (hs : Script w v ops) (hlen : ops.length ≤ 879609302200) (hok : ∀ o ∈ ops, o.ok) (hps : ∀ o ∈ ops, PartsSeen w o) :
    Calls Tryz.prog 5 #[v] w fun e w' => e = .returned (.bool true) ∧ Below w.heap.size w w' := by
  have HOK := hid hok
  have HPS := hid hps
  clear hok hps
  go_enter Tryz.func5, Tryz.ntmps5
  go_wp2_with fail
  refine (example2_any 6 _ (by omega)).mono ?_
  rintro e w1 ⟨rfl, hb1⟩
  have hs1 := hs.below hb1
  have HB := hid hb1
  clear hb1 hs
  go_wp2_with fail
  refine (upto2_any v ops 5 6 _ hs1 hlen (fun o ho => (HPS.out o ho).below (Nat.le_refl _) HB.out) (fun o ho h5 h6 => stepOk2_six o (HOK.out o ho) (by omega) h6)).mono ?_
  rintro e w2 ⟨rfl, hb2⟩
  have HB2 : Hid (Below w.heap.size w w2) := HB.out.trans (hb2.mono HB.out.size)
  clear hb2 hs1 HB
  go_wp2
  go_ret
  exact ⟨by simp, HB2.out⟩
end Go.Proofs.YthphojdnbfghmaaGreat
