import Derived.Test.YthphojdnbfghmaaGreatMan
import Derived.Deep.DeepCutAuto
namespace Go.Proofs.YthphojdnbfghmaaGreat
open Go.RowKit

/-- a step of a script, as its cells hold it -/
structure OpV where
  kind : Int
  b : ByteArray
  s : ByteArray
  t : ByteArray
  n : Int
  cut : Int
  fuse : Int
  faults : Value
  ver : Int
  parts : Value
  made : Bool
  raw : Bool
  k : ByteArray
def OpV.cells (o : OpV) : Array Value := #[.int .i64 o.kind, .string o.b, .string o.s, .string o.t, .int .i64 o.n, .int .i64 o.cut, .int .i64 o.fuse, o.faults, .int .i64 o.ver, o.parts, .bool o.made, .bool o.raw, .string o.k]
/-- its strings are of a size that can be read; its numbers fit -/
def OpV.ok (o : OpV) : Prop := o.b.size ≤ 140737488351232 ∧ o.s.size ≤ 140737488351232 ∧ o.t.size ≤ 140737488351232 ∧ o.k.size ≤ 140737488351232 ∧ (-9223372036854775808 ≤ o.n ∧ o.n ≤ 9223372036854775807)

set_option maxHeartbeats 400000 in
theorem looks_none (B : Nat) (w : World) (h : w.cell? ⟨B, 0, none⟩ = some (.slice none 0 0)) :
    Calls Tryz.prog 25 #[.pointer (some ⟨B, 0, none⟩)] w fun e w' => e = .returned (.bool true) ∧ w' = w := by
  go_enter Tryz.func25, Tryz.ntmps25
  go_wp2
  refine wp_loop_rounds 1 ?_
  rw [rounds_succ]
  go_wp2
  go_ret
  exact ⟨rfl, rfl⟩

set_option maxHeartbeats 1000000 in
theorem step_digest (b s t k : ByteArray) (n cut fuse ver : Int) (faults parts : Value) (mk raw : Bool) (B : Nat) (w : World) (hl : b.size ≤ 140737488351232) :
    Calls Tryz.prog 24 #[.pointer (some ⟨B, 0, none⟩), .agg #[.int .i64 1, .string b, .string s, .string t, .int .i64 n, .int .i64 cut, .int .i64 fuse, faults, .int .i64 ver, parts, .bool mk, .bool raw, .string k]] w
      fun e w' => e = .returned (.bool true) ∧ Below w.heap.size w w' := by
  go_enter Tryz.func24, Tryz.ntmps24
  go_wp2_with fail
  refine (lent_any b _ hl).mono ?_
  rintro e w1 ⟨rfl, hL, hb1⟩
  have HB : Hid (Below w.heap.size w w1) := ((Below.refl _ _).alloc (Nat.le_refl _) _).trans (hb1.mono (by simp))
  have hz1 : w.heap.size + 1 < w1.heap.size := by have := hL.2.2.2; simpa using this
  have e1 : w1.cell? ⟨w.heap.size, 1, none⟩ = some (.string b) := (hb1.cell (p := ⟨w.heap.size, 1, none⟩) (by simp)).trans (by simp [go_sem])
  simp only [World.size_alloc] at hL
  clear hb1
  go_wp2_with fail
  refine (digest_any _ b.data.toList _ (by rw [Array.length_toList]; show b.size ≤ _; omega) hL.sees).mono ?_
  rintro e w2 ⟨rfl, hb2⟩
  have HB2 : Hid (Below w.heap.size w w2) := HB.out.trans (hb2.mono (by omega))
  have hz2 : w1.heap.size ≤ w2.heap.size := hb2.size
  have e2 : w2.cell? ⟨w.heap.size, 1, none⟩ = some (.string b) := (hb2.cell (p := ⟨w.heap.size, 1, none⟩) (show w.heap.size < w1.heap.size by omega)).trans e1
  have hL2 := hL.below hb2
  clear hb2 hL HB
  go_wp2_with fail
  refine (ref_any b _ (by omega)).mono ?_
  rintro e w3 ⟨rfl, hb3⟩
  have HB3 : Hid (Below w.heap.size w w3) := HB2.out.trans (hb3.mono (by omega))
  have hz3 : w2.heap.size ≤ w3.heap.size := hb3.size
  have e3 : w3.cell? ⟨w.heap.size, 1, none⟩ = some (.string b) := (hb3.cell (p := ⟨w.heap.size, 1, none⟩) (show w.heap.size < w2.heap.size by omega)).trans e2
  have hL3 := hL2.below hb3
  clear hb3 hL2 HB2
  go_wp2_with fail
  refine (still_any b _ _ hl hL3).mono ?_
  rintro e w4 ⟨rfl, hb4⟩
  have HB4 : Hid (Below w.heap.size w w4) := HB3.out.trans (hb4.mono (by omega))
  clear hb4 hL3 HB3
  go_wp2
  go_ret
  exact ⟨by simp, HB4.out⟩

/-- what a step owes -/
def StepOk (o : OpV) : Prop := ∀ (B : Nat) (W : World), W.cell? ⟨B, 0, none⟩ = some (.slice none 0 0) →
  Calls Tryz.prog 24 #[.pointer (some ⟨B, 0, none⟩), .agg o.cells] W fun e w' => e = .returned (.bool true) ∧ Below W.heap.size W w'

theorem stepOk_digest (o : OpV) (h : o.ok) (hk : o.kind = 1) : StepOk o := by
  intro B W _
  unfold OpV.cells
  rw [hk]
  exact step_digest _ _ _ _ _ _ _ _ _ _ _ _ B W h.1

/-- a script, as it lies in memory -/
def ScriptAt (w : World) (b off : Nat) (ops : List OpV) : Prop := ∀ i (h : i < ops.length), ∀ j, j < 13 → w.cell? ⟨b, off + i * 13 + j, none⟩ = (ops[i]).cells[j]?

set_option maxHeartbeats 1000000 in
theorem upto_some (ops : List OpV) (least last : Int) (b off cap : Nat) (w : World) (hlen : ops.length ≤ 9223372036854775807) (hb : b < w.heap.size) (hs : ScriptAt w b off ops) (hst : ∀ o ∈ ops, least ≤ o.kind → o.kind ≤ last → StepOk o) :
    Calls Tryz.prog 12 #[.slice (some ⟨b, off, none⟩) ops.length cap, .int .i64 least, .int .i64 last] w fun e w' => e = .returned (.int .i64 (-1)) ∧ Below w.heap.size w w' := by
  have HS := hid hst
  clear hst
  go_enter Tryz.func12, Tryz.ntmps12
  go_wp2
  go_loopw [8] (fun i wr => ∃ k : Nat, k ≤ ops.length ∧ i = .int .i64 k ∧ wr.cell? ⟨w.heap.size, 0, none⟩ = some (.slice none 0 0) ∧ Below w.heap.size w wr ∧ w.heap.size < wr.heap.size) (fun i _ => ops.length - (intOf i).toNat)
  case atStart => exact ⟨0, by omega, rfl, by simp [go_sem], (Below.refl _ _).alloc (Nat.le_refl _) _, by simp⟩
  case round =>
    obtain ⟨k, hk, rfl, h0, hbr, hz⟩ := hrel
    by_cases hlt : k < ops.length
    · have hcs : ∀ j, j < 13 → wr.cell? ⟨b, off + k * 13 + j, none⟩ = (ops[k]).cells[j]? := fun j hj => (hbr.cell (p := ⟨b, off + k * 13 + j, none⟩) hb).trans (hs k hlt j hj)
      have HC := hid hcs
      have c0 : wr.cell? ⟨b, off + k * 13, none⟩ = some (.int .i64 (ops[k]).kind) := hcs 0 (by omega)
      clear hcs
      obtain ⟨o, ho⟩ : ∃ o, o = ops[k] := ⟨_, rfl⟩
      have hmem : o ∈ ops := by rw [ho]; exact List.getElem_mem hlt
      rw [← ho] at c0 HC
      have HM := hid hmem
      clear ho hmem
      obtain ⟨kind, hkind⟩ : ∃ x, x = o.kind := ⟨_, rfl⟩
      rw [← hkind] at c0
      have HK := hid hkind
      clear hkind
      by_cases hlo : kind < least
      · clear HC HM HK
        go_wp2
        go_roundw
        case rel => exact ⟨k + 1, by omega, by go_num, h0, hbr, hz⟩
        case measure => simp [intOf]; omega
      · by_cases hhi : last < kind
        · clear HC HM HK
          go_wp2
          go_roundw
          case rel => exact ⟨k + 1, by omega, by go_num, h0, hbr, hz⟩
          case measure => simp [intOf]; omega
        · have c1 := HC.out 1 (by omega)
          have c2 := HC.out 2 (by omega)
          have c3 := HC.out 3 (by omega)
          have c4 := HC.out 4 (by omega)
          have c5 := HC.out 5 (by omega)
          have c6 := HC.out 6 (by omega)
          have c7 := HC.out 7 (by omega)
          have c8 := HC.out 8 (by omega)
          have c9 := HC.out 9 (by omega)
          have c10 := HC.out 10 (by omega)
          have c11 := HC.out 11 (by omega)
          have c12 := HC.out 12 (by omega)
          simp only [OpV.cells, List.getElem?_toArray, List.getElem?_cons_succ, List.getElem?_cons_zero] at c1 c2 c3 c4 c5 c6 c7 c8 c9 c10 c11 c12
          go_wp2_with fail
          have hst := HS.out o HM.out (by rw [← HK.out]; exact hlo) (by rw [← HK.out]; exact hhi) w.heap.size wr h0
          unfold OpV.cells at hst
          rw [← HK.out] at hst
          refine hst.mono ?_
          rintro e w1 ⟨rfl, hb1⟩
          have h1 : w1.cell? ⟨w.heap.size, 0, none⟩ = some (.slice none 0 0) := (hb1.cell (p := ⟨w.heap.size, 0, none⟩) hz).trans h0
          have HB : Hid (Below w.heap.size w w1) := hbr.trans (hb1.mono (by omega))
          have hz1 : w.heap.size < w1.heap.size := by have := hb1.size; omega
          clear hst hb1 hbr h0 hz c0 c1 c2 c3 c4 c5 c6 c7 c8 c9 c10 c11 c12 HC HM HK
          go_wp2_with fail
          refine (looks_none _ _ h1).mono ?_
          rintro e w2 ⟨rfl, rfl⟩
          go_wp2
          go_roundw
          case rel => exact ⟨k + 1, by omega, by go_num, h1, HB.out, hz1⟩
          case measure => simp [intOf]; omega
    · obtain rfl : k = ops.length := by omega
      go_wp2
      go_ret
      exact ⟨rfl, hbr⟩

set_option maxHeartbeats 400000 in
theorem upto_none (ao : Option Addr) (cap : Nat) (least last : Int) (w : World) :
    Calls Tryz.prog 12 #[.slice ao 0 cap, .int .i64 least, .int .i64 last] w fun e w' => e = .returned (.int .i64 (-1)) ∧ Below w.heap.size w w' := by
  go_enter Tryz.func12, Tryz.ntmps12
  go_wp2
  refine wp_loop_rounds 1 ?_
  rw [rounds_succ]
  go_wp2
  go_ret
  exact ⟨rfl, (Below.refl _ _).alloc (Nat.le_refl _) _⟩

theorem flat_cells (ops : List OpV) : ∀ i (h : i < ops.length), ∀ j, j < 13 → ((ops.map fun o => o.cells.toList).flatten)[i * 13 + j]? = (ops[i]).cells[j]? := by
  induction ops with
  | nil => intro i h; simp at h
  | cons o r ih =>
    intro i h j hj
    have h13 : o.cells.toList.length = 13 := rfl
    cases i with
    | zero =>
      rw [List.map_cons, List.flatten_cons, List.getElem?_append_left (by rw [h13]; omega)]
      simp
    | succ i =>
      rw [List.map_cons, List.flatten_cons, List.getElem?_append_right (by rw [h13]; omega), h13, show (i + 1) * 13 + j - 13 = i * 13 + j from by omega, ih i (by simpa using h) j hj]
      rfl

theorem upto_len (n : Nat) (ops : List OpV) (hn : n = ops.length) (least last : Int) (b off cap : Nat) (w : World) (hlen : ops.length ≤ 9223372036854775807) (hb : b < w.heap.size) (hs : ScriptAt w b off ops) (hst : ∀ o ∈ ops, least ≤ o.kind → o.kind ≤ last → StepOk o) :
    Calls Tryz.prog 12 #[.slice (some ⟨b, off, none⟩) n cap, .int .i64 least, .int .i64 last] w fun e w' => e = .returned (.int .i64 (-1)) ∧ Below w.heap.size w w' := by
  subst hn
  exact upto_some ops least last b off cap w hlen hb hs hst

/-- the steps of the document's example -/
def exOps (p : ByteArray) (parts : Value) : List OpV := [⟨1, ⟨#[120]⟩, ⟨#[]⟩, ⟨#[]⟩, 0, 0, 0, .slice none 0 0, 0, .slice none 0 0, false, false, ⟨#[]⟩⟩,
  ⟨2, ⟨#[]⟩, ⟨#[120]⟩, ⟨#[]⟩, 0, 0, 0, .slice none 0 0, 0, .slice none 0 0, false, false, ⟨#[]⟩⟩, ⟨3, p, ⟨#[120]⟩, ⟨#[]⟩, 3, 0, 0, .slice none 0 0, 0, .slice none 0 0, false, false, ⟨#[]⟩⟩,
  ⟨4, p, ⟨#[120]⟩, ⟨#[]⟩, 3, 0, 0, .slice none 0 0, 0, .slice none 0 0, true, false, ⟨#[]⟩⟩, ⟨5, ⟨#[]⟩, ⟨#[]⟩, ⟨#[]⟩, 0, 0, 0, .slice none 0 0, 258, parts, false, false, ⟨#[]⟩⟩,
  ⟨6, p, ⟨#[]⟩, ⟨#[]⟩, 0, 0, 0, .slice none 0 0, 0, .slice none 0 0, false, false, ⟨#[]⟩⟩, ⟨7, ⟨#[98, 111, 111, 116]⟩, ⟨#[120]⟩, ⟨#[]⟩, 3, 0, 0, .slice none 0 0, 258, parts, true, false, ⟨#[]⟩⟩]
theorem exOps_ok (p : ByteArray) (parts : Value) (hp : p.size ≤ 1000) : ∀ o ∈ exOps p parts, o.ok := by
  have h0 : (⟨#[]⟩ : ByteArray).size ≤ 140737488351232 := by decide
  have h1 : (⟨#[120]⟩ : ByteArray).size ≤ 140737488351232 := by decide
  have h4 : (⟨#[98, 111, 111, 116]⟩ : ByteArray).size ≤ 140737488351232 := by decide
  have hp' : p.size ≤ 140737488351232 := by omega
  intro o ho
  simp only [exOps, List.mem_cons, List.not_mem_nil, or_false] at ho
  rcases ho with rfl | rfl | rfl | rfl | rfl | rfl | rfl <;> refine ⟨?_, ?_, ?_, ?_, ?_⟩ <;> first | exact h0 | exact h1 | exact h4 | exact hp' | (constructor <;> dsimp only <;> omega)

set_option maxRecDepth 100000 in
set_option maxHeartbeats 1000000 in
theorem example_any (last : Int) (w : World) (hst : ∀ o : OpV, o.ok → 1 ≤ o.kind → o.kind ≤ last → StepOk o) :
    Calls Tryz.prog 11 #[.int .i64 last] w fun e w' => e = .returned (.bool true) ∧ Below w.heap.size w w' := by
  have HST := hid hst
  clear hst
  go_enter Tryz.func11, Tryz.ntmps11
  go_wp2_with fail
  refine (ref_any _ _ (by decide)).mono ?_
  rintro e w1 ⟨rfl, hb1⟩
  generalize hd : dig _ = d
  have hd8 : d.size = 8 := by rw [← hd]; exact dig_size _
  clear hd
  go_wp2_with fail
  refine (pack_one d _ _ hd8 (by simp; omega) (by simp [go_sem]) (by simp [go_sem]) (by simp [go_sem]) (by simp [go_sem])).mono ?_
  rintro e w2 ⟨⟨p, hp, rfl⟩, hb2⟩
  have hz2 : w1.heap.size + 1 < w2.heap.size := by have := hb2.size; simp at this; omega
  have HB : Hid (Below w.heap.size w w2) := ((hb1.alloc hb1.size _).alloc (by have := hb1.size; simp; omega) _).trans (hb2.mono (by have := hb1.size; simp; omega))
  have e0 : w2.cell? ⟨w1.heap.size + 1, 0, none⟩ = some (.int .i64 258) := (hb2.cell (p := ⟨w1.heap.size + 1, 0, none⟩) (by simp)).trans (by simp [go_sem])
  have e1 : w2.cell? ⟨w1.heap.size + 1, 1, none⟩ = some (.slice (some ⟨w1.heap.size, 0, none⟩) 1 1) := (hb2.cell (p := ⟨w1.heap.size + 1, 1, none⟩) (by simp)).trans (by simp [go_sem])
  clear hb1 hb2
  go_wp2_with fail
  refine (upto_len 7 (exOps p (.slice (some ⟨w1.heap.size, 0, none⟩) 1 1)) rfl 1 last w2.heap.size 0 7 _ (by show 7 ≤ _; omega) (by simp) ?_ (fun o ho => HST.out o (exOps_ok _ _ hp o ho))).mono ?_
  · intro i h j hj
    rw [World.cell?_alloc_at _ _ _ _ rfl, ← flat_cells _ i h j hj, ← Array.getElem?_toList, Nat.zero_add]
    rfl
  rintro e w3 ⟨rfl, hb3⟩
  have HB3 : Hid (Below w.heap.size w w3) := (HB.out.alloc (by have := HB.out.size; omega) _).trans (hb3.mono (by have := HB.out.size; simp; omega))
  clear hb3
  go_wp2
  go_ret
  exact ⟨by simp, HB3.out⟩
end Go.Proofs.YthphojdnbfghmaaGreat
