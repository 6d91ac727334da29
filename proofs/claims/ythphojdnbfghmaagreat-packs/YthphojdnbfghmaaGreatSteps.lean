import Derived.Test.YthphojdnbfghmaaGreatBuild
import Derived.Test.YthphojdnbfghmaaGreatLaw
namespace Go.Proofs.YthphojdnbfghmaaGreat
open Go.RowKit

set_option maxHeartbeats 1000000 in
theorem step_key (b s t k : ByteArray) (n cut fuse ver : Int) (faults parts : Value) (mk raw : Bool) (B : Nat) (w : World) (hl : s.size ≤ 140737488351232) :
    Calls Tryz.prog 24 #[.pointer (some ⟨B, 0, none⟩), .agg #[.int .i64 2, .string b, .string s, .string t, .int .i64 n, .int .i64 cut, .int .i64 fuse, faults, .int .i64 ver, parts, .bool mk, .bool raw, .string k]] w
      fun e w' => e = .returned (.bool true) ∧ Below w.heap.size w w' := by
  go_enter Tryz.func24, Tryz.ntmps24
  go_wp2_with fail
  refine (key_any s _ (by omega)).mono ?_
  rintro e w1 ⟨rfl, hb1⟩
  have HB := hid (newB hb1)
  have hz1 : w.heap.size < w1.heap.size := by have := hb1.size; simp at this; omega
  have e1 : w1.cell? ⟨w.heap.size, 2, none⟩ = some (.string s) := (hb1.cell (p := ⟨w.heap.size, 2, none⟩) (by simp)).trans (by simp [go_sem])
  clear hb1
  go_wp2_with fail
  refine (refkey_any s _ (by omega)).mono ?_
  rintro e w2 ⟨rfl, hb2⟩
  have HB2 := hid (keepB HB.out hb2)
  clear hb2 HB
  go_wp2
  go_ret
  exact ⟨by simp, HB2.out⟩

/-- three cells of a step's box, a fourth, and all that was there -/
theorem keepS3 {w0 W w2 : World} {B : Nat} {a1 a2 a4 : Value} (hB : B < w0.heap.size) (hh : W.cell? ⟨B, 1, none⟩ = some a1 ∧ W.cell? ⟨B, 2, none⟩ = some a2 ∧ W.cell? ⟨B, 4, none⟩ = some a4 ∧ Below w0.heap.size w0 W) (hb : Below W.heap.size W w2) :
    w2.cell? ⟨B, 1, none⟩ = some a1 ∧ w2.cell? ⟨B, 2, none⟩ = some a2 ∧ w2.cell? ⟨B, 4, none⟩ = some a4 ∧ Below w0.heap.size w0 w2 :=
  have h := hh.2.2.2.size
  ⟨(hb.cell (p := ⟨B, 1, none⟩) (by show B < W.heap.size; omega)).trans hh.1, (hb.cell (p := ⟨B, 2, none⟩) (by show B < W.heap.size; omega)).trans hh.2.1, (hb.cell (p := ⟨B, 4, none⟩) (by show B < W.heap.size; omega)).trans hh.2.2.1, keepB hh.2.2.2 hb⟩

set_option maxHeartbeats 1000000 in
theorem step_sign_yes (b s t k : ByteArray) (n cut fuse ver : Int) (faults parts : Value) (mk raw : Bool) (B : Nat) (w : World) (hb : b.size ≤ 140737488351232) (hl : s.size ≤ 140737488351232) (hn : 0 ≤ n ∧ n ≤ 7) :
    Calls Tryz.prog 24 #[.pointer (some ⟨B, 0, none⟩), .agg #[.int .i64 3, .string b, .string s, .string t, .int .i64 n, .int .i64 cut, .int .i64 fuse, faults, .int .i64 ver, parts, .bool mk, .bool raw, .string k]] w
      fun e w' => e = .returned (.bool true) ∧ Below w.heap.size w w' := by
  go_enter Tryz.func24, Tryz.ntmps24
  go_wp2_with fail
  refine (lent_any b _ hb).mono ?_
  rintro e w1 ⟨rfl, hL, hb1⟩
  have HB := hid (newB hb1)
  have hz1 : w.heap.size < w1.heap.size := by have := hL.2.2.2; simp at this; omega
  have e1 : w1.cell? ⟨w.heap.size, 1, none⟩ = some (.string b) := (hb1.cell (p := ⟨w.heap.size, 1, none⟩) (by simp)).trans (by simp [go_sem])
  have e2 : w1.cell? ⟨w.heap.size, 2, none⟩ = some (.string s) := (hb1.cell (p := ⟨w.heap.size, 2, none⟩) (by simp)).trans (by simp [go_sem])
  have e4 : w1.cell? ⟨w.heap.size, 4, none⟩ = some (.int .i64 n) := (hb1.cell (p := ⟨w.heap.size, 4, none⟩) (by simp)).trans (by simp [go_sem])
  simp only [World.size_alloc] at hL
  have HL := hid hL
  clear hb1 hL
  have hi1 : (0 : Int) ≤ (b.size : Int) := by omega
  have hi2 : (b.size : Int) ≤ (b.size : Int) + 8 := by omega
  go_wp2_with fail
  go_region_held3 (fun w' => w'.cell? ⟨w.heap.size, 1, none⟩ = some (.string b) ∧ w'.cell? ⟨w.heap.size, 2, none⟩ = some (.string s) ∧ w'.cell? ⟨w.heap.size, 4, none⟩ = some (.int .i64 n) ∧ Below w1.heap.size w1 w')
    (first | (refine ⟨?_, ?_, ?_, (Below.refl _ _).drew⟩ <;> (simp [e1, e2, e4]; done)) | (apply keepS3 (w0 := w1) (B := w.heap.size) hz1; assumption; assumption))
    (first | (go_at_call 27; refine (sign_yes s n _ (ls b) _ (by omega) hn (by rw [ls_length]; omega) ((HL.out.below ((Below.refl _ _).drew)).sees)).mono ?_; rintro e w2 ⟨rfl, hb2⟩))
  have hS : w2.cell? ⟨w.heap.size, 1, none⟩ = some (.string b) ∧ w2.cell? ⟨w.heap.size, 2, none⟩ = some (.string s) ∧ w2.cell? ⟨w.heap.size, 4, none⟩ = some (.int .i64 n) ∧ Below w1.heap.size w1 w2 := by assumption
  obtain ⟨f1, f2, f4, hb12⟩ := hS
  have HL2 := hid (HL.out.below hb12)
  have HB2 := hid (keepB HB.out hb12)
  have hz2 : w.heap.size < w2.heap.size := by have := hb12.size; omega
  clear hb2 hb12 e1 e2 e4 HL HB
  go_wp2_with fail
  refine (refsign_yes s n b _ (by omega) (by omega) hn).mono ?_
  rintro e w3 ⟨rfl, hb3⟩
  have g1 : w3.cell? ⟨w.heap.size, 1, none⟩ = some (.string b) := (hb3.cell (p := ⟨w.heap.size, 1, none⟩) hz2).trans f1
  have HL3 := hid (HL2.out.below hb3)
  have HB3 := hid (keepB HB2.out hb3)
  clear hb3 HL2 HB2 f1 f2 f4
  go_wp2_with fail
  refine (still_any b _ _ hb HL3.out).mono ?_
  rintro e w4 ⟨rfl, hb4⟩
  have HB4 := hid (keepB HB3.out hb4)
  clear hb4 HL3 HB3
  go_wp2
  go_ret
  exact ⟨by simp, HB4.out⟩

set_option maxHeartbeats 1000000 in
theorem step_sign_no (b s t k : ByteArray) (n cut fuse ver : Int) (faults parts : Value) (mk raw : Bool) (B : Nat) (w : World) (hb : b.size ≤ 140737488351232) (hn : n < 0 ∨ 7 < n) :
    Calls Tryz.prog 24 #[.pointer (some ⟨B, 0, none⟩), .agg #[.int .i64 3, .string b, .string s, .string t, .int .i64 n, .int .i64 cut, .int .i64 fuse, faults, .int .i64 ver, parts, .bool mk, .bool raw, .string k]] w
      fun e w' => e = .returned (.bool true) ∧ Below w.heap.size w w' := by
  go_enter Tryz.func24, Tryz.ntmps24
  go_wp2_with fail
  refine (lent_any b _ hb).mono ?_
  rintro e w1 ⟨rfl, hL, hb1⟩
  have HB := hid (newB hb1)
  have hz1 : w.heap.size < w1.heap.size := by have := hL.2.2.2; simp at this; omega
  have e1 : w1.cell? ⟨w.heap.size, 1, none⟩ = some (.string b) := (hb1.cell (p := ⟨w.heap.size, 1, none⟩) (by simp)).trans (by simp [go_sem])
  have e2 : w1.cell? ⟨w.heap.size, 2, none⟩ = some (.string s) := (hb1.cell (p := ⟨w.heap.size, 2, none⟩) (by simp)).trans (by simp [go_sem])
  have e4 : w1.cell? ⟨w.heap.size, 4, none⟩ = some (.int .i64 n) := (hb1.cell (p := ⟨w.heap.size, 4, none⟩) (by simp)).trans (by simp [go_sem])
  simp only [World.size_alloc] at hL
  have HL := hid hL
  clear hb1 hL
  have hi1 : (0 : Int) ≤ (b.size : Int) := by omega
  have hi2 : (b.size : Int) ≤ (b.size : Int) + 8 := by omega
  go_wp2_with fail
  go_region_held3 (fun w' => w'.cell? ⟨w.heap.size, 1, none⟩ = some (.string b) ∧ w'.cell? ⟨w.heap.size, 2, none⟩ = some (.string s) ∧ w'.cell? ⟨w.heap.size, 4, none⟩ = some (.int .i64 n) ∧ Below w1.heap.size w1 w')
    (first | (refine ⟨?_, ?_, ?_, (Below.refl _ _).drew⟩ <;> (simp [e1, e2, e4]; done)) | (apply keepS3 (w0 := w1) (B := w.heap.size) hz1; assumption; assumption))
    (first | (go_at_call 27; refine (sign_no s n _ _ hn).mono ?_; rintro e w2 ⟨rfl, hb2⟩))
  have hS : w2.cell? ⟨w.heap.size, 1, none⟩ = some (.string b) ∧ w2.cell? ⟨w.heap.size, 2, none⟩ = some (.string s) ∧ w2.cell? ⟨w.heap.size, 4, none⟩ = some (.int .i64 n) ∧ Below w1.heap.size w1 w2 := by assumption
  obtain ⟨f1, f2, f4, hb12⟩ := hS
  have HL2 := hid (HL.out.below hb12)
  have HB2 := hid (keepB HB.out hb12)
  have hz2 : w.heap.size < w2.heap.size := by have := hb12.size; omega
  clear hb2 hb12 e1 e2 e4 HL HB
  go_wp2_with fail
  refine (refsign_no s n b _ hn).mono ?_
  rintro e w3 ⟨rfl, hb3⟩
  have g1 : w3.cell? ⟨w.heap.size, 1, none⟩ = some (.string b) := (hb3.cell (p := ⟨w.heap.size, 1, none⟩) hz2).trans f1
  have HL3 := hid (HL2.out.below hb3)
  have HB3 := hid (keepB HB2.out hb3)
  clear hb3 HL2 HB2 f1 f2 f4
  go_wp2_with fail
  refine (still_any b _ _ hb HL3.out).mono ?_
  rintro e w4 ⟨rfl, hb4⟩
  have HB4 := hid (keepB HB3.out hb4)
  clear hb4 HL3 HB3
  go_wp2
  go_ret
  exact ⟨by simp, HB4.out⟩

theorem stepOk_key (o : OpV) (h : o.ok) (hk : o.kind = 2) : StepOk o := by
  intro B W _
  unfold OpV.cells
  rw [hk]
  exact step_key _ _ _ _ _ _ _ _ _ _ _ _ B W h.2.1
theorem stepOk_sign (o : OpV) (h : o.ok) (hk : o.kind = 3) : StepOk o := by
  intro B W _
  unfold OpV.cells
  rw [hk]
  by_cases hn : 0 ≤ o.n ∧ o.n ≤ 7
  · exact step_sign_yes _ _ _ _ _ _ _ _ _ _ _ _ B W h.1 h.2.1 hn
  · exact step_sign_no _ _ _ _ _ _ _ _ _ _ _ _ B W h.1 (by omega)
end Go.Proofs.YthphojdnbfghmaaGreat
