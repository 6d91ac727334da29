import Derived.Test.YthphojdnbfghmaaGreatSteps
namespace Go.Proofs.YthphojdnbfghmaaGreat
open Go.RowKit

set_option maxHeartbeats 1000000 in
theorem opkey_any (b s t k : ByteArray) (kind n cut fuse ver : Int) (faults parts : Value) (mk raw : Bool) (w : World) (hs : s.size ≤ 140737488351232) :
    Calls Tryz.prog 68 #[.agg #[.int .i64 kind, .string b, .string s, .string t, .int .i64 n, .int .i64 cut, .int .i64 fuse, faults, .int .i64 ver, parts, .bool mk, .bool raw, .string k]] w
      fun e w' => (∃ kk : ByteArray, e = .returned (.string kk)) ∧ Below w.heap.size w w' := by
  cases raw with
  | true =>
    go_enter Tryz.func68, Tryz.ntmps68
    go_wp2_with fail
    go_ret
    exact ⟨⟨k, rfl⟩, (Below.refl _ _).alloc (Nat.le_refl _) _⟩
  | false =>
    go_enter Tryz.func68, Tryz.ntmps68
    go_wp2_with fail
    refine (refkey_any s _ (by omega)).mono ?_
    rintro e w1 ⟨rfl, hb1⟩
    have HB := hid (newB hb1)
    clear hb1
    go_wp2
    go_ret
    exact ⟨⟨_, rfl⟩, HB.out⟩

set_option maxHeartbeats 2000000 in
theorem verified_plain (b s t k : ByteArray) (n cut fuse ver : Int) (faults parts : Value) (raw : Bool) (w : World) (hb : b.size ≤ 140737488351232) (hs : s.size ≤ 140737488351232) :
    Calls Tryz.prog 40 #[.agg #[.int .i64 4, .string b, .string s, .string t, .int .i64 n, .int .i64 cut, .int .i64 fuse, faults, .int .i64 ver, parts, .bool false, .bool raw, .string k]] w fun e w' => e = .returned (.bool true) ∧ Below w.heap.size w w' := by
  go_enter Tryz.func40, Tryz.ntmps40
  go_wp2_with fail
  have HB1 : Hid (Below w.heap.size w (w.alloc (.cells #[.int .i64 4, .string b, .string s, .string t, .int .i64 n, .int .i64 cut, .int .i64 fuse, faults, .int .i64 ver, parts, .bool false, .bool raw, .string k] 61))) := (Below.refl _ _).alloc (Nat.le_refl _) _
  have hz1 : w.heap.size < (w.alloc (.cells #[.int .i64 4, .string b, .string s, .string t, .int .i64 n, .int .i64 cut, .int .i64 fuse, faults, .int .i64 ver, parts, .bool false, .bool raw, .string k] 61)).heap.size := by simp
  have c1 : (w.alloc (.cells #[.int .i64 4, .string b, .string s, .string t, .int .i64 n, .int .i64 cut, .int .i64 fuse, faults, .int .i64 ver, parts, .bool false, .bool raw, .string k] 61)).cell? ⟨w.heap.size, 1, none⟩ = some (.string b) := by simp [go_sem]
  refine (opkey_any b s t k 4 n cut fuse ver faults parts false raw _ hs).mono ?_
  rintro e w5 ⟨⟨kk, rfl⟩, hb5⟩
  have HB5 := hid (keepB HB1.out hb5)
  have f1 : w5.cell? ⟨w.heap.size, 1, none⟩ = some (.string b) := (hb5.cell (p := ⟨w.heap.size, 1, none⟩) hz1).trans c1
  have hz5 : w.heap.size < w5.heap.size := Nat.lt_of_lt_of_le hz1 hb5.size
  clear hb5 HB1 hz1
  clear c1
  go_wp2_with fail
  refine (lent_any b _ hb).mono ?_
  rintro e w6 ⟨rfl, hL, hb6⟩
  have HL := hid hL
  have HB6 := hid (keepB HB5.out hb6)
  have f2 : w6.cell? ⟨w.heap.size, 1, none⟩ = some (.string b) := (hb6.cell (p := ⟨w.heap.size, 1, none⟩) hz5).trans f1
  have hz6 : w.heap.size < w6.heap.size := by have := hb6.size; omega
  clear hb6 HB5 hL f1
  go_wp2_with fail
  refine (verify_any kk (ls b) _ _ _ (by rw [ls_length]; omega) HL.out.sees).mono ?_
  rintro e w7 ⟨rfl, hb7⟩
  have HL7 := hid (HL.out.below hb7)
  have HB7 := hid (keepB HB6.out hb7)
  have f3 : w7.cell? ⟨w.heap.size, 1, none⟩ = some (.string b) := (hb7.cell (p := ⟨w.heap.size, 1, none⟩) hz6).trans f2
  have hz7 : w.heap.size < w7.heap.size := by have := hb7.size; omega
  clear hb7 HB6 HL f2
  go_wp2_with fail
  refine (still_any b _ _ hb HL7.out).mono ?_
  rintro e w8 ⟨rfl, hb8⟩
  have HB8 := hid (keepB HB7.out hb8)
  have f4 : w8.cell? ⟨w.heap.size, 1, none⟩ = some (.string b) := (hb8.cell (p := ⟨w.heap.size, 1, none⟩) hz7).trans f3
  clear hb8 HB7 HL7 f3
  go_wp2_with fail
  refine (refVerify_any kk b _ _ (by omega)).mono ?_
  rintro e w9 ⟨rfl, hb9⟩
  have HB9 := hid (keepB HB8.out hb9)
  clear hb9 HB8 f4
  go_wp2
  go_ret
  exact ⟨by simp, HB9.out⟩

set_option maxHeartbeats 2000000 in
theorem verified_no (b s t k : ByteArray) (n cut fuse ver : Int) (faults parts : Value) (raw : Bool) (w : World) (hb : b.size ≤ 140737488351232) (hs : s.size ≤ 140737488351232) (hn : n < 0 ∨ 7 < n) :
    Calls Tryz.prog 40 #[.agg #[.int .i64 4, .string b, .string s, .string t, .int .i64 n, .int .i64 cut, .int .i64 fuse, faults, .int .i64 ver, parts, .bool true, .bool raw, .string k]] w fun e w' => e = .returned (.bool true) ∧ Below w.heap.size w w' := by
  go_enter Tryz.func40, Tryz.ntmps40
  go_wp2_with fail
  refine (refsign_no s n b _ hn).mono ?_
  rintro e w1 ⟨rfl, hb1⟩
  obtain ⟨hc, hf⟩ := bcell hb1
  have HB1 := hid (newB hb1)
  have hz1 : w.heap.size < w1.heap.size := by have := hb1.size; simp at this; omega
  have c1 : w1.cell? ⟨w.heap.size, 1, none⟩ = some (.string b) := (hb1.cell (p := ⟨w.heap.size, 1, none⟩) (by simp)).trans (by simp [go_sem])
  clear hb1 hf
  go_wp2_with fail
  refine (opkey_any b s t k 4 n cut fuse ver faults parts true raw _ hs).mono ?_
  rintro e w5 ⟨⟨kk, rfl⟩, hb5⟩
  have HB5 := hid (keepB HB1.out hb5)
  have f1 : w5.cell? ⟨w.heap.size, 1, none⟩ = some (.string b) := (hb5.cell (p := ⟨w.heap.size, 1, none⟩) hz1).trans c1
  have hz5 : w.heap.size < w5.heap.size := Nat.lt_of_lt_of_le hz1 hb5.size
  clear hb5 HB1 hz1
  clear hc c1
  go_wp2_with fail
  refine (lent_any b _ hb).mono ?_
  rintro e w6 ⟨rfl, hL, hb6⟩
  have HL := hid hL
  have HB6 := hid (keepB HB5.out hb6)
  have f2 : w6.cell? ⟨w.heap.size, 1, none⟩ = some (.string b) := (hb6.cell (p := ⟨w.heap.size, 1, none⟩) hz5).trans f1
  have hz6 : w.heap.size < w6.heap.size := by have := hb6.size; omega
  clear hb6 HB5 hL f1
  go_wp2_with fail
  refine (verify_any kk (ls b) _ _ _ (by rw [ls_length]; omega) HL.out.sees).mono ?_
  rintro e w7 ⟨rfl, hb7⟩
  have HL7 := hid (HL.out.below hb7)
  have HB7 := hid (keepB HB6.out hb7)
  have f3 : w7.cell? ⟨w.heap.size, 1, none⟩ = some (.string b) := (hb7.cell (p := ⟨w.heap.size, 1, none⟩) hz6).trans f2
  have hz7 : w.heap.size < w7.heap.size := by have := hb7.size; omega
  clear hb7 HB6 HL f2
  go_wp2_with fail
  refine (still_any b _ _ hb HL7.out).mono ?_
  rintro e w8 ⟨rfl, hb8⟩
  have HB8 := hid (keepB HB7.out hb8)
  have f4 : w8.cell? ⟨w.heap.size, 1, none⟩ = some (.string b) := (hb8.cell (p := ⟨w.heap.size, 1, none⟩) hz7).trans f3
  clear hb8 HB7 HL7 f3
  go_wp2_with fail
  refine (refVerify_any kk b _ _ (by omega)).mono ?_
  rintro e w9 ⟨rfl, hb9⟩
  have HB9 := hid (keepB HB8.out hb9)
  clear hb9 HB8 f4
  go_wp2
  go_ret
  exact ⟨by simp, HB9.out⟩

set_option maxHeartbeats 2000000 in
theorem verified_zero (b s t k : ByteArray) (n cut fuse ver : Int) (faults parts : Value) (raw : Bool) (w : World) (hb : b.size ≤ 140737488351232) (hs : s.size ≤ 140737488351232) (ht : t.size ≤ 140737488351232) (hn : 0 ≤ n ∧ n ≤ 7) (hat : t.size = 0) :
    Calls Tryz.prog 40 #[.agg #[.int .i64 4, .string b, .string s, .string t, .int .i64 n, .int .i64 cut, .int .i64 fuse, faults, .int .i64 ver, parts, .bool true, .bool raw, .string k]] w fun e w' => e = .returned (.bool true) ∧ Below w.heap.size w w' := by
  go_enter Tryz.func40, Tryz.ntmps40
  go_wp2_with fail
  refine (refsign_yes s n b _ (by omega) (by omega) hn).mono ?_
  rintro e w1 ⟨rfl, hb1⟩
  obtain ⟨hc, hf⟩ := bcell hb1
  have HB1 := hid (newB hb1)
  have hz1 : w.heap.size < w1.heap.size := by have := hb1.size; simp at this; omega
  have c1 : w1.cell? ⟨w.heap.size, 1, none⟩ = some (.string b) := (hb1.cell (p := ⟨w.heap.size, 1, none⟩) (by simp)).trans (by simp [go_sem])
  clear hb1 hf
  have hsz := signOf_size s n (ls b)
  generalize signOf s n (ls b) = sg at *
  have hat1 : ¬ (0 < (t.size : Int)) := by omega
  have hat2 : decide (0 < (t.size : Int)) = false := decide_eq_false (by omega)
  clear hat
  go_wp2_with fail
  refine (opkey_any b s t k 4 n cut fuse ver faults parts true raw _ hs).mono ?_
  rintro e w5 ⟨⟨kk, rfl⟩, hb5⟩
  have HB5 := hid (keepB HB1.out hb5)
  have f1 : w5.cell? ⟨w.heap.size, 1, none⟩ = some (.string b) := (hb5.cell (p := ⟨w.heap.size, 1, none⟩) hz1).trans c1
  have hz5 : w.heap.size < w5.heap.size := Nat.lt_of_lt_of_le hz1 hb5.size
  clear hb5 HB1 hz1
  clear hc c1 hat1 hat2 hsz
  go_wp2_with fail
  refine (lent_any b _ hb).mono ?_
  rintro e w6 ⟨rfl, hL, hb6⟩
  have HL := hid hL
  have HB6 := hid (keepB HB5.out hb6)
  have f2 : w6.cell? ⟨w.heap.size, 1, none⟩ = some (.string b) := (hb6.cell (p := ⟨w.heap.size, 1, none⟩) hz5).trans f1
  have hz6 : w.heap.size < w6.heap.size := by have := hb6.size; omega
  clear hb6 HB5 hL f1
  go_wp2_with fail
  refine (verify_any kk (ls b) _ _ _ (by rw [ls_length]; omega) HL.out.sees).mono ?_
  rintro e w7 ⟨rfl, hb7⟩
  have HL7 := hid (HL.out.below hb7)
  have HB7 := hid (keepB HB6.out hb7)
  have f3 : w7.cell? ⟨w.heap.size, 1, none⟩ = some (.string b) := (hb7.cell (p := ⟨w.heap.size, 1, none⟩) hz6).trans f2
  have hz7 : w.heap.size < w7.heap.size := by have := hb7.size; omega
  clear hb7 HB6 HL f2
  go_wp2_with fail
  refine (still_any b _ _ hb HL7.out).mono ?_
  rintro e w8 ⟨rfl, hb8⟩
  have HB8 := hid (keepB HB7.out hb8)
  have f4 : w8.cell? ⟨w.heap.size, 1, none⟩ = some (.string b) := (hb8.cell (p := ⟨w.heap.size, 1, none⟩) hz7).trans f3
  clear hb8 HB7 HL7 f3
  go_wp2_with fail
  refine (refVerify_any kk b _ _ (by omega)).mono ?_
  rintro e w9 ⟨rfl, hb9⟩
  have HB9 := hid (keepB HB8.out hb9)
  clear hb9 HB8 f4
  go_wp2
  go_ret
  exact ⟨by simp, HB9.out⟩

set_option maxHeartbeats 2000000 in
theorem verified_far (b s t k : ByteArray) (n cut fuse ver : Int) (faults parts : Value) (raw : Bool) (w : World) (hb : b.size ≤ 140737488351232) (hs : s.size ≤ 140737488351232) (ht : t.size ≤ 140737488351232) (hn : 0 ≤ n ∧ n ≤ 7) (hat : 169 < t.size) :
    Calls Tryz.prog 40 #[.agg #[.int .i64 4, .string b, .string s, .string t, .int .i64 n, .int .i64 cut, .int .i64 fuse, faults, .int .i64 ver, parts, .bool true, .bool raw, .string k]] w fun e w' => e = .returned (.bool true) ∧ Below w.heap.size w w' := by
  go_enter Tryz.func40, Tryz.ntmps40
  go_wp2_with fail
  refine (refsign_yes s n b _ (by omega) (by omega) hn).mono ?_
  rintro e w1 ⟨rfl, hb1⟩
  obtain ⟨hc, hf⟩ := bcell hb1
  have HB1 := hid (newB hb1)
  have hz1 : w.heap.size < w1.heap.size := by have := hb1.size; simp at this; omega
  have c1 : w1.cell? ⟨w.heap.size, 1, none⟩ = some (.string b) := (hb1.cell (p := ⟨w.heap.size, 1, none⟩) (by simp)).trans (by simp [go_sem])
  clear hb1 hf
  have hsz := signOf_size s n (ls b)
  generalize signOf s n (ls b) = sg at *
  have hat1 : (0 : Int) < (t.size : Int) := by omega
  have hat2 : ¬ ((t.size : Int) ≤ (sg.size : Int)) := by omega
  have hat3 : decide ((t.size : Int) ≤ (sg.size : Int)) = false := by simp; omega
  clear hat
  go_wp2_with fail
  refine (opkey_any b s t k 4 n cut fuse ver faults parts true raw _ hs).mono ?_
  rintro e w5 ⟨⟨kk, rfl⟩, hb5⟩
  have HB5 := hid (keepB HB1.out hb5)
  have f1 : w5.cell? ⟨w.heap.size, 1, none⟩ = some (.string b) := (hb5.cell (p := ⟨w.heap.size, 1, none⟩) hz1).trans c1
  have hz5 : w.heap.size < w5.heap.size := Nat.lt_of_lt_of_le hz1 hb5.size
  clear hb5 HB1 hz1
  clear hc c1 hat1 hat2 hat3 hsz
  go_wp2_with fail
  refine (lent_any b _ hb).mono ?_
  rintro e w6 ⟨rfl, hL, hb6⟩
  have HL := hid hL
  have HB6 := hid (keepB HB5.out hb6)
  have f2 : w6.cell? ⟨w.heap.size, 1, none⟩ = some (.string b) := (hb6.cell (p := ⟨w.heap.size, 1, none⟩) hz5).trans f1
  have hz6 : w.heap.size < w6.heap.size := by have := hb6.size; omega
  clear hb6 HB5 hL f1
  go_wp2_with fail
  refine (verify_any kk (ls b) _ _ _ (by rw [ls_length]; omega) HL.out.sees).mono ?_
  rintro e w7 ⟨rfl, hb7⟩
  have HL7 := hid (HL.out.below hb7)
  have HB7 := hid (keepB HB6.out hb7)
  have f3 : w7.cell? ⟨w.heap.size, 1, none⟩ = some (.string b) := (hb7.cell (p := ⟨w.heap.size, 1, none⟩) hz6).trans f2
  have hz7 : w.heap.size < w7.heap.size := by have := hb7.size; omega
  clear hb7 HB6 HL f2
  go_wp2_with fail
  refine (still_any b _ _ hb HL7.out).mono ?_
  rintro e w8 ⟨rfl, hb8⟩
  have HB8 := hid (keepB HB7.out hb8)
  have f4 : w8.cell? ⟨w.heap.size, 1, none⟩ = some (.string b) := (hb8.cell (p := ⟨w.heap.size, 1, none⟩) hz7).trans f3
  clear hb8 HB7 HL7 f3
  go_wp2_with fail
  refine (refVerify_any kk b _ _ (by omega)).mono ?_
  rintro e w9 ⟨rfl, hb9⟩
  have HB9 := hid (keepB HB8.out hb9)
  clear hb9 HB8 f4
  go_wp2
  go_ret
  exact ⟨by simp, HB9.out⟩
end Go.Proofs.YthphojdnbfghmaaGreat
