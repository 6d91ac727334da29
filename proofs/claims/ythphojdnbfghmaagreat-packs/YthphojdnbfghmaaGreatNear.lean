import Derived.Test.YthphojdnbfghmaaGreatVerified
namespace Go.Proofs.YthphojdnbfghmaaGreat
open Go.RowKit
theorem conv1d (b : Nat) (n : Int) (w : World) (hb : b = w.heap.size) : (convert 27 9 (.slice (some ⟨b, 0, none⟩) 1 1)).run Tryz.prog (w.alloc (.cells #[.int .u8 n] 5)).drew = .ok (.string (strOfNums [n])) (w.alloc (.cells #[.int .u8 n] 5)).drew := by
  subst hb
  refine run_convert_bytes_arg _ 27 5 Tryz.underlying27 Tryz.underlying5 _ 0 1 1 [n] rfl ?_ 9 Tryz.underlying9
  intro i hi
  obtain rfl : i = 0 := by omega
  simp [go_sem]

set_option maxRecDepth 100000 in
set_option maxHeartbeats 2000000 in
theorem verified_near (b s t k : ByteArray) (m : Nat) (n cut fuse ver : Int) (faults parts : Value) (raw : Bool) (w : World) (hb : b.size ≤ 140737488351232) (hs : s.size ≤ 140737488351232) (hn : 0 ≤ n ∧ n ≤ 7) (hm : t.size = m + 1) (hm2 : m < 169) :
    Calls Tryz.prog 40 #[.agg #[.int .i64 4, .string b, .string s, .string t, .int .i64 n, .int .i64 cut, .int .i64 fuse, faults, .int .i64 ver, parts, .bool true, .bool raw, .string k]] w fun e w' => e = .returned (.bool true) ∧ Below w.heap.size w w' := by
  go_enter Tryz.func40, Tryz.ntmps40
  go_wp2_with fail
  refine (refsign_yes s n b _ (by omega) (by omega) hn).mono ?_
  rintro e w1 ⟨rfl, hb1⟩
  obtain ⟨hc, hf⟩ := bcell hb1
  have HB1 := hid (newB hb1)
  have hz1 : w.heap.size < w1.heap.size := by have := hb1.size; simp at this; omega
  have c1 : w1.cell? ⟨w.heap.size, 1, none⟩ = some (.string b) := (hb1.cell (p := ⟨w.heap.size, 1, none⟩) (by simp)).trans (by simp [go_sem])
  clear hb1 hf
  have hsz := signOf_size s n (ls b)
  generalize signOf s n (ls b) = sg at *
  have hcv := conv1d
  have hss := strOfNums_size
  go_wp2_with fail
  have i1 : (0 : Int) ≤ (m : Int) := by omega
  have i2 : (m : Int) < (sg.size : Int) := by omega
  have i3 : (m : Int) ≤ (sg.size : Int) := by omega
  have i4 : IntKind.i64.wrap ((m : Int) + 1 - 1) = (m : Int) := by rw [show (m : Int) + 1 - 1 = (m : Int) by omega]; exact IntWalk.i64_in _ ⟨by omega, by omega⟩
  have i5 : (m : Int) + 1 ≤ (sg.size : Int) := by omega
  have i6 : (0 : Int) ≤ (m : Int) + 1 := by omega
  have i7 : IntKind.i64.wrap (m : Int) = (m : Int) := IntWalk.i64_in _ ⟨by omega, by omega⟩
  have i8 : (m : Int) ≤ 169 := by omega
  have i11 : (m : Int) < 169 := by omega
  have i12 : (m : Int) + 1 ≤ 169 := by omega
  have i9 : m ≤ 169 := by omega
  have i10 : m ≤ sg.size := by omega
  go_region
  generalize sg.extract 0 m ++ strOfNums [((sg[m].toNat : Int) + 1) % 256] ++ sg.extract (m + 1) 169 = tt
  generalize ((sg[m].toNat : Int) + 1) % 256 = z
  have hz2 : w.heap.size < (w1.alloc (.cells #[.int .u8 z] 5)).drew.heap.size := by simp; omega
  have c1' : (w1.alloc (.cells #[.int .u8 z] 5)).drew.cell? ⟨w.heap.size, 1, none⟩ = some (.string b) := by
    show (w1.alloc (.cells #[.int .u8 z] 5)).cell? ⟨w.heap.size, 1, none⟩ = _
    rw [World.cell?_alloc_lt _ _ _ hz1]; exact c1
  have HB2 : Hid (Below w.heap.size w (w1.alloc (.cells #[.int .u8 z] 5)).drew) := (HB1.out.alloc HB1.out.size _).drew
  go_wp2_with fail
  refine (opkey_any b s t k 4 n cut fuse ver faults parts true raw _ hs).mono ?_
  rintro e w5 ⟨⟨kk, rfl⟩, hb5⟩
  have HB5 := hid (keepB HB2.out hb5)
  have f1 : w5.cell? ⟨w.heap.size, 1, none⟩ = some (.string b) := (hb5.cell (p := ⟨w.heap.size, 1, none⟩) hz2).trans c1'
  have hz5 : w.heap.size < w5.heap.size := Nat.lt_of_lt_of_le hz2 hb5.size
  clear hb5 HB2 hz2
  clear hc c1 c1' HB1 hz1 hcv
  go_wp2_with fail
  refine (lent_any b _ hb).mono ?_
  rintro e w6 ⟨rfl, hL, hb6⟩
  have HL := hid hL
  have HB6 := hid (keepB HB5.out hb6)
  have f2 : w6.cell? ⟨w.heap.size, 1, none⟩ = some (.string b) := (hb6.cell (p := ⟨w.heap.size, 1, none⟩) hz5).trans f1
  have hz6 : w.heap.size < w6.heap.size := by have := hb6.size; omega
  clear hb6 HB5 hL f1
  go_wp2_with fail
  refine (verify_any kk (ls b) _ _ _ (by rw [ls_length]; omega) HL.out.sees).mono ?_
  rintro e w7 ⟨rfl, hb7⟩
  have HL7 := hid (HL.out.below hb7)
  have HB7 := hid (keepB HB6.out hb7)
  have f3 : w7.cell? ⟨w.heap.size, 1, none⟩ = some (.string b) := (hb7.cell (p := ⟨w.heap.size, 1, none⟩) hz6).trans f2
  have hz7 : w.heap.size < w7.heap.size := by have := hb7.size; omega
  clear hb7 HB6 HL f2
  go_wp2_with fail
  refine (still_any b _ _ hb HL7.out).mono ?_
  rintro e w8 ⟨rfl, hb8⟩
  have HB8 := hid (keepB HB7.out hb8)
  have f4 : w8.cell? ⟨w.heap.size, 1, none⟩ = some (.string b) := (hb8.cell (p := ⟨w.heap.size, 1, none⟩) hz7).trans f3
  clear hb8 HB7 HL7 f3
  go_wp2_with fail
  refine (refVerify_any kk b _ _ (by omega)).mono ?_
  rintro e w9 ⟨rfl, hb9⟩
  have HB9 := hid (keepB HB8.out hb9)
  clear hb9 HB8 f4
  go_wp2
  go_ret
  exact ⟨by simp, HB9.out⟩
end Go.Proofs.YthphojdnbfghmaaGreat
