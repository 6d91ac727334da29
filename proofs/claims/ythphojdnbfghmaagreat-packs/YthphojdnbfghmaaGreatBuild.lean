import Derived.Test.YthphojdnbfghmaaGreatBld
import Derived.Test.YthphojdnbfghmaaGreatShelf
namespace Go.Proofs.YthphojdnbfghmaaGreat
open Go.RowKit

/-- the builder, and what it holds -/
def Bd (w : World) (b : Nat) (l : List UInt8) : Prop := Lib.IsBuilderF 166 5 b b (Lib.byteCells l) w ∧ b < w.heap.size
theorem Bd.below {w w1 : World} {b : Nat} {l : List UInt8} (h : Bd w b l) (hb : Below w.heap.size w w1) : Bd w1 b l := by
  have key : ∀ p, Lib.BuilderAtF 166 5 b b p (Lib.byteCells l) w → Lib.BuilderAtF 166 5 b b p (Lib.byteCells l) w1 := by
    intro p hp
    have hlt := hp.lt
    obtain ⟨hB, v, hbk, hown, hne⟩ := hp
    refine ⟨hB, v, (hb.block b hlt).trans hbk, ?_, hne⟩
    refine ⟨hown.1, ?_⟩
    rcases hown.2 with h | ⟨g, cap, cur, fz, h1, h2, h3, h4⟩
    · exact Or.inl h
    · have hg : g < w.heap.size := (Array.getElem?_eq_some_iff.1 h3).1
      exact Or.inr ⟨g, cap, cur, fz, h1, h2, (hb.block g hg).trans h3, h4⟩
  refine ⟨?_, by have := hb.size; have := h.2; omega⟩
  rcases h.1 with h | h
  · exact Or.inl (key _ h)
  · exact Or.inr (key _ h)
theorem byteCells_append (l r : List UInt8) : Lib.byteCells (l ++ r) = Lib.byteCells l ++ Lib.byteCells r := by simp [Lib.byteCells]

theorem bdString (b : Nat) (l : List UInt8) (s : ByteArray) (w : World) (h : Bd w b l) (hl : l.length + s.size ≤ 1000000) :
    Calls Tryz.prog 112 #[.pointer (some ⟨b, 0, none⟩), .string s] w fun e w' => e = .returned (.tuple #[.int .i64 s.size, .nilIface]) ∧ Bd w' b (l ++ ls s) ∧ Below b w w' ∧ Lib.OthersKept 5 (some b) w w' ∧ w.heap.size ≤ w'.heap.size := by
  refine (writeString_any b b _ s w h.1 (by rw [Lib.byteCells_length]; omega) (by have := h.2; omega)).mono ?_
  rintro e w' ⟨rfl, h1, h2, h3, h4⟩
  refine ⟨rfl, ⟨Or.inr ?_, by have := h.2; omega⟩, h2, h3, h4⟩
  rw [byteCells_append]
  exact h1
theorem bdByte (b : Nat) (l : List UInt8) (x : Int) (w : World) (h : Bd w b l) (hl : l.length ≤ 1000000) (hx : 0 ≤ x ∧ x ≤ 255) :
    Calls Tryz.prog 110 #[.pointer (some ⟨b, 0, none⟩), .int .u8 x] w fun e w' => e = .returned .nilIface ∧ Bd w' b (l ++ [byt x]) ∧ Below b w w' := by
  refine (writeByte_any b b _ x w h.1 (by rw [Lib.byteCells_length]; omega) (by have := h.2; omega)).mono ?_
  rintro e w' ⟨rfl, h1, h2, h3, h4⟩
  refine ⟨rfl, ⟨Or.inr ?_, by have := h.2; omega⟩, h2⟩
  rw [byteCells_append]
  have : Lib.byteCells [byt x] = [.int .u8 x] := by simp [Lib.byteCells, byt_toNat x hx.1 hx.2]
  rw [this]
  exact h1
theorem StrRow.others {w w1 : World} {B n b : Nat} {f : Nat → ByteArray} (h : StrRow w B n f) (hk : Lib.OthersKept 5 (some b) w w1) (hne : B ≠ b) (hz : w.heap.size ≤ w1.heap.size) : StrRow w1 B n f := by
  obtain ⟨h1, h2, h3, C, t, fz, h4, h5⟩ := h
  have h6 := hk B _ h4 (by simpa using hne) (by intro c fz' e; injection e with _ e2 _; exact h5 e2)
  refine ⟨fun j hj => ?_, fun j => ?_, by omega, C, t, fz, h6, h5⟩
  · rw [Lib.cell_of_heap h6, ← Lib.cell_of_heap h4]; exact h1 j hj
  · have : w1.frozen? ⟨B, j, none⟩ = w.frozen? ⟨B, j, none⟩ := by simp [World.frozen?, h4, h6]
    rw [this]; exact h2 j

theorem xor_sib (p : Int) (n : Nat) (hn : n = 8 ∨ n = 4 ∨ n = 2) (h0 : 0 ≤ p) (h1 : p < n) : ∃ m : Nat, m < n ∧ sib p = (m : Int) ∧ bits BinOp.xor IntKind.i64 p 1 = (m : Int) := by
  have hx := xor_i64 p ⟨h0, by omega⟩
  refine ⟨(sib p).toNat, ?_, ?_, ?_⟩
  · unfold sib; split <;> omega
  · unfold sib; split <;> omega
  · rw [hx]; unfold sib; split <;> omega

set_option maxHeartbeats 1000000 in
theorem build_any (seed : ByteArray) (leaf : Int) (v : Value) (l : List UInt8) (w : World) (hs : seed.size ≤ 4611686018427387904) (hl : 0 ≤ leaf ∧ leaf ≤ 7) (hll : l.length ≤ 4611686018427387904) (hv : SeesBytes w v l) :
    Calls Tryz.prog 79 #[.string seed, .int .u8 leaf, v] w fun e w' => e = .returned (.string (signOf seed leaf l)) ∧ Below w.heap.size w w' := by
  obtain ⟨d, hd⟩ : ∃ d, d = dd leaf l := ⟨_, rfl⟩
  go_enter Tryz.func79, Tryz.ntmps79
  go_wp2_with fail
  have hB0 : Bd (w.alloc (.cells #[.pointer none, .slice none 0 0] 166)) w.heap.size [] := ⟨Lib.IsBuilderF.of (Lib.fresh_isBuilder 166 5 w), by simp⟩
  refine (bdByte w.heap.size [] leaf _ hB0 (by simp) ⟨hl.1, by omega⟩).mono ?_
  rintro e w1 ⟨rfl, hB1, hb1⟩
  have hbw1 : Below w.heap.size w w1 := ((Below.refl _ _).alloc (Nat.le_refl _) _).trans hb1
  have hv1 := hv.below hbw1
  have HB1 := hid hbw1
  clear hb1 hB0 hbw1 hv
  go_wp2_with fail
  refine (digitsOf_any leaf v l _ ⟨hl.1, by omega⟩ hll hv1).mono ?_
  rintro e w2 ⟨rfl, hb2⟩
  rw [← hd]
  have HD := hid hd
  have hB2 := hB1.below hb2
  have HB2 := hid (keepB HB1.out hb2)
  clear hb2 hB1 HB1 hv1 hd
  go_wp2
  go_loopw [17] (fun i wr => ∃ k : Nat, k ≤ 18 ∧ i = .int .i64 k ∧ Bd wr w.heap.size ([byt leaf] ++ lss (links seed leaf d k)) ∧ Below w.heap.size w wr) (fun i _ => 18 - (intOf i).toNat)
  case atStart => exact ⟨0, by omega, rfl, hB2, HB2.out⟩
  case round =>
    clear hB2
    obtain ⟨k, hk, rfl, hBr, hbr⟩ := hrel
    by_cases hlt : k < 18
    · have hidx := index_digits (dgt d) k hlt
      have hdb := dgt_bd d k
      have HX : Hid (links seed leaf d (k + 1) = links seed leaf d k ++ [lnk seed leaf (k : Int) (dgt d k).toNat]) := links_succ _ _ _ _
      have HLl : Hid ((lss (links seed leaf d k)).length = k * 8) := lss_length _ k (by simp [links]) (links_size _ _ _ _)
      generalize dgt d k = g at *
      go_wp2_with fail
      refine (seedLink_any seed leaf _ g _ hs ⟨hl.1, by omega⟩ ⟨by omega, by omega⟩ ⟨hdb.1, by omega⟩).mono ?_
      rintro e w3 ⟨rfl, hb3⟩
      have hB3 := hBr.below hb3
      have HB3 := hid (keepB hbr hb3)
      have hx8 := lnk_size seed leaf (k : Int) g.toNat
      clear hb3 hBr hbr hidx
      generalize lnk seed leaf (k : Int) g.toNat = x at *
      go_wp2_with fail
      refine (bdString w.heap.size _ x _ hB3 (by have := HLl.out; simp only [List.length_append, List.length_cons, List.length_nil]; omega)).mono ?_
      rintro e w4 ⟨rfl, hB4, hb4, _, _⟩
      have HB4 := hid (HB3.out.trans hb4)
      have HBd : Hid (Bd w4 w.heap.size ([byt leaf] ++ lss (links seed leaf d (k + 1)))) := by
        rw [HX.out, lss_append, lss_one, ← List.append_assoc]; exact hB4
      clear hb4 hB3 HB3 hB4
      go_wp2
      go_roundw
      case rel => exact ⟨k + 1, by omega, by go_num, HBd.out, HB4.out⟩
      case measure => simp [intOf]; omega
    · obtain rfl : k = 18 := by omega
      go_wp2_with fail
      refine (leafNodes_any seed _ hs).mono ?_
      rintro e w3 ⟨rfl, hR3, hb3⟩
      have hB3 := hBr.below hb3
      have HB3 := hid (keepB hbr hb3)
      have hNr : w.heap.size < wr.heap.size := hBr.2
      clear hb3 hBr hbr
      go_wp2
      refine wp_loop_rounds 4 ?_
      have HLl : Hid ((lss (links seed leaf d 18)).length = 18 * 8) := lss_length _ 18 (by simp [links]) (links_size _ _ _ _)
      have hwr := HB3.out.size
      rw [rounds_succ]
      obtain ⟨m0, hm0, HS0, hx0⟩ : ∃ m : Nat, m < 8 ∧ Hid (sib (leaf) = (m : Int)) ∧ bits BinOp.xor IntKind.i64 (leaf) 1 = (m : Int) := xor_sib (leaf) 8 (by omega) (by omega) (by omega)
      have cc0 : w3.cell? ⟨wr.heap.size, m0, none⟩ = some (.string (nod seed 0 (m0 : Int))) := hR3.1 m0 hm0
      have z0 := nod_size seed 0 (m0 : Int)
      have HN0 : Hid (nod seed 0 (sib (leaf)) = nod seed 0 (m0 : Int)) := by rw [HS0.out]; exact rfl
      generalize nod seed 0 (m0 : Int) = y0 at cc0 z0 HN0
      go_wp2_with fail
      refine (bdString w.heap.size _ y0 _ hB3 (by have := HLl.out; simp only [List.length_append, List.length_cons, List.length_nil]; omega)).mono ?_
      rintro e w4 ⟨rfl, hB4, hb4, hk4, hz4⟩
      have HB4 := hid (HB3.out.trans hb4)
      have hR4 := hR3.others hk4 (by omega) hz4
      clear cc0 hx0 hm0 hR3 hB3 HB3 hb4 hk4
      go_wp2_with fail
      refine (level_any seed 0 4 8 rfl ⟨by omega, by omega⟩ _ _ _ hR4).mono ?_
      rintro e w5 ⟨rfl, hR5, hb5⟩
      have hB5 := hB4.below hb5
      have HB5 := hid (keepB HB4.out hb5)
      have hNr5 : w.heap.size < w4.heap.size := hB4.2
      clear hb5 hR4 hB4 HB4
      go_wp2_with fail
      rw [rounds_succ]
      obtain ⟨m1, hm1, HS1, hx1⟩ : ∃ m : Nat, m < 4 ∧ Hid (sib (leaf / 2) = (m : Int)) ∧ bits BinOp.xor IntKind.i64 (leaf / 2) 1 = (m : Int) := xor_sib (leaf / 2) 4 (by omega) (by omega) (by omega)
      have cc1 : w5.cell? ⟨w4.heap.size, m1, none⟩ = some (.string (nod seed 1 (m1 : Int))) := hR5.1 m1 hm1
      have z1 := nod_size seed 1 (m1 : Int)
      have HN1 : Hid (nod seed 1 (sib (leaf / 2)) = nod seed 1 (m1 : Int)) := by rw [HS1.out]; exact rfl
      generalize nod seed 1 (m1 : Int) = y1 at cc1 z1 HN1
      go_wp2_with fail
      refine (bdString w.heap.size _ y1 _ hB5 (by have := HLl.out; simp only [List.length_append, List.length_cons, List.length_nil, ls_length]; omega)).mono ?_
      rintro e w6 ⟨rfl, hB6, hb6, hk6, hz6⟩
      have HB6 := hid (HB5.out.trans hb6)
      have hR6 := hR5.others hk6 (by omega) hz6
      clear cc1 hx1 hm1 hR5 hB5 HB5 hb6 hk6
      go_wp2_with fail
      refine (level_any seed 1 2 4 rfl ⟨by omega, by omega⟩ _ _ _ hR6).mono ?_
      rintro e w7 ⟨rfl, hR7, hb7⟩
      have hB7 := hB6.below hb7
      have HB7 := hid (keepB HB6.out hb7)
      have hNr7 : w.heap.size < w6.heap.size := hB6.2
      clear hb7 hR6 hB6 HB6
      go_wp2_with fail
      rw [rounds_succ]
      obtain ⟨m2, hm2, HS2, hx2⟩ : ∃ m : Nat, m < 2 ∧ Hid (sib (leaf / 2 / 2) = (m : Int)) ∧ bits BinOp.xor IntKind.i64 (leaf / 2 / 2) 1 = (m : Int) := xor_sib (leaf / 2 / 2) 2 (by omega) (by omega) (by omega)
      have cc2 : w7.cell? ⟨w6.heap.size, m2, none⟩ = some (.string (nod seed 2 (m2 : Int))) := hR7.1 m2 hm2
      have z2 := nod_size seed 2 (m2 : Int)
      have HN2 : Hid (nod seed 2 (sib (leaf / 2 / 2)) = nod seed 2 (m2 : Int)) := by rw [HS2.out]; exact rfl
      generalize nod seed 2 (m2 : Int) = y2 at cc2 z2 HN2
      go_wp2_with fail
      refine (bdString w.heap.size _ y2 _ hB7 (by have := HLl.out; simp only [List.length_append, List.length_cons, List.length_nil, ls_length]; omega)).mono ?_
      rintro e w8 ⟨rfl, hB8, hb8, hk8, hz8⟩
      have HB8 := hid (HB7.out.trans hb8)
      have hR8 := hR7.others hk8 (by omega) hz8
      clear cc2 hx2 hm2 hR7 hB7 HB7 hb8 hk8
      go_wp2_with fail
      refine (level_any seed 2 1 2 rfl ⟨by omega, by omega⟩ _ _ _ hR8).mono ?_
      rintro e w9 ⟨rfl, hR9, hb9⟩
      have hB9 := hB8.below hb9
      have HB9 := hid (keepB HB8.out hb9)
      clear hb9 hR8 hB8 HB8 hR9
      go_wp2_with fail
      rw [rounds_succ]
      go_wp2_with fail
      refine (Tryz.Builder_String_any_k w.heap.size w.heap.size _ _ hB9.1 (by have := hB9.2; omega)).mono ?_
      rintro e w10 ⟨rfl, _, hb10, _⟩
      have HB10 := hid (HB9.out.trans hb10)
      have HE : Hid (signL seed leaf l = byt leaf :: (lss (links seed leaf d 18) ++ (ls y0 ++ (ls y1 ++ ls y2)))) := by
        rw [signL, ← HD.out, ← HN0.out, ← HN1.out, ← HN2.out]
        simp [path, up, lss, Hid]
      clear hb10 hB9 HB9
      go_wp2
      go_ret
      refine ⟨?_, HB10.out⟩
      rw [signOf, HE.out]
      rfl

set_option maxHeartbeats 1000000 in
theorem sigSign_yes (seed : ByteArray) (leaf : Int) (v : Value) (l : List UInt8) (w : World) (hs : seed.size ≤ 4611686018427387904) (hl : 0 ≤ leaf ∧ leaf ≤ 7) (hll : l.length ≤ 4611686018427387904) (hv : SeesBytes w v l) :
    Calls Tryz.prog 46 #[.string seed, .int .i64 leaf, v] w fun e w' => e = .returned (.tuple #[.string (signOf seed leaf l), .int .i64 0]) ∧ Below w.heap.size w w' := by
  have hd1 : decide (0 ≤ leaf) = true := by simp; omega
  have hd2 : decide (leaf < 8) = true := by simp; omega
  go_enter Tryz.func46, Tryz.ntmps46
  go_wp2_with fail
  refine (isLeaf_any _ _).mono ?_
  rintro e w1 ⟨rfl, rfl⟩
  go_wp2_with fail
  refine (build_any seed leaf v l _ hs hl hll hv).mono ?_
  rintro e w2 ⟨rfl, hb2⟩
  clear hv
  go_wp2
  go_ret2
  exact ⟨rfl, hb2⟩

set_option maxHeartbeats 1000000 in
theorem sigSign_no (seed : ByteArray) (leaf : Int) (v : Value) (w : World) (hl : leaf < 0 ∨ 7 < leaf) :
    Calls Tryz.prog 46 #[.string seed, .int .i64 leaf, v] w fun e w' => e = .returned (.tuple #[.string ⟨#[]⟩, .int .i64 7]) ∧ Below w.heap.size w w' := by
  have hd : (decide (0 ≤ leaf) && decide (leaf < 8)) = false := by simp; omega
  go_enter Tryz.func46, Tryz.ntmps46
  go_wp2_with fail
  refine (isLeaf_any _ _).mono ?_
  rintro e w1 ⟨rfl, rfl⟩
  rw [hd]
  clear hd
  go_wp2_with fail
  go_ret2
  exact ⟨rfl, Below.refl _ _⟩

set_option maxHeartbeats 400000 in
theorem sign_yes (seed : ByteArray) (leaf : Int) (v : Value) (l : List UInt8) (w : World) (hs : seed.size ≤ 4611686018427387904) (hl : 0 ≤ leaf ∧ leaf ≤ 7) (hll : l.length ≤ 4611686018427387904) (hv : SeesBytes w v l) :
    Calls Tryz.prog 27 #[.string seed, .int .i64 leaf, v] w fun e w' => e = .returned (.tuple #[.string (signOf seed leaf l), .int .i64 0]) ∧ Below w.heap.size w w' := by
  go_enter Tryz.func27, Tryz.ntmps27
  go_wp2_with fail
  refine (sigSign_yes seed leaf v l _ hs hl hll hv).mono ?_
  rintro e w1 ⟨rfl, hb1⟩
  clear hv
  go_wp2
  go_ret2
  exact ⟨rfl, hb1⟩

set_option maxHeartbeats 400000 in
theorem sign_no (seed : ByteArray) (leaf : Int) (v : Value) (w : World) (hl : leaf < 0 ∨ 7 < leaf) :
    Calls Tryz.prog 27 #[.string seed, .int .i64 leaf, v] w fun e w' => e = .returned (.tuple #[.string ⟨#[]⟩, .int .i64 7]) ∧ Below w.heap.size w w' := by
  go_enter Tryz.func27, Tryz.ntmps27
  go_wp2_with fail
  refine (sigSign_no seed leaf v _ hl).mono ?_
  rintro e w1 ⟨rfl, hb1⟩
  go_wp2
  go_ret2
  exact ⟨rfl, hb1⟩
end Go.Proofs.YthphojdnbfghmaaGreat
