import Derived.Test.YthphojdnbfghmaaGreatRows
import Derived.Test.YthphojdnbfghmaaGreatPlain
namespace Go.Proofs.YthphojdnbfghmaaGreat
open Go.RowKit

theorem bcell {W w1 : World} (hb : Below W.heap.size W w1) : (∀ b o, b < W.heap.size → w1.cell? ⟨b, o, none⟩ = W.cell? ⟨b, o, none⟩) ∧ (∀ b o, b < W.heap.size → w1.frozen? ⟨b, o, none⟩ = W.frozen? ⟨b, o, none⟩) :=
  ⟨fun b o h => hb.cell (p := ⟨b, o, none⟩) h, fun b o h => hb.frozen (p := ⟨b, o, none⟩) h⟩

set_option maxHeartbeats 400000 in
theorem take_any (x n b : Int) (w : World) (hb : 0 ≤ b ∧ b ≤ 255) (hn : 0 ≤ n ∧ n < 18446744073709551615) :
    Calls Tryz.prog 95 #[.agg #[.int .u64 x, .int .u64 n], .int .u8 b] w fun e w' => e = .returned (.agg #[.int .u64 (kstep x b), .int .u64 (n + 1)]) ∧ Below w.heap.size w w' := by
  go_enter Tryz.func95, Tryz.ntmps95
  go_wp2
  exact bodyPost_ret (v := .agg #[.int .u64 (kstep x b), .int .u64 (n + 1)]) (by simp [results, Tryz.results95, go_sem, kstep, kmul]) rfl ⟨rfl, ((Below.refl _ _).alloc (Nat.le_refl _) _).alloc (by simp) _⟩

set_option maxHeartbeats 400000 in
theorem bytes_some (x n : Int) (l : List UInt8) (b off cap : Nat) (w : World) (hn : 0 ≤ n ∧ n + l.length < 18446744073709551615) (hl : l.length ≤ 9223372036854775807) (hbl : b < w.heap.size)
    (hc : ∀ j, j < l.length → w.cell? ⟨b, off + j, none⟩ = some (.int .u8 ((l[j]?.getD 0).toNat : Int))) :
    Calls Tryz.prog 57 #[.agg #[.int .u64 x, .int .u64 n], .slice (some ⟨b, off, none⟩) l.length cap] w fun e w' => e = .returned (.agg #[.int .u64 (kx x l), .int .u64 (n + l.length)]) ∧ Below w.heap.size w w' := by
  go_enter Tryz.func57, Tryz.ntmps57
  go_wp2
  go_loopw [9] (fun i wr => ∃ k : Nat, k ≤ l.length ∧ i = .int .i64 k ∧ wr.cell? ⟨w.heap.size, 0, none⟩ = some (.int .u64 (kx x (l.take k))) ∧ wr.cell? ⟨w.heap.size, 1, none⟩ = some (.int .u64 (n + k)) ∧
      wr.frozen? ⟨w.heap.size, 0, none⟩ = false ∧ wr.frozen? ⟨w.heap.size, 1, none⟩ = false ∧ wr.frozen? ⟨w.heap.size + 1, 0, none⟩ = false ∧ wr.frozen? ⟨w.heap.size + 1, 1, none⟩ = false ∧
      (∃ c0 c1, wr.cell? ⟨w.heap.size + 1, 0, none⟩ = some c0 ∧ wr.cell? ⟨w.heap.size + 1, 1, none⟩ = some c1) ∧ w.heap.size + 2 ≤ wr.heap.size ∧ Below w.heap.size w wr)
    (fun i _ => l.length - (intOf i).toNat)
  case atStart => exact ⟨0, Nat.zero_le _, rfl, by simp [go_sem, kx], by simp [go_sem], by simp [go_sem], by simp [go_sem], by simp [go_sem], by simp [go_sem], ⟨.int .u64 0, .int .u64 0, by simp [go_sem], by simp [go_sem]⟩, by simp, ((Below.refl _ _).alloc (Nat.le_refl _) _).alloc (by simp) _⟩
  case round =>
    obtain ⟨k, hk, rfl, h0, h1, f0, f1, f2, f3, ⟨c0, c1, g0, g1⟩, hsz, hbe⟩ := hrel
    by_cases hlt : k < l.length
    · obtain ⟨c, HK, hcx⟩ : ∃ c : Int, Hid (kx x (l.take (k + 1)) = kstep (kx x (l.take k)) c ∧ 0 ≤ c ∧ c ≤ 255) ∧ wr.cell? ⟨b, off + k, none⟩ = some (.int .u8 c) :=
        ⟨_, ⟨kx_take x l k hlt, by omega, by have := (l[k]?.getD 0).toNat_lt; omega⟩, (hbe.cell (p := ⟨b, off + k, none⟩) hbl).trans (hc k hlt)⟩
      go_wp2_with fail
      refine (take_any _ _ _ _ HK.out.2 ⟨by omega, by omega⟩).mono ?_
      rintro e w1 ⟨rfl, hb1⟩
      obtain ⟨hc1, hf1⟩ := bcell hb1
      have hz1 := hb1.size
      have e0 : w1.cell? ⟨w.heap.size, 0, none⟩ = some (.int .u64 (kx x (l.take k))) := (hc1 _ _ (by omega)).trans h0
      have e1 : w1.cell? ⟨w.heap.size, 1, none⟩ = some (.int .u64 (n + k)) := (hc1 _ _ (by omega)).trans h1
      have e2 : w1.frozen? ⟨w.heap.size, 0, none⟩ = false := (hf1 _ _ (by omega)).trans f0
      have e3 : w1.frozen? ⟨w.heap.size, 1, none⟩ = false := (hf1 _ _ (by omega)).trans f1
      have e4 : w1.frozen? ⟨w.heap.size + 1, 0, none⟩ = false := (hf1 _ _ (by omega)).trans f2
      have e5 : w1.frozen? ⟨w.heap.size + 1, 1, none⟩ = false := (hf1 _ _ (by omega)).trans f3
      have e6 : w1.cell? ⟨w.heap.size + 1, 0, none⟩ = some c0 := (hc1 _ _ (by omega)).trans g0
      have e7 : w1.cell? ⟨w.heap.size + 1, 1, none⟩ = some c1 := (hc1 _ _ (by omega)).trans g1
      have HB : Hid (Below w.heap.size w w1) := hbe.trans (hb1.mono (by omega))
      clear hc1 hf1 hbe hb1 hcx hc h0 h1 f0 f1 f2 f3 g0 g1
      go_wp2
      go_roundw
      case rel =>
        refine ⟨k + 1, by omega, by go_num, ?_, ?_, ?_, ?_, ?_, ?_, ⟨c0, c1, ?_, ?_⟩, ?_, ?_⟩
        · rw [HK.out.1]; simp [go_sem, e0]
        · simp [go_sem, e1]; omega
        all_goals first | (simp [go_sem, e2, e3, e4, e5, e6, e7]; done) | (simp; omega) | skip
        exact (HB.out.setCell (by simp) _).setCell (by simp) _
      case measure => simp [intOf]; omega
    · obtain rfl : k = l.length := by omega
      go_wp2
      refine bodyPost_ret (v := .agg #[.int .u64 (kx x l), .int .u64 (n + l.length)]) (by simp [results, Tryz.results57, go_sem, g0, g1]) rfl ⟨rfl, (hbe.setCell (by simp) _).setCell (by simp) _⟩

set_option maxHeartbeats 400000 in
theorem bytes_nil (x n : Int) (ao : Option Addr) (cap : Nat) (w : World) :
    Calls Tryz.prog 57 #[.agg #[.int .u64 x, .int .u64 n], .slice ao 0 cap] w fun e w' => e = .returned (.agg #[.int .u64 x, .int .u64 n]) ∧ Below w.heap.size w w' := by
  go_enter Tryz.func57, Tryz.ntmps57
  go_wp2
  refine wp_loop_rounds 1 ?_
  rw [rounds_succ]
  go_wp2
  exact bodyPost_ret (v := .agg #[.int .u64 x, .int .u64 n]) (by simp [results, Tryz.results57, go_sem]) rfl ⟨rfl, ((Below.refl _ _).alloc (Nat.le_refl _) _).alloc (by simp) _⟩

/-- a list of bytes, as it lies in memory -/
def SeesBytes (w : World) (v : Value) (l : List UInt8) : Prop :=
  ((∃ ao cap, v = .slice ao 0 cap) ∧ l = []) ∨ ∃ b off cap : Nat, b < w.heap.size ∧ v = .slice (some ⟨b, off, none⟩) l.length cap ∧ ∀ j, j < l.length → w.cell? ⟨b, off + j, none⟩ = some (.int .u8 ((l[j]?.getD 0).toNat : Int))

theorem SeesBytes.below {w w1 : World} {v : Value} {l : List UInt8} (h : SeesBytes w v l) (hb : Below w.heap.size w w1) : SeesBytes w1 v l := by
  rcases h with h | ⟨b, off, cap, h1, h2, h3⟩
  · exact Or.inl h
  · exact Or.inr ⟨b, off, cap, by have := hb.size; omega, h2, fun j hj => (hb.cell (p := ⟨b, off + j, none⟩) h1).trans (h3 j hj)⟩

theorem bytes_any (x n : Int) (v : Value) (l : List UInt8) (w : World) (hn : 0 ≤ n ∧ n + l.length < 18446744073709551615) (hl : l.length ≤ 9223372036854775807) (hs : SeesBytes w v l) :
    Calls Tryz.prog 57 #[.agg #[.int .u64 x, .int .u64 n], v] w fun e w' => e = .returned (.agg #[.int .u64 (kx x l), .int .u64 (n + l.length)]) ∧ Below w.heap.size w w' := by
  rcases hs with ⟨⟨ao, cap, rfl⟩, rfl⟩ | ⟨b, off, cap, h1, rfl, h3⟩
  · simpa [kx] using bytes_nil x n ao cap w
  · exact bytes_some x n l b off cap w hn hl h1 h3

theorem conv1 (b : Nat) (n : Int) (w : World) (hb : b = w.heap.size) : (convert 27 9 (.slice (some ⟨b, 0, none⟩) 1 1)).run Tryz.prog (w.alloc (.cells #[.int .u8 n] 5)) = .ok (.string (strOfNums [n])) (w.alloc (.cells #[.int .u8 n] 5)) := by
  subst hb
  refine run_convert_bytes_arg _ 27 5 Tryz.underlying27 Tryz.underlying5 _ 0 1 1 [n] rfl ?_ 9 Tryz.underlying9
  intro i hi
  obtain rfl : i = 0 := by omega
  simp [go_sem]
theorem conv8 (b : Nat) (a0 a1 a2 a3 a4 a5 a6 a7 : Int) (w : World) (hb : b = w.heap.size) : (convert 27 9 (.slice (some ⟨b, 0, none⟩) 8 8)).run Tryz.prog (w.alloc (.cells #[.int .u8 a0, .int .u8 a1, .int .u8 a2, .int .u8 a3, .int .u8 a4, .int .u8 a5, .int .u8 a6, .int .u8 a7] 151)) = .ok (.string (strOfNums [a0, a1, a2, a3, a4, a5, a6, a7])) (w.alloc (.cells #[.int .u8 a0, .int .u8 a1, .int .u8 a2, .int .u8 a3, .int .u8 a4, .int .u8 a5, .int .u8 a6, .int .u8 a7] 151)) := by
  subst hb
  refine run_convert_bytes_arg _ 27 5 Tryz.underlying27 Tryz.underlying5 _ 0 8 8 _ rfl ?_ 9 Tryz.underlying9
  intro i hi
  match i, hi with
  | 0, _ => simp [go_sem]
  | 1, _ => simp [go_sem]
  | 2, _ => simp [go_sem]
  | 3, _ => simp [go_sem]
  | 4, _ => simp [go_sem]
  | 5, _ => simp [go_sem]
  | 6, _ => simp [go_sem]
  | 7, _ => simp [go_sem]

set_option maxRecDepth 100000 in
set_option maxHeartbeats 1000000 in
theorem end_any (x n : Int) (w : World) :
    Calls Tryz.prog 58 #[.agg #[.int .u64 x, .int .u64 n]] w fun e w' => e = .returned (.string (dstr (kfin x n))) ∧ Below w.heap.size w w' := by
  have hy0 := kfin_bd x n
  unfold kfin kmul at hy0
  have hcv := conv8
  go_enter Tryz.func58, Tryz.ntmps58
  go_wp2
  generalize hy : bits BinOp.xor IntKind.u64 (IntKind.u64.wrap (bits BinOp.xor IntKind.u64 x n * 11400714819323198485)) (IntKind.u64.wrap (bits BinOp.xor IntKind.u64 x n * 11400714819323198485) / 4294967296) = y at *
  have HY : Hid (kfin x n = y) := hy
  clear hy
  generalize (bits BinOp.xor IntKind.u64 x n * 11400714819323198485) = y0
  refine wp_loop_rounds 9 ?_
  iterate 9
    rw [rounds_succ]
    go_wp2
  go_ret
  exact ⟨by rw [HY.out, dstr]; rfl, ((Below.refl _ _).alloc (Nat.le_refl _) _).alloc (by simp) _⟩

set_option maxRecDepth 100000 in
set_option maxHeartbeats 1000000 in
theorem ref_any (s : ByteArray) (w : World) (hl : s.size ≤ 9223372036854775807) :
    Calls Tryz.prog 22 #[.string s] w fun e w' => e = .returned (.string (dig s.data.toList)) ∧ Below w.heap.size w w' := by
  have hcv := conv1
  have hss := strOfNums_size
  go_enter Tryz.func22, Tryz.ntmps22
  go_wp2
  go_loop [3, 4] (fun xx i => ∃ k : Nat, k ≤ s.size ∧ i = .int .i64 k ∧ xx = .int .u64 (kx kinit (s.data.toList.take k))) (fun _ i => s.size - (intOf i).toNat)
  case atStart => exact ⟨0, Nat.zero_le _, rfl, rfl⟩
  case round =>
    obtain ⟨k, hk, rfl, rfl⟩ := hrel
    by_cases hlt : k < s.size
    · have HK : Hid (kx kinit (s.data.toList.take (k + 1)) = kstep (kx kinit (s.data.toList.take k)) (s[k].toNat : Int)) := by
        have h := kx_take kinit s.data.toList k (by simpa using hlt)
        refine h.trans ?_
        rw [List.getElem?_eq_getElem (by simpa using hlt)]
        rfl
      have hb8 : (s[k].toNat : Int) < 256 := by have := s[k].toNat_lt; omega
      generalize kx kinit (s.data.toList.take k) = xk at *
      go_wp2
      go_round
      case rel => exact ⟨k + 1, by omega, by go_num, by rw [HK.out]; rfl⟩
      case measure => simp [intOf]; omega
    · obtain rfl : k = s.size := by omega
      generalize hxx : kx kinit (s.data.toList.take s.size) = xx
      have HX : Hid (kx kinit s.data.toList = xx) := by
        have h : s.data.toList.take s.size = s.data.toList := List.take_of_length_le (by simp)
        rw [h] at hxx; exact hxx
      clear hxx
      go_wp2
      have hy0 := kfin_bd xx s.size
      unfold kfin kmul at hy0
      generalize hy : bits BinOp.xor IntKind.u64 (IntKind.u64.wrap (bits BinOp.xor IntKind.u64 xx s.size * 11400714819323198485)) (IntKind.u64.wrap (bits BinOp.xor IntKind.u64 xx s.size * 11400714819323198485) / 4294967296) = y at *
      have HY : Hid (kfin xx s.size = y) := hy
      clear hy
      generalize (bits BinOp.xor IntKind.u64 xx s.size * 11400714819323198485) = y0
      refine wp_loop_rounds 9 ?_
      iterate 9
        rw [rounds_succ]
        go_wp2
      go_ret
      refine ⟨?_, ?_⟩
      · have h1 : s.data.toList.length = s.size := Array.length_toList
        rw [dig, HX.out, h1, HY.out, ← ref_str]; rfl
      · exact ((((((((Below.refl _ _).alloc (Nat.le_refl _) _).alloc (by simp) _).alloc (by simp; omega) _).alloc (by simp; omega) _).alloc (by simp; omega) _).alloc (by simp; omega) _).alloc (by simp; omega) _).alloc (by simp; omega) _

theorem SeesBytes.alloc {w : World} {v : Value} {l : List UInt8} (h : SeesBytes w v l) (o : Obj) : SeesBytes (w.alloc o) v l :=
  h.below ((Below.refl _ _).alloc (Nat.le_refl _) _)

set_option maxHeartbeats 400000 in
theorem begin_any (v : Value) (l : List UInt8) (w : World) (hl : l.length ≤ 9223372036854775807) (hs : SeesBytes w v l) :
    Calls Tryz.prog 56 #[v] w fun e w' => e = .returned (.agg #[.int .u64 (kx kinit l), .int .u64 l.length]) ∧ Below w.heap.size w w' := by
  go_enter Tryz.func56, Tryz.ntmps56
  go_wp2_with fail
  refine (bytes_any 7738725071487725157 0 v l _ ⟨by omega, by omega⟩ hl (hs.alloc _)).mono ?_
  rintro e w1 ⟨rfl, hb⟩
  obtain ⟨hc, hf⟩ := bcell hb
  have hz := hb.size
  have e0 : w1.cell? ⟨w.heap.size, 0, none⟩ = some (.int .u64 0) := (hc _ _ (by simp)).trans (by simp [go_sem])
  have e1 : w1.cell? ⟨w.heap.size, 1, none⟩ = some (.int .u64 0) := (hc _ _ (by simp)).trans (by simp [go_sem])
  have e2 : w1.frozen? ⟨w.heap.size, 0, none⟩ = false := (hf _ _ (by simp)).trans (by simp [go_sem])
  have e3 : w1.frozen? ⟨w.heap.size, 1, none⟩ = false := (hf _ _ (by simp)).trans (by simp [go_sem])
  have HB : Hid (Below w.heap.size w w1) := ((Below.refl w.heap.size w).alloc (Nat.le_refl _) _).trans (hb.mono (by simp))
  clear hc hf hb hz hs
  go_wp2
  exact bodyPost_ret (v := .agg #[.int .u64 (kx kinit l), .int .u64 l.length]) (by simp [results, Tryz.results56, go_sem, e0, e1, kinit]) rfl ⟨rfl, (HB.out.setCell (by simp) _).setCell (by simp) _⟩

set_option maxHeartbeats 400000 in
theorem of_any (v : Value) (l : List UInt8) (w : World) (hl : l.length ≤ 9223372036854775807) (hs : SeesBytes w v l) :
    Calls Tryz.prog 30 #[v] w fun e w' => e = .returned (.string (dig l)) ∧ Below w.heap.size w w' := by
  go_enter Tryz.func30, Tryz.ntmps30
  go_wp2_with fail
  refine (begin_any (.slice none 0 0) [] _ (by simp) (Or.inl ⟨⟨_, _, rfl⟩, rfl⟩)).mono ?_
  rintro e w1 ⟨rfl, hb1⟩
  go_wp2_with fail
  refine (bytes_any _ _ v l _ ⟨by simp, by simp; omega⟩ hl (hs.below hb1)).mono ?_
  rintro e w2 ⟨rfl, hb2⟩
  go_wp2_with fail
  refine (end_any _ _ _).mono ?_
  rintro e w3 ⟨rfl, hb3⟩
  have h1 := hb1.size
  have h2 := hb2.size
  have HB : Hid (Below w.heap.size w w3) := (hb1.trans (hb2.mono h1)).trans (hb3.mono (by omega))
  clear hb1 hb2 hb3 hs
  go_wp2
  go_ret
  exact ⟨by simp [dig, kx], HB.out⟩

set_option maxHeartbeats 400000 in
theorem digest_any (v : Value) (l : List UInt8) (w : World) (hl : l.length ≤ 9223372036854775807) (hs : SeesBytes w v l) :
    Calls Tryz.prog 18 #[v] w fun e w' => e = .returned (.string (dig l)) ∧ Below w.heap.size w w' := by
  go_enter Tryz.func18, Tryz.ntmps18
  go_wp2_with fail
  refine (of_any v l _ hl hs).mono ?_
  rintro e w1 ⟨rfl, hb1⟩
  clear hs
  go_wp2
  go_ret
  exact ⟨rfl, hb1⟩

end Go.Proofs.YthphojdnbfghmaaGreat
