import Derived.Test.YthphojdnbfghmaaGreatRefPack
import Derived.Test.YthphojdnbfghmaaGreatVer2
namespace Go.Proofs.YthphojdnbfghmaaGreat
open Go.RowKit

/-- the number of a word at a place -/
def numAt (s : ByteArray) (a : Nat) : Int := dby s a + 256 * dby s (a + 1)
theorem numAt_bd (s : ByteArray) (a : Nat) : 0 ≤ numAt s a ∧ numAt s a ≤ 65535 := by
  have h0 := dby_bd s a
  have h1 := dby_bd s (a + 1)
  unfold numAt
  omega

set_option maxHeartbeats 400000 in
theorem number_any (s : ByteArray) (a : Nat) (w : World) (hs : s.size ≤ 4611686018427387904) (ha : a + 1 < s.size) :
    Calls Tryz.prog 107 #[.string s, .int .i64 (a : Int)] w fun e w' => e = .returned (.int .i64 (numAt s a)) ∧ Below w.heap.size w w' := by
  have e0 := dby_get s a (by omega)
  have e1 := dby_get s (a + 1) (by omega)
  have b0 := dby_bd s a
  have b1 := dby_bd s (a + 1)
  have HN : Hid (numAt s a = dby s a + 256 * dby s (a + 1)) := rfl
  generalize dby s a = x at *
  generalize dby s (a + 1) = y at *
  have i0 : (0 : Int) ≤ (a : Int) := by omega
  have i1 : (a : Int) < (s.size : Int) := by omega
  have i2 : (0 : Int) ≤ (a : Int) + 1 := by omega
  have i3 : (a : Int) + 1 < (s.size : Int) := by omega
  have i6 : IntKind.i64.wrap ((a : Int) + 1) = (a : Int) + 1 := IntWalk.i64_in _ ⟨by omega, by omega⟩
  have i7 : IntKind.i64.wrap (256 * y) = 256 * y := IntWalk.i64_in _ ⟨by omega, by omega⟩
  have i8 : IntKind.i64.wrap (x + 256 * y) = x + 256 * y := IntWalk.i64_in _ ⟨by omega, by omega⟩
  have i9 : IntKind.i64.wrap x = x := IntWalk.i64_in _ ⟨by omega, by omega⟩
  have i10 : IntKind.i64.wrap y = y := IntWalk.i64_in _ ⟨by omega, by omega⟩
  have j1 : ((a : Int) + 1).toNat = a + 1 := by omega
  go_enter Tryz.func107, Tryz.ntmps107
  go_wp2_with fail
  go_quiet (fail)
  go_wp2
  go_ret
  exact ⟨by rw [HN.out]; rfl, below_drewN (Below.refl _ _) _⟩

/-- a manifest's head is there, and room for its parts -/
def cnt (s : ByteArray) : Nat := (dby s 4).toNat
def headOk (s : ByteArray) : Bool := decide (5 ≤ s.size) && ((s.extract 0 2).toList == [75, 83]) && decide (1 ≤ cnt s) && decide (cnt s ≤ 8) && decide (5 + 14 * cnt s ≤ s.size)
def partOf (s : ByteArray) (i : Nat) : PartR := ⟨numAt s (5 + 14 * i), numAt s (5 + 14 * i + 2), numAt s (5 + 14 * i + 4), s.extract (5 + 14 * i + 6) (5 + 14 * i + 14)⟩
def hasMan (s : ByteArray) : Bool := headOk s && (List.range (cnt s)).all (fun j => decide ((partOf s j).at' < (partOf s j).len))
def unpackNo : Value := .tuple #[.agg #[.int .i64 0, .slice none 0 0], .int .i64 0, .int .i64 1]

theorem results_man {fn : Func} (hfn : fn.results = #[.cell 2 30, .tmp 3, .tmp 4]) (tmps : Array Value) (w : World) (B : Nat) (a b c d : Value) (hp : tmps[2]?.getD undef = .pointer (some ⟨B, 0, none⟩)) (hc : tmps[3]?.getD undef = c) (hd : tmps[4]?.getD undef = d)
    (h : w.rangeAt B 0 [a, b]) : (results fn tmps).run Tryz.prog w = .ok (.tuple #[.agg #[a, b], c, d]) w := by
  have hl := run_loadVar_mid (P := Tryz.prog) w B 0 30 [a, b] _ h Tryz.underlying30 rfl (by kernel_rfl)
  simp [results, hfn, hp, hc, hd, hl, asAddr]

set_option maxHeartbeats 1000000 in
theorem refunpack_short (s : ByteArray) (w : World) (hs : s.size < 5) :
    Calls Tryz.prog 71 #[.string s] w fun e w' => e = .returned unpackNo ∧ Below w.heap.size w w' := by
  go_enter Tryz.func71, Tryz.ntmps71
  go_wp2
  refine bodyPost_ret (v := unpackNo) (results_man Tryz.results71 _ _ w.heap.size _ _ _ _ rfl rfl rfl ?_) rfl ⟨rfl, ?_⟩
  · intro j v hv
    match j, hv with
    | 0, hv => simp at hv; subst hv; simp [go_sem]
    | 1, hv => simp at hv; subst hv; simp [go_sem]
  · exact ((Below.refl _ _).alloc (Nat.le_refl _) _).alloc (by simp) _

set_option maxHeartbeats 1000000 in
theorem refunpack_noKS (s : ByteArray) (w : World) (hs : 5 ≤ s.size) (hs' : s.size ≤ 4611686018427387904) (hk : ((s.extract 0 2).toList == [75, 83]) = false) :
    Calls Tryz.prog 71 #[.string s] w fun e w' => e = .returned unpackNo ∧ Below w.heap.size w w' := by
  have d5 : decide ((s.size : Int) < 5) = false := by simp; omega
  go_enter Tryz.func71, Tryz.ntmps71
  go_wp2
  refine bodyPost_ret (v := unpackNo) (results_man Tryz.results71 _ _ w.heap.size _ _ _ _ rfl rfl rfl ?_) rfl ⟨rfl, ?_⟩
  · intro j v hv
    match j, hv with
    | 0, hv => simp at hv; subst hv; simp [go_sem]
    | 1, hv => simp at hv; subst hv; simp [go_sem]
  · exact ((Below.refl _ _).alloc (Nat.le_refl _) _).alloc (by simp) _

set_option maxHeartbeats 1000000 in
theorem refunpack_noCnt (s : ByteArray) (w : World) (hs : 5 ≤ s.size) (hs' : s.size ≤ 4611686018427387904) (hk : ((s.extract 0 2).toList == [75, 83]) = true) (hc : cnt s < 1 ∨ 8 < cnt s ∨ s.size < 5 + 14 * cnt s) :
    Calls Tryz.prog 71 #[.string s] w fun e w' => e = .returned unpackNo ∧ Below w.heap.size w w' := by
  have e0 : ((s[4]'(by omega)).toNat : Int) = (cnt s : Int) := by
    rw [dby_get s 4 (by omega), cnt]
    have := dby_bd s 4
    omega
  have b0 : cnt s ≤ 255 := by
    have := dby_bd s 4
    unfold cnt
    omega
  generalize cnt s = n at *
  have d5 : decide ((s.size : Int) < 5) = false := by simp; omega
  by_cases h1 : n < 1
  · have d1 : decide ((n : Int) < 1) = true := by simp; omega
    go_enter Tryz.func71, Tryz.ntmps71
    go_wp2
    refine bodyPost_ret (v := unpackNo) (results_man Tryz.results71 _ _ w.heap.size _ _ _ _ rfl rfl rfl ?_) rfl ⟨rfl, ?_⟩
    · intro j v hv
      match j, hv with
      | 0, hv => simp at hv; subst hv; simp [go_sem]
      | 1, hv => simp at hv; subst hv; simp [go_sem]
    · exact ((Below.refl _ _).alloc (Nat.le_refl _) _).alloc (by simp) _
  have d1 : decide ((n : Int) < 1) = false := by simp; omega
  by_cases h8 : 8 < n
  · have d8 : decide (8 < (n : Int)) = true := by simp; omega
    go_enter Tryz.func71, Tryz.ntmps71
    go_wp2
    refine bodyPost_ret (v := unpackNo) (results_man Tryz.results71 _ _ w.heap.size _ _ _ _ rfl rfl rfl ?_) rfl ⟨rfl, ?_⟩
    · intro j v hv
      match j, hv with
      | 0, hv => simp at hv; subst hv; simp [go_sem]
      | 1, hv => simp at hv; subst hv; simp [go_sem]
    · exact ((Below.refl _ _).alloc (Nat.le_refl _) _).alloc (by simp) _
  have hz : s.size < 5 + 14 * n := by omega
  clear hc
  have d8 : decide (8 < (n : Int)) = false := by simp; omega
  have dz : decide ((s.size : Int) < 5 + 14 * (n : Int)) = true := by simp; omega
  go_enter Tryz.func71, Tryz.ntmps71
  go_wp2
  refine bodyPost_ret (v := unpackNo) (results_man Tryz.results71 _ _ w.heap.size _ _ _ _ rfl rfl rfl ?_) rfl ⟨rfl, ?_⟩
  · intro j v hv
    match j, hv with
    | 0, hv => simp at hv; subst hv; simp [go_sem]
    | 1, hv => simp at hv; subst hv; simp [go_sem]
  · exact ((Below.refl _ _).alloc (Nat.le_refl _) _).alloc (by simp) _
end Go.Proofs.YthphojdnbfghmaaGreat
