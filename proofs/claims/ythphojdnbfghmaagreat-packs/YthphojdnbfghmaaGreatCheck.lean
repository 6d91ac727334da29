import Derived.Test.YthphojdnbfghmaaGreatRefPack
namespace Go.Proofs.YthphojdnbfghmaaGreat
open Go.RowKit

set_option maxHeartbeats 400000 in
theorem lword_any (n : Int) (w : World) :
    Calls Tryz.prog 98 #[.int .i64 n] w fun e w' => e = .returned (.bool (isW n)) ∧ w' = w := by
  by_cases h0 : 0 ≤ n
  · by_cases h1 : n ≤ 65535
    · go_enter Tryz.func98, Tryz.ntmps98
      go_wp2
      go_ret
      exact ⟨by simp [isW, h0, h1], rfl⟩
    · go_enter Tryz.func98, Tryz.ntmps98
      go_wp2
      go_ret
      exact ⟨by simp [isW, h0, h1], rfl⟩
  · go_enter Tryz.func98, Tryz.ntmps98
    go_wp2
    go_ret
    exact ⟨by simp [isW]; omega, rfl⟩

def isCnt (n : Nat) : Bool := decide (1 ≤ n) && decide (n ≤ 8)

set_option maxHeartbeats 400000 in
theorem lcount_any (n : Nat) (w : World) (hn : n ≤ 4611686018427387904) :
    Calls Tryz.prog 99 #[.int .i64 n] w fun e w' => e = .returned (.bool (isCnt n)) ∧ w' = w := by
  by_cases h0 : 1 ≤ n
  · by_cases h1 : n ≤ 8
    · have d0 : decide ((1 : Int) ≤ (n : Int)) = true := by simp; omega
      have d1 : decide ((n : Int) ≤ 8) = true := by simp; omega
      go_enter Tryz.func99, Tryz.ntmps99
      go_wp2
      go_ret
      exact ⟨by simp [isCnt, h0, h1], rfl⟩
    · have d0 : decide ((1 : Int) ≤ (n : Int)) = true := by simp; omega
      have d1 : decide ((n : Int) ≤ 8) = false := by simp; omega
      go_enter Tryz.func99, Tryz.ntmps99
      go_wp2
      go_ret
      exact ⟨by simp [isCnt, h0, h1], rfl⟩
  · have d0 : decide ((1 : Int) ≤ (n : Int)) = false := by simp; omega
    go_enter Tryz.func99, Tryz.ntmps99
    go_wp2
    go_ret
    exact ⟨by simp [isCnt]; omega, rfl⟩

set_option maxHeartbeats 1000000 in
theorem lpart_any (qo ql qa : Int) (qd : ByteArray) (w : World) :
    Calls Tryz.prog 100 #[.agg #[.int .i64 qo, .int .i64 ql, .int .i64 qa, .string qd]] w fun e w' => e = .returned (.bool (isPart ⟨qo, ql, qa, qd⟩)) ∧ Below w.heap.size w w' := by
  go_enter Tryz.func100, Tryz.ntmps100
  go_wp2_with fail
  refine (lword_any qo _).mono ?_
  rintro e w1 ⟨rfl, rfl⟩
  have HB := hid ((Below.refl w.heap.size w).alloc (Nat.le_refl _) (Obj.cells #[.int .i64 qo, .int .i64 ql, .int .i64 qa, .string qd] 43))
  cases hA : isW qo
  · go_wp2
    go_ret
    exact ⟨by simp [isPart, hA], HB.out⟩
  go_wp2_with fail
  refine (lword_any ql _).mono ?_
  rintro e w1 ⟨rfl, rfl⟩
  cases hB : isW ql
  · go_wp2
    go_ret
    exact ⟨by simp [isPart, hB], HB.out⟩
  go_wp2_with fail
  refine (lword_any qa _).mono ?_
  rintro e w1 ⟨rfl, rfl⟩
  cases hC : isW qa
  · go_wp2
    go_ret
    exact ⟨by simp [isPart, hC], HB.out⟩
  by_cases hD : qa < ql
  · by_cases hE : qd.size = 8
    · go_wp2
      go_ret
      exact ⟨by simp [isPart, hA, hB, hC, hD, hE], HB.out⟩
    · have hE' : ((qd.size : Int) == 8) = false := by simp; omega
      go_wp2
      go_ret
      exact ⟨by simp [isPart, hE], HB.out⟩
  · go_wp2
    go_ret
    exact ⟨by simp [isPart, show ¬ qa < ql by omega], HB.out⟩

set_option maxHeartbeats 2000000 in
theorem lman_any (v : Int) (s : Value) (n : Nat) (f : Nat → PartR) (w : World) (hn : n ≤ 4611686018427387904) (hp : SeesParts w s n f) :
    Calls Tryz.prog 61 #[.agg #[.int .i64 v, s]] w fun e w' => e = .returned (.bool (isMan v n f)) ∧ Below w.heap.size w w' := by
  obtain ⟨p, cap, rfl⟩ : ∃ p cap, s = .slice p n cap := by
    rcases hp with ⟨rfl, p, cap, rfl⟩ | ⟨b, o, cap, rfl, _⟩ <;> exact ⟨_, _, rfl⟩
  have HP := hid hp
  clear hp
  go_enter Tryz.func61, Tryz.ntmps61
  go_wp2_with fail
  refine (lword_any v _).mono ?_
  rintro e w1 ⟨rfl, rfl⟩
  cases hv : isW v
  · go_wp2
    go_ret
    exact ⟨by rw [isMan_no_w hv]; rfl, (Below.refl _ _).alloc (Nat.le_refl _) _⟩
  go_wp2_with fail
  refine (lcount_any n _ hn).mono ?_
  rintro e w1 ⟨rfl, rfl⟩
  cases hc : isCnt n
  · go_wp2
    go_ret
    exact ⟨by rw [isMan_no_n (by simp [isCnt] at hc; omega)]; rfl, (Below.refl _ _).alloc (Nat.le_refl _) _⟩
  obtain ⟨h1, h8⟩ : 1 ≤ n ∧ n ≤ 8 := by simpa [isCnt] using hc
  clear hc
  obtain ⟨b, o, rfl, hb, hP⟩ : ∃ b o, p = some ⟨b, o, none⟩ ∧ b < w.heap.size ∧ PartsAt w b o f n := by
    rcases HP.out with ⟨h, _⟩ | ⟨b, o, cap', e, h1, h2⟩
    · omega
    · injection e with e1 e2 e3
      exact ⟨b, o, e1, h1, h2⟩
  have HQ := hid hP
  have HV := hid hv
  clear hP HP hv
  go_wp2
  go_loopw [19] (fun i wr => ∃ k : Nat, k ≤ n ∧ i = .int .i64 k ∧ (∀ j, j < k → isPart (f j) = true) ∧ w.heap.size < wr.heap.size ∧ Below w.heap.size w wr) (fun i _ => n - (intOf i).toNat)
  case atStart => exact ⟨0, by omega, rfl, fun j hj => absurd hj (by omega), by simp, (Below.refl _ _).alloc (Nat.le_refl _) _⟩
  case round =>
    obtain ⟨k, hk, rfl, hall, hz, hbr⟩ := hrel
    have HA := hid hall
    have HBr := hid hbr
    clear hall hbr
    by_cases hlt : k < n
    · obtain ⟨c0, c1, c2, c3⟩ := (HQ.out.below hb HBr.out) k hlt
      have HN : Hid (isPart (f k) = false → isMan v n f = false) := fun h => isMan_no_p hlt h
      have HI : Hid (isPart (f k) = true → ∀ j, j < k + 1 → isPart (f j) = true) := fun h j hj => by
        rcases Nat.lt_succ_iff_lt_or_eq.1 hj with h1 | h1
        · exact HA.out j h1
        · rw [h1]; exact h
      clear HA
      generalize f k = q at *
      obtain ⟨qo, ql, qa, qd⟩ := q
      simp only at c0 c1 c2 c3
      go_wp2_with fail
      refine (lpart_any qo ql qa qd _).mono ?_
      rintro e w2 ⟨rfl, hb2⟩
      have HB2 : Hid (Below w.heap.size w w2) := HBr.out.trans ((newB hb2).mono (by omega))
      have hz2 : w.heap.size < w2.heap.size := by have := hb2.size; simp at this; omega
      clear c0 c1 c2 c3 hb2
      cases hA : isPart ⟨qo, ql, qa, qd⟩
      · have hno := HN.out hA
        go_wp2
        go_ret
        exact ⟨by rw [hno]; rfl, HB2.out⟩
      · have hyes := hid (HI.out hA)
        go_wp2
        go_roundw
        case rel => exact ⟨k + 1, by omega, by go_num, hyes.out, hz2, HB2.out⟩
        case measure => simp [intOf]; omega
    · obtain rfl : k = n := by omega
      go_wp2
      go_ret
      exact ⟨by rw [isMan_yes HV.out (by omega) (by omega) HA.out]; rfl, HBr.out⟩
end Go.Proofs.YthphojdnbfghmaaGreat
