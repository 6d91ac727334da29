import Derived.Test.YthphojdnbfghmaaGreatHold
namespace Go.Proofs.YthphojdnbfghmaaGreat
open Go.RowKit

set_option maxHeartbeats 400000 in
theorem sign_any (mk i : Nat) (w : World) (hm : mk ≤ 1152921504606846976) (_hi : i ≤ 1152921504606846976) :
    Calls Tryz.prog 75 #[.int .i64 (mk : Int), .int .i64 (i : Int)] w fun e w' => e = .returned (.int .u8 (sgn mk i)) ∧ w' = w := by
  have HS : Hid (sgn mk i = wrap64 ((mk : Int) + wrap64 ((i : Int) * (1 + (mk : Int) / 256))) % 256) := rfl
  go_enter Tryz.func75, Tryz.ntmps75
  go_wp2
  go_ret
  exact ⟨congrArg (fun x => Ending.returned (Value.int .u8 x)) HS.out.symm, rfl⟩

set_option maxRecDepth 100000 in
set_option maxHeartbeats 4000000 in
theorem marked_any (h : HoldD) (lo : Nat) (w : World) (H : HoldOk w lo h) :
    Calls Tryz.prog 44 #[.pointer (some ⟨h.b, 0, none⟩)] w fun e w' => e = .returned (.bool true) ∧ ∃ nd, w' = w.drewN nd := by
  have HH : Hid (HoldOk w lo h) := H
  obtain ⟨d0, d1, d2, d3, d4, d5, d6, _⟩ := HoldX.cells H
  have hmk := HoldX.mkb H
  have hn0 := HoldX.c0 H
  have hn1 := HoldX.c1 H
  have hn2 := HoldX.c2 H
  have hn3 := HoldX.c3 H
  have hn4 := HoldX.c4 H
  have hn5 := HoldX.c5 H
  have O0 := hid (HoldX.o0 H)
  have O1 := hid (HoldX.o1 H)
  have O2 := hid (HoldX.o2 H)
  have O3 := hid (HoldX.o3 H)
  have O4 := hid (HoldX.o4 H)
  have O5 := hid (HoldX.o5 H)
  clear H HH
  obtain ⟨b, mk, v0, n0, v1, n1, v2, n2, v3, n3, v4, n4, v5, n5⟩ := h
  simp only at d0 d1 d2 d3 d4 d5 d6 hmk hn0 O0 hn1 O1 hn2 O2 hn3 O3 hn4 O4 hn5 O5 ⊢
  obtain ⟨a0, q0, rfl⟩ := ownsRow_slice O0.out
  obtain ⟨a1, q1, rfl⟩ := ownsRow_slice O1.out
  obtain ⟨a2, q2, rfl⟩ := ownsRow_slice O2.out
  obtain ⟨a3, q3, rfl⟩ := ownsRow_slice O3.out
  obtain ⟨a4, q4, rfl⟩ := ownsRow_slice O4.out
  obtain ⟨a5, q5, rfl⟩ := ownsRow_slice O5.out
  go_enter Tryz.func44, Tryz.ntmps44
  go_wp2
  go_loopw [4, 5] (fun ok x wr => ∃ k nd : Nat, k ≤ n0 ∧ ok = .bool true ∧ x = .int .i64 k ∧ wr = w.drewN nd) (fun _ x _ => n0 - (intOf x).toNat)
  case atStart => exact ⟨0, 0, by omega, rfl, rfl, rfl⟩
  case round =>
    obtain ⟨k, nd0, hk, rfl, rfl, rfl⟩ := hrel
    by_cases hlt : k < n0
    · obtain ⟨g, cap, hv, hc⟩ := own_elem O0.out (fun _ => rfl) hlt
      injection hv with hv1 hv2 hv3
      subst hv1 hv3
      have z0 := hc 0 _ (by omega) rfl
      rw [Nat.mul_one, Nat.add_zero] at z0
      clear hc
      go_wp2_with fail
      go_quiet (first | (go_at_call 75; exact (sign_any mk k _ hmk (by omega)).mono (fun _ _ h => ⟨h.1, _, h.2⟩)))
      go_wp2
      go_roundw
      case rel => exact ⟨k + 1, _, by omega, rfl, by go_num, rfl⟩
      case measure => simp [intOf]; omega
    · obtain rfl : k = n0 := by omega
      go_wp2
      go_loopw [4, 6] (fun ok x wr => ∃ k nd : Nat, k ≤ n1 ∧ ok = .bool true ∧ x = .int .i64 k ∧ wr = w.drewN nd) (fun _ x _ => n1 - (intOf x).toNat)
      case atStart => exact ⟨0, _, by omega, rfl, rfl, rfl⟩
      case round =>
        obtain ⟨k, nd1, hk, rfl, rfl, rfl⟩ := hrel
        by_cases hlt : k < n1
        · obtain ⟨g, cap, hv, hc⟩ := own_elem O1.out (fun _ => rfl) hlt
          injection hv with hv1 hv2 hv3
          subst hv1 hv3
          have z0 := hc 0 _ (by omega) rfl
          rw [Nat.add_zero] at z0
          have z1 := hc 1 _ (by omega) rfl
          have z2 := hc 2 _ (by omega) rfl
          have z3 := hc 3 _ (by omega) rfl
          clear hc
          go_wp2
          go_roundw
          case rel => exact ⟨k + 1, _, by omega, rfl, by go_num, rfl⟩
          case measure => simp [intOf]; omega
        · obtain rfl : k = n1 := by omega
          go_wp2
          go_loopw [4, 7] (fun ok x wr => ∃ k nd : Nat, k ≤ n2 ∧ ok = .bool true ∧ x = .int .i64 k ∧ wr = w.drewN nd) (fun _ x _ => n2 - (intOf x).toNat)
          case atStart => exact ⟨0, _, by omega, rfl, rfl, rfl⟩
          case round =>
            obtain ⟨k, nd2, hk, rfl, rfl, rfl⟩ := hrel
            by_cases hlt : k < n2
            · obtain ⟨g, cap, hv, hc⟩ := own_elem O2.out (fun _ => rfl) hlt
              injection hv with hv1 hv2 hv3
              subst hv1 hv3
              have z0 := hc 0 _ (by omega) rfl
              rw [Nat.mul_one, Nat.add_zero] at z0
              clear hc
              go_wp2
              go_roundw
              case rel => exact ⟨k + 1, _, by omega, rfl, by go_num, rfl⟩
              case measure => simp [intOf]; omega
            · obtain rfl : k = n2 := by omega
              go_wp2
              go_loopw [4, 8] (fun ok x wr => ∃ k nd : Nat, k ≤ n3 ∧ ok = .bool true ∧ x = .int .i64 k ∧ wr = w.drewN nd) (fun _ x _ => n3 - (intOf x).toNat)
              case atStart => exact ⟨0, _, by omega, rfl, rfl, rfl⟩
              case round =>
                obtain ⟨k, nd3, hk, rfl, rfl, rfl⟩ := hrel
                by_cases hlt : k < n3
                · obtain ⟨g, cap, hv, hc⟩ := own_elem O3.out (fun _ => rfl) hlt
                  injection hv with hv1 hv2 hv3
                  subst hv1 hv3
                  have z0 := hc 0 _ (by omega) rfl
                  rw [Nat.add_zero] at z0
                  have z1 := hc 1 _ (by omega) rfl
                  clear hc
                  go_wp2
                  go_roundw
                  case rel => exact ⟨k + 1, _, by omega, rfl, by go_num, rfl⟩
                  case measure => simp [intOf]; omega
                · obtain rfl : k = n3 := by omega
                  go_wp2
                  go_loopw [4, 9] (fun ok x wr => ∃ k nd : Nat, k ≤ n4 ∧ ok = .bool true ∧ x = .int .i64 k ∧ wr = w.drewN nd) (fun _ x _ => n4 - (intOf x).toNat)
                  case atStart => exact ⟨0, _, by omega, rfl, rfl, rfl⟩
                  case round =>
                    obtain ⟨k, nd4, hk, rfl, rfl, rfl⟩ := hrel
                    by_cases hlt : k < n4
                    · obtain ⟨g, cap, hv, hc⟩ := own_elem O4.out (fun _ => rfl) hlt
                      injection hv with hv1 hv2 hv3
                      subst hv1 hv3
                      have z0 := hc 0 _ (by omega) rfl
                      rw [Nat.add_zero] at z0
                      have z1 := hc 1 _ (by omega) rfl
                      have z2 := hc 2 _ (by omega) rfl
                      clear hc
                      go_wp2
                      go_roundw
                      case rel => exact ⟨k + 1, _, by omega, rfl, by go_num, rfl⟩
                      case measure => simp [intOf]; omega
                    · obtain rfl : k = n4 := by omega
                      go_wp2
                      go_loopw [4, 10] (fun ok x wr => ∃ k nd : Nat, k ≤ n5 ∧ ok = .bool true ∧ x = .int .i64 k ∧ wr = w.drewN nd) (fun _ x _ => n5 - (intOf x).toNat)
                      case atStart => exact ⟨0, _, by omega, rfl, rfl, rfl⟩
                      case round =>
                        obtain ⟨k, nd5, hk, rfl, rfl, rfl⟩ := hrel
                        by_cases hlt : k < n5
                        · obtain ⟨g, cap, hv, hc⟩ := own_elem O5.out (fun _ => rfl) hlt
                          injection hv with hv1 hv2 hv3
                          subst hv1 hv3
                          have z0 := hc 0 _ (by omega) rfl
                          rw [Nat.mul_one, Nat.add_zero] at z0
                          clear hc
                          go_wp2
                          go_roundw
                          case rel => exact ⟨k + 1, _, by omega, rfl, by go_num, rfl⟩
                          case measure => simp [intOf]; omega
                        · obtain rfl : k = n5 := by omega
                          go_wp2
                          go_ret
                          exact ⟨rfl, _, rfl⟩
end Go.Proofs.YthphojdnbfghmaaGreat
