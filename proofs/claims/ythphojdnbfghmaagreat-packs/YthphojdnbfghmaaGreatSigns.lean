import Derived.Test.YthphojdnbfghmaaGreatNear
import Derived.Test.YthphojdnbfghmaaGreatDigests
namespace Go.Proofs.YthphojdnbfghmaaGreat
open Go.RowKit

theorem verified_any (b s t k : ByteArray) (n cut fuse ver : Int) (faults parts : Value) (mk raw : Bool) (w : World) (hb : b.size ≤ 140737488351232) (hs : s.size ≤ 140737488351232) (ht : t.size ≤ 140737488351232) :
    Calls Tryz.prog 40 #[.agg #[.int .i64 4, .string b, .string s, .string t, .int .i64 n, .int .i64 cut, .int .i64 fuse, faults, .int .i64 ver, parts, .bool mk, .bool raw, .string k]] w fun e w' => e = .returned (.bool true) ∧ Below w.heap.size w w' := by
  cases mk with
  | false => exact verified_plain b s t k n cut fuse ver faults parts raw w hb hs
  | true =>
    by_cases hn : 0 ≤ n ∧ n ≤ 7
    · by_cases h0 : t.size = 0
      · exact verified_zero b s t k n cut fuse ver faults parts raw w hb hs ht hn h0
      · by_cases h1 : 169 < t.size
        · exact verified_far b s t k n cut fuse ver faults parts raw w hb hs ht hn h1
        · exact verified_near b s t k (t.size - 1) n cut fuse ver faults parts raw w hb hs hn (by omega) (by omega)
    · exact verified_no b s t k n cut fuse ver faults parts raw w hb hs (by omega)

set_option maxHeartbeats 1000000 in
theorem step_verify (b s t k : ByteArray) (n cut fuse ver : Int) (faults parts : Value) (mk raw : Bool) (B : Nat) (w : World) (hb : b.size ≤ 140737488351232) (hs : s.size ≤ 140737488351232) (ht : t.size ≤ 140737488351232) :
    Calls Tryz.prog 24 #[.pointer (some ⟨B, 0, none⟩), .agg #[.int .i64 4, .string b, .string s, .string t, .int .i64 n, .int .i64 cut, .int .i64 fuse, faults, .int .i64 ver, parts, .bool mk, .bool raw, .string k]] w fun e w' => e = .returned (.bool true) ∧ Below w.heap.size w w' := by
  go_enter Tryz.func24, Tryz.ntmps24
  go_wp2_with fail
  refine (verified_any b s t k n cut fuse ver faults parts mk raw _ hb hs ht).mono ?_
  rintro e w1 ⟨rfl, hb1⟩
  have HB := hid (newB hb1)
  clear hb1
  go_wp2
  go_ret
  exact ⟨rfl, HB.out⟩

theorem stepOk_verify (o : OpV) (h : o.ok) (hk : o.kind = 4) : StepOk o := by
  intro B W _
  unfold OpV.cells
  rw [hk]
  exact step_verify _ _ _ _ _ _ _ _ _ _ _ _ B W h.1 h.2.1 h.2.2.1
theorem stepOk_four (o : OpV) (h : o.ok) (h1 : 1 ≤ o.kind) (h4 : o.kind ≤ 4) : StepOk o := by
  rcases (show o.kind = 1 ∨ o.kind = 2 ∨ o.kind = 3 ∨ o.kind = 4 by omega) with hk | hk | hk | hk
  · exact stepOk_digest o h hk
  · exact stepOk_key o h hk
  · exact stepOk_sign o h hk
  · exact stepOk_verify o h hk

set_option maxHeartbeats 400000 in
theorem signs_walk (v : Value) (ops : List OpV) (w : World) (hs : Script w v ops) (hok : ∀ o ∈ ops, o.ok) :
    Calls Tryz.prog 4 #[v] w fun e w' => e = .returned (.bool true) ∧ Below w.heap.size w w' := by
  have HOK := hid hok
  clear hok
  go_enter Tryz.func4, Tryz.ntmps4
  go_wp2_with fail
  refine (example_any 4 _ stepOk_four).mono ?_
  rintro e w1 ⟨rfl, hb1⟩
  have hs1 := hs.below hb1
  have HB := hid hb1
  clear hb1 hs
  go_wp2_with fail
  refine (upto_any v ops 2 4 _ hs1 (fun o ho h2 h4 => stepOk_four o (HOK.out o ho) (by omega) h4)).mono ?_
  rintro e w2 ⟨rfl, hb2⟩
  have HB2 : Hid (Below w.heap.size w w2) := HB.out.trans (hb2.mono HB.out.size)
  clear hb2 hs1 HB
  go_wp2
  go_ret
  exact ⟨by simp, HB2.out⟩
end Go.Proofs.YthphojdnbfghmaaGreat
