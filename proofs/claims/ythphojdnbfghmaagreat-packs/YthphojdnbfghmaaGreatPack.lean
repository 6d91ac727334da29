import Derived.Test.YthphojdnbfghmaaGreatCheck
import Derived.Deep.DeepAppendRoom
import Derived.Deep.AppendLies
import Derived.Room.AppendFits
import Derived.Laws.MakeOwn
namespace Go.Proofs.YthphojdnbfghmaaGreat
open Go.RowKit

theorem strCells_nums (xs : List Int) (h : ∀ x ∈ xs, 0 ≤ x ∧ x ≤ 255) : Lib.strCells (strOfNums xs) = xs.map (fun x => Value.int .u8 x) := by
  simp only [Lib.strCells, strOfNums, List.map_map]
  refine List.map_congr_left fun x hx => ?_
  have := h x hx
  simp
  omega
theorem strCells_append (a b : ByteArray) : Lib.strCells (a ++ b) = Lib.strCells a ++ Lib.strCells b := by
  simp [Lib.strCells, ByteArray.data_append]
theorem strCells_word (n : Int) (h : 0 ≤ n ∧ n ≤ 65535) : Lib.strCells (wordS n) = [.int .u8 (n % 256), .int .u8 (n / 256)] := by
  rw [wordS, strCells_nums _ (by intro x hx; simp at hx; omega)]
  rfl

theorem news2 (w : World) (a b : Value) (t : TypeId) : ∀ j u, ([a, b] : List Value)[j]? = some u → (w.alloc (.cells #[a, b] t)).cell? ((⟨w.heap.size, 0, none⟩ : Addr).add j) = some u := by
  intro j u hj
  match j, hj with
  | 0, hj => simp at hj; subst hj; simp [Addr.add, go_sem]
  | 1, hj => simp at hj; subst hj; simp [Addr.add, go_sem]
theorem news1 (w : World) (a : Value) (t : TypeId) : ∀ j u, ([a] : List Value)[j]? = some u → (w.alloc (.cells #[a] t)).cell? ((⟨w.heap.size, 0, none⟩ : Addr).add j) = some u := by
  intro j u hj
  match j, hj with
  | 0, hj => simp at hj; subst hj; simp [Addr.add, go_sem]

theorem grown_alloc {w w' : World} {o : Obj} {g : Nat} (h : (w.alloc o).grownBy w' (some g)) : w.grownBy w' (some g) :=
  ⟨h.os, h.tape, h.output, by have := h.size; simp at this; omega, fun k hk hne => (h.block k (by simp; omega) hne).trans (heap_alloc_old w o hk)⟩
theorem ownsRow_lt {w : World} {base g n cap : Nat} {e : TypeId} {size : Nat} {xs : List Value} (h : w.ownsRow base e size (.slice (some ⟨g, 0, none⟩) n cap) n xs) : base ≤ g ∧ g < w.heap.size := h.lt g rfl

set_option maxHeartbeats 1000000 in
set_option maxRecDepth 100000 in
theorem appendWord_any (base g n cap : Nat) (x : Int) (xs : List Value) (w : World) (hx : 0 ≤ x ∧ x ≤ 65535) (hown : w.ownsRow base 5 1 (.slice (some ⟨g, 0, none⟩) n cap) n xs) (hroom : n + 2 ≤ cap) :
    Calls Tryz.prog 77 #[.slice (some ⟨g, 0, none⟩) n cap, .int .i64 x] w fun e w' => e = .returned (.slice (some ⟨g, 0, none⟩) (n + 2) cap) ∧
      w'.ownsRow base 5 1 (.slice (some ⟨g, 0, none⟩) (n + 2) cap) (n + 2) (xs ++ Lib.strCells (wordS x)) ∧ w.grownBy w' (some g) := by
  obtain ⟨i0, hi, hz0, hz1, hz2⟩ := info_parts info_u8
  have hlt := (ownsRow_lt hown).2
  have HO := hid hown
  clear hown
  go_enter Tryz.func77, Tryz.ntmps77
  go_wp2_with (at_builtin; refine wpList_append_own_spare _ rfl _ _ 27 rfl base 5 i0 1 Tryz.underlying27 hi hz1 g n cap xs rfl (HO.out.alloc _) ⟨w.heap.size, 0, none⟩ 2 2 [.int .u8 (x % 256), .int .u8 (x / 256)] rfl rfl (news2 _ _ _ _) (fun u hu => by simp at hu; rcases hu with rfl | rfl <;> rfl) hroom ?_)
  intro w2 hown' hgrow
  have HO2 := hid hown'
  have HG := hid (grown_alloc hgrow)
  clear hown' hgrow
  go_wp2
  go_ret
  exact ⟨rfl, by rw [strCells_word x hx]; exact HO2.out, HG.out⟩


theorem grown_part {w w' : World} {g B : Nat} {c : Array Value} {t : TypeId} (h : w.grownBy w' (some g)) (hB : w.heap[B]? = some (.cells c t (0, 0))) (hne : g ≠ B) : w'.heap[B]? = some (.cells c t (0, 0)) := by
  rw [h.block B (Array.getElem?_eq_some_iff.1 hB).1 (fun e => hne (by injection e with e; exact e.symm))]
  exact hB
theorem part_cells {w : World} {B : Nat} {a b c d : Value} {t : TypeId} (hB : w.heap[B]? = some (.cells #[a, b, c, d] t (0, 0))) :
    w.cell? ⟨B, 0, none⟩ = some a ∧ w.cell? ⟨B, 1, none⟩ = some b ∧ w.cell? ⟨B, 2, none⟩ = some c ∧ w.cell? ⟨B, 3, none⟩ = some d := by
  refine ⟨?_, ?_, ?_, ?_⟩ <;> (rw [Lib.cell_of_heap hB]; rfl)

set_option maxHeartbeats 1000000 in
set_option maxRecDepth 100000 in
theorem appendPart_any (base g n cap : Nat) (qo ql qa : Int) (qd : ByteArray) (xs : List Value) (w : World) (hp : isPart ⟨qo, ql, qa, qd⟩ = true) (hown : w.ownsRow base 5 1 (.slice (some ⟨g, 0, none⟩) n cap) n xs) (hroom : n + 14 ≤ cap) :
    Calls Tryz.prog 78 #[.slice (some ⟨g, 0, none⟩) n cap, .agg #[.int .i64 qo, .int .i64 ql, .int .i64 qa, .string qd]] w fun e w' => e = .returned (.slice (some ⟨g, 0, none⟩) (n + 14) cap) ∧
      w'.ownsRow base 5 1 (.slice (some ⟨g, 0, none⟩) (n + 14) cap) (n + 14) (xs ++ Lib.strCells (wordS qo) ++ Lib.strCells (wordS ql) ++ Lib.strCells (wordS qa) ++ Lib.strCells qd) ∧ w.grownBy w' (some g) := by
  obtain ⟨i0, hi, hz0, hz1, hz2⟩ := info_parts info_u8
  obtain ⟨p0, p1, p2, _, p8⟩ := isPart_parts hp
  simp only at p0 p1 p2 p8
  have hlt := (ownsRow_lt hown).2
  have HO := hid hown
  clear hown hp
  have hB0 : (w.alloc (.cells #[.int .i64 qo, .int .i64 ql, .int .i64 qa, .string qd] 43)).heap[w.heap.size]? = some (.cells #[.int .i64 qo, .int .i64 ql, .int .i64 qa, .string qd] 43 (0, 0)) := heap_alloc_new w _
  have HB0 := hid hB0
  clear hB0
  go_enter Tryz.func78, Tryz.ntmps78
  go_wp2_with fail
  refine (appendWord_any base g n cap qo xs _ p0 (HO.out.alloc _) (by omega)).mono ?_
  rintro e w1 ⟨rfl, ho1, hg1⟩
  have HO1 := hid ho1
  have HG1 := hid hg1
  have HB1 := hid (grown_part hg1 HB0.out (by omega))
  obtain ⟨c0, c1, c2, c3⟩ := part_cells HB1.out
  clear ho1 hg1 HO HB0
  go_wp2_with fail
  refine (appendWord_any base g (n + 2) cap ql _ _ p1 HO1.out (by omega)).mono ?_
  rintro e w2 ⟨rfl, ho1, hg1⟩
  have HO2 := hid ho1
  have HG2 := hid (HG1.out.trans hg1)
  have HB2 := hid (grown_part hg1 HB1.out (by omega))
  clear c0 c1 c2 c3
  obtain ⟨c0, c1, c2, c3⟩ := part_cells HB2.out
  clear ho1 hg1 HO1 HB1 HG1
  go_wp2_with fail
  refine (appendWord_any base g (n + 2 + 2) cap qa _ _ p2 HO2.out (by omega)).mono ?_
  rintro e w3 ⟨rfl, ho1, hg1⟩
  have HO3 := hid ho1
  have HG3 := hid (HG2.out.trans hg1)
  have HB3 := hid (grown_part hg1 HB2.out (by omega))
  clear c0 c1 c2 c3
  obtain ⟨c0, c1, c2, c3⟩ := part_cells HB3.out
  clear ho1 hg1 HO2 HB2 HG2
  go_wp2_with (at_builtin; refine Lib.wpList_append_fits_string _ rfl _ _ 27 9 rfl base 5 i0 Tryz.underlying27 Tryz.underlying9 hi hz1 (some ⟨g, 0, none⟩) (n + 2 + 2 + 2) cap _ rfl HO3.out qd rfl (by omega) (by omega) ?_)
  intro w4 ho4 hg4
  have HO4 := hid ho4
  have HG4 := hid (grown_alloc (HG3.out.trans hg4))
  clear ho4 hg4 HO3 HB3 HG3 c0 c1 c2 c3
  have e14 : n + 2 + 2 + 2 + 8 = n + 14 := by omega
  rw [e14] at HO4
  go_wp2
  go_ret
  exact ⟨rfl, by simpa only [List.append_assoc] using HO4.out, HG4.out⟩

set_option maxHeartbeats 400000 in
theorem size_any (n : Nat) (w : World) (hn : n ≤ 255) :
    Calls Tryz.prog 76 #[.int .i64 n] w fun e w' => e = .returned (.int .i64 ((5 + 14 * n : Nat) : Int)) ∧ w' = w := by
  go_enter Tryz.func76, Tryz.ntmps76
  go_wp2
  go_ret
  exact ⟨congrArg (fun x => Ending.returned (Value.int .i64 x)) (show (5 + (n : Int) * 14) = ((5 + 14 * n : Nat) : Int) by omega), rfl⟩

set_option maxHeartbeats 2000000 in
set_option maxRecDepth 100000 in
theorem pack_yes (v : Int) (b o n cap : Nat) (f : Nat → PartR) (w : World) (hM : isMan v n f = true) (hb : b < w.heap.size) (hP : PartsAt w b o f n) :
    Calls Tryz.prog 45 #[.agg #[.int .i64 v, .slice (some ⟨b, o, none⟩) n cap]] w fun e w' => (∃ g c, e = .returned (.tuple #[.slice (some ⟨g, 0, none⟩) (5 + 14 * n) c, .int .i64 0]) ∧
      w'.ownsRow w.heap.size 5 1 (.slice (some ⟨g, 0, none⟩) (5 + 14 * n) c) (5 + 14 * n) (Lib.strCells (manS v n f))) ∧ Below w.heap.size w w' := by
  obtain ⟨i0, hi, hz0, hz1, hz2⟩ := info_parts info_u8
  obtain ⟨hv, hn1, hn8, hall⟩ := isMan_parts hM
  have HA := hid hall
  have HQ := hid hP
  clear hall hP
  go_enter Tryz.func45, Tryz.ntmps45
  go_wp2_with fail
  refine (lman_any v _ n f _ (by omega) (Or.inr ⟨b, o, cap, rfl, by simp; omega, HQ.out.below hb ((Below.refl w.heap.size w).alloc (Nat.le_refl _) _)⟩)).mono ?_
  rintro e w1 ⟨rfl, hb1⟩
  rw [hM]
  clear hM
  have hz1' : w.heap.size < w1.heap.size := by have := hb1.size; simp at this; omega
  have hB1 : w1.heap[w.heap.size]? = some (.cells #[.int .i64 v, .slice (some ⟨b, o, none⟩) n cap] 30 (0, 0)) := (hb1.block _ (by simp)).trans (heap_alloc_new w _)
  have m0 : w1.cell? ⟨w.heap.size, 0, none⟩ = some (.int .i64 v) := by rw [Lib.cell_of_heap hB1]; rfl
  have m1 : w1.cell? ⟨w.heap.size, 1, none⟩ = some (.slice (some ⟨b, o, none⟩) n cap) := by rw [Lib.cell_of_heap hB1]; rfl
  have HB1 := hid (newB hb1)
  have HC1 := hid hB1
  clear hb1 hB1
  go_wp2_with fail
  refine (size_any n _ (by omega)).mono ?_
  rintro e w2 ⟨rfl, rfl⟩
  obtain ⟨c, hc⟩ : ∃ c : Nat, c = 5 + 14 * n := ⟨_, rfl⟩
  rw [← hc]
  have HC := hid hc
  have hc0 : 19 ≤ c := by omega
  have hc1 : c ≤ 117 := by omega
  clear hc
  obtain ⟨w3, hmk, ho3, hg3⟩ := run_make_own (P := Tryz.prog) w2 w.heap.size 27 5 i0 (.int .u8 0) 1 Tryz.underlying27 hi hz0 hz1 .i64 .i64 c (by rw [hz2]; omega) (by unfold maxLen; omega) (by omega)
  have HO3 := hid ho3
  have HG3 := hid hg3
  clear ho3 hg3
  go_wp2_with (at_builtin; refine Lib.wpList_append_fits_string _ rfl _ _ 27 9 rfl w.heap.size 5 i0 Tryz.underlying27 Tryz.underlying9 hi hz1 (some ⟨w2.heap.size, 0, none⟩) 0 c [] rfl HO3.out ⟨#[75, 83]⟩ rfl (by omega) (by show 0 + 2 ≤ c; omega) ?_)
  intro w4 ho4 hg4'
  have hg4 : w3.grownBy w4 (some w2.heap.size) := hg4'
  clear hg4'
  have hz3 : w2.heap.size ≤ w3.heap.size := HG3.out.size
  have hgw : w.heap.size < w2.heap.size := hz1'
  have HC3 : Hid (w3.heap[w.heap.size]? = some (.cells #[.int .i64 v, .slice (some ⟨b, o, none⟩) n cap] 30 (0, 0))) := (HG3.out.block _ hz1' (by simp)).trans HC1.out
  have HC4 := hid (grown_part hg4 HC3.out (by omega))
  have HO4 := hid ho4
  have HB3 : Hid (Below w.heap.size w w3) := HB1.out.grown HG3.out (by omega) (by simp)
  have HB4 : Hid (Below w.heap.size w w4) := HB3.out.grown hg4 (by omega) (fun k hk => by injection hk with hk; omega)
  have hz4 : w3.heap.size ≤ w4.heap.size := hg4.size
  have k0 : w4.cell? ⟨w.heap.size, 0, none⟩ = some (.int .i64 v) := by rw [Lib.cell_of_heap HC4.out]; rfl
  have k1 : w4.cell? ⟨w.heap.size, 1, none⟩ = some (.slice (some ⟨b, o, none⟩) n cap) := by rw [Lib.cell_of_heap HC4.out]; rfl
  clear ho4 hg4 m0 m1 hmk HO3 HG3 HC3 HB3 HC1 HB1
  generalize w2.heap.size = g at *
  go_wp2_with fail
  refine (appendWord_any w.heap.size g 2 c v _ _ hv HO4.out (by omega)).mono ?_
  rintro e w5 ⟨rfl, ho5, hg5⟩
  have HC5 := hid (grown_part hg5 HC4.out (by omega))
  have HO5 := hid ho5
  have HB5 : Hid (Below w.heap.size w w5) := HB4.out.grown hg5 (by omega) (fun k hk => by injection hk; omega)
  have hz5 : w4.heap.size ≤ w5.heap.size := hg5.size
  clear k0 k1
  have k0 : w5.cell? ⟨w.heap.size, 0, none⟩ = some (.int .i64 v) := by rw [Lib.cell_of_heap HC5.out]; rfl
  have k1 : w5.cell? ⟨w.heap.size, 1, none⟩ = some (.slice (some ⟨b, o, none⟩) n cap) := by rw [Lib.cell_of_heap HC5.out]; rfl
  clear ho5 hg5 HO4 HC4 HB4
  go_wp2_with (at_builtin; refine wpList_append_own_spare _ rfl _ _ 27 rfl w.heap.size 5 i0 1 Tryz.underlying27 hi hz1 g 4 c _ rfl (HO5.out.alloc _) ⟨w5.heap.size, 0, none⟩ 1 1 [.int .u8 (n : Int)] rfl rfl (news1 _ _ _) (fun u hu => by simp at hu; subst hu; rfl) (by omega) ?_)
  intro w6 ho6 hg6
  have HC6 := hid (grown_part (grown_alloc hg6) HC5.out (by omega))
  have HO6 := hid ho6
  have HB6 : Hid (Below w.heap.size w w6) := HB5.out.grown (grown_alloc hg6) (by omega) (fun k hk => by injection hk; omega)
  have hz6 : w5.heap.size ≤ w6.heap.size := by have := hg6.size; simp at this; omega
  clear k0 k1
  have k1 : w6.cell? ⟨w.heap.size, 1, none⟩ = some (.slice (some ⟨b, o, none⟩) n cap) := by rw [Lib.cell_of_heap HC6.out]; rfl
  clear ho6 hg6 HO5 HC5 HB5
  have HE : Hid (Lib.strCells ⟨#[75, 83]⟩ ++ Lib.strCells (wordS v) ++ [.int .u8 (n : Int)] = Lib.strCells (headS v n)) := by
    show _ = _
    rw [headS, strCells_append, strCells_append, strCells_nums [(n : Int)] (by intro x hx; simp at hx; omega)]
    rfl
  go_wp2
  go_loopw [4, 31] (fun a i wr => ∃ k : Nat, k ≤ n ∧ a = .slice (some ⟨g, 0, none⟩) (5 + 14 * k) c ∧ i = .int .i64 k ∧ wr.ownsRow w.heap.size 5 1 (.slice (some ⟨g, 0, none⟩) (5 + 14 * k) c) (5 + 14 * k) (Lib.strCells (partsS f k (headS v n))) ∧ w.heap.size < wr.heap.size ∧ Below w.heap.size w wr) (fun _ i _ => n - (intOf i).toNat)
  case atStart => exact ⟨0, by omega, rfl, rfl, by rw [show partsS f 0 (headS v n) = headS v n from rfl, ← HE.out]; exact HO6.out, by omega, HB6.out⟩
  case round =>
    clear k1 HE HO6 HC6 HB6
    obtain ⟨k, hk, rfl, rfl, ho, hz, hbr⟩ := hrel
    have HBr := hid hbr
    have HO := hid ho
    clear hbr ho
    by_cases hlt : k < n
    · obtain ⟨c0, c1, c2, c3⟩ := (HQ.out.below hb HBr.out) k hlt
      have HP := hid (HA.out k hlt)
      have HS : Hid (Lib.strCells (partsS f (k + 1) (headS v n)) = Lib.strCells (partsS f k (headS v n)) ++ Lib.strCells (wordS (f k).off) ++ Lib.strCells (wordS (f k).len) ++ Lib.strCells (wordS (f k).at') ++ Lib.strCells (f k).dig) := by
        show _ = _
        rw [partsS, strCells_append, strCells_append, strCells_append, strCells_append]
      generalize f k = q at *
      obtain ⟨qo, ql, qa, qd⟩ := q
      simp only at c0 c1 c2 c3
      go_wp2_with fail
      refine (appendPart_any w.heap.size g (5 + 14 * k) c qo ql qa qd _ _ HP.out (HO.out.alloc _) (by have := HC.out; omega)).mono ?_
      rintro e w7 ⟨rfl, ho7, hg7⟩
      have hg7' := grown_alloc hg7
      have HB7 : Hid (Below w.heap.size w w7) := HBr.out.grown hg7' (by omega) (fun k hk => by injection hk with hk; have := (ownsRow_lt HO.out).1; omega)
      have hz7 : w.heap.size < w7.heap.size := by have := hg7'.size; omega
      have HO7 := hid ho7
      clear c0 c1 c2 c3 ho7 hg7 hg7' HO HBr
      go_wp2
      go_roundw
      case rel => exact ⟨k + 1, by omega, by rw [show 5 + 14 * (k + 1) = 5 + 14 * k + 14 from by omega], by go_num, by rw [HS.out, show 5 + 14 * (k + 1) = 5 + 14 * k + 14 from by omega]; exact HO7.out, hz7, HB7.out⟩
      case measure => simp [intOf]; omega
    · obtain rfl : k = n := by omega
      go_wp2
      go_ret2
      exact ⟨⟨g, c, rfl, HO.out⟩, HBr.out⟩
end Go.Proofs.YthphojdnbfghmaaGreat
