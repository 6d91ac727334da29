import Derived.Test.YthphojdnbfghmaaGreatMarked
import Derived.Lib.SmallJoins
namespace Go.Proofs.YthphojdnbfghmaaGreat
open Go.RowKit

theorem set_here (a y : List Value) (u : Value) (hy : 0 < y.length) : (a ++ y).set a.length u = (a ++ [u]) ++ y.drop 1 := by
  match y, hy with
  | x :: r, _ => simp
theorem own_set {w : World} {lo : Nat} {e : TypeId} {size g n cap j : Nat} {a y : List Value} {u : Value} (h : w.ownsRow lo e size (.slice (some ⟨g, 0, none⟩) n cap) n (a ++ y)) (hj : j = a.length) (hy : 0 < y.length) :
    (w.setCell ⟨g, j, none⟩ u).ownsRow lo e size (.slice (some ⟨g, 0, none⟩) n cap) n ((a ++ [u]) ++ y.drop 1) := by
  subst hj
  have hl := h.1
  rcases h.2 with ⟨h0, _⟩ | ⟨g', cap', cur, hv, hlo, hg, hn, hm, hc, ht⟩
  · cases h0
  · cases hv
    refine ⟨?_, Or.inr ⟨g, cap, _, rfl, hlo, Go.Joins.block_setCell hg u, hn, hm, by simpa using hc, ?_⟩⟩
    · rw [← hl]
      simp
      omega
    · rw [Array.toList_setIfInBounds, List.take_set, ht, set_here a y u hy]
theorem own_any {w : World} {lo : Nat} {e : TypeId} {size g n cap : Nat} {xs : List Value} (h : w.ownsRow lo e size (.slice (some ⟨g, 0, none⟩) n cap) n xs) (j : Nat) (hj : j < n * size) : (∃ u, w.cell? ⟨g, j, none⟩ = some u) ∧ w.frozen? ⟨g, j, none⟩ = false := by
  refine ⟨⟨_, own_cell h j _ (List.getElem?_eq_getElem (by rw [h.1]; exact hj))⟩, ?_⟩
  rcases h.2 with ⟨h0, _⟩ | ⟨g', cap', cur, hv, hlo, hg, hn, hm, hc, ht⟩
  · cases h0
  · cases hv
    exact Lib.frozen_of_heap hg j
theorem own_rows_1 (el : Nat → List Value) (k : Nat) (y : List Value) (a : Value) (h : el k = [a]) : rows el (k + 1) ++ y.drop 1 = (rows el k ++ [a]) ++ y.drop 1 := by rw [rows, h]
theorem own_rows_2 (el : Nat → List Value) (k : Nat) (y : List Value) (a b : Value) (h : el k = [a, b]) : rows el (k + 1) ++ y.drop 2 = ((rows el k ++ [a]) ++ [b]) ++ (y.drop 1).drop 1 := by rw [rows, h, List.drop_drop]; simp
theorem own_rows_3 (el : Nat → List Value) (k : Nat) (y : List Value) (a b c : Value) (h : el k = [a, b, c]) : rows el (k + 1) ++ y.drop 3 = (((rows el k ++ [a]) ++ [b]) ++ [c]) ++ ((y.drop 1).drop 1).drop 1 := by rw [rows, h, List.drop_drop, List.drop_drop]; simp
theorem own_rows_4 (el : Nat → List Value) (k : Nat) (y : List Value) (a b c d : Value) (h : el k = [a, b, c, d]) : rows el (k + 1) ++ y.drop 4 = ((((rows el k ++ [a]) ++ [b]) ++ [c]) ++ [d]) ++ (((y.drop 1).drop 1).drop 1).drop 1 := by rw [rows, h, List.drop_drop, List.drop_drop, List.drop_drop]; simp
/-- blocks of the world and of its list of holds are as they were -/
def KeepM (w w' : World) : Prop := ∀ (k : Nat) (c : Array Value) (t : TypeId) (fz : Nat × Nat), w.heap[k]? = some (.cells c t fz) → (t = 78 ∨ t = 65) → w'.heap[k]? = w.heap[k]?
theorem KeepM.refl (w : World) : KeepM w w := fun _ _ _ _ _ _ => rfl
theorem KeepM.trans {a b c : World} (h1 : KeepM a b) (h2 : KeepM b c) : KeepM a c := fun k x t fz hc h3 => by
  have h5 := h1 k x t fz hc h3
  exact (h2 k x t fz (h5.trans hc) h3).trans h5
theorem KeepM.below {w w' : World} (h : Below w.heap.size w w') : KeepM w w' := fun k _ _ _ hc _ => h.block k (blk_lt hc)
theorem KeepM.grown {w w' : World} {lo : Nat} {e : TypeId} {size : Nat} {v : Value} {n : Nat} {xs : List Value} (h : w.ownsRow lo e size v n xs) (he : e ≠ 78 ∧ e ≠ 65) (hg : w.grownBy w' v.ownBlock) : KeepM w w' := fun k c t fz hc ht =>
  hg.block k (blk_lt hc) (own_ne_blk h hc (by rcases ht with rfl | rfl; exact he.1; exact he.2))
theorem below_grown {w w' : World} {lo : Nat} {e : TypeId} {size : Nat} {v : Value} {n : Nat} {xs : List Value} (h : w.ownsRow lo e size v n xs) (hg : w.grownBy w' v.ownBlock) (hlo : lo ≤ w.heap.size) : Below lo w w' :=
  (Below.refl lo w).grown hg hlo (fun k hk => (h.lt k hk).1)
theorem grown_set {w : World} {g j : Nat} (u : Value) : w.grownBy (w.setCell ⟨g, j, none⟩ u) (some g) := grown_put w g j u
theorem grown_drew {w w' : World} {r : Option Nat} (h : w.drew.grownBy w' r) : w.grownBy w' r := ⟨h.os, h.tape, h.output, h.size, h.block⟩
theorem grown_drewN {w w' : World} {r : Option Nat} {n : Nat} (h : (w.drewN n).grownBy w' r) : w.grownBy w' r :=
  ⟨h.os, h.tape, h.output, h.size, h.block⟩

set_option maxRecDepth 100000 in
set_option maxHeartbeats 4000000 in
theorem marks_any (h : HoldD) (lo : Nat) (x0 x1 x2 x3 x4 x5 : List Value) (w : World) (hlo : lo ≤ w.heap.size) (H : HoldX w lo h x0 x1 x2 x3 x4 x5) :
    Calls Tryz.prog 105 #[.pointer (some ⟨h.b, 0, none⟩)] w fun e w' => e = .returned (.tuple #[]) ∧ HoldOk w' lo h ∧ Below lo w w' ∧ KeepM w w' ∧ w.heap.size ≤ w'.heap.size := by
  obtain ⟨d0, d1, d2, d3, d4, d5, d6, _⟩ := HoldX.cells H
  have hmk := HoldX.mkb H
  have hn0 := HoldX.c0 H
  have e0 := ownsRow_slice H.o0
  have hn1 := HoldX.c1 H
  have e1 := ownsRow_slice H.o1
  have hn2 := HoldX.c2 H
  have e2 := ownsRow_slice H.o2
  have hn3 := HoldX.c3 H
  have e3 := ownsRow_slice H.o3
  have hn4 := HoldX.c4 H
  have e4 := ownsRow_slice H.o4
  have hn5 := HoldX.c5 H
  have e5 := ownsRow_slice H.o5
  obtain ⟨b, mk, v0, n0, v1, n1, v2, n2, v3, n3, v4, n4, v5, n5⟩ := h
  simp only at d0 d1 d2 d3 d4 d5 d6 hmk hn0 e0 hn1 e1 hn2 e2 hn3 e3 hn4 e4 hn5 e5 ⊢
  obtain ⟨a0, q0, rfl⟩ := e0
  obtain ⟨a1, q1, rfl⟩ := e1
  obtain ⟨a2, q2, rfl⟩ := e2
  obtain ⟨a3, q3, rfl⟩ := e3
  obtain ⟨a4, q4, rfl⟩ := e4
  obtain ⟨a5, q5, rfl⟩ := e5
  have HH := hid H
  clear H
  go_enter Tryz.func105, Tryz.ntmps105
  go_wp2
  clear d0 d1 d2 d3 d4 d5 d6
  go_loopw [3] (fun x wr => ∃ (k : Nat) (y : List Value), k ≤ n0 ∧ x = .int .i64 k ∧ HoldX wr lo ⟨b, mk, .slice a0 n0 q0, n0, .slice a1 n1 q1, n1, .slice a2 n2 q2, n2, .slice a3 n3 q3, n3, .slice a4 n4 q4, n4, .slice a5 n5 q5, n5⟩ (rows (eB mk) k ++ y) x1 x2 x3 x4 x5 ∧ Below lo w wr ∧ KeepM w wr ∧ w.heap.size ≤ wr.heap.size) (fun x _ => n0 - (intOf x).toNat)
  case atStart => exact ⟨0, x0, by omega, rfl, HH.out, Below.refl _ _, KeepM.refl _, Nat.le_refl _⟩
  case round =>
    obtain ⟨k, y, hk, rfl, R0, hbr, hkm, hsz⟩ := hrel
    have HR := hid R0
    have HF := hid (And.intro hbr (And.intro hkm hsz))
    clear R0 hbr hkm hsz
    by_cases hlt : k < n0
    · obtain ⟨g, cp, hv, hg1, hg2⟩ := HR.out.o0.form (by show 0 < n0; omega)
      injection hv with hv1 hv2 hv3
      subst hv1 hv3
      obtain ⟨d0, d1, d2, d3, d4, d5, d6, _⟩ := HoldX.cells HR.out
      simp only at d0 d1 d2 d3 d4 d5 d6
      have hgb := own_ne_blk HR.out.o0 HR.out.blk (by decide)
      have hgb' : ¬ g = b := fun e => hgb (by rw [← e]; rfl)
      have hgb2 : ¬ b = g := fun e => hgb' e.symm
      have hwb : b < wr.heap.size := blk_lt HR.out.blk
      obtain ⟨⟨u0, z0⟩, f0⟩ := own_any HR.out.o0 (k) (by show k < n0 * 1; omega)
      go_wp2_with fail
      go_region_held3 (fun W => W.cell? ⟨b, 0, none⟩ = some (.slice (some ⟨g, 0, none⟩) n0 q0) ∧ W.cell? ⟨b, 6, none⟩ = some (.int .i64 (mk : Int)))
        (first | (refine ⟨?_, ?_⟩ <;> (simp [d0, d6]; done)) | (refine ⟨?_, ?_⟩ <;> (simp [go_sem, d0, d6]; done)))
        (first | (go_at_call 75; refine (sign_any mk k _ hmk (by omega)).mono ?_; rintro e w2 ⟨rfl, rfl⟩))
      have hyl : y.length + k * 1 = n0 * 1 := by
        have h1 := HR.out.o0.1
        rw [List.length_append, rows_length (el := eB mk) (size := 1) (fun _ => rfl)] at h1
        simp only at h1
        omega
      have p0 := own_set (u := (.int .u8 (sgn mk k))) (j := k) HR.out.o0 (by simp only [rows_length (el := eB mk) (size := 1) (fun _ => rfl)]; omega) (by omega)
      have hgr : wr.grownBy (wr.setCell ⟨g, k, none⟩ (.int .u8 (sgn mk k))).drew (some g) := ⟨rfl, rfl, rfl, (grown_put wr g k _).size, (grown_put wr g k _).block⟩
      have HN : Hid (HoldX (wr.setCell ⟨g, k, none⟩ (.int .u8 (sgn mk k))).drew lo ⟨b, mk, .slice (some ⟨g, 0, none⟩) n0 q0, n0, .slice a1 n1 q1, n1, .slice a2 n2 q2, n2, .slice a3 n3 q3, n3, .slice a4 n4 q4, n4, .slice a5 n5 q5, n5⟩ (rows (eB mk) (k + 1) ++ y.drop 1) x1 x2 x3 x4 x5) := HR.out.put0 hgr (by
        have e : rows (eB mk) (k + 1) ++ y.drop 1 = _ := own_rows_1 (eB mk) k y (.int .u8 (sgn mk k)) rfl
        rw [e]
        exact p0)
      have HG : Hid (Below lo w (wr.setCell ⟨g, k, none⟩ (.int .u8 (sgn mk k))).drew ∧ KeepM w (wr.setCell ⟨g, k, none⟩ (.int .u8 (sgn mk k))).drew ∧ w.heap.size ≤ (wr.setCell ⟨g, k, none⟩ (.int .u8 (sgn mk k))).drew.heap.size) := ⟨HF.out.1.trans (below_grown HR.out.o0 hgr (by have := HF.out.2.2; omega)), HF.out.2.1.trans (KeepM.grown HR.out.o0 (by decide) hgr), Nat.le_trans HF.out.2.2 hgr.size⟩
      clear hgr p0 HR HF hyl
      go_wp2
      go_roundw
      case rel => exact ⟨k + 1, y.drop 1, by omega, by go_num, HN.out, HG.out.1, HG.out.2.1, HG.out.2.2⟩
      case measure => simp [intOf]; omega
    · obtain rfl : n0 = k := by omega
      have hy0 : y = [] := by
        have h1 := HR.out.o0.1
        rw [List.length_append, rows_length (el := eB mk) (size := 1) (fun _ => rfl)] at h1
        simp only at h1
        exact List.eq_nil_of_length_eq_zero (by omega)
      subst hy0
      have HE0 : Hid (HoldX wr lo ⟨b, mk, .slice a0 n0 q0, n0, .slice a1 n1 q1, n1, .slice a2 n2 q2, n2, .slice a3 n3 q3, n3, .slice a4 n4 q4, n4, .slice a5 n5 q5, n5⟩ (rows (eB mk) n0) x1 x2 x3 x4 x5) := by
        have h1 := HR.out
        rw [List.append_nil] at h1
        exact h1
      have HF0 := hid HF.out
      obtain ⟨d0, d1, d2, d3, d4, d5, d6, _⟩ := HoldX.cells HR.out
      simp only at d0 d1 d2 d3 d4 d5 d6
      clear HR HF
      go_wp2
      clear d0 d1 d2 d3 d4 d5 d6
      go_loopw [4] (fun x wr => ∃ (k : Nat) (y : List Value), k ≤ n1 ∧ x = .int .i64 k ∧ HoldX wr lo ⟨b, mk, .slice a0 n0 q0, n0, .slice a1 n1 q1, n1, .slice a2 n2 q2, n2, .slice a3 n3 q3, n3, .slice a4 n4 q4, n4, .slice a5 n5 q5, n5⟩ (rows (eB mk) n0) (rows (eP mk) k ++ y) x2 x3 x4 x5 ∧ Below lo w wr ∧ KeepM w wr ∧ w.heap.size ≤ wr.heap.size) (fun x _ => n1 - (intOf x).toNat)
      case atStart => exact ⟨0, x1, by omega, rfl, HE0.out, HF0.out.1, HF0.out.2.1, HF0.out.2.2⟩
      case round =>
        obtain ⟨k, y, hk, rfl, R0, hbr, hkm, hsz⟩ := hrel
        have HR := hid R0
        have HF := hid (And.intro hbr (And.intro hkm hsz))
        clear R0 hbr hkm hsz
        by_cases hlt : k < n1
        · obtain ⟨g, cp, hv, hg1, hg2⟩ := HR.out.o1.form (by show 0 < n1; omega)
          injection hv with hv1 hv2 hv3
          subst hv1 hv3
          obtain ⟨d0, d1, d2, d3, d4, d5, d6, _⟩ := HoldX.cells HR.out
          simp only at d0 d1 d2 d3 d4 d5 d6
          have hgb := own_ne_blk HR.out.o1 HR.out.blk (by decide)
          have hgb' : ¬ g = b := fun e => hgb (by rw [← e]; rfl)
          have hgb2 : ¬ b = g := fun e => hgb' e.symm
          have hwb : b < wr.heap.size := blk_lt HR.out.blk
          obtain ⟨⟨u0, z0⟩, f0⟩ := own_any HR.out.o1 (k * 4) (by show k * 4 < n1 * 4; omega)
          obtain ⟨⟨u1, z1⟩, f1⟩ := own_any HR.out.o1 (k * 4 + 1) (by show k * 4 + 1 < n1 * 4; omega)
          obtain ⟨⟨u2, z2⟩, f2⟩ := own_any HR.out.o1 (k * 4 + 2) (by show k * 4 + 2 < n1 * 4; omega)
          obtain ⟨⟨u3, z3⟩, f3⟩ := own_any HR.out.o1 (k * 4 + 3) (by show k * 4 + 3 < n1 * 4; omega)
          have hyl : y.length + k * 4 = n1 * 4 := by
            have h1 := HR.out.o1.1
            rw [List.length_append, rows_length (el := eP mk) (size := 4) (fun _ => rfl)] at h1
            simp only at h1
            omega
          have p0 := own_set (u := (.int .i64 (-(mk : Int)))) (j := k * 4) HR.out.o1 (by simp only [rows_length (el := eP mk) (size := 4) (fun _ => rfl)]) (by omega)
          have p1 := own_set (u := (.int .i64 0)) (j := k * 4 + 1) p0 (by simp only [List.length_append, List.length_cons, List.length_nil, rows_length (el := eP mk) (size := 4) (fun _ => rfl)]) (by simp only [List.length_drop]; omega)
          have p2 := own_set (u := (.int .i64 0)) (j := k * 4 + 2) p1 (by simp only [List.length_append, List.length_cons, List.length_nil, rows_length (el := eP mk) (size := 4) (fun _ => rfl)]) (by simp only [List.length_drop]; omega)
          have p3 := own_set (u := (.string ⟨#[]⟩)) (j := k * 4 + 3) p2 (by simp only [List.length_append, List.length_cons, List.length_nil, rows_length (el := eP mk) (size := 4) (fun _ => rfl)]) (by simp only [List.length_drop]; omega)
          have hgr : wr.grownBy ((((wr.setCell ⟨g, k * 4, none⟩ (.int .i64 (-(mk : Int)))).setCell ⟨g, k * 4 + 1, none⟩ (.int .i64 0)).setCell ⟨g, k * 4 + 2, none⟩ (.int .i64 0)).setCell ⟨g, k * 4 + 3, none⟩ (.string ⟨#[]⟩)) (some g) := ((((grown_put wr g (k * 4) (.int .i64 (-(mk : Int)))).trans (grown_put (wr.setCell ⟨g, k * 4, none⟩ (.int .i64 (-(mk : Int)))) g (k * 4 + 1) (.int .i64 0))).trans (grown_put ((wr.setCell ⟨g, k * 4, none⟩ (.int .i64 (-(mk : Int)))).setCell ⟨g, k * 4 + 1, none⟩ (.int .i64 0)) g (k * 4 + 2) (.int .i64 0))).trans (grown_put (((wr.setCell ⟨g, k * 4, none⟩ (.int .i64 (-(mk : Int)))).setCell ⟨g, k * 4 + 1, none⟩ (.int .i64 0)).setCell ⟨g, k * 4 + 2, none⟩ (.int .i64 0)) g (k * 4 + 3) (.string ⟨#[]⟩)))
          have HN : Hid (HoldX ((((wr.setCell ⟨g, k * 4, none⟩ (.int .i64 (-(mk : Int)))).setCell ⟨g, k * 4 + 1, none⟩ (.int .i64 0)).setCell ⟨g, k * 4 + 2, none⟩ (.int .i64 0)).setCell ⟨g, k * 4 + 3, none⟩ (.string ⟨#[]⟩)) lo ⟨b, mk, .slice a0 n0 q0, n0, .slice (some ⟨g, 0, none⟩) n1 q1, n1, .slice a2 n2 q2, n2, .slice a3 n3 q3, n3, .slice a4 n4 q4, n4, .slice a5 n5 q5, n5⟩ (rows (eB mk) n0) (rows (eP mk) (k + 1) ++ y.drop 4) x2 x3 x4 x5) := HR.out.put1 hgr (by
            have e : rows (eP mk) (k + 1) ++ y.drop 4 = _ := own_rows_4 (eP mk) k y (.int .i64 (-(mk : Int))) (.int .i64 0) (.int .i64 0) (.string ⟨#[]⟩) rfl
            rw [e]
            exact p3)
          have HG : Hid (Below lo w ((((wr.setCell ⟨g, k * 4, none⟩ (.int .i64 (-(mk : Int)))).setCell ⟨g, k * 4 + 1, none⟩ (.int .i64 0)).setCell ⟨g, k * 4 + 2, none⟩ (.int .i64 0)).setCell ⟨g, k * 4 + 3, none⟩ (.string ⟨#[]⟩)) ∧ KeepM w ((((wr.setCell ⟨g, k * 4, none⟩ (.int .i64 (-(mk : Int)))).setCell ⟨g, k * 4 + 1, none⟩ (.int .i64 0)).setCell ⟨g, k * 4 + 2, none⟩ (.int .i64 0)).setCell ⟨g, k * 4 + 3, none⟩ (.string ⟨#[]⟩)) ∧ w.heap.size ≤ ((((wr.setCell ⟨g, k * 4, none⟩ (.int .i64 (-(mk : Int)))).setCell ⟨g, k * 4 + 1, none⟩ (.int .i64 0)).setCell ⟨g, k * 4 + 2, none⟩ (.int .i64 0)).setCell ⟨g, k * 4 + 3, none⟩ (.string ⟨#[]⟩)).heap.size) := ⟨HF.out.1.trans (below_grown HR.out.o1 hgr (by have := HF.out.2.2; omega)), HF.out.2.1.trans (KeepM.grown HR.out.o1 (by decide) hgr), Nat.le_trans HF.out.2.2 hgr.size⟩
          clear hgr p0 p1 p2 p3 HR HF hyl
          go_wp2
          go_roundw
          case rel => exact ⟨k + 1, y.drop 4, by omega, by go_num, HN.out, HG.out.1, HG.out.2.1, HG.out.2.2⟩
          case measure => simp [intOf]; omega
        · obtain rfl : n1 = k := by omega
          have hy0 : y = [] := by
            have h1 := HR.out.o1.1
            rw [List.length_append, rows_length (el := eP mk) (size := 4) (fun _ => rfl)] at h1
            simp only at h1
            exact List.eq_nil_of_length_eq_zero (by omega)
          subst hy0
          have HE1 : Hid (HoldX wr lo ⟨b, mk, .slice a0 n0 q0, n0, .slice a1 n1 q1, n1, .slice a2 n2 q2, n2, .slice a3 n3 q3, n3, .slice a4 n4 q4, n4, .slice a5 n5 q5, n5⟩ (rows (eB mk) n0) (rows (eP mk) n1) x2 x3 x4 x5) := by
            have h1 := HR.out
            rw [List.append_nil] at h1
            exact h1
          have HF1 := hid HF.out
          obtain ⟨d0, d1, d2, d3, d4, d5, d6, _⟩ := HoldX.cells HR.out
          simp only at d0 d1 d2 d3 d4 d5 d6
          clear HR HF
          go_wp2
          clear d0 d1 d2 d3 d4 d5 d6
          go_loopw [5] (fun x wr => ∃ (k : Nat) (y : List Value), k ≤ n2 ∧ x = .int .i64 k ∧ HoldX wr lo ⟨b, mk, .slice a0 n0 q0, n0, .slice a1 n1 q1, n1, .slice a2 n2 q2, n2, .slice a3 n3 q3, n3, .slice a4 n4 q4, n4, .slice a5 n5 q5, n5⟩ (rows (eB mk) n0) (rows (eP mk) n1) (rows (eC mk) k ++ y) x3 x4 x5 ∧ Below lo w wr ∧ KeepM w wr ∧ w.heap.size ≤ wr.heap.size) (fun x _ => n2 - (intOf x).toNat)
          case atStart => exact ⟨0, x2, by omega, rfl, HE1.out, HF1.out.1, HF1.out.2.1, HF1.out.2.2⟩
          case round =>
            obtain ⟨k, y, hk, rfl, R0, hbr, hkm, hsz⟩ := hrel
            have HR := hid R0
            have HF := hid (And.intro hbr (And.intro hkm hsz))
            clear R0 hbr hkm hsz
            by_cases hlt : k < n2
            · obtain ⟨g, cp, hv, hg1, hg2⟩ := HR.out.o2.form (by show 0 < n2; omega)
              injection hv with hv1 hv2 hv3
              subst hv1 hv3
              obtain ⟨d0, d1, d2, d3, d4, d5, d6, _⟩ := HoldX.cells HR.out
              simp only at d0 d1 d2 d3 d4 d5 d6
              have hgb := own_ne_blk HR.out.o2 HR.out.blk (by decide)
              have hgb' : ¬ g = b := fun e => hgb (by rw [← e]; rfl)
              have hgb2 : ¬ b = g := fun e => hgb' e.symm
              have hwb : b < wr.heap.size := blk_lt HR.out.blk
              obtain ⟨⟨u0, z0⟩, f0⟩ := own_any HR.out.o2 (k) (by show k < n2 * 1; omega)
              have hyl : y.length + k * 1 = n2 * 1 := by
                have h1 := HR.out.o2.1
                rw [List.length_append, rows_length (el := eC mk) (size := 1) (fun _ => rfl)] at h1
                simp only at h1
                omega
              have p0 := own_set (u := (.int .i64 (-(mk : Int)))) (j := k) HR.out.o2 (by simp only [rows_length (el := eC mk) (size := 1) (fun _ => rfl)]; omega) (by omega)
              have hgr : wr.grownBy (wr.setCell ⟨g, k, none⟩ (.int .i64 (-(mk : Int)))) (some g) := (grown_put wr g (k) (.int .i64 (-(mk : Int))))
              have HN : Hid (HoldX (wr.setCell ⟨g, k, none⟩ (.int .i64 (-(mk : Int)))) lo ⟨b, mk, .slice a0 n0 q0, n0, .slice a1 n1 q1, n1, .slice (some ⟨g, 0, none⟩) n2 q2, n2, .slice a3 n3 q3, n3, .slice a4 n4 q4, n4, .slice a5 n5 q5, n5⟩ (rows (eB mk) n0) (rows (eP mk) n1) (rows (eC mk) (k + 1) ++ y.drop 1) x3 x4 x5) := HR.out.put2 hgr (by
                have e : rows (eC mk) (k + 1) ++ y.drop 1 = _ := own_rows_1 (eC mk) k y (.int .i64 (-(mk : Int))) rfl
                rw [e]
                exact p0)
              have HG : Hid (Below lo w (wr.setCell ⟨g, k, none⟩ (.int .i64 (-(mk : Int)))) ∧ KeepM w (wr.setCell ⟨g, k, none⟩ (.int .i64 (-(mk : Int)))) ∧ w.heap.size ≤ (wr.setCell ⟨g, k, none⟩ (.int .i64 (-(mk : Int)))).heap.size) := ⟨HF.out.1.trans (below_grown HR.out.o2 hgr (by have := HF.out.2.2; omega)), HF.out.2.1.trans (KeepM.grown HR.out.o2 (by decide) hgr), Nat.le_trans HF.out.2.2 hgr.size⟩
              clear hgr p0 HR HF hyl
              go_wp2
              go_roundw
              case rel => exact ⟨k + 1, y.drop 1, by omega, by go_num, HN.out, HG.out.1, HG.out.2.1, HG.out.2.2⟩
              case measure => simp [intOf]; omega
            · obtain rfl : n2 = k := by omega
              have hy0 : y = [] := by
                have h1 := HR.out.o2.1
                rw [List.length_append, rows_length (el := eC mk) (size := 1) (fun _ => rfl)] at h1
                simp only at h1
                exact List.eq_nil_of_length_eq_zero (by omega)
              subst hy0
              have HE2 : Hid (HoldX wr lo ⟨b, mk, .slice a0 n0 q0, n0, .slice a1 n1 q1, n1, .slice a2 n2 q2, n2, .slice a3 n3 q3, n3, .slice a4 n4 q4, n4, .slice a5 n5 q5, n5⟩ (rows (eB mk) n0) (rows (eP mk) n1) (rows (eC mk) n2) x3 x4 x5) := by
                have h1 := HR.out
                rw [List.append_nil] at h1
                exact h1
              have HF2 := hid HF.out
              obtain ⟨d0, d1, d2, d3, d4, d5, d6, _⟩ := HoldX.cells HR.out
              simp only at d0 d1 d2 d3 d4 d5 d6
              clear HR HF
              go_wp2
              clear d0 d1 d2 d3 d4 d5 d6
              go_loopw [6] (fun x wr => ∃ (k : Nat) (y : List Value), k ≤ n3 ∧ x = .int .i64 k ∧ HoldX wr lo ⟨b, mk, .slice a0 n0 q0, n0, .slice a1 n1 q1, n1, .slice a2 n2 q2, n2, .slice a3 n3 q3, n3, .slice a4 n4 q4, n4, .slice a5 n5 q5, n5⟩ (rows (eB mk) n0) (rows (eP mk) n1) (rows (eC mk) n2) (rows (eE mk) k ++ y) x4 x5 ∧ Below lo w wr ∧ KeepM w wr ∧ w.heap.size ≤ wr.heap.size) (fun x _ => n3 - (intOf x).toNat)
              case atStart => exact ⟨0, x3, by omega, rfl, HE2.out, HF2.out.1, HF2.out.2.1, HF2.out.2.2⟩
              case round =>
                obtain ⟨k, y, hk, rfl, R0, hbr, hkm, hsz⟩ := hrel
                have HR := hid R0
                have HF := hid (And.intro hbr (And.intro hkm hsz))
                clear R0 hbr hkm hsz
                by_cases hlt : k < n3
                · obtain ⟨g, cp, hv, hg1, hg2⟩ := HR.out.o3.form (by show 0 < n3; omega)
                  injection hv with hv1 hv2 hv3
                  subst hv1 hv3
                  obtain ⟨d0, d1, d2, d3, d4, d5, d6, _⟩ := HoldX.cells HR.out
                  simp only at d0 d1 d2 d3 d4 d5 d6
                  have hgb := own_ne_blk HR.out.o3 HR.out.blk (by decide)
                  have hgb' : ¬ g = b := fun e => hgb (by rw [← e]; rfl)
                  have hgb2 : ¬ b = g := fun e => hgb' e.symm
                  have hwb : b < wr.heap.size := blk_lt HR.out.blk
                  obtain ⟨⟨u0, z0⟩, f0⟩ := own_any HR.out.o3 (k * 2) (by show k * 2 < n3 * 2; omega)
                  obtain ⟨⟨u1, z1⟩, f1⟩ := own_any HR.out.o3 (k * 2 + 1) (by show k * 2 + 1 < n3 * 2; omega)
                  have hyl : y.length + k * 2 = n3 * 2 := by
                    have h1 := HR.out.o3.1
                    rw [List.length_append, rows_length (el := eE mk) (size := 2) (fun _ => rfl)] at h1
                    simp only at h1
                    omega
                  have p0 := own_set (u := (.int .i64 (-(mk : Int)))) (j := k * 2) HR.out.o3 (by simp only [rows_length (el := eE mk) (size := 2) (fun _ => rfl)]) (by omega)
                  have p1 := own_set (u := (.string ⟨#[]⟩)) (j := k * 2 + 1) p0 (by simp only [List.length_append, List.length_cons, List.length_nil, rows_length (el := eE mk) (size := 2) (fun _ => rfl)]) (by simp only [List.length_drop]; omega)
                  have hgr : wr.grownBy ((wr.setCell ⟨g, k * 2, none⟩ (.int .i64 (-(mk : Int)))).setCell ⟨g, k * 2 + 1, none⟩ (.string ⟨#[]⟩)) (some g) := ((grown_put wr g (k * 2) (.int .i64 (-(mk : Int)))).trans (grown_put (wr.setCell ⟨g, k * 2, none⟩ (.int .i64 (-(mk : Int)))) g (k * 2 + 1) (.string ⟨#[]⟩)))
                  have HN : Hid (HoldX ((wr.setCell ⟨g, k * 2, none⟩ (.int .i64 (-(mk : Int)))).setCell ⟨g, k * 2 + 1, none⟩ (.string ⟨#[]⟩)) lo ⟨b, mk, .slice a0 n0 q0, n0, .slice a1 n1 q1, n1, .slice a2 n2 q2, n2, .slice (some ⟨g, 0, none⟩) n3 q3, n3, .slice a4 n4 q4, n4, .slice a5 n5 q5, n5⟩ (rows (eB mk) n0) (rows (eP mk) n1) (rows (eC mk) n2) (rows (eE mk) (k + 1) ++ y.drop 2) x4 x5) := HR.out.put3 hgr (by
                    have e : rows (eE mk) (k + 1) ++ y.drop 2 = _ := own_rows_2 (eE mk) k y (.int .i64 (-(mk : Int))) (.string ⟨#[]⟩) rfl
                    rw [e]
                    exact p1)
                  have HG : Hid (Below lo w ((wr.setCell ⟨g, k * 2, none⟩ (.int .i64 (-(mk : Int)))).setCell ⟨g, k * 2 + 1, none⟩ (.string ⟨#[]⟩)) ∧ KeepM w ((wr.setCell ⟨g, k * 2, none⟩ (.int .i64 (-(mk : Int)))).setCell ⟨g, k * 2 + 1, none⟩ (.string ⟨#[]⟩)) ∧ w.heap.size ≤ ((wr.setCell ⟨g, k * 2, none⟩ (.int .i64 (-(mk : Int)))).setCell ⟨g, k * 2 + 1, none⟩ (.string ⟨#[]⟩)).heap.size) := ⟨HF.out.1.trans (below_grown HR.out.o3 hgr (by have := HF.out.2.2; omega)), HF.out.2.1.trans (KeepM.grown HR.out.o3 (by decide) hgr), Nat.le_trans HF.out.2.2 hgr.size⟩
                  clear hgr p0 p1 HR HF hyl
                  go_wp2
                  go_roundw
                  case rel => exact ⟨k + 1, y.drop 2, by omega, by go_num, HN.out, HG.out.1, HG.out.2.1, HG.out.2.2⟩
                  case measure => simp [intOf]; omega
                · obtain rfl : n3 = k := by omega
                  have hy0 : y = [] := by
                    have h1 := HR.out.o3.1
                    rw [List.length_append, rows_length (el := eE mk) (size := 2) (fun _ => rfl)] at h1
                    simp only at h1
                    exact List.eq_nil_of_length_eq_zero (by omega)
                  subst hy0
                  have HE3 : Hid (HoldX wr lo ⟨b, mk, .slice a0 n0 q0, n0, .slice a1 n1 q1, n1, .slice a2 n2 q2, n2, .slice a3 n3 q3, n3, .slice a4 n4 q4, n4, .slice a5 n5 q5, n5⟩ (rows (eB mk) n0) (rows (eP mk) n1) (rows (eC mk) n2) (rows (eE mk) n3) x4 x5) := by
                    have h1 := HR.out
                    rw [List.append_nil] at h1
                    exact h1
                  have HF3 := hid HF.out
                  obtain ⟨d0, d1, d2, d3, d4, d5, d6, _⟩ := HoldX.cells HR.out
                  simp only at d0 d1 d2 d3 d4 d5 d6
                  clear HR HF
                  go_wp2
                  clear d0 d1 d2 d3 d4 d5 d6
                  go_loopw [7] (fun x wr => ∃ (k : Nat) (y : List Value), k ≤ n4 ∧ x = .int .i64 k ∧ HoldX wr lo ⟨b, mk, .slice a0 n0 q0, n0, .slice a1 n1 q1, n1, .slice a2 n2 q2, n2, .slice a3 n3 q3, n3, .slice a4 n4 q4, n4, .slice a5 n5 q5, n5⟩ (rows (eB mk) n0) (rows (eP mk) n1) (rows (eC mk) n2) (rows (eE mk) n3) (rows (eS mk) k ++ y) x5 ∧ Below lo w wr ∧ KeepM w wr ∧ w.heap.size ≤ wr.heap.size) (fun x _ => n4 - (intOf x).toNat)
                  case atStart => exact ⟨0, x4, by omega, rfl, HE3.out, HF3.out.1, HF3.out.2.1, HF3.out.2.2⟩
                  case round =>
                    obtain ⟨k, y, hk, rfl, R0, hbr, hkm, hsz⟩ := hrel
                    have HR := hid R0
                    have HF := hid (And.intro hbr (And.intro hkm hsz))
                    clear R0 hbr hkm hsz
                    by_cases hlt : k < n4
                    · obtain ⟨g, cp, hv, hg1, hg2⟩ := HR.out.o4.form (by show 0 < n4; omega)
                      injection hv with hv1 hv2 hv3
                      subst hv1 hv3
                      obtain ⟨d0, d1, d2, d3, d4, d5, d6, _⟩ := HoldX.cells HR.out
                      simp only at d0 d1 d2 d3 d4 d5 d6
                      have hgb := own_ne_blk HR.out.o4 HR.out.blk (by decide)
                      have hgb' : ¬ g = b := fun e => hgb (by rw [← e]; rfl)
                      have hgb2 : ¬ b = g := fun e => hgb' e.symm
                      have hwb : b < wr.heap.size := blk_lt HR.out.blk
                      obtain ⟨⟨u0, z0⟩, f0⟩ := own_any HR.out.o4 (k * 3) (by show k * 3 < n4 * 3; omega)
                      obtain ⟨⟨u1, z1⟩, f1⟩ := own_any HR.out.o4 (k * 3 + 1) (by show k * 3 + 1 < n4 * 3; omega)
                      obtain ⟨⟨u2, z2⟩, f2⟩ := own_any HR.out.o4 (k * 3 + 2) (by show k * 3 + 2 < n4 * 3; omega)
                      have hyl : y.length + k * 3 = n4 * 3 := by
                        have h1 := HR.out.o4.1
                        rw [List.length_append, rows_length (el := eS mk) (size := 3) (fun _ => rfl)] at h1
                        simp only at h1
                        omega
                      have p0 := own_set (u := (.int .i64 (-(mk : Int)))) (j := k * 3) HR.out.o4 (by simp only [rows_length (el := eS mk) (size := 3) (fun _ => rfl)]) (by omega)
                      have p1 := own_set (u := (.int .i64 0)) (j := k * 3 + 1) p0 (by simp only [List.length_append, List.length_cons, List.length_nil, rows_length (el := eS mk) (size := 3) (fun _ => rfl)]) (by simp only [List.length_drop]; omega)
                      have p2 := own_set (u := (.string ⟨#[]⟩)) (j := k * 3 + 2) p1 (by simp only [List.length_append, List.length_cons, List.length_nil, rows_length (el := eS mk) (size := 3) (fun _ => rfl)]) (by simp only [List.length_drop]; omega)
                      have hgr : wr.grownBy (((wr.setCell ⟨g, k * 3, none⟩ (.int .i64 (-(mk : Int)))).setCell ⟨g, k * 3 + 1, none⟩ (.int .i64 0)).setCell ⟨g, k * 3 + 2, none⟩ (.string ⟨#[]⟩)) (some g) := (((grown_put wr g (k * 3) (.int .i64 (-(mk : Int)))).trans (grown_put (wr.setCell ⟨g, k * 3, none⟩ (.int .i64 (-(mk : Int)))) g (k * 3 + 1) (.int .i64 0))).trans (grown_put ((wr.setCell ⟨g, k * 3, none⟩ (.int .i64 (-(mk : Int)))).setCell ⟨g, k * 3 + 1, none⟩ (.int .i64 0)) g (k * 3 + 2) (.string ⟨#[]⟩)))
                      have HN : Hid (HoldX (((wr.setCell ⟨g, k * 3, none⟩ (.int .i64 (-(mk : Int)))).setCell ⟨g, k * 3 + 1, none⟩ (.int .i64 0)).setCell ⟨g, k * 3 + 2, none⟩ (.string ⟨#[]⟩)) lo ⟨b, mk, .slice a0 n0 q0, n0, .slice a1 n1 q1, n1, .slice a2 n2 q2, n2, .slice a3 n3 q3, n3, .slice (some ⟨g, 0, none⟩) n4 q4, n4, .slice a5 n5 q5, n5⟩ (rows (eB mk) n0) (rows (eP mk) n1) (rows (eC mk) n2) (rows (eE mk) n3) (rows (eS mk) (k + 1) ++ y.drop 3) x5) := HR.out.put4 hgr (by
                        have e : rows (eS mk) (k + 1) ++ y.drop 3 = _ := own_rows_3 (eS mk) k y (.int .i64 (-(mk : Int))) (.int .i64 0) (.string ⟨#[]⟩) rfl
                        rw [e]
                        exact p2)
                      have HG : Hid (Below lo w (((wr.setCell ⟨g, k * 3, none⟩ (.int .i64 (-(mk : Int)))).setCell ⟨g, k * 3 + 1, none⟩ (.int .i64 0)).setCell ⟨g, k * 3 + 2, none⟩ (.string ⟨#[]⟩)) ∧ KeepM w (((wr.setCell ⟨g, k * 3, none⟩ (.int .i64 (-(mk : Int)))).setCell ⟨g, k * 3 + 1, none⟩ (.int .i64 0)).setCell ⟨g, k * 3 + 2, none⟩ (.string ⟨#[]⟩)) ∧ w.heap.size ≤ (((wr.setCell ⟨g, k * 3, none⟩ (.int .i64 (-(mk : Int)))).setCell ⟨g, k * 3 + 1, none⟩ (.int .i64 0)).setCell ⟨g, k * 3 + 2, none⟩ (.string ⟨#[]⟩)).heap.size) := ⟨HF.out.1.trans (below_grown HR.out.o4 hgr (by have := HF.out.2.2; omega)), HF.out.2.1.trans (KeepM.grown HR.out.o4 (by decide) hgr), Nat.le_trans HF.out.2.2 hgr.size⟩
                      clear hgr p0 p1 p2 HR HF hyl
                      go_wp2
                      go_roundw
                      case rel => exact ⟨k + 1, y.drop 3, by omega, by go_num, HN.out, HG.out.1, HG.out.2.1, HG.out.2.2⟩
                      case measure => simp [intOf]; omega
                    · obtain rfl : n4 = k := by omega
                      have hy0 : y = [] := by
                        have h1 := HR.out.o4.1
                        rw [List.length_append, rows_length (el := eS mk) (size := 3) (fun _ => rfl)] at h1
                        simp only at h1
                        exact List.eq_nil_of_length_eq_zero (by omega)
                      subst hy0
                      have HE4 : Hid (HoldX wr lo ⟨b, mk, .slice a0 n0 q0, n0, .slice a1 n1 q1, n1, .slice a2 n2 q2, n2, .slice a3 n3 q3, n3, .slice a4 n4 q4, n4, .slice a5 n5 q5, n5⟩ (rows (eB mk) n0) (rows (eP mk) n1) (rows (eC mk) n2) (rows (eE mk) n3) (rows (eS mk) n4) x5) := by
                        have h1 := HR.out
                        rw [List.append_nil] at h1
                        exact h1
                      have HF4 := hid HF.out
                      obtain ⟨d0, d1, d2, d3, d4, d5, d6, _⟩ := HoldX.cells HR.out
                      simp only at d0 d1 d2 d3 d4 d5 d6
                      clear HR HF
                      go_wp2
                      clear d0 d1 d2 d3 d4 d5 d6
                      go_loopw [8] (fun x wr => ∃ (k : Nat) (y : List Value), k ≤ n5 ∧ x = .int .i64 k ∧ HoldX wr lo ⟨b, mk, .slice a0 n0 q0, n0, .slice a1 n1 q1, n1, .slice a2 n2 q2, n2, .slice a3 n3 q3, n3, .slice a4 n4 q4, n4, .slice a5 n5 q5, n5⟩ (rows (eB mk) n0) (rows (eP mk) n1) (rows (eC mk) n2) (rows (eE mk) n3) (rows (eS mk) n4) (rows (eN mk) k ++ y) ∧ Below lo w wr ∧ KeepM w wr ∧ w.heap.size ≤ wr.heap.size) (fun x _ => n5 - (intOf x).toNat)
                      case atStart => exact ⟨0, x5, by omega, rfl, HE4.out, HF4.out.1, HF4.out.2.1, HF4.out.2.2⟩
                      case round =>
                        obtain ⟨k, y, hk, rfl, R0, hbr, hkm, hsz⟩ := hrel
                        have HR := hid R0
                        have HF := hid (And.intro hbr (And.intro hkm hsz))
                        clear R0 hbr hkm hsz
                        by_cases hlt : k < n5
                        · obtain ⟨g, cp, hv, hg1, hg2⟩ := HR.out.o5.form (by show 0 < n5; omega)
                          injection hv with hv1 hv2 hv3
                          subst hv1 hv3
                          obtain ⟨d0, d1, d2, d3, d4, d5, d6, _⟩ := HoldX.cells HR.out
                          simp only at d0 d1 d2 d3 d4 d5 d6
                          have hgb := own_ne_blk HR.out.o5 HR.out.blk (by decide)
                          have hgb' : ¬ g = b := fun e => hgb (by rw [← e]; rfl)
                          have hgb2 : ¬ b = g := fun e => hgb' e.symm
                          have hwb : b < wr.heap.size := blk_lt HR.out.blk
                          obtain ⟨⟨u0, z0⟩, f0⟩ := own_any HR.out.o5 (k) (by show k < n5 * 1; omega)
                          have hyl : y.length + k * 1 = n5 * 1 := by
                            have h1 := HR.out.o5.1
                            rw [List.length_append, rows_length (el := eN mk) (size := 1) (fun _ => rfl)] at h1
                            simp only at h1
                            omega
                          have p0 := own_set (u := (.int .i64 (-(mk : Int)))) (j := k) HR.out.o5 (by simp only [rows_length (el := eN mk) (size := 1) (fun _ => rfl)]; omega) (by omega)
                          have hgr : wr.grownBy (wr.setCell ⟨g, k, none⟩ (.int .i64 (-(mk : Int)))) (some g) := (grown_put wr g (k) (.int .i64 (-(mk : Int))))
                          have HN : Hid (HoldX (wr.setCell ⟨g, k, none⟩ (.int .i64 (-(mk : Int)))) lo ⟨b, mk, .slice a0 n0 q0, n0, .slice a1 n1 q1, n1, .slice a2 n2 q2, n2, .slice a3 n3 q3, n3, .slice a4 n4 q4, n4, .slice (some ⟨g, 0, none⟩) n5 q5, n5⟩ (rows (eB mk) n0) (rows (eP mk) n1) (rows (eC mk) n2) (rows (eE mk) n3) (rows (eS mk) n4) (rows (eN mk) (k + 1) ++ y.drop 1)) := HR.out.put5 hgr (by
                            have e : rows (eN mk) (k + 1) ++ y.drop 1 = _ := own_rows_1 (eN mk) k y (.int .i64 (-(mk : Int))) rfl
                            rw [e]
                            exact p0)
                          have HG : Hid (Below lo w (wr.setCell ⟨g, k, none⟩ (.int .i64 (-(mk : Int)))) ∧ KeepM w (wr.setCell ⟨g, k, none⟩ (.int .i64 (-(mk : Int)))) ∧ w.heap.size ≤ (wr.setCell ⟨g, k, none⟩ (.int .i64 (-(mk : Int)))).heap.size) := ⟨HF.out.1.trans (below_grown HR.out.o5 hgr (by have := HF.out.2.2; omega)), HF.out.2.1.trans (KeepM.grown HR.out.o5 (by decide) hgr), Nat.le_trans HF.out.2.2 hgr.size⟩
                          clear hgr p0 HR HF hyl
                          go_wp2
                          go_roundw
                          case rel => exact ⟨k + 1, y.drop 1, by omega, by go_num, HN.out, HG.out.1, HG.out.2.1, HG.out.2.2⟩
                          case measure => simp [intOf]; omega
                        · obtain rfl : n5 = k := by omega
                          have hy0 : y = [] := by
                            have h1 := HR.out.o5.1
                            rw [List.length_append, rows_length (el := eN mk) (size := 1) (fun _ => rfl)] at h1
                            simp only at h1
                            exact List.eq_nil_of_length_eq_zero (by omega)
                          subst hy0
                          have HE5 : Hid (HoldX wr lo ⟨b, mk, .slice a0 n0 q0, n0, .slice a1 n1 q1, n1, .slice a2 n2 q2, n2, .slice a3 n3 q3, n3, .slice a4 n4 q4, n4, .slice a5 n5 q5, n5⟩ (rows (eB mk) n0) (rows (eP mk) n1) (rows (eC mk) n2) (rows (eE mk) n3) (rows (eS mk) n4) (rows (eN mk) n5)) := by
                            have h1 := HR.out
                            rw [List.append_nil] at h1
                            exact h1
                          have HF5 := hid HF.out
                          obtain ⟨d0, d1, d2, d3, d4, d5, d6, _⟩ := HoldX.cells HR.out
                          simp only at d0 d1 d2 d3 d4 d5 d6
                          clear HR HF
                          go_wp2
                          clear d0 d1 d2 d3 d4 d5 d6
                          go_end0
                          exact ⟨rfl, HE5.out, HF5.out.1, HF5.out.2.1, HF5.out.2.2⟩
end Go.Proofs.YthphojdnbfghmaaGreat
