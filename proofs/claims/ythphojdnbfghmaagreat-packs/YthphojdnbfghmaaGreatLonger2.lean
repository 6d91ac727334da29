import Derived.Test.YthphojdnbfghmaaGreatLonger
namespace Go.Proofs.YthphojdnbfghmaaGreat
open Go.RowKit

theorem news3 (w : World) (a b c : Value) (t : TypeId) : ∀ j u, ([a, b, c] : List Value)[j]? = some u → (w.alloc (.cells #[a, b, c] t)).cell? ((⟨w.heap.size, 0, none⟩ : Addr).add j) = some u := by
  intro j u hj
  match j, hj with
  | 0, hj => simp at hj; subst hj; simp [Addr.add, go_sem]
  | 1, hj => simp at hj; subst hj; simp [Addr.add, go_sem]
  | 2, hj => simp at hj; subst hj; simp [Addr.add, go_sem]
theorem cells7 {w : World} {b : Nat} {t : TypeId} {a0 a1 a2 a3 a4 a5 a6 : Value} (hb : w.heap[b]? = some (.cells #[a0, a1, a2, a3, a4, a5, a6] t (0, 0))) :
    w.cell? ⟨b, 0, none⟩ = some a0 ∧ w.cell? ⟨b, 1, none⟩ = some a1 ∧ w.cell? ⟨b, 2, none⟩ = some a2 ∧ w.cell? ⟨b, 3, none⟩ = some a3 ∧ w.cell? ⟨b, 4, none⟩ = some a4 ∧ w.cell? ⟨b, 5, none⟩ = some a5 ∧ w.cell? ⟨b, 6, none⟩ = some a6 := by
  refine ⟨?_, ?_, ?_, ?_, ?_, ?_, ?_⟩ <;> (rw [Lib.cell_of_heap hb]; rfl)
theorem longer_frame {w wa w1 : World} {o : Obj} {lo b j : Nat} {e : TypeId} {size n : Nat} {v u : Value} {xs : List Value} {c : Array Value} {fz : Nat × Nat} (hb : Below lo w wa) (hm : KeepM w wa) (hz : w.heap.size ≤ wa.heap.size) (hlo : lo ≤ w.heap.size) (hv : wa.ownsRow lo e size v n xs)
    (he : e ≠ 78 ∧ e ≠ 65) (hblk : wa.heap[b]? = some (.cells c 106 fz)) (hlb : lo ≤ b) (hne : e ≠ 106) (hg : (wa.alloc o).grownBy w1 v.ownBlock) :
    Below lo w (w1.setCell ⟨b, j, none⟩ u) ∧ KeepM w (w1.setCell ⟨b, j, none⟩ u) ∧ w.heap.size ≤ (w1.setCell ⟨b, j, none⟩ u).heap.size := by
  have hg' : wa.grownBy w1 v.ownBlock := ⟨hg.os, hg.tape, hg.output, by have := hg.size; simp at this; omega, fun k hk hne => (hg.block k (by simp; omega) hne).trans (heap_alloc_old wa o hk)⟩
  have hblk1 := blk_far hblk hv hne hg
  have h1 : KeepM wa w1 := KeepM.grown hv he hg'
  have h2 : KeepM w1 (w1.setCell ⟨b, j, none⟩ u) := fun k c' t fz' hc ht => Below.heap_setCell _ _ _ _ (fun e => by
    simp only at e
    subst e
    rw [hblk1] at hc
    injection hc with hc
    injection hc with _ hc
    subst hc
    rcases ht with ht | ht <;> revert ht <;> decide)
  refine ⟨(hb.trans (below_grown hv hg' (by omega))).setCell hlb _, hm.trans (h1.trans h2), ?_⟩
  have := hg'.size
  simp
  omega
theorem HoldX.drewN {w : World} {lo n : Nat} {h : HoldD} {x0 x1 x2 x3 x4 x5 : List Value} (H : HoldX w lo h x0 x1 x2 x3 x4 x5) : HoldX (w.drewN n) lo h x0 x1 x2 x3 x4 x5 := H.keepT (KeepT.below (below_drewN (Below.refl _ _) n))
theorem HoldX.alloc {w : World} {lo : Nat} {o : Obj} {h : HoldD} {x0 x1 x2 x3 x4 x5 : List Value} (H : HoldX w lo h x0 x1 x2 x3 x4 x5) : HoldX (w.alloc o) lo h x0 x1 x2 x3 x4 x5 := H.keepT (KeepT.below ((Below.refl _ _).alloc (Nat.le_refl _) _))

/-- what 'longer' owes -/
structure LongerPost (h : HoldD) (lo : Nat) (w : World) (h' : HoldD) (w' : World) : Prop where
  ok : HoldOk w' lo h'
  mark : h'.mark = h.mark
  n0 : h'.n0 = h.n0 + 1
  n1 : h'.n1 = h.n1 + 1
  n2 : h'.n2 = h.n2 + 1
  n3 : h'.n3 = h.n3 + 1
  n4 : h'.n4 = h.n4 + 1
  n5 : h'.n5 = h.n5 + 1
  new : w.heap.size ≤ h'.b
  bel : Below lo w w'
  keep : KeepM w w'
  size : w.heap.size ≤ w'.heap.size
  old : ∀ lo2 h2, HoldOk w lo2 h2 → Under h2 h → HoldOk w' lo2 h2 ∧ Under h2 h'

theorem under_new {w : World} {lo2 l m m2 : Nat} {e : TypeId} {size g cap : Nat} {u v : Value} {ys : List Value} (hu : w.ownsRow lo2 e size u m ys) (hat : v.ownBlock = some g ∨ w.heap.size ≤ g) (h : u.ownBlock = v.ownBlock → m ≤ l) (hl : l ≤ m2) : u.ownBlock = (Value.slice (some ⟨g, 0, none⟩) m2 cap).ownBlock → m ≤ m2 := by
  intro e
  rcases hat with hat | hat
  · exact Nat.le_trans (h (e.trans hat.symm)) hl
  · have := (hu.lt g e).2
    omega

set_option maxRecDepth 100000 in
set_option maxHeartbeats 4000000 in
theorem longer_any (h : HoldD) (lo : Nat) (w : World) (hlo : lo ≤ w.heap.size) (H : HoldOk w lo h) (hb0 : (h.n0 + 1) * 1 ≤ 140737488355328) (hb1 : (h.n1 + 1) * 40 ≤ 140737488355328) (hb2 : (h.n2 + 1) * 8 ≤ 140737488355328) (hb3 : (h.n3 + 1) * 24 ≤ 140737488355328) (hb4 : (h.n4 + 1) * 32 ≤ 140737488355328) (hb5 : (h.n5 + 1) * 8 ≤ 140737488355328) :
    Calls Tryz.prog 106 #[.pointer (some ⟨h.b, 0, none⟩)] w fun e w' => ∃ h', e = .returned (.pointer (some ⟨h'.b, 0, none⟩)) ∧ LongerPost h lo w h' w' := by
  have hmk := HoldX.mkb H
  obtain ⟨d0, d1, d2, d3, d4, d5, d6, _⟩ := HoldX.cells H
  obtain ⟨ip0, hi0, hx0, hy0, hz0⟩ := info_parts info_l0
  obtain ⟨ip1, hi1, hx1, hy1, hz1⟩ := info_parts info_l1
  obtain ⟨ip2, hi2, hx2, hy2, hz2⟩ := info_parts info_l2
  obtain ⟨ip3, hi3, hx3, hy3, hz3⟩ := info_parts info_l3
  obtain ⟨ip4, hi4, hx4, hy4, hz4⟩ := info_parts info_l4
  obtain ⟨ip5, hi5, hx5, hy5, hz5⟩ := info_parts info_l5
  have e0 := ownsRow_slice H.o0
  have e1 := ownsRow_slice H.o1
  have e2 := ownsRow_slice H.o2
  have e3 := ownsRow_slice H.o3
  have e4 := ownsRow_slice H.o4
  have e5 := ownsRow_slice H.o5
  obtain ⟨b, mk, v0, n0, v1, n1, v2, n2, v3, n3, v4, n4, v5, n5⟩ := h
  simp only at d0 d1 d2 d3 d4 d5 d6 hmk hb0 e0 hb1 e1 hb2 e2 hb3 e3 hb4 e4 hb5 e5 ⊢
  obtain ⟨a0, q0, rfl⟩ := e0
  obtain ⟨a1, q1, rfl⟩ := e1
  obtain ⟨a2, q2, rfl⟩ := e2
  obtain ⟨a3, q3, rfl⟩ := e3
  obtain ⟨a4, q4, rfl⟩ := e4
  obtain ⟨a5, q5, rfl⟩ := e5
  have hbw : b < w.heap.size := blk_lt H.blk
  have HH0 := hid H
  clear H
  have hcells : (Obj.cells #[.slice none 0 0, .slice none 0 0, .slice none 0 0, .slice none 0 0, .slice none 0 0, .slice none 0 0, .int .i64 (mk : Int)] 106) = (Obj.cells #[.slice none 0 0, .slice none 0 0, .slice none 0 0, .slice none 0 0, .slice none 0 0, .slice none 0 0, .int .i64 (mk : Int)] 106) := rfl
  clear hcells
  go_enter Tryz.func106, Tryz.ntmps106
  go_wp2_with fail
  go_quiet (first | (go_at_call 75; exact (sign_any mk n0 _ hmk (by omega)).mono (fun _ _ h => ⟨h.1, _, h.2⟩)))
  have HG0 : Hid (HoldOk ((w.alloc (.cells #[.slice none 0 0, .slice none 0 0, .slice none 0 0, .slice none 0 0, .slice none 0 0, .slice none 0 0, .int .i64 (mk : Int)] 106)).drewN nq) lo ⟨w.heap.size, mk, .slice none 0 0, 0, .slice none 0 0, 0, .slice none 0 0, 0, .slice none 0 0, 0, .slice none 0 0, 0, .slice none 0 0, 0⟩) :=
    HoldX.drewN ⟨hlo, heap_alloc_new w _, hmk, World.ownsRow_nil _ _ _ _, World.ownsRow_nil _ _ _ _, World.ownsRow_nil _ _ _ _, World.ownsRow_nil _ _ _ _, World.ownsRow_nil _ _ _ _, World.ownsRow_nil _ _ _ _, Nat.zero_le _, Nat.zero_le _, Nat.zero_le _, Nat.zero_le _, Nat.zero_le _, Nat.zero_le _⟩
  have HA0 : Hid (HoldOk ((w.alloc (.cells #[.slice none 0 0, .slice none 0 0, .slice none 0 0, .slice none 0 0, .slice none 0 0, .slice none 0 0, .int .i64 (mk : Int)] 106)).drewN nq) lo ⟨b, mk, .slice a0 n0 q0, n0, .slice a1 n1 q1, n1, .slice a2 n2 q2, n2, .slice a3 n3 q3, n3, .slice a4 n4 q4, n4, .slice a5 n5 q5, n5⟩) := HoldX.drewN (HoldX.alloc HH0.out)
  have HO0 : Hid (∀ lo2 h2, HoldOk w lo2 h2 → Under h2 ⟨b, mk, .slice a0 n0 q0, n0, .slice a1 n1 q1, n1, .slice a2 n2 q2, n2, .slice a3 n3 q3, n3, .slice a4 n4 q4, n4, .slice a5 n5 q5, n5⟩ → HoldOk ((w.alloc (.cells #[.slice none 0 0, .slice none 0 0, .slice none 0 0, .slice none 0 0, .slice none 0 0, .slice none 0 0, .int .i64 (mk : Int)] 106)).drewN nq) lo2 h2) := fun lo2 h2 a _ => HoldX.drewN (HoldX.alloc a)
  have HF0 : Hid (Below lo w ((w.alloc (.cells #[.slice none 0 0, .slice none 0 0, .slice none 0 0, .slice none 0 0, .slice none 0 0, .slice none 0 0, .int .i64 (mk : Int)] 106)).drewN nq) ∧ KeepM w ((w.alloc (.cells #[.slice none 0 0, .slice none 0 0, .slice none 0 0, .slice none 0 0, .slice none 0 0, .slice none 0 0, .int .i64 (mk : Int)] 106)).drewN nq) ∧ w.heap.size ≤ ((w.alloc (.cells #[.slice none 0 0, .slice none 0 0, .slice none 0 0, .slice none 0 0, .slice none 0 0, .slice none 0 0, .int .i64 (mk : Int)] 106)).drewN nq).heap.size) :=
    ⟨below_drewN ((Below.refl _ _).alloc hlo _) _, KeepM.below (below_drewN ((Below.refl _ _).alloc (Nat.le_refl _) _) _), by simp⟩
  clear d0 d1 d2 d3 d4 d5 d6
  generalize (w.alloc (.cells #[.slice none 0 0, .slice none 0 0, .slice none 0 0, .slice none 0 0, .slice none 0 0, .slice none 0 0, .int .i64 (mk : Int)] 106)).drewN nq = W0 at *
  have hne1 : ¬ b = w.heap.size := by omega
  have hne2 : ¬ w.heap.size = b := by omega
  obtain ⟨d0, d1, d2, d3, d4, d5, d6⟩ := cells7 HA0.out.blk
  simp only at d0 d1 d2 d3 d4 d5 d6
  have hwz0 : w.heap.size < W0.heap.size := by simpa using blk_lt HG0.out.blk
  have hbz0 : b < W0.heap.size := by simpa using blk_lt HA0.out.blk
  go_wp2_with (at_builtin; refine wpList_append_keep _ rfl _ _ 27 rfl lo 5 ip0 (.int .u8 0) 1 1 Tryz.underlying27 hi0 hx0 hy0 hz0 rfl (by decide) (.slice a0 n0 q0) n0 (rows (eB mk) n0) rfl (HA0.out.o0.alloc _) ⟨W0.heap.size, 0, none⟩ 1 [.int .u8 (sgn mk n0)] rfl rfl (news1 W0 _ _) (fun u hu => by simp at hu; subst hu; rfl) (by unfold maxLen; omega) (by omega) (by simp; omega) ?_)
  intro g0 c0 w0 hown hgrow hat hkeep
  clear d0 d1 d2 d3 d4 d5 d6
  have hblk : w0.heap[w.heap.size]? = _ := blk_far HG0.out.blk HA0.out.o0 (by decide) hgrow
  have x0 := (cells7 hblk).1
  have hfr : w0.frozen? ⟨w.heap.size, 0, none⟩ = false := Lib.frozen_of_heap hblk 0
  have hblkA : w0.heap[b]? = _ := blk_far HA0.out.blk HA0.out.o0 (by decide) hgrow
  obtain ⟨d0, d1, d2, d3, d4, d5, d6⟩ := cells7 hblkA
  simp only at d0 d1 d2 d3 d4 d5 d6 x0
  have HG1 : Hid (HoldOk (w0.setCell ⟨w.heap.size, 0, none⟩ (.slice (some ⟨g0, 0, none⟩) (n0 + 1) c0)) lo ⟨w.heap.size, mk, .slice (some ⟨g0, 0, none⟩) (n0 + 1) c0, n0 + 1, .slice none 0 0, 0, .slice none 0 0, 0, .slice none 0 0, 0, .slice none 0 0, 0, .slice none 0 0, 0⟩) := longer_new0 HG0.out HA0.out.o0 hgrow hown (by omega)
  have HA1 : Hid (HoldOk (w0.setCell ⟨w.heap.size, 0, none⟩ (.slice (some ⟨g0, 0, none⟩) (n0 + 1) c0)) lo ⟨b, mk, .slice a0 n0 q0, n0, .slice a1 n1 q1, n1, .slice a2 n2 q2, n2, .slice a3 n3 q3, n3, .slice a4 n4 q4, n4, .slice a5 n5 q5, n5⟩) := longer_old0 HG0.out HA0.out.o0 hgrow hkeep HA0.out (by show b ≠ w.heap.size; omega) (fun _ => Nat.le_refl _)
  have HO1 : Hid (∀ lo2 h2, HoldOk w lo2 h2 → Under h2 ⟨b, mk, .slice a0 n0 q0, n0, .slice a1 n1 q1, n1, .slice a2 n2 q2, n2, .slice a3 n3 q3, n3, .slice a4 n4 q4, n4, .slice a5 n5 q5, n5⟩ → HoldOk (w0.setCell ⟨w.heap.size, 0, none⟩ (.slice (some ⟨g0, 0, none⟩) (n0 + 1) c0)) lo2 h2) := fun lo2 h2 a u => longer_old0 HG0.out HA0.out.o0 hgrow hkeep (HO0.out lo2 h2 a u) (by have := blk_lt a.blk; show h2.b ≠ w.heap.size; omega) u.u0
  have HF1 := hid (longer_frame (j := 0) (u := .slice (some ⟨g0, 0, none⟩) (n0 + 1) c0) HF0.out.1 HF0.out.2.1 HF0.out.2.2 hlo HA0.out.o0 (by decide) HG0.out.blk hlo (by decide) hgrow)
  have HT0 : Hid ((Value.slice a0 n0 q0).ownBlock = some g0 ∨ w.heap.size ≤ g0) := by
    rcases hat with h | h
    · exact Or.inl h
    · refine Or.inr ?_
      rw [h]
      omega
  clear hown hgrow hat hkeep hblk hblkA hwz0 hbz0 HG0 HA0 HO0 HF0
  have hwz1 : w.heap.size < w0.heap.size := by simpa using blk_lt HG1.out.blk
  have hbz1 : b < w0.heap.size := by simpa using blk_lt HA1.out.blk
  go_wp2_with (at_builtin; refine wpList_append_keep _ rfl _ _ 28 rfl lo 43 ip1 (.agg #[.int .i64 0, .int .i64 0, .int .i64 0, .string ⟨#[]⟩]) 4 40 Tryz.underlying28 hi1 hx1 hy1 hz1 rfl (by decide) (.slice a1 n1 q1) n1 (rows (eP mk) n1) rfl (HA1.out.o1.alloc _) ⟨w0.heap.size, 0, none⟩ 1 [.int .i64 (-(mk : Int)), .int .i64 0, .int .i64 0, .string ⟨#[]⟩] rfl rfl (by have h := news4 (w0.setCell ⟨w.heap.size, 0, none⟩ (.slice (some ⟨g0, 0, none⟩) (n0 + 1) c0)) (.int .i64 (-(mk : Int))) (.int .i64 0) (.int .i64 0) (.string ⟨#[]⟩) 43; rw [World.size_setCell] at h; exact h) (fun u hu => by simp at hu; rcases hu with rfl | rfl | rfl | rfl <;> rfl) (by unfold maxLen; omega) (by omega) (by simp; omega) ?_)
  intro g1 c1 w1 hown hgrow hat hkeep
  clear d0 d1 d2 d3 d4 d5 d6 x0 hfr
  have hblk : w1.heap[w.heap.size]? = _ := blk_far HG1.out.blk HA1.out.o1 (by decide) hgrow
  have x0 := (cells7 hblk).2.1
  have hfr : w1.frozen? ⟨w.heap.size, 1, none⟩ = false := Lib.frozen_of_heap hblk 1
  have hblkA : w1.heap[b]? = _ := blk_far HA1.out.blk HA1.out.o1 (by decide) hgrow
  obtain ⟨d0, d1, d2, d3, d4, d5, d6⟩ := cells7 hblkA
  simp only at d0 d1 d2 d3 d4 d5 d6 x0
  have HG2 : Hid (HoldOk (w1.setCell ⟨w.heap.size, 1, none⟩ (.slice (some ⟨g1, 0, none⟩) (n1 + 1) c1)) lo ⟨w.heap.size, mk, .slice (some ⟨g0, 0, none⟩) (n0 + 1) c0, n0 + 1, .slice (some ⟨g1, 0, none⟩) (n1 + 1) c1, n1 + 1, .slice none 0 0, 0, .slice none 0 0, 0, .slice none 0 0, 0, .slice none 0 0, 0⟩) := longer_new1 HG1.out HA1.out.o1 hgrow hown (by omega)
  have HA2 : Hid (HoldOk (w1.setCell ⟨w.heap.size, 1, none⟩ (.slice (some ⟨g1, 0, none⟩) (n1 + 1) c1)) lo ⟨b, mk, .slice a0 n0 q0, n0, .slice a1 n1 q1, n1, .slice a2 n2 q2, n2, .slice a3 n3 q3, n3, .slice a4 n4 q4, n4, .slice a5 n5 q5, n5⟩) := longer_old1 HG1.out HA1.out.o1 hgrow hkeep HA1.out (by show b ≠ w.heap.size; omega) (fun _ => Nat.le_refl _)
  have HO2 : Hid (∀ lo2 h2, HoldOk w lo2 h2 → Under h2 ⟨b, mk, .slice a0 n0 q0, n0, .slice a1 n1 q1, n1, .slice a2 n2 q2, n2, .slice a3 n3 q3, n3, .slice a4 n4 q4, n4, .slice a5 n5 q5, n5⟩ → HoldOk (w1.setCell ⟨w.heap.size, 1, none⟩ (.slice (some ⟨g1, 0, none⟩) (n1 + 1) c1)) lo2 h2) := fun lo2 h2 a u => longer_old1 HG1.out HA1.out.o1 hgrow hkeep (HO1.out lo2 h2 a u) (by have := blk_lt a.blk; show h2.b ≠ w.heap.size; omega) u.u1
  have HF2 := hid (longer_frame (j := 1) (u := .slice (some ⟨g1, 0, none⟩) (n1 + 1) c1) HF1.out.1 HF1.out.2.1 HF1.out.2.2 hlo HA1.out.o1 (by decide) HG1.out.blk hlo (by decide) hgrow)
  have HT1 : Hid ((Value.slice a1 n1 q1).ownBlock = some g1 ∨ w.heap.size ≤ g1) := by
    rcases hat with h | h
    · exact Or.inl h
    · refine Or.inr ?_
      rw [h]
      omega
  clear hown hgrow hat hkeep hblk hblkA hwz1 hbz1 HG1 HA1 HO1 HF1
  have hwz2 : w.heap.size < w1.heap.size := by simpa using blk_lt HG2.out.blk
  have hbz2 : b < w1.heap.size := by simpa using blk_lt HA2.out.blk
  go_wp2_with (at_builtin; refine wpList_append_keep _ rfl _ _ 36 rfl lo 35 ip2 (.int .i64 0) 1 8 Tryz.underlying36 hi2 hx2 hy2 hz2 rfl (by decide) (.slice a2 n2 q2) n2 (rows (eC mk) n2) rfl (HA2.out.o2.alloc _) ⟨w1.heap.size, 0, none⟩ 1 [.int .i64 (-(mk : Int))] rfl rfl (by have h := news1 (w1.setCell ⟨w.heap.size, 1, none⟩ (.slice (some ⟨g1, 0, none⟩) (n1 + 1) c1)) (.int .i64 (-(mk : Int))) 35; rw [World.size_setCell] at h; exact h) (fun u hu => by simp at hu; subst hu; rfl) (by unfold maxLen; omega) (by omega) (by simp; omega) ?_)
  intro g2 c2 w2 hown hgrow hat hkeep
  clear d0 d1 d2 d3 d4 d5 d6 x0 hfr
  have hblk : w2.heap[w.heap.size]? = _ := blk_far HG2.out.blk HA2.out.o2 (by decide) hgrow
  have x0 := (cells7 hblk).2.2.1
  have hfr : w2.frozen? ⟨w.heap.size, 2, none⟩ = false := Lib.frozen_of_heap hblk 2
  have hblkA : w2.heap[b]? = _ := blk_far HA2.out.blk HA2.out.o2 (by decide) hgrow
  obtain ⟨d0, d1, d2, d3, d4, d5, d6⟩ := cells7 hblkA
  simp only at d0 d1 d2 d3 d4 d5 d6 x0
  have HG3 : Hid (HoldOk (w2.setCell ⟨w.heap.size, 2, none⟩ (.slice (some ⟨g2, 0, none⟩) (n2 + 1) c2)) lo ⟨w.heap.size, mk, .slice (some ⟨g0, 0, none⟩) (n0 + 1) c0, n0 + 1, .slice (some ⟨g1, 0, none⟩) (n1 + 1) c1, n1 + 1, .slice (some ⟨g2, 0, none⟩) (n2 + 1) c2, n2 + 1, .slice none 0 0, 0, .slice none 0 0, 0, .slice none 0 0, 0⟩) := longer_new2 HG2.out HA2.out.o2 hgrow hown (by omega)
  have HA3 : Hid (HoldOk (w2.setCell ⟨w.heap.size, 2, none⟩ (.slice (some ⟨g2, 0, none⟩) (n2 + 1) c2)) lo ⟨b, mk, .slice a0 n0 q0, n0, .slice a1 n1 q1, n1, .slice a2 n2 q2, n2, .slice a3 n3 q3, n3, .slice a4 n4 q4, n4, .slice a5 n5 q5, n5⟩) := longer_old2 HG2.out HA2.out.o2 hgrow hkeep HA2.out (by show b ≠ w.heap.size; omega) (fun _ => Nat.le_refl _)
  have HO3 : Hid (∀ lo2 h2, HoldOk w lo2 h2 → Under h2 ⟨b, mk, .slice a0 n0 q0, n0, .slice a1 n1 q1, n1, .slice a2 n2 q2, n2, .slice a3 n3 q3, n3, .slice a4 n4 q4, n4, .slice a5 n5 q5, n5⟩ → HoldOk (w2.setCell ⟨w.heap.size, 2, none⟩ (.slice (some ⟨g2, 0, none⟩) (n2 + 1) c2)) lo2 h2) := fun lo2 h2 a u => longer_old2 HG2.out HA2.out.o2 hgrow hkeep (HO2.out lo2 h2 a u) (by have := blk_lt a.blk; show h2.b ≠ w.heap.size; omega) u.u2
  have HF3 := hid (longer_frame (j := 2) (u := .slice (some ⟨g2, 0, none⟩) (n2 + 1) c2) HF2.out.1 HF2.out.2.1 HF2.out.2.2 hlo HA2.out.o2 (by decide) HG2.out.blk hlo (by decide) hgrow)
  have HT2 : Hid ((Value.slice a2 n2 q2).ownBlock = some g2 ∨ w.heap.size ≤ g2) := by
    rcases hat with h | h
    · exact Or.inl h
    · refine Or.inr ?_
      rw [h]
      omega
  clear hown hgrow hat hkeep hblk hblkA hwz2 hbz2 HG2 HA2 HO2 HF2
  have hwz3 : w.heap.size < w2.heap.size := by simpa using blk_lt HG3.out.blk
  have hbz3 : b < w2.heap.size := by simpa using blk_lt HA3.out.blk
  go_wp2_with (at_builtin; refine wpList_append_keep _ rfl _ _ 37 rfl lo 47 ip3 (.agg #[.int .i64 0, .string ⟨#[]⟩]) 2 24 Tryz.underlying37 hi3 hx3 hy3 hz3 rfl (by decide) (.slice a3 n3 q3) n3 (rows (eE mk) n3) rfl (HA3.out.o3.alloc _) ⟨w2.heap.size, 0, none⟩ 1 [.int .i64 (-(mk : Int)), .string ⟨#[]⟩] rfl rfl (by have h := news2 (w2.setCell ⟨w.heap.size, 2, none⟩ (.slice (some ⟨g2, 0, none⟩) (n2 + 1) c2)) (.int .i64 (-(mk : Int))) (.string ⟨#[]⟩) 47; rw [World.size_setCell] at h; exact h) (fun u hu => by simp at hu; rcases hu with rfl | rfl <;> rfl) (by unfold maxLen; omega) (by omega) (by simp; omega) ?_)
  intro g3 c3 w3 hown hgrow hat hkeep
  clear d0 d1 d2 d3 d4 d5 d6 x0 hfr
  have hblk : w3.heap[w.heap.size]? = _ := blk_far HG3.out.blk HA3.out.o3 (by decide) hgrow
  have x0 := (cells7 hblk).2.2.2.1
  have hfr : w3.frozen? ⟨w.heap.size, 3, none⟩ = false := Lib.frozen_of_heap hblk 3
  have hblkA : w3.heap[b]? = _ := blk_far HA3.out.blk HA3.out.o3 (by decide) hgrow
  obtain ⟨d0, d1, d2, d3, d4, d5, d6⟩ := cells7 hblkA
  simp only at d0 d1 d2 d3 d4 d5 d6 x0
  have HG4 : Hid (HoldOk (w3.setCell ⟨w.heap.size, 3, none⟩ (.slice (some ⟨g3, 0, none⟩) (n3 + 1) c3)) lo ⟨w.heap.size, mk, .slice (some ⟨g0, 0, none⟩) (n0 + 1) c0, n0 + 1, .slice (some ⟨g1, 0, none⟩) (n1 + 1) c1, n1 + 1, .slice (some ⟨g2, 0, none⟩) (n2 + 1) c2, n2 + 1, .slice (some ⟨g3, 0, none⟩) (n3 + 1) c3, n3 + 1, .slice none 0 0, 0, .slice none 0 0, 0⟩) := longer_new3 HG3.out HA3.out.o3 hgrow hown (by omega)
  have HA4 : Hid (HoldOk (w3.setCell ⟨w.heap.size, 3, none⟩ (.slice (some ⟨g3, 0, none⟩) (n3 + 1) c3)) lo ⟨b, mk, .slice a0 n0 q0, n0, .slice a1 n1 q1, n1, .slice a2 n2 q2, n2, .slice a3 n3 q3, n3, .slice a4 n4 q4, n4, .slice a5 n5 q5, n5⟩) := longer_old3 HG3.out HA3.out.o3 hgrow hkeep HA3.out (by show b ≠ w.heap.size; omega) (fun _ => Nat.le_refl _)
  have HO4 : Hid (∀ lo2 h2, HoldOk w lo2 h2 → Under h2 ⟨b, mk, .slice a0 n0 q0, n0, .slice a1 n1 q1, n1, .slice a2 n2 q2, n2, .slice a3 n3 q3, n3, .slice a4 n4 q4, n4, .slice a5 n5 q5, n5⟩ → HoldOk (w3.setCell ⟨w.heap.size, 3, none⟩ (.slice (some ⟨g3, 0, none⟩) (n3 + 1) c3)) lo2 h2) := fun lo2 h2 a u => longer_old3 HG3.out HA3.out.o3 hgrow hkeep (HO3.out lo2 h2 a u) (by have := blk_lt a.blk; show h2.b ≠ w.heap.size; omega) u.u3
  have HF4 := hid (longer_frame (j := 3) (u := .slice (some ⟨g3, 0, none⟩) (n3 + 1) c3) HF3.out.1 HF3.out.2.1 HF3.out.2.2 hlo HA3.out.o3 (by decide) HG3.out.blk hlo (by decide) hgrow)
  have HT3 : Hid ((Value.slice a3 n3 q3).ownBlock = some g3 ∨ w.heap.size ≤ g3) := by
    rcases hat with h | h
    · exact Or.inl h
    · refine Or.inr ?_
      rw [h]
      omega
  clear hown hgrow hat hkeep hblk hblkA hwz3 hbz3 HG3 HA3 HO3 HF3
  have hwz4 : w.heap.size < w3.heap.size := by simpa using blk_lt HG4.out.blk
  have hbz4 : b < w3.heap.size := by simpa using blk_lt HA4.out.blk
  go_wp2_with (at_builtin; refine wpList_append_keep _ rfl _ _ 38 rfl lo 45 ip4 (.agg #[.int .i64 0, .int .i64 0, .string ⟨#[]⟩]) 3 32 Tryz.underlying38 hi4 hx4 hy4 hz4 rfl (by decide) (.slice a4 n4 q4) n4 (rows (eS mk) n4) rfl (HA4.out.o4.alloc _) ⟨w3.heap.size, 0, none⟩ 1 [.int .i64 (-(mk : Int)), .int .i64 0, .string ⟨#[]⟩] rfl rfl (by have h := news3 (w3.setCell ⟨w.heap.size, 3, none⟩ (.slice (some ⟨g3, 0, none⟩) (n3 + 1) c3)) (.int .i64 (-(mk : Int))) (.int .i64 0) (.string ⟨#[]⟩) 45; rw [World.size_setCell] at h; exact h) (fun u hu => by simp at hu; rcases hu with rfl | rfl | rfl <;> rfl) (by unfold maxLen; omega) (by omega) (by simp; omega) ?_)
  intro g4 c4 w4 hown hgrow hat hkeep
  clear d0 d1 d2 d3 d4 d5 d6 x0 hfr
  have hblk : w4.heap[w.heap.size]? = _ := blk_far HG4.out.blk HA4.out.o4 (by decide) hgrow
  have x0 := (cells7 hblk).2.2.2.2.1
  have hfr : w4.frozen? ⟨w.heap.size, 4, none⟩ = false := Lib.frozen_of_heap hblk 4
  have hblkA : w4.heap[b]? = _ := blk_far HA4.out.blk HA4.out.o4 (by decide) hgrow
  obtain ⟨d0, d1, d2, d3, d4, d5, d6⟩ := cells7 hblkA
  simp only at d0 d1 d2 d3 d4 d5 d6 x0
  have HG5 : Hid (HoldOk (w4.setCell ⟨w.heap.size, 4, none⟩ (.slice (some ⟨g4, 0, none⟩) (n4 + 1) c4)) lo ⟨w.heap.size, mk, .slice (some ⟨g0, 0, none⟩) (n0 + 1) c0, n0 + 1, .slice (some ⟨g1, 0, none⟩) (n1 + 1) c1, n1 + 1, .slice (some ⟨g2, 0, none⟩) (n2 + 1) c2, n2 + 1, .slice (some ⟨g3, 0, none⟩) (n3 + 1) c3, n3 + 1, .slice (some ⟨g4, 0, none⟩) (n4 + 1) c4, n4 + 1, .slice none 0 0, 0⟩) := longer_new4 HG4.out HA4.out.o4 hgrow hown (by omega)
  have HA5 : Hid (HoldOk (w4.setCell ⟨w.heap.size, 4, none⟩ (.slice (some ⟨g4, 0, none⟩) (n4 + 1) c4)) lo ⟨b, mk, .slice a0 n0 q0, n0, .slice a1 n1 q1, n1, .slice a2 n2 q2, n2, .slice a3 n3 q3, n3, .slice a4 n4 q4, n4, .slice a5 n5 q5, n5⟩) := longer_old4 HG4.out HA4.out.o4 hgrow hkeep HA4.out (by show b ≠ w.heap.size; omega) (fun _ => Nat.le_refl _)
  have HO5 : Hid (∀ lo2 h2, HoldOk w lo2 h2 → Under h2 ⟨b, mk, .slice a0 n0 q0, n0, .slice a1 n1 q1, n1, .slice a2 n2 q2, n2, .slice a3 n3 q3, n3, .slice a4 n4 q4, n4, .slice a5 n5 q5, n5⟩ → HoldOk (w4.setCell ⟨w.heap.size, 4, none⟩ (.slice (some ⟨g4, 0, none⟩) (n4 + 1) c4)) lo2 h2) := fun lo2 h2 a u => longer_old4 HG4.out HA4.out.o4 hgrow hkeep (HO4.out lo2 h2 a u) (by have := blk_lt a.blk; show h2.b ≠ w.heap.size; omega) u.u4
  have HF5 := hid (longer_frame (j := 4) (u := .slice (some ⟨g4, 0, none⟩) (n4 + 1) c4) HF4.out.1 HF4.out.2.1 HF4.out.2.2 hlo HA4.out.o4 (by decide) HG4.out.blk hlo (by decide) hgrow)
  have HT4 : Hid ((Value.slice a4 n4 q4).ownBlock = some g4 ∨ w.heap.size ≤ g4) := by
    rcases hat with h | h
    · exact Or.inl h
    · refine Or.inr ?_
      rw [h]
      omega
  clear hown hgrow hat hkeep hblk hblkA hwz4 hbz4 HG4 HA4 HO4 HF4
  have hwz5 : w.heap.size < w4.heap.size := by simpa using blk_lt HG5.out.blk
  have hbz5 : b < w4.heap.size := by simpa using blk_lt HA5.out.blk
  go_wp2_with (at_builtin; refine wpList_append_keep _ rfl _ _ 49 rfl lo 3 ip5 (.int .i64 0) 1 8 Tryz.underlying49 hi5 hx5 hy5 hz5 rfl (by decide) (.slice a5 n5 q5) n5 (rows (eN mk) n5) rfl (HA5.out.o5.alloc _) ⟨w4.heap.size, 0, none⟩ 1 [.int .i64 (-(mk : Int))] rfl rfl (by have h := news1 (w4.setCell ⟨w.heap.size, 4, none⟩ (.slice (some ⟨g4, 0, none⟩) (n4 + 1) c4)) (.int .i64 (-(mk : Int))) 3; rw [World.size_setCell] at h; exact h) (fun u hu => by simp at hu; subst hu; rfl) (by unfold maxLen; omega) (by omega) (by simp; omega) ?_)
  intro g5 c5 w5 hown hgrow hat hkeep
  clear d0 d1 d2 d3 d4 d5 d6 x0 hfr
  have hblk : w5.heap[w.heap.size]? = _ := blk_far HG5.out.blk HA5.out.o5 (by decide) hgrow
  have x0 := (cells7 hblk).2.2.2.2.2.1
  have hfr : w5.frozen? ⟨w.heap.size, 5, none⟩ = false := Lib.frozen_of_heap hblk 5
  have hblkA : w5.heap[b]? = _ := blk_far HA5.out.blk HA5.out.o5 (by decide) hgrow
  obtain ⟨d0, d1, d2, d3, d4, d5, d6⟩ := cells7 hblkA
  simp only at d0 d1 d2 d3 d4 d5 d6 x0
  have HG6 : Hid (HoldOk (w5.setCell ⟨w.heap.size, 5, none⟩ (.slice (some ⟨g5, 0, none⟩) (n5 + 1) c5)) lo ⟨w.heap.size, mk, .slice (some ⟨g0, 0, none⟩) (n0 + 1) c0, n0 + 1, .slice (some ⟨g1, 0, none⟩) (n1 + 1) c1, n1 + 1, .slice (some ⟨g2, 0, none⟩) (n2 + 1) c2, n2 + 1, .slice (some ⟨g3, 0, none⟩) (n3 + 1) c3, n3 + 1, .slice (some ⟨g4, 0, none⟩) (n4 + 1) c4, n4 + 1, .slice (some ⟨g5, 0, none⟩) (n5 + 1) c5, n5 + 1⟩) := longer_new5 HG5.out HA5.out.o5 hgrow hown (by omega)
  have HA6 : Hid (HoldOk (w5.setCell ⟨w.heap.size, 5, none⟩ (.slice (some ⟨g5, 0, none⟩) (n5 + 1) c5)) lo ⟨b, mk, .slice a0 n0 q0, n0, .slice a1 n1 q1, n1, .slice a2 n2 q2, n2, .slice a3 n3 q3, n3, .slice a4 n4 q4, n4, .slice a5 n5 q5, n5⟩) := longer_old5 HG5.out HA5.out.o5 hgrow hkeep HA5.out (by show b ≠ w.heap.size; omega) (fun _ => Nat.le_refl _)
  have HO6 : Hid (∀ lo2 h2, HoldOk w lo2 h2 → Under h2 ⟨b, mk, .slice a0 n0 q0, n0, .slice a1 n1 q1, n1, .slice a2 n2 q2, n2, .slice a3 n3 q3, n3, .slice a4 n4 q4, n4, .slice a5 n5 q5, n5⟩ → HoldOk (w5.setCell ⟨w.heap.size, 5, none⟩ (.slice (some ⟨g5, 0, none⟩) (n5 + 1) c5)) lo2 h2) := fun lo2 h2 a u => longer_old5 HG5.out HA5.out.o5 hgrow hkeep (HO5.out lo2 h2 a u) (by have := blk_lt a.blk; show h2.b ≠ w.heap.size; omega) u.u5
  have HF6 := hid (longer_frame (j := 5) (u := .slice (some ⟨g5, 0, none⟩) (n5 + 1) c5) HF5.out.1 HF5.out.2.1 HF5.out.2.2 hlo HA5.out.o5 (by decide) HG5.out.blk hlo (by decide) hgrow)
  have HT5 : Hid ((Value.slice a5 n5 q5).ownBlock = some g5 ∨ w.heap.size ≤ g5) := by
    rcases hat with h | h
    · exact Or.inl h
    · refine Or.inr ?_
      rw [h]
      omega
  clear hown hgrow hat hkeep hblk hblkA hwz5 hbz5 HG5 HA5 HO5 HF5
  go_wp2
  go_ret
  exact ⟨⟨w.heap.size, mk, .slice (some ⟨g0, 0, none⟩) (n0 + 1) c0, n0 + 1, .slice (some ⟨g1, 0, none⟩) (n1 + 1) c1, n1 + 1, .slice (some ⟨g2, 0, none⟩) (n2 + 1) c2, n2 + 1, .slice (some ⟨g3, 0, none⟩) (n3 + 1) c3, n3 + 1, .slice (some ⟨g4, 0, none⟩) (n4 + 1) c4, n4 + 1, .slice (some ⟨g5, 0, none⟩) (n5 + 1) c5, n5 + 1⟩, rfl, ⟨HG6.out, rfl, rfl, rfl, rfl, rfl, rfl, rfl, Nat.le_refl _, HF6.out.1, HF6.out.2.1, HF6.out.2.2, fun lo2 h2 a u => ⟨HO6.out lo2 h2 a u, ⟨under_new a.o0 HT0.out u.u0 (by show n0 ≤ n0 + 1; omega), under_new a.o1 HT1.out u.u1 (by show n1 ≤ n1 + 1; omega), under_new a.o2 HT2.out u.u2 (by show n2 ≤ n2 + 1; omega), under_new a.o3 HT3.out u.u3 (by show n3 ≤ n3 + 1; omega), under_new a.o4 HT4.out u.u4 (by show n4 ≤ n4 + 1; omega), under_new a.o5 HT5.out u.u5 (by show n5 ≤ n5 + 1; omega)⟩⟩⟩⟩
end Go.Proofs.YthphojdnbfghmaaGreat
