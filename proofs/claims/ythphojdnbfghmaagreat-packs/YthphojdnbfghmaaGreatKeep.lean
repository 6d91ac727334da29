import Derived.Test.YthphojdnbfghmaaGreatLonger2
namespace Go.Proofs.YthphojdnbfghmaaGreat
open Go.RowKit

def hptr (h : HoldD) : Value := .pointer (some ⟨h.b, 0, none⟩)
/-- the world and all its holds -/
structure Inv (B : Nat) (w : World) (hs : List HoldD) : Prop where
  blk : ∃ hv, w.heap[B]? = some (.cells #[hv] 65 (0, 0)) ∧ w.ownsRow (B + 1) 78 1 hv hs.length (hs.map hptr)
  ok : ∀ h ∈ hs, HoldOk w (B + 1) h

theorem Inv.below {B : Nat} {w w' : World} {hs : List HoldD} (I : Inv B w hs) (hb : Below w.heap.size w w') : Inv B w' hs := by
  obtain ⟨hv, h1, h2⟩ := I.blk
  exact ⟨⟨hv, (hb.block B (blk_lt h1)).trans h1, ownsRow_below h2 hb⟩, fun h hh => (I.ok h hh).keepT (KeepT.below hb)⟩
theorem HoldX.mono {w : World} {lo lo' : Nat} {h : HoldD} {x0 x1 x2 x3 x4 x5 : List Value} (H : HoldX w lo h x0 x1 x2 x3 x4 x5) (hl : lo' ≤ lo) : HoldX w lo' h x0 x1 x2 x3 x4 x5 where
  lob := Nat.le_trans hl H.lob
  blk := H.blk
  mkb := H.mkb
  o0 := ownsRow_mono H.o0 hl
  o1 := ownsRow_mono H.o1 hl
  o2 := ownsRow_mono H.o2 hl
  o3 := ownsRow_mono H.o3 hl
  o4 := ownsRow_mono H.o4 hl
  o5 := ownsRow_mono H.o5 hl
  c0 := H.c0
  c1 := H.c1
  c2 := H.c2
  c3 := H.c3
  c4 := H.c4
  c5 := H.c5
theorem HoldX.setMark {w : World} {lo : Nat} {h : HoldD} {x0 x1 x2 x3 x4 x5 : List Value} (H : HoldX w lo h x0 x1 x2 x3 x4 x5) (m : Nat) (hm : m ≤ 1152921504606846976) : HoldX (w.setCell ⟨h.b, 6, none⟩ (.int .i64 (m : Int))) lo { h with mark := m } x0 x1 x2 x3 x4 x5 where
  lob := H.lob
  blk := Go.Joins.block_setCell H.blk _
  mkb := hm
  o0 := own_put_far H.o0 H.blk (by decide)
  o1 := own_put_far H.o1 H.blk (by decide)
  o2 := own_put_far H.o2 H.blk (by decide)
  o3 := own_put_far H.o3 H.blk (by decide)
  o4 := own_put_far H.o4 H.blk (by decide)
  o5 := own_put_far H.o5 H.blk (by decide)
  c0 := H.c0
  c1 := H.c1
  c2 := H.c2
  c3 := H.c3
  c4 := H.c4
  c5 := H.c5

theorem keepM_own {w w' : World} {lo : Nat} {v : Value} {n : Nat} {xs : List Value} (h : w.ownsRow lo 78 1 v n xs) (hk : KeepM w w') : w'.ownsRow lo 78 1 v n xs := own_same h (fun k c fz hc => hk k c _ fz hc (Or.inl rfl))
/-- one hold more -/
theorem push_frame {B : Nat} {w w1 : World} {o : Obj} {hv u : Value} {n : Nat} {ps : List Value} {p : Value} (hB : w.heap[B]? = some (.cells #[hv] 65 (0, 0))) (ho : w.ownsRow (B + 1) 78 1 hv n ps)
    (hg : (w.alloc o).grownBy w1 hv.ownBlock) (hn : w1.ownsRow (B + 1) 78 1 u (n + 1) (ps ++ [p])) :
    KeepT w (w1.setCell ⟨B, 0, none⟩ u) ∧ (w1.setCell ⟨B, 0, none⟩ u).heap[B]? = some (.cells #[u] 65 (0, 0)) ∧ (w1.setCell ⟨B, 0, none⟩ u).ownsRow (B + 1) 78 1 u (n + 1) (ps ++ [p]) ∧ Below B w (w1.setCell ⟨B, 0, none⟩ u) ∧ w.heap.size ≤ (w1.setCell ⟨B, 0, none⟩ u).heap.size := by
  have hB1 := blk_far hB ho (by decide) hg
  have hg' : w.grownBy w1 hv.ownBlock := ⟨hg.os, hg.tape, hg.output, by have := hg.size; simp at this; omega, fun k hk hne => (hg.block k (by simp; omega) hne).trans (heap_alloc_old w o hk)⟩
  refine ⟨fun k c t fz hc h1 h2 => ?_, Go.Joins.block_setCell hB1 u, own_put_far hn hB1 (by decide), ?_, ?_⟩
  · have hk1 : w1.heap[k]? = w.heap[k]? := hg'.block k (blk_lt hc) (own_ne_blk ho hc (fun e => h1 e.symm))
    rw [Below.heap_setCell _ _ _ _ (fun e => ?_), hk1]
    simp only at e
    subst e
    rw [hB] at hc
    injection hc with hc
    injection hc with _ hc
    exact h2 hc.symm
  · exact ((Below.refl B w).grown hg' (by have := blk_lt hB; omega) (fun k hk => by have := (ho.lt k hk).1; omega)).setCell (Nat.le_refl _) _
  · have := hg'.size
    simp
    omega
theorem Inv.push {B : Nat} {w w1 : World} {o : Obj} {hs : List HoldD} {h : HoldD} {hv u : Value} (hB : w.heap[B]? = some (.cells #[hv] 65 (0, 0))) (ho : w.ownsRow (B + 1) 78 1 hv hs.length (hs.map hptr))
    (hok : ∀ h2 ∈ hs, HoldOk w (B + 1) h2) (hnew : HoldOk w (B + 1) h) (hg : (w.alloc o).grownBy w1 hv.ownBlock) (hn : w1.ownsRow (B + 1) 78 1 u (hs.length + 1) (hs.map hptr ++ [hptr h])) :
    Inv B (w1.setCell ⟨B, 0, none⟩ u) (hs ++ [h]) := by
  obtain ⟨h1, h2, h3, _, _⟩ := push_frame hB ho hg hn
  refine ⟨⟨u, h2, by rw [List.length_append, List.map_append]; exact h3⟩, fun x hx => ?_⟩
  rcases List.mem_append.1 hx with hx | hx
  · exact (hok x hx).keepT h1
  · rw [List.mem_singleton.1 hx]
    exact hnew.keepT h1
theorem under_old {w w0 : World} {lo : Nat} {e : TypeId} {size : Nat} {u v : Value} {m n : Nat} {ys xs : List Value} (hu : w0.ownsRow lo e size u m ys) (hv : w.ownsRow w0.heap.size e size v n xs) : u.ownBlock = v.ownBlock → m ≤ n := by
  intro h
  cases hb : v.ownBlock with
  | none =>
    rcases hu.2 with ⟨rfl, h0⟩ | ⟨g, cap, cur, rfl, _⟩
    · omega
    · rw [hb] at h
      cases h
  | some k =>
    have h1 := (hv.lt k hb).1
    have h2 := (hu.lt k (h.trans hb)).2
    omega

theorem info_ptr : (Tryz.prog.info? 78).map (fun i => (i.zero, i.size, i.bytes)) = some (some (.pointer none), 1, 8) := by kernel_rfl

set_option maxRecDepth 100000 in
set_option maxHeartbeats 4000000 in
theorem keep_any (B : Nat) (hs : List HoldD) (h : HoldD) (x0 x1 x2 x3 x4 x5 : List Value) (w0 w : World) (I0 : Inv B w0 hs) (hbw : Below w0.heap.size w0 w) (H : HoldX w w0.heap.size h x0 x1 x2 x3 x4 x5) (hlen : hs.length ≤ 8796093022208) (hb0 : (h.n0 + 3) * 1 ≤ 140737488355328) (hb1 : (h.n1 + 3) * 40 ≤ 140737488355328) (hb2 : (h.n2 + 3) * 8 ≤ 140737488355328) (hb3 : (h.n3 + 3) * 24 ≤ 140737488355328) (hb4 : (h.n4 + 3) * 32 ≤ 140737488355328) (hb5 : (h.n5 + 3) * 8 ≤ 140737488355328) :
    Calls Tryz.prog 70 #[.pointer (some ⟨B, 0, none⟩), .pointer (some ⟨h.b, 0, none⟩)] w fun e w' => e = .returned (.tuple #[]) ∧ (∃ hs', Inv B w' hs' ∧ hs'.length = hs.length + 4) ∧ Below B w0 w' := by
  obtain ⟨ip, hi, hz0, hz1, hz2⟩ := info_parts info_ptr
  obtain ⟨hv0, hB0, ho0⟩ := I0.blk
  obtain ⟨pa, pc, rfl⟩ := ownsRow_slice ho0
  have hBw0 : B < w0.heap.size := blk_lt hB0
  have hB : w.heap[B]? = some (.cells #[.slice pa hs.length pc] 65 (0, 0)) := (hbw.block B hBw0).trans hB0
  have b0 : w.cell? ⟨B, 0, none⟩ = some (.slice pa hs.length pc) := by rw [Lib.cell_of_heap hB]; rfl
  have m6 : w.cell? ⟨h.b, 6, none⟩ = some (.int .i64 (h.mark : Int)) := (HoldX.cells H).2.2.2.2.2.2.1
  have f6 : w.frozen? ⟨h.b, 6, none⟩ = false := (HoldX.cells H).2.2.2.2.2.2.2 6
  have hlow : w0.heap.size ≤ w.heap.size := hbw.size
  have hhb : w0.heap.size ≤ h.b := H.lob
  have HU : Hid (∀ h2 ∈ hs, Under h2 { h with mark := hs.length + 1 }) := fun h2 hh => ⟨under_old (I0.ok h2 hh).o0 H.o0, under_old (I0.ok h2 hh).o1 H.o1, under_old (I0.ok h2 hh).o2 H.o2, under_old (I0.ok h2 hh).o3 H.o3, under_old (I0.ok h2 hh).o4 H.o4, under_old (I0.ok h2 hh).o5 H.o5⟩
  have HX := hid (H.setMark (hs.length + 1) (by omega))
  have HI := hid I0
  have HB0 := hid hbw
  have HHB0 := hid hB0
  have HO0 := hid ho0
  have HHB := hid hB
  have hcast : ((hs.length + 1 : Nat) : Int) = (hs.length : Int) + 1 := by omega
  rw [hcast] at HX
  clear H I0 hbw hB hB0 ho0 hcast
  go_enter Tryz.func70, Tryz.ntmps70
  go_wp2_with fail
  refine (marks_any { h with mark := hs.length + 1 } w0.heap.size x0 x1 x2 x3 x4 x5 _ (by simp; omega) HX.out).mono ?_
  rintro e w1 ⟨rfl, hok, hbm, _, hzm⟩
  have hz1' : w.heap.size ≤ w1.heap.size := by simpa using hzm
  have HB1 : Hid (Below w0.heap.size w0 w1) := (HB0.out.setCell hhb _).trans hbm
  have HK1 := hid hok
  have HHB1 : Hid (w1.heap[B]? = some (.cells #[.slice pa hs.length pc] 65 (0, 0))) := (HB1.out.block B hBw0).trans HHB0.out
  have HO1 : Hid (w1.ownsRow (B + 1) 78 1 (.slice pa hs.length pc) hs.length (hs.map hptr)) := ownsRow_below HO0.out HB1.out
  have HI1 : Hid (∀ h2 ∈ hs, HoldOk w1 (B + 1) h2) := (HI.out.below HB1.out).ok
  clear b0 m6 f6
  have b0 : w1.cell? ⟨B, 0, none⟩ = some (.slice pa hs.length pc) := by rw [Lib.cell_of_heap HHB1.out]; rfl
  clear hok hbm hzm HX HB0 HHB HHB0 HO0 HI
  go_wp2_with (at_builtin; refine wpList_append_lies _ rfl _ _ 63 rfl (B + 1) 78 ip (.pointer none) 1 8 Tryz.underlying63 hi hz0 hz1 hz2 rfl (by decide) (.slice pa hs.length pc) hs.length (hs.map hptr) rfl (HO1.out.alloc _) ⟨w1.heap.size, 0, none⟩ 1 1 [.pointer (some ⟨h.b, 0, none⟩)] rfl rfl (news1 _ _ _) (fun u hu => by simp at hu; subst hu; rfl) (by omega) (by unfold maxLen; omega) (by omega) (by simp; omega) _ rfl ?_)
  intro g2 c2 w2 hown2 hgrow2 _ _
  have hblk2 := blk_far HHB1.out HO1.out (by decide) hgrow2
  have hP2 := push_frame HHB1.out HO1.out hgrow2 hown2
  have HI2 : Hid (Inv B (w2.setCell ⟨B, 0, none⟩ (.slice (some ⟨g2, 0, none⟩) (hs.length + 1) c2)) (hs ++ [{ h with mark := hs.length + 1 }])) := Inv.push HHB1.out HO1.out HI1.out (HK1.out.mono (by omega)) hgrow2 hown2
  have HK2 : Hid (HoldOk (w2.setCell ⟨B, 0, none⟩ (.slice (some ⟨g2, 0, none⟩) (hs.length + 1) c2)) w0.heap.size { h with mark := hs.length + 1 }) := HoldX.keepT HK1.out hP2.1
  have HB2 : Hid (Below B w0 (w2.setCell ⟨B, 0, none⟩ (.slice (some ⟨g2, 0, none⟩) (hs.length + 1) c2))) := (HB1.out.mono (by omega)).trans hP2.2.2.2.1
  have hz2' : w0.heap.size ≤ (w2.setCell ⟨B, 0, none⟩ (.slice (some ⟨g2, 0, none⟩) (hs.length + 1) c2)).heap.size := by have := hP2.2.2.2.2; omega
  have HZ2 := hid hz2'
  clear b0
  have b0 : w2.cell? ⟨B, 0, none⟩ = some (.slice pa hs.length pc) := by rw [Lib.cell_of_heap hblk2]; rfl
  have f0 : w2.frozen? ⟨B, 0, none⟩ = false := Lib.frozen_of_heap hblk2 0
  clear hown2 hgrow2 hblk2 hP2 hz2' HB1 HK1 HHB1 HO1 HI1
  go_wp2
  clear b0 f0
  go_loopw [4, 5] (fun p x wr => ∃ (k : Nat) (g : HoldD) (hs' : List HoldD), k ≤ 3 ∧ p = hptr g ∧ x = .int .i64 k ∧ Inv B wr hs' ∧ hs'.length = hs.length + 1 + k ∧ HoldOk wr w0.heap.size g ∧ (∀ h2 ∈ hs', Under h2 g) ∧ g.n0 = h.n0 + k ∧ g.n1 = h.n1 + k ∧ g.n2 = h.n2 + k ∧ g.n3 = h.n3 + k ∧ g.n4 = h.n4 + k ∧ g.n5 = h.n5 + k ∧ Below B w0 wr ∧ w0.heap.size ≤ wr.heap.size) (fun _ x _ => 3 - (intOf x).toNat)
  case atStart =>
    refine ⟨0, { h with mark := hs.length + 1 }, _, by omega, rfl, rfl, HI2.out, by rw [List.length_append]; rfl, HK2.out, fun h2 hh => ?_, rfl, rfl, rfl, rfl, rfl, rfl, HB2.out, HZ2.out⟩
    rcases List.mem_append.1 hh with hh | hh
    · exact HU.out h2 hh
    · rw [List.mem_singleton.1 hh]
      exact Under.refl _
  case round =>
    clear HI2 HK2 HB2 HZ2 HU
    obtain ⟨k, g, hs', hk, rfl, rfl, hI, hl, hG, hUn, e0, e1, e2, e3, e4, e5, hbB, hzz⟩ := hrel
    have HI := hid hI
    have HG := hid hG
    have HUn := hid hUn
    have HBB := hid hbB
    obtain ⟨hv, hB, ho⟩ := hI.blk
    obtain ⟨qa, qc, rfl⟩ := ownsRow_slice ho
    have HHB := hid hB
    have HO := hid ho
    have HL := hid hl
    have hl' : hs'.length ≤ 8796093022222 := by omega
    clear hI hG hUn hbB hB ho hl
    by_cases hlt : k < 3
    · unfold hptr
      go_wp2_with fail
      refine (longer_any g w0.heap.size _ hzz HG.out (by omega) (by omega) (by omega) (by omega) (by omega) (by omega)).mono ?_
      rintro e w3 ⟨g', rfl, P⟩
      have HP := hid P
      have hB3 : w3.heap[B]? = some (.cells #[.slice qa hs'.length qc] 65 (0, 0)) := (P.keep _ _ _ _ HHB.out (Or.inr rfl)).trans HHB.out
      have HHB3 := hid hB3
      have HO3 : Hid (w3.ownsRow (B + 1) 78 1 (.slice qa hs'.length qc) hs'.length (hs'.map hptr)) := keepM_own HO.out P.keep
      have hz3 : w0.heap.size ≤ w3.heap.size := Nat.le_trans hzz P.size
      have b3 : w3.cell? ⟨B, 0, none⟩ = some (.slice qa hs'.length qc) := by rw [Lib.cell_of_heap hB3]; rfl
      have HI3 : Hid (∀ h2 ∈ hs', HoldOk w3 (B + 1) h2 ∧ Under h2 g') := fun h2 hh => P.old (B + 1) h2 (HI.out.ok h2 hh) (HUn.out h2 hh)
      have HB3 : Hid (Below B w0 w3) := HBB.out.trans (P.bel.mono (by omega))
      clear P hB3 HHB HO HI HG HUn HBB
      go_wp2_with (at_builtin; refine wpList_append_lies _ rfl _ _ 63 rfl (B + 1) 78 ip (.pointer none) 1 8 Tryz.underlying63 hi hz0 hz1 hz2 rfl (by decide) (.slice qa hs'.length qc) hs'.length (hs'.map hptr) rfl (HO3.out.alloc _) ⟨w3.heap.size, 0, none⟩ 1 1 [.pointer (some ⟨g'.b, 0, none⟩)] rfl rfl (news1 _ _ _) (fun u hu => by simp at hu; subst hu; rfl) (by omega) (by unfold maxLen; omega) (by omega) (by simp; omega) _ rfl ?_)
      intro g4 c4 w4 hown4 hgrow4 _ _
      have hblk4 := blk_far HHB3.out HO3.out (by decide) hgrow4
      have hP4 := push_frame HHB3.out HO3.out hgrow4 hown4
      have HI4 : Hid (Inv B (w4.setCell ⟨B, 0, none⟩ (.slice (some ⟨g4, 0, none⟩) (hs'.length + 1) c4)) (hs' ++ [g'])) := Inv.push HHB3.out HO3.out (fun h2 hh => (HI3.out h2 hh).1) (HP.out.ok.mono (by omega)) hgrow4 hown4
      have HK4 : Hid (HoldOk (w4.setCell ⟨B, 0, none⟩ (.slice (some ⟨g4, 0, none⟩) (hs'.length + 1) c4)) w0.heap.size g') := HoldX.keepT HP.out.ok hP4.1
      have HB4 : Hid (Below B w0 (w4.setCell ⟨B, 0, none⟩ (.slice (some ⟨g4, 0, none⟩) (hs'.length + 1) c4))) := HB3.out.trans hP4.2.2.2.1
      have hz4' : w0.heap.size ≤ (w4.setCell ⟨B, 0, none⟩ (.slice (some ⟨g4, 0, none⟩) (hs'.length + 1) c4)).heap.size := by have := hP4.2.2.2.2; omega
      have HZ4 := hid hz4'
      clear b3
      have b0 : w4.cell? ⟨B, 0, none⟩ = some (.slice qa hs'.length qc) := by rw [Lib.cell_of_heap hblk4]; rfl
      have f0 : w4.frozen? ⟨B, 0, none⟩ = false := Lib.frozen_of_heap hblk4 0
      clear hown4 hgrow4 hblk4 hP4 hz4' HHB3 HO3 HB3
      go_wp2
      go_roundw
      case rel =>
        refine ⟨k + 1, g', hs' ++ [g'], by omega, rfl, by go_num, HI4.out, by rw [List.length_append, HL.out]; show _ + 1 = _; omega, HK4.out, fun h2 hh => ?_, by rw [HP.out.n0, e0, Nat.add_assoc], by rw [HP.out.n1, e1, Nat.add_assoc], by rw [HP.out.n2, e2, Nat.add_assoc], by rw [HP.out.n3, e3, Nat.add_assoc], by rw [HP.out.n4, e4, Nat.add_assoc], by rw [HP.out.n5, e5, Nat.add_assoc], HB4.out, HZ4.out⟩
        rcases List.mem_append.1 hh with hh | hh
        · exact (HI3.out h2 hh).2
        · rw [List.mem_singleton.1 hh]
          exact Under.refl _
      case measure => simp [intOf]; omega
    · obtain rfl : k = 3 := by omega
      go_wp2
      go_end0
      exact ⟨rfl, ⟨hs', HI.out, by rw [HL.out]⟩, HBB.out⟩
end Go.Proofs.YthphojdnbfghmaaGreat
