import Derived.Test.YthphojdnbfghmaaGreatRead
import Derived.Deep.RegionLaw
namespace Go.Proofs.YthphojdnbfghmaaGreat
open Go.RowKit

/-- the cells of a part, of the first k parts -/
def partL (p : PartR) : List Value := [.int .i64 p.off, .int .i64 p.len, .int .i64 p.at', .string p.dig]
def partCells (f : Nat → PartR) : Nat → List Value
  | 0 => []
  | k + 1 => partCells f k ++ partL (f k)
theorem partCells_length (f : Nat → PartR) : ∀ k, (partCells f k).length = k * 4
  | 0 => rfl
  | k + 1 => by rw [partCells, List.length_append, partCells_length f k, show (partL (f k)).length = 4 from rfl]; omega
theorem partCells_get (f : Nat → PartR) : ∀ n j i, j < n → i < 4 → (partCells f n)[j * 4 + i]? = (partL (f j))[i]?
  | 0, j, i, h, _ => absurd h (by omega)
  | n + 1, j, i, h, hi => by
    rw [partCells]
    by_cases hj : j < n
    · rw [List.getElem?_append_left (by rw [partCells_length]; omega)]
      exact partCells_get f n j i hj hi
    · obtain rfl : j = n := by omega
      rw [List.getElem?_append_right (by rw [partCells_length]; omega), partCells_length, Nat.add_sub_cancel_left]
theorem info_part : (Tryz.prog.info? 43).map (fun i => (i.zero, i.size, i.bytes)) = some (some (.agg #[.int .i64 0, .int .i64 0, .int .i64 0, .string ⟨#[]⟩]), 4, 40) := by kernel_rfl

theorem ownsRow_below {w w1 : World} {base : Nat} {e : TypeId} {size : Nat} {v : Value} {n : Nat} {xs : List Value} (h : w.ownsRow base e size v n xs) (hb : Below w.heap.size w w1) : w1.ownsRow base e size v n xs :=
  h.kept (w' := w1) (row := none) ⟨hb.os, hb.tape, hb.output, hb.size, fun k hk _ => hb.block k hk⟩ (by cases v.ownBlock <;> simp)
theorem ownsRow_mono {w : World} {base base' : Nat} {e : TypeId} {size : Nat} {v : Value} {n : Nat} {xs : List Value} (h : w.ownsRow base e size v n xs) (hb : base' ≤ base) : w.ownsRow base' e size v n xs := by
  refine ⟨h.1, ?_⟩
  rcases h.2 with h | ⟨g, cap, cur, h1, h2, h3⟩
  · exact Or.inl h
  · exact Or.inr ⟨g, cap, cur, h1, Nat.le_trans hb h2, h3⟩
/-- an owned row of parts is seen -/
theorem ownsRow_parts {w : World} {base : Nat} {v : Value} {n : Nat} {f : Nat → PartR} (h : w.ownsRow base 43 4 v n (partCells f n)) : SeesParts w v n f := by
  rcases h.2 with ⟨rfl, rfl⟩ | ⟨g, cap, cur, rfl, _, hg, _⟩
  · exact Or.inl ⟨rfl, _, _, rfl⟩
  · refine Or.inr ⟨g, 0, cap, rfl, (Array.getElem?_eq_some_iff.1 hg).1, fun j hj => ?_⟩
    have hc := h.cells (g := g) rfl
    have hadd : ∀ i, (⟨g, 0, none⟩ : Addr).add i = ⟨g, 0 + i, none⟩ := fun i => by unfold Addr.add; split <;> simp_all
    have hget : ∀ i u, i < 4 → (partL (f j))[i]? = some u → w.cell? ⟨g, 0 + (j * 4 + i), none⟩ = some u := fun i u hi hu => by
      have := hc (j * 4 + i) u (by rw [partCells_get f n j i hj hi]; exact hu)
      rw [hadd] at this
      exact this
    exact ⟨hget 0 _ (by omega) rfl, hget 1 _ (by omega) rfl, hget 2 _ (by omega) rfl, hget 3 _ (by omega) rfl⟩

/-- what holds behind k parts -/
structure ReadRel (s : ByteArray) (w wr : World) (k : Nat) (pv : Value) : Prop where
  own : wr.ownsRow (w.heap.size + 2) 43 4 pv k (partCells (partOf s) k)
  res : ∃ c0 c1, wr.heap[w.heap.size]? = some (.cells #[c0, c1] 30 (0, 0))
  man : wr.heap[w.heap.size + 1]? = some (.cells #[.int .i64 (numAt s 2), pv] 30 (0, 0))
  size : w.heap.size + 2 ≤ wr.heap.size
  bel : Below w.heap.size w wr


theorem man_cells {w : World} {B : Nat} {a b : Value} {t : TypeId} (hB : w.heap[B]? = some (.cells #[a, b] t (0, 0))) :
    w.cell? ⟨B, 0, none⟩ = some a ∧ w.cell? ⟨B, 1, none⟩ = some b ∧ w.frozen? ⟨B, 0, none⟩ = false ∧ w.frozen? ⟨B, 1, none⟩ = false :=
  ⟨by rw [Lib.cell_of_heap hB]; rfl, by rw [Lib.cell_of_heap hB]; rfl, Lib.frozen_of_heap hB 0, Lib.frozen_of_heap hB 1⟩
theorem man_put1 {w : World} {B : Nat} {a b u : Value} {t : TypeId} (hB : w.heap[B]? = some (.cells #[a, b] t (0, 0))) : (w.setCell ⟨B, 1, none⟩ u).heap[B]? = some (.cells #[a, u] t (0, 0)) := by
  simp [World.setCell, Array.getElem?_modify, hB]
theorem grown_put (w : World) (B j : Nat) (u : Value) : w.grownBy (w.setCell ⟨B, j, none⟩ u) (some B) :=
  ⟨rfl, rfl, rfl, by simp [World.setCell], fun k _ hk => Below.heap_setCell _ _ _ _ (fun e => hk (by simp [e]))⟩

/-- behind one more part is read and appended -/
theorem ReadRel.far {s : ByteArray} {w wr w2 w3 : World} {k : Nat} {pv : Value} {o : Obj} (R : ReadRel s w wr k pv) (hb : Below wr.drew.heap.size wr.drew w2) (hg : (w2.alloc o).grownBy w3 pv.ownBlock) :
    w3.heap[w.heap.size + 1]? = some (.cells #[.int .i64 (numAt s 2), pv] 30 (0, 0)) ∧ (∃ c0 c1, w3.heap[w.heap.size]? = some (.cells #[c0, c1] 30 (0, 0))) ∧ w.heap.size + 2 ≤ w3.heap.size ∧ Below w.heap.size w w3 := by
  have hz := R.size
  have hz2 : wr.heap.size ≤ w2.heap.size := hb.size
  have hown : ∀ x, pv.ownBlock = some x → w.heap.size + 2 ≤ x := fun x hx => (R.own.lt x hx).1
  have hblk : ∀ x, x < wr.heap.size → x < w.heap.size + 2 → w3.heap[x]? = wr.heap[x]? := fun x hx hx2 => by
    rw [hg.block x (by simp; omega) (fun e => by have := hown x e.symm; omega), heap_alloc_old _ _ (by omega), hb.block x hx]
    rfl
  obtain ⟨c0, c1, hr⟩ := R.res
  refine ⟨(hblk _ (by omega) (by omega)).trans R.man, ⟨c0, c1, (hblk _ (by omega) (by omega)).trans hr⟩, ?_, ?_⟩
  · have := hg.size
    simp at this
    omega
  · have h1 : Below w.heap.size w w2 := (R.bel.drew).trans (hb.mono (by show _ ≤ wr.heap.size; omega))
    exact (h1.alloc (by omega) o).grown hg (by simp; omega) (fun x hx => by have := hown x hx; omega)

theorem ownsRow_slice {w : World} {base : Nat} {e : TypeId} {size : Nat} {v : Value} {n : Nat} {xs : List Value} (h : w.ownsRow base e size v n xs) : ∃ a c, v = .slice a n c := by
  rcases h.2 with ⟨rfl, rfl⟩ | ⟨g, cap, cur, rfl, _⟩ <;> exact ⟨_, _, rfl⟩
theorem ownsRow_drew {w : World} {base : Nat} {e : TypeId} {size : Nat} {v : Value} {n : Nat} {xs : List Value} (h : w.ownsRow base e size v n xs) : w.drew.ownsRow base e size v n xs := h
theorem news4 (w : World) (a b c d : Value) (t : TypeId) : ∀ j u, ([a, b, c, d] : List Value)[j]? = some u → (w.alloc (.cells #[a, b, c, d] t)).cell? ((⟨w.heap.size, 0, none⟩ : Addr).add j) = some u := by
  intro j u hj
  match j, hj with
  | 0, hj => simp at hj; subst hj; simp [Addr.add, go_sem]
  | 1, hj => simp at hj; subst hj; simp [Addr.add, go_sem]
  | 2, hj => simp at hj; subst hj; simp [Addr.add, go_sem]
  | 3, hj => simp at hj; subst hj; simp [Addr.add, go_sem]

set_option maxRecDepth 100000 in
set_option maxHeartbeats 2000000 in
theorem read_some (B o cap n : Nat) (s : ByteArray) (w : World) (hB : B < w.heap.size) (hn1 : 1 ≤ n) (hn : n ≤ 255) (hN : 5 + 14 * n ≤ s.size) (hcap : 5 + 14 * n ≤ cap) (hcap2 : cap ≤ 9223372036854775807) (hs : ∀ j, j < 5 + 14 * n → w.cell? ⟨B, o + j, none⟩ = some (.int .u8 (dby s j))) :
    Calls Tryz.prog 60 #[.slice (some ⟨B, o, none⟩) (5 + 14 * n) cap] w fun e w' => ∃ pv, e = .returned (.agg #[.int .i64 (numAt s 2), pv]) ∧ w'.ownsRow w.heap.size 43 4 pv n (partCells (partOf s) n) ∧ Below w.heap.size w w' := by
  obtain ⟨ip, hi, hz0, hz1, hz2⟩ := info_parts info_part
  have HS := hid hs
  clear hs
  obtain ⟨N, hN0⟩ : ∃ N : Nat, N = 5 + 14 * n := ⟨_, rfl⟩
  rw [← hN0]
  have HN := hid hN0
  have i0 : (2 : Int) ≤ (N : Int) := by omega
  have i1 : (5 : Int) ≤ (N : Int) := by omega
  have i2 : (N : Int) ≤ (cap : Int) := by omega
  have i3 : ¬ cap = 5 := by omega
  clear hN0
  go_enter Tryz.func60, Tryz.ntmps60
  go_wp2_with fail
  have hw0 : Below w.heap.size w (w.alloc (.cells #[.int .i64 0, .slice none 0 0] 30)) := (Below.refl _ _).alloc (Nat.le_refl _) _
  refine (word2_any B (o + 2) _ _ (dby s 2) (dby s 3) _ (dby_bd _ _) (dby_bd _ _) (by have := HN.out; omega) ((hw0.cell (p := ⟨B, o + 2, none⟩) hB).trans (HS.out 2 (by omega))) ((hw0.cell (p := ⟨B, o + 2 + 1, none⟩) hB).trans (HS.out 3 (by omega)))).mono ?_
  rintro e w1 ⟨rfl, nq, rfl⟩
  clear hw0
  have HE : Hid (numAt s 2 = dby s 2 + 256 * dby s 3) := rfl
  go_wp2
  go_loopw [4] (fun r wr => ∃ (k o' m' c' : Nat) (pv : Value), k ≤ n ∧ r = .slice (some ⟨B, o', none⟩) m' c' ∧ (k < n → o' = o + (5 + 14 * k)) ∧ m' + 14 * k = 14 * n ∧ c' + 14 * k + 5 = cap ∧ ReadRel s w wr k pv) (fun r _ => (match r with | .slice _ m _ => m | _ => 0))
  case atStart =>
    refine ⟨0, _, _, _, .slice none 0 0, by omega, rfl, fun _ => by omega, by have := HN.out; omega, by omega, ⟨World.ownsRow_nil _ _ _ _, ⟨.int .i64 0, .slice none 0 0, ?_⟩, ?_, ?_, ?_⟩⟩
    · rw [heap_alloc_old _ _ (by simp)]
      simp only [World.heap_drewN]
      exact heap_alloc_new w _
    · rw [HE.out]
      have h := heap_alloc_new ((w.alloc (.cells #[.int .i64 0, .slice none 0 0] 30)).drewN nq) (.cells #[.int .i64 (dby s 2 + 256 * dby s 3), .slice none 0 0] 30)
      simpa using h
    · simp
    · exact (below_drewN ((Below.refl _ _).alloc (Nat.le_refl _) _) _).alloc (by simp) _
  case round =>
    clear HE nq
    obtain ⟨k, o', m', c', pv, hk, rfl, ho', hm', hc', R⟩ := hrel
    have HR := hid R
    clear R
    by_cases hlt : k < n
    · obtain rfl := ho' hlt
      clear ho'
      obtain ⟨q0, q1, g0, g1⟩ := man_cells HR.out.man
      have HB14 : Hid (B14 wr B (o + (5 + 14 * k)) s (5 + 14 * k)) := fun j hj => (HR.out.bel.cell (p := ⟨B, o + (5 + 14 * k) + j, none⟩) hB).trans (by rw [Nat.add_assoc]; exact HS.out _ (by omega))
      have hz := HR.out.size
      have d0 : decide ((0 : Int) < (m' : Int)) = true := by simp; omega
      go_wp2_with fail
      go_region_law (first | (refine step_append_lies _ rfl _ _ 28 rfl (w.heap.size + 2) 43 ip (.agg #[.int .i64 0, .int .i64 0, .int .i64 0, .string ⟨#[]⟩]) 4 40 Tryz.underlying28 hi hz0 hz1 hz2 rfl (by decide) pv k (partCells (partOf s) k) rfl ((ownsRow_below (ownsRow_drew HR.out.own) HB2.out).alloc _) ⟨w2.heap.size, 0, none⟩ 1 1 (partL (partOf s k)) rfl rfl (news4 _ _ _ _ _ _) (fun u hu => by simp [partL] at hu; rcases hu with rfl | rfl | rfl | rfl <;> rfl) (by omega) (by unfold maxLen; omega) (by omega) (by have := HB2.out.size; simp at this; simp; omega) _ rfl ?_; intro g cap3 w3 hown3 hgrow3 hat3 hlt3; have HF := hid (HR.out.far HB2.out hgrow3); have HO3 := hid hown3; clear hown3 hgrow3 hat3; obtain ⟨r0, r1, r2, r3⟩ := man_cells HF.out.1) | (go_simp; go_at_call 97; refine (readPart_any B (o + (5 + 14 * k)) m' c' (5 + 14 * k) s _ (by show B < wr.heap.size; omega) (by omega) (by omega) (by omega) (by omega) (HB14.out.drewN 1)).mono ?_; rintro e w2 ⟨rfl, hb2⟩; have HB2 := hid hb2; have q2 : w2.cell? ⟨w.heap.size + 1, 1, none⟩ = some pv := (hb2.cell (p := ⟨w.heap.size + 1, 1, none⟩) (by show w.heap.size + 1 < wr.heap.size; omega)).trans q1; have z2 : w.heap.size + 1 < w2.heap.size := (by have := hb2.size; simp at this; omega); clear hb2))
      all_goals
        have e1 : (14 : Int) ≤ (m' : Int) := by omega
        have e2 : (m' : Int) ≤ (c' : Int) := by omega
        have HN3 : Hid (ReadRel s w (w3.setCell ⟨w.heap.size + 1, 1, none⟩ (.slice (some ⟨g, 0, none⟩) (k + 1) cap3)) (k + 1) (.slice (some ⟨g, 0, none⟩) (k + 1) cap3)) := by
          obtain ⟨t1, ⟨c0, c1, t2⟩, t3, t4⟩ := HF.out
          have hgb := (ownsRow_lt HO3.out).1
          refine ⟨HO3.out.kept (grown_put w3 (w.heap.size + 1) 1 _) (Or.inr (fun e => by injection e with e; simp only at e; omega)), ⟨c0, c1, ?_⟩, man_put1 t1, by simpa using t3, t4.setCell (by simp) _⟩
          rw [Below.heap_setCell _ _ _ _ (by simp)]
          exact t2
        clear HR HB14 HB2 HF HO3 q0 q1 q2 r0 r1 r2 r3 g0 g1
        by_cases h14 : c' = 14
        · go_wp2
          go_roundw
          case rel => exact ⟨k + 1, _, _, _, _, by omega, rfl, fun h => absurd h (by omega), by omega, by omega, HN3.out⟩
          case measure => simp; omega
        · go_wp2
          go_roundw
          case rel => exact ⟨k + 1, _, _, _, _, by omega, rfl, fun h => by omega, by omega, by omega, HN3.out⟩
          case measure => simp; omega
    · obtain rfl : k = n := by omega
      obtain rfl : m' = 0 := by omega
      obtain ⟨pa, pc, rfl⟩ := ownsRow_slice HR.out.own
      obtain ⟨q0, q1, g0, g1⟩ := man_cells HR.out.man
      obtain ⟨x0, x1, hres⟩ := HR.out.res
      obtain ⟨r0, r1, f0, f1⟩ := man_cells hres
      have HO : Hid (wr.ownsRow (w.heap.size + 1) 43 4 (.slice pa k pc) k (partCells (partOf s) k)) := ownsRow_mono HR.out.own (by omega)
      have HB := hid HR.out.bel
      clear HR hres
      go_wp2
      refine bodyPost_ret (v := .agg #[.int .i64 (numAt s 2), .slice pa k pc]) (by simp [results, Tryz.results60, go_sem, r0, r1]) rfl ⟨_, rfl, ?_, ?_⟩
      · refine ownsRow_mono ((HO.out.kept (grown_put _ _ _ _) ?_).kept (grown_put _ _ _ _) ?_) (by omega)
        all_goals (cases pa with | none => exact Or.inl rfl | some a => exact Or.inr (fun e => by have := (HO.out.lt _ e).1; omega))
      · exact (HB.out.setCell (by simp) _).setCell (by simp) _

set_option maxRecDepth 100000 in
set_option maxHeartbeats 2000000 in
theorem read_zero (B o cap : Nat) (s : ByteArray) (w : World) (hB : B < w.heap.size) (hcap : 5 ≤ cap) (hcap2 : cap ≤ 9223372036854775807) (hs : ∀ j, j < 5 → w.cell? ⟨B, o + j, none⟩ = some (.int .u8 (dby s j))) :
    Calls Tryz.prog 60 #[.slice (some ⟨B, o, none⟩) 5 cap] w fun e w' => ∃ pv, e = .returned (.agg #[.int .i64 (numAt s 2), pv]) ∧ w'.ownsRow w.heap.size 43 4 pv 0 (partCells (partOf s) 0) ∧ Below w.heap.size w w' := by
  have HS := hid hs
  clear hs
  have i2 : (5 : Int) ≤ (cap : Int) := by omega
  have hw0 : Below w.heap.size w (w.alloc (.cells #[.int .i64 0, .slice none 0 0] 30)) := (Below.refl _ _).alloc (Nat.le_refl _) _
  have HW0 := hid hw0
  clear hw0
  have HE : Hid (numAt s 2 = dby s 2 + 256 * dby s 3) := rfl
  by_cases hc5 : cap = 5
  all_goals
    go_enter Tryz.func60, Tryz.ntmps60
    go_wp2_with fail
    refine (word2_any B (o + 2) _ _ (dby s 2) (dby s 3) _ (dby_bd _ _) (dby_bd _ _) (by omega) ((HW0.out.cell (p := ⟨B, o + 2, none⟩) hB).trans (HS.out 2 (by omega))) ((HW0.out.cell (p := ⟨B, o + 2 + 1, none⟩) hB).trans (HS.out 3 (by omega)))).mono ?_
    rintro e w1 ⟨rfl, nq, rfl⟩
    go_wp2
    refine wp_loop_rounds 1 ?_
    rw [rounds_succ]
    go_wp2
    refine bodyPost_ret (v := .agg #[.int .i64 (numAt s 2), .slice none 0 0]) (by rw [HE.out]; simp [results, Tryz.results60, go_sem]) rfl ⟨_, rfl, World.ownsRow_nil _ _ _ _, ?_⟩
    exact (((below_drewN HW0.out _).setCell (by simp) _).setCell (by simp) _).alloc (by simp) _
end Go.Proofs.YthphojdnbfghmaaGreat
