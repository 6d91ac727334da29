import Derived.Test.YthphojdnbfghmaaGreatMarks
namespace Go.Proofs.YthphojdnbfghmaaGreat
open Go.RowKit

/-- append of one element onto a row of one's own: where the new row lies; what else owns its rows owns them still -/
theorem run_append_keep {P : Program} (w : World) (t ty : TypeId) (lo : Nat) (e : TypeId) (i : TypeInfo) (z : Value) (size bytes : Nat) (ht : P.underlying t = some (.slice e)) (hi : P.info? e = some i) (hz : i.zero = some z)
    (hsize : i.size = size) (hby : i.bytes = bytes) (hzs : z.cells.size = size) (hsz : 0 < size) (v : Value) (n : Nat) (xs : List Value) (hown : w.ownsRow lo e size v n xs)
    (ad : Addr) (c : Nat) (news : List Value) (hl : news.length = 1 * size) (hnews : ∀ j u, news[j]? = some u → w.cell? (ad.add j) = some u) (h1 : ∀ u ∈ news, u.oneCell' = true)
    (h63 : n + 1 ≤ maxLen) (hbytes : (n + 1) * bytes ≤ 140737488355328) (hlo : lo ≤ w.heap.size) :
    ∃ g cap w', (Builtin.append_ #[t, t] ty #[v, .slice (some ad) 1 c]).run P w = .ok (.slice (some ⟨g, 0, none⟩) (n + 1) cap) w' ∧ w'.ownsRow lo e size (.slice (some ⟨g, 0, none⟩) (n + 1) cap) (n + 1) (xs ++ news) ∧ w.grownBy w' v.ownBlock ∧
      (v.ownBlock = some g ∨ g = w.heap.size) ∧ ∀ lo2 u m ys, w.ownsRow lo2 e size u m ys → (u.ownBlock = v.ownBlock → m ≤ n) → w'.ownsRow lo2 e size u m ys := by
  obtain ⟨g, cap, w', hr, ho, hg, hat, hlt⟩ := run_append_lies (P := P) w t ty lo e i z size bytes ht hi hz hsize hby hzs hsz v n xs hown ad 1 c news hl hnews h1 (by omega) h63 hbytes hlo _ rfl
  refine ⟨g, cap, w', hr, ho, hg, hat, fun lo2 u m ys hu hm => ?_⟩
  by_cases hb : u.ownBlock = none ∨ u.ownBlock ≠ v.ownBlock
  · exact hu.kept hg hb
  · have hb1 : u.ownBlock ≠ none := fun e => hb (Or.inl e)
    have hb2 : u.ownBlock = v.ownBlock := by
      cases h : decide (u.ownBlock = v.ownBlock)
      · exact absurd (Or.inr (by simpa using h)) hb
      · simpa using h
    have hmn := hm hb2
    rcases hown.2 with ⟨rfl, _⟩ | ⟨g0, cap0, cur, rfl, hlo0, hg0, hn0, hm0, hc0, ht0⟩
    · exact absurd hb2 hb1
    rcases hu.2 with ⟨rfl, _⟩ | ⟨g1, cap1, cur1, rfl, hlo1, hg1, hn1, hm1, hc1, ht1⟩
    · exact absurd rfl hb1
    injection hb2 with hb2
    simp only at hb2
    subst hb2
    rw [hg0] at hg1
    injection hg1 with hg1
    injection hg1 with hg1
    subst hg1
    have hcc : cap1 = cap0 := Nat.eq_of_mul_eq_mul_right hsz (hc1.symm.trans hc0)
    subst hcc
    by_cases hroom : n + 1 ≤ cap1
    · obtain ⟨w2, hr2, ho2, _⟩ := run_append_own_spare (P := P) w lo t ty e i size ht hi hsize g1 n cap1 xs hown ad 1 c news hl hnews h1 hroom
      rw [hr] at hr2
      injection hr2 with hr2 hr3
      subst hr3
      rcases ho2.2 with ⟨h0, _⟩ | ⟨g2, cap2, cur2, hv2, hlo2, hg2, hn2, hm2, hc2, ht2⟩
      · cases h0
      · cases hv2
        refine ⟨hu.1, Or.inr ⟨g1, cap1, cur2, rfl, hlo1, hg2, hn1, hm1, hc2, ?_⟩⟩
        have e1 : m * size ≤ n * size := Nat.mul_le_mul_right _ hmn
        have e2 : n * size ≤ (n + 1) * size := Nat.mul_le_mul_right _ (by omega)
        have e3 : cur2.toList.take (m * size) = (cur2.toList.take ((n + 1) * size)).take (m * size) := by rw [List.take_take, Nat.min_eq_left (by omega)]
        rw [e3, ht2, List.take_append_of_le_length (by rw [hown.1]; exact e1), ← ht0, List.take_take, Nat.min_eq_left e1, ht1]
    · have holds : ∀ j u, xs[j]? = some u → w.cell? ((⟨g1, 0, none⟩ : Addr).add j) = some u := hown.cells (g := g1) rfl
      subst hsize
      subst hby
      have hr2 := run_append_grow (P := P) w t ty e i z ht hi hz ⟨g1, 0, none⟩ n cap1 xs hown.1 holds ad 1 c news hl hnews (by omega) (by unfold maxLen at h63; omega) (growslice_fits (by omega) hbytes)
      rw [hr] at hr2
      injection hr2 with hr2 hr3
      subst hr3
      refine ⟨hu.1, Or.inr ⟨g1, cap1, cur, rfl, hlo1, ?_, hn1, hm1, hc1, ht1⟩⟩
      exact (heap_alloc_old w.drew _ (blk_lt hg0)).trans hg0

theorem wpList_append_keep {P : Program} (w : World) {ops : Array Oper} {rest : List Oper} {o : Oper} {a : Act} {Q : Exit → Act → World → Prop} (hgd : o.guard = none) (s x : Operand) (t : TypeId)
    (ho : o.op = .call { callee := .builtin .append, args := #[s, x], argTypes := #[t, t] }) (lo : Nat) (e : TypeId) (i : TypeInfo) (z : Value) (size bytes : Nat) (ht : P.underlying t = some (.slice e)) (hi : P.info? e = some i) (hz : i.zero = some z)
    (hsize : i.size = size) (hby : i.bytes = bytes) (hzs : z.cells.size = size) (hsz : 0 < size) (v : Value) (n : Nat) (xs : List Value) (hs : a.eval s = v) (hown : w.ownsRow lo e size v n xs)
    (ad : Addr) (c : Nat) (news : List Value) (hx : a.eval x = .slice (some ad) 1 c) (hl : news.length = 1 * size) (hnews : ∀ j u, news[j]? = some u → w.cell? (ad.add j) = some u) (h1 : ∀ u ∈ news, u.oneCell' = true)
    (h63 : n + 1 ≤ maxLen) (hbytes : (n + 1) * bytes ≤ 140737488355328) (hlo : lo ≤ w.heap.size)
    (h : ∀ g cap w', w'.ownsRow lo e size (.slice (some ⟨g, 0, none⟩) (n + 1) cap) (n + 1) (xs ++ news) → w.grownBy w' v.ownBlock → (v.ownBlock = some g ∨ g = w.heap.size) →
      (∀ lo2 u m ys, w.ownsRow lo2 e size u m ys → (u.ownBlock = v.ownBlock → m ≤ n) → w'.ownsRow lo2 e size u m ys) → wpList P ops Q rest (a.put o.dst (.slice (some ⟨g, 0, none⟩) (n + 1) cap)) w') : wpList P ops Q (o :: rest) a w := by
  obtain ⟨g, cap, w', hr, h2, h3, h4, h5⟩ := run_append_keep (P := P) w t o.type lo e i z size bytes ht hi hz hsize hby hzs hsz v n xs hown ad c news hl hnews h1 h63 hbytes hlo
  refine wpList_plain hgd fun K hK => ?_
  unfold Oper.wp
  simp only [execOp, ho, resolve, invoke, builtin, Sem.run_bind, Sem.run_pure, Result.andThen_ok, List.map_toArray, List.map_cons, List.map_nil, hs, hx, hr]
  exact hK _ _ (h g cap w' h2 h3 h4 h5)

/-- where two holds share a row, the first one is not the longer one -/
structure Under (a b : HoldD) : Prop where
  u0 : a.v0.ownBlock = b.v0.ownBlock → a.n0 ≤ b.n0
  u1 : a.v1.ownBlock = b.v1.ownBlock → a.n1 ≤ b.n1
  u2 : a.v2.ownBlock = b.v2.ownBlock → a.n2 ≤ b.n2
  u3 : a.v3.ownBlock = b.v3.ownBlock → a.n3 ≤ b.n3
  u4 : a.v4.ownBlock = b.v4.ownBlock → a.n4 ≤ b.n4
  u5 : a.v5.ownBlock = b.v5.ownBlock → a.n5 ≤ b.n5
theorem Under.refl (a : HoldD) : Under a a := ⟨fun _ => Nat.le_refl _, fun _ => Nat.le_refl _, fun _ => Nat.le_refl _, fun _ => Nat.le_refl _, fun _ => Nat.le_refl _, fun _ => Nat.le_refl _⟩
theorem info_l0 : (Tryz.prog.info? 5).map (fun i => (i.zero, i.size, i.bytes)) = some (some (.int .u8 0), 1, 1) := by kernel_rfl
theorem info_l1 : (Tryz.prog.info? 43).map (fun i => (i.zero, i.size, i.bytes)) = some (some (.agg #[.int .i64 0, .int .i64 0, .int .i64 0, .string ⟨#[]⟩]), 4, 40) := by kernel_rfl
theorem info_l2 : (Tryz.prog.info? 35).map (fun i => (i.zero, i.size, i.bytes)) = some (some (.int .i64 0), 1, 8) := by kernel_rfl
theorem info_l3 : (Tryz.prog.info? 47).map (fun i => (i.zero, i.size, i.bytes)) = some (some (.agg #[.int .i64 0, .string ⟨#[]⟩]), 2, 24) := by kernel_rfl
theorem info_l4 : (Tryz.prog.info? 45).map (fun i => (i.zero, i.size, i.bytes)) = some (some (.agg #[.int .i64 0, .int .i64 0, .string ⟨#[]⟩]), 3, 32) := by kernel_rfl
theorem info_l5 : (Tryz.prog.info? 3).map (fun i => (i.zero, i.size, i.bytes)) = some (some (.int .i64 0), 1, 8) := by kernel_rfl
theorem own_put_far {w : World} {lo : Nat} {e : TypeId} {size : Nat} {v : Value} {n : Nat} {xs : List Value} {b j : Nat} {u : Value} {c : Array Value} {t : TypeId} {fz : Nat × Nat} (h : w.ownsRow lo e size v n xs) (hb : w.heap[b]? = some (.cells c t fz)) (hne : e ≠ t) : (w.setCell ⟨b, j, none⟩ u).ownsRow lo e size v n xs :=
  h.kept (grown_put w b j u) (Or.inr (fun e => own_ne_blk h hb hne e.symm))
theorem own_far {w w1 : World} {o : Obj} {lo l2 : Nat} {e e2 : TypeId} {size s2 : Nat} {v v2 : Value} {n n2 : Nat} {xs x2 : List Value} (h : w.ownsRow lo e size v n xs) (h2 : w.ownsRow l2 e2 s2 v2 n2 x2) (hne : e ≠ e2) (hg : (w.alloc o).grownBy w1 v2.ownBlock) : w1.ownsRow lo e size v n xs :=
  (h.alloc o).kept hg (own_ne h h2 hne)
theorem blk_far {w w1 : World} {o : Obj} {l2 : Nat} {e2 : TypeId} {s2 : Nat} {v2 : Value} {n2 : Nat} {x2 : List Value} {b : Nat} {c : Array Value} {t : TypeId} {fz : Nat × Nat} (hb : w.heap[b]? = some (.cells c t fz)) (h2 : w.ownsRow l2 e2 s2 v2 n2 x2) (hne : e2 ≠ t) (hg : (w.alloc o).grownBy w1 v2.ownBlock) : w1.heap[b]? = some (.cells c t fz) := by
  rw [hg.block b (by have := blk_lt hb; simp; omega) (own_ne_blk h2 hb hne), heap_alloc_old _ _ (blk_lt hb)]
  exact hb

/-- list 0 is one longer: the new hold -/
theorem longer_new0 {w w1 : World} {o : Obj} {lo l2 : Nat} {g : HoldD} {v u : Value} {n m : Nat} {xs : List Value} (Hg : HoldOk w lo g) (hv : w.ownsRow l2 5 1 v n xs) (hg : (w.alloc o).grownBy w1 v.ownBlock) (hu : w1.ownsRow lo 5 1 u m (rows (eB g.mark) m)) (hm : m ≤ 1152921504606846976) :
    HoldOk (w1.setCell ⟨g.b, 0, none⟩ u) lo { g with v0 := u, n0 := m } where
  lob := Hg.lob
  blk := Go.Joins.block_setCell (blk_far Hg.blk hv (by decide) hg) u
  mkb := Hg.mkb
  o0 := own_put_far hu (blk_far Hg.blk hv (by decide) hg) (by decide)
  o1 := own_put_far (own_far Hg.o1 hv (by decide) hg) (blk_far Hg.blk hv (by decide) hg) (by decide)
  o2 := own_put_far (own_far Hg.o2 hv (by decide) hg) (blk_far Hg.blk hv (by decide) hg) (by decide)
  o3 := own_put_far (own_far Hg.o3 hv (by decide) hg) (blk_far Hg.blk hv (by decide) hg) (by decide)
  o4 := own_put_far (own_far Hg.o4 hv (by decide) hg) (blk_far Hg.blk hv (by decide) hg) (by decide)
  o5 := own_put_far (own_far Hg.o5 hv (by decide) hg) (blk_far Hg.blk hv (by decide) hg) (by decide)
  c0 := hm
  c1 := Hg.c1
  c2 := Hg.c2
  c3 := Hg.c3
  c4 := Hg.c4
  c5 := Hg.c5
/-- .. and another one -/
theorem longer_old0 {w w1 : World} {o : Obj} {lo l2 lo2 : Nat} {g h2 : HoldD} {v u : Value} {n : Nat} {xs : List Value} (Hg : HoldOk w lo g) (hv : w.ownsRow l2 5 1 v n xs) (hg : (w.alloc o).grownBy w1 v.ownBlock)
    (hk : ∀ lo2 u m ys, (w.alloc o).ownsRow lo2 5 1 u m ys → (u.ownBlock = v.ownBlock → m ≤ n) → w1.ownsRow lo2 5 1 u m ys) (H2 : HoldOk w lo2 h2) (hne : h2.b ≠ g.b) (hun : h2.v0.ownBlock = v.ownBlock → h2.n0 ≤ n) :
    HoldOk (w1.setCell ⟨g.b, 0, none⟩ u) lo2 h2 where
  lob := H2.lob
  blk := (Below.heap_setCell _ _ _ _ hne).trans (blk_far H2.blk hv (by decide) hg)
  mkb := H2.mkb
  o0 := own_put_far (hk _ _ _ _ (H2.o0.alloc o) hun) (blk_far Hg.blk hv (by decide) hg) (by decide)
  o1 := own_put_far (own_far H2.o1 hv (by decide) hg) (blk_far Hg.blk hv (by decide) hg) (by decide)
  o2 := own_put_far (own_far H2.o2 hv (by decide) hg) (blk_far Hg.blk hv (by decide) hg) (by decide)
  o3 := own_put_far (own_far H2.o3 hv (by decide) hg) (blk_far Hg.blk hv (by decide) hg) (by decide)
  o4 := own_put_far (own_far H2.o4 hv (by decide) hg) (blk_far Hg.blk hv (by decide) hg) (by decide)
  o5 := own_put_far (own_far H2.o5 hv (by decide) hg) (blk_far Hg.blk hv (by decide) hg) (by decide)
  c0 := H2.c0
  c1 := H2.c1
  c2 := H2.c2
  c3 := H2.c3
  c4 := H2.c4
  c5 := H2.c5

/-- list 1 is one longer: the new hold -/
theorem longer_new1 {w w1 : World} {o : Obj} {lo l2 : Nat} {g : HoldD} {v u : Value} {n m : Nat} {xs : List Value} (Hg : HoldOk w lo g) (hv : w.ownsRow l2 43 4 v n xs) (hg : (w.alloc o).grownBy w1 v.ownBlock) (hu : w1.ownsRow lo 43 4 u m (rows (eP g.mark) m)) (hm : m ≤ 1152921504606846976) :
    HoldOk (w1.setCell ⟨g.b, 1, none⟩ u) lo { g with v1 := u, n1 := m } where
  lob := Hg.lob
  blk := Go.Joins.block_setCell (blk_far Hg.blk hv (by decide) hg) u
  mkb := Hg.mkb
  o0 := own_put_far (own_far Hg.o0 hv (by decide) hg) (blk_far Hg.blk hv (by decide) hg) (by decide)
  o1 := own_put_far hu (blk_far Hg.blk hv (by decide) hg) (by decide)
  o2 := own_put_far (own_far Hg.o2 hv (by decide) hg) (blk_far Hg.blk hv (by decide) hg) (by decide)
  o3 := own_put_far (own_far Hg.o3 hv (by decide) hg) (blk_far Hg.blk hv (by decide) hg) (by decide)
  o4 := own_put_far (own_far Hg.o4 hv (by decide) hg) (blk_far Hg.blk hv (by decide) hg) (by decide)
  o5 := own_put_far (own_far Hg.o5 hv (by decide) hg) (blk_far Hg.blk hv (by decide) hg) (by decide)
  c0 := Hg.c0
  c1 := hm
  c2 := Hg.c2
  c3 := Hg.c3
  c4 := Hg.c4
  c5 := Hg.c5
/-- .. and another one -/
theorem longer_old1 {w w1 : World} {o : Obj} {lo l2 lo2 : Nat} {g h2 : HoldD} {v u : Value} {n : Nat} {xs : List Value} (Hg : HoldOk w lo g) (hv : w.ownsRow l2 43 4 v n xs) (hg : (w.alloc o).grownBy w1 v.ownBlock)
    (hk : ∀ lo2 u m ys, (w.alloc o).ownsRow lo2 43 4 u m ys → (u.ownBlock = v.ownBlock → m ≤ n) → w1.ownsRow lo2 43 4 u m ys) (H2 : HoldOk w lo2 h2) (hne : h2.b ≠ g.b) (hun : h2.v1.ownBlock = v.ownBlock → h2.n1 ≤ n) :
    HoldOk (w1.setCell ⟨g.b, 1, none⟩ u) lo2 h2 where
  lob := H2.lob
  blk := (Below.heap_setCell _ _ _ _ hne).trans (blk_far H2.blk hv (by decide) hg)
  mkb := H2.mkb
  o0 := own_put_far (own_far H2.o0 hv (by decide) hg) (blk_far Hg.blk hv (by decide) hg) (by decide)
  o1 := own_put_far (hk _ _ _ _ (H2.o1.alloc o) hun) (blk_far Hg.blk hv (by decide) hg) (by decide)
  o2 := own_put_far (own_far H2.o2 hv (by decide) hg) (blk_far Hg.blk hv (by decide) hg) (by decide)
  o3 := own_put_far (own_far H2.o3 hv (by decide) hg) (blk_far Hg.blk hv (by decide) hg) (by decide)
  o4 := own_put_far (own_far H2.o4 hv (by decide) hg) (blk_far Hg.blk hv (by decide) hg) (by decide)
  o5 := own_put_far (own_far H2.o5 hv (by decide) hg) (blk_far Hg.blk hv (by decide) hg) (by decide)
  c0 := H2.c0
  c1 := H2.c1
  c2 := H2.c2
  c3 := H2.c3
  c4 := H2.c4
  c5 := H2.c5

/-- list 2 is one longer: the new hold -/
theorem longer_new2 {w w1 : World} {o : Obj} {lo l2 : Nat} {g : HoldD} {v u : Value} {n m : Nat} {xs : List Value} (Hg : HoldOk w lo g) (hv : w.ownsRow l2 35 1 v n xs) (hg : (w.alloc o).grownBy w1 v.ownBlock) (hu : w1.ownsRow lo 35 1 u m (rows (eC g.mark) m)) (hm : m ≤ 1152921504606846976) :
    HoldOk (w1.setCell ⟨g.b, 2, none⟩ u) lo { g with v2 := u, n2 := m } where
  lob := Hg.lob
  blk := Go.Joins.block_setCell (blk_far Hg.blk hv (by decide) hg) u
  mkb := Hg.mkb
  o0 := own_put_far (own_far Hg.o0 hv (by decide) hg) (blk_far Hg.blk hv (by decide) hg) (by decide)
  o1 := own_put_far (own_far Hg.o1 hv (by decide) hg) (blk_far Hg.blk hv (by decide) hg) (by decide)
  o2 := own_put_far hu (blk_far Hg.blk hv (by decide) hg) (by decide)
  o3 := own_put_far (own_far Hg.o3 hv (by decide) hg) (blk_far Hg.blk hv (by decide) hg) (by decide)
  o4 := own_put_far (own_far Hg.o4 hv (by decide) hg) (blk_far Hg.blk hv (by decide) hg) (by decide)
  o5 := own_put_far (own_far Hg.o5 hv (by decide) hg) (blk_far Hg.blk hv (by decide) hg) (by decide)
  c0 := Hg.c0
  c1 := Hg.c1
  c2 := hm
  c3 := Hg.c3
  c4 := Hg.c4
  c5 := Hg.c5
/-- .. and another one -/
theorem longer_old2 {w w1 : World} {o : Obj} {lo l2 lo2 : Nat} {g h2 : HoldD} {v u : Value} {n : Nat} {xs : List Value} (Hg : HoldOk w lo g) (hv : w.ownsRow l2 35 1 v n xs) (hg : (w.alloc o).grownBy w1 v.ownBlock)
    (hk : ∀ lo2 u m ys, (w.alloc o).ownsRow lo2 35 1 u m ys → (u.ownBlock = v.ownBlock → m ≤ n) → w1.ownsRow lo2 35 1 u m ys) (H2 : HoldOk w lo2 h2) (hne : h2.b ≠ g.b) (hun : h2.v2.ownBlock = v.ownBlock → h2.n2 ≤ n) :
    HoldOk (w1.setCell ⟨g.b, 2, none⟩ u) lo2 h2 where
  lob := H2.lob
  blk := (Below.heap_setCell _ _ _ _ hne).trans (blk_far H2.blk hv (by decide) hg)
  mkb := H2.mkb
  o0 := own_put_far (own_far H2.o0 hv (by decide) hg) (blk_far Hg.blk hv (by decide) hg) (by decide)
  o1 := own_put_far (own_far H2.o1 hv (by decide) hg) (blk_far Hg.blk hv (by decide) hg) (by decide)
  o2 := own_put_far (hk _ _ _ _ (H2.o2.alloc o) hun) (blk_far Hg.blk hv (by decide) hg) (by decide)
  o3 := own_put_far (own_far H2.o3 hv (by decide) hg) (blk_far Hg.blk hv (by decide) hg) (by decide)
  o4 := own_put_far (own_far H2.o4 hv (by decide) hg) (blk_far Hg.blk hv (by decide) hg) (by decide)
  o5 := own_put_far (own_far H2.o5 hv (by decide) hg) (blk_far Hg.blk hv (by decide) hg) (by decide)
  c0 := H2.c0
  c1 := H2.c1
  c2 := H2.c2
  c3 := H2.c3
  c4 := H2.c4
  c5 := H2.c5

/-- list 3 is one longer: the new hold -/
theorem longer_new3 {w w1 : World} {o : Obj} {lo l2 : Nat} {g : HoldD} {v u : Value} {n m : Nat} {xs : List Value} (Hg : HoldOk w lo g) (hv : w.ownsRow l2 47 2 v n xs) (hg : (w.alloc o).grownBy w1 v.ownBlock) (hu : w1.ownsRow lo 47 2 u m (rows (eE g.mark) m)) (hm : m ≤ 1152921504606846976) :
    HoldOk (w1.setCell ⟨g.b, 3, none⟩ u) lo { g with v3 := u, n3 := m } where
  lob := Hg.lob
  blk := Go.Joins.block_setCell (blk_far Hg.blk hv (by decide) hg) u
  mkb := Hg.mkb
  o0 := own_put_far (own_far Hg.o0 hv (by decide) hg) (blk_far Hg.blk hv (by decide) hg) (by decide)
  o1 := own_put_far (own_far Hg.o1 hv (by decide) hg) (blk_far Hg.blk hv (by decide) hg) (by decide)
  o2 := own_put_far (own_far Hg.o2 hv (by decide) hg) (blk_far Hg.blk hv (by decide) hg) (by decide)
  o3 := own_put_far hu (blk_far Hg.blk hv (by decide) hg) (by decide)
  o4 := own_put_far (own_far Hg.o4 hv (by decide) hg) (blk_far Hg.blk hv (by decide) hg) (by decide)
  o5 := own_put_far (own_far Hg.o5 hv (by decide) hg) (blk_far Hg.blk hv (by decide) hg) (by decide)
  c0 := Hg.c0
  c1 := Hg.c1
  c2 := Hg.c2
  c3 := hm
  c4 := Hg.c4
  c5 := Hg.c5
/-- .. and another one -/
theorem longer_old3 {w w1 : World} {o : Obj} {lo l2 lo2 : Nat} {g h2 : HoldD} {v u : Value} {n : Nat} {xs : List Value} (Hg : HoldOk w lo g) (hv : w.ownsRow l2 47 2 v n xs) (hg : (w.alloc o).grownBy w1 v.ownBlock)
    (hk : ∀ lo2 u m ys, (w.alloc o).ownsRow lo2 47 2 u m ys → (u.ownBlock = v.ownBlock → m ≤ n) → w1.ownsRow lo2 47 2 u m ys) (H2 : HoldOk w lo2 h2) (hne : h2.b ≠ g.b) (hun : h2.v3.ownBlock = v.ownBlock → h2.n3 ≤ n) :
    HoldOk (w1.setCell ⟨g.b, 3, none⟩ u) lo2 h2 where
  lob := H2.lob
  blk := (Below.heap_setCell _ _ _ _ hne).trans (blk_far H2.blk hv (by decide) hg)
  mkb := H2.mkb
  o0 := own_put_far (own_far H2.o0 hv (by decide) hg) (blk_far Hg.blk hv (by decide) hg) (by decide)
  o1 := own_put_far (own_far H2.o1 hv (by decide) hg) (blk_far Hg.blk hv (by decide) hg) (by decide)
  o2 := own_put_far (own_far H2.o2 hv (by decide) hg) (blk_far Hg.blk hv (by decide) hg) (by decide)
  o3 := own_put_far (hk _ _ _ _ (H2.o3.alloc o) hun) (blk_far Hg.blk hv (by decide) hg) (by decide)
  o4 := own_put_far (own_far H2.o4 hv (by decide) hg) (blk_far Hg.blk hv (by decide) hg) (by decide)
  o5 := own_put_far (own_far H2.o5 hv (by decide) hg) (blk_far Hg.blk hv (by decide) hg) (by decide)
  c0 := H2.c0
  c1 := H2.c1
  c2 := H2.c2
  c3 := H2.c3
  c4 := H2.c4
  c5 := H2.c5

/-- list 4 is one longer: the new hold -/
theorem longer_new4 {w w1 : World} {o : Obj} {lo l2 : Nat} {g : HoldD} {v u : Value} {n m : Nat} {xs : List Value} (Hg : HoldOk w lo g) (hv : w.ownsRow l2 45 3 v n xs) (hg : (w.alloc o).grownBy w1 v.ownBlock) (hu : w1.ownsRow lo 45 3 u m (rows (eS g.mark) m)) (hm : m ≤ 1152921504606846976) :
    HoldOk (w1.setCell ⟨g.b, 4, none⟩ u) lo { g with v4 := u, n4 := m } where
  lob := Hg.lob
  blk := Go.Joins.block_setCell (blk_far Hg.blk hv (by decide) hg) u
  mkb := Hg.mkb
  o0 := own_put_far (own_far Hg.o0 hv (by decide) hg) (blk_far Hg.blk hv (by decide) hg) (by decide)
  o1 := own_put_far (own_far Hg.o1 hv (by decide) hg) (blk_far Hg.blk hv (by decide) hg) (by decide)
  o2 := own_put_far (own_far Hg.o2 hv (by decide) hg) (blk_far Hg.blk hv (by decide) hg) (by decide)
  o3 := own_put_far (own_far Hg.o3 hv (by decide) hg) (blk_far Hg.blk hv (by decide) hg) (by decide)
  o4 := own_put_far hu (blk_far Hg.blk hv (by decide) hg) (by decide)
  o5 := own_put_far (own_far Hg.o5 hv (by decide) hg) (blk_far Hg.blk hv (by decide) hg) (by decide)
  c0 := Hg.c0
  c1 := Hg.c1
  c2 := Hg.c2
  c3 := Hg.c3
  c4 := hm
  c5 := Hg.c5
/-- .. and another one -/
theorem longer_old4 {w w1 : World} {o : Obj} {lo l2 lo2 : Nat} {g h2 : HoldD} {v u : Value} {n : Nat} {xs : List Value} (Hg : HoldOk w lo g) (hv : w.ownsRow l2 45 3 v n xs) (hg : (w.alloc o).grownBy w1 v.ownBlock)
    (hk : ∀ lo2 u m ys, (w.alloc o).ownsRow lo2 45 3 u m ys → (u.ownBlock = v.ownBlock → m ≤ n) → w1.ownsRow lo2 45 3 u m ys) (H2 : HoldOk w lo2 h2) (hne : h2.b ≠ g.b) (hun : h2.v4.ownBlock = v.ownBlock → h2.n4 ≤ n) :
    HoldOk (w1.setCell ⟨g.b, 4, none⟩ u) lo2 h2 where
  lob := H2.lob
  blk := (Below.heap_setCell _ _ _ _ hne).trans (blk_far H2.blk hv (by decide) hg)
  mkb := H2.mkb
  o0 := own_put_far (own_far H2.o0 hv (by decide) hg) (blk_far Hg.blk hv (by decide) hg) (by decide)
  o1 := own_put_far (own_far H2.o1 hv (by decide) hg) (blk_far Hg.blk hv (by decide) hg) (by decide)
  o2 := own_put_far (own_far H2.o2 hv (by decide) hg) (blk_far Hg.blk hv (by decide) hg) (by decide)
  o3 := own_put_far (own_far H2.o3 hv (by decide) hg) (blk_far Hg.blk hv (by decide) hg) (by decide)
  o4 := own_put_far (hk _ _ _ _ (H2.o4.alloc o) hun) (blk_far Hg.blk hv (by decide) hg) (by decide)
  o5 := own_put_far (own_far H2.o5 hv (by decide) hg) (blk_far Hg.blk hv (by decide) hg) (by decide)
  c0 := H2.c0
  c1 := H2.c1
  c2 := H2.c2
  c3 := H2.c3
  c4 := H2.c4
  c5 := H2.c5

/-- list 5 is one longer: the new hold -/
theorem longer_new5 {w w1 : World} {o : Obj} {lo l2 : Nat} {g : HoldD} {v u : Value} {n m : Nat} {xs : List Value} (Hg : HoldOk w lo g) (hv : w.ownsRow l2 3 1 v n xs) (hg : (w.alloc o).grownBy w1 v.ownBlock) (hu : w1.ownsRow lo 3 1 u m (rows (eN g.mark) m)) (hm : m ≤ 1152921504606846976) :
    HoldOk (w1.setCell ⟨g.b, 5, none⟩ u) lo { g with v5 := u, n5 := m } where
  lob := Hg.lob
  blk := Go.Joins.block_setCell (blk_far Hg.blk hv (by decide) hg) u
  mkb := Hg.mkb
  o0 := own_put_far (own_far Hg.o0 hv (by decide) hg) (blk_far Hg.blk hv (by decide) hg) (by decide)
  o1 := own_put_far (own_far Hg.o1 hv (by decide) hg) (blk_far Hg.blk hv (by decide) hg) (by decide)
  o2 := own_put_far (own_far Hg.o2 hv (by decide) hg) (blk_far Hg.blk hv (by decide) hg) (by decide)
  o3 := own_put_far (own_far Hg.o3 hv (by decide) hg) (blk_far Hg.blk hv (by decide) hg) (by decide)
  o4 := own_put_far (own_far Hg.o4 hv (by decide) hg) (blk_far Hg.blk hv (by decide) hg) (by decide)
  o5 := own_put_far hu (blk_far Hg.blk hv (by decide) hg) (by decide)
  c0 := Hg.c0
  c1 := Hg.c1
  c2 := Hg.c2
  c3 := Hg.c3
  c4 := Hg.c4
  c5 := hm
/-- .. and another one -/
theorem longer_old5 {w w1 : World} {o : Obj} {lo l2 lo2 : Nat} {g h2 : HoldD} {v u : Value} {n : Nat} {xs : List Value} (Hg : HoldOk w lo g) (hv : w.ownsRow l2 3 1 v n xs) (hg : (w.alloc o).grownBy w1 v.ownBlock)
    (hk : ∀ lo2 u m ys, (w.alloc o).ownsRow lo2 3 1 u m ys → (u.ownBlock = v.ownBlock → m ≤ n) → w1.ownsRow lo2 3 1 u m ys) (H2 : HoldOk w lo2 h2) (hne : h2.b ≠ g.b) (hun : h2.v5.ownBlock = v.ownBlock → h2.n5 ≤ n) :
    HoldOk (w1.setCell ⟨g.b, 5, none⟩ u) lo2 h2 where
  lob := H2.lob
  blk := (Below.heap_setCell _ _ _ _ hne).trans (blk_far H2.blk hv (by decide) hg)
  mkb := H2.mkb
  o0 := own_put_far (own_far H2.o0 hv (by decide) hg) (blk_far Hg.blk hv (by decide) hg) (by decide)
  o1 := own_put_far (own_far H2.o1 hv (by decide) hg) (blk_far Hg.blk hv (by decide) hg) (by decide)
  o2 := own_put_far (own_far H2.o2 hv (by decide) hg) (blk_far Hg.blk hv (by decide) hg) (by decide)
  o3 := own_put_far (own_far H2.o3 hv (by decide) hg) (blk_far Hg.blk hv (by decide) hg) (by decide)
  o4 := own_put_far (own_far H2.o4 hv (by decide) hg) (blk_far Hg.blk hv (by decide) hg) (by decide)
  o5 := own_put_far (hk _ _ _ _ (H2.o5.alloc o) hun) (blk_far Hg.blk hv (by decide) hg) (by decide)
  c0 := H2.c0
  c1 := H2.c1
  c2 := H2.c2
  c3 := H2.c3
  c4 := H2.c4
  c5 := H2.c5
end Go.Proofs.YthphojdnbfghmaaGreat
