import Derived.Test.YthphojdnbfghmaaGreatRead2
namespace Go.Proofs.YthphojdnbfghmaaGreat
open Go.RowKit

/-- elements one behind the other -/
def rows (el : Nat → List Value) : Nat → List Value
  | 0 => []
  | k + 1 => rows el k ++ el k
theorem rows_length {el : Nat → List Value} {size : Nat} (h : ∀ i, (el i).length = size) : ∀ k, (rows el k).length = k * size
  | 0 => by simp [rows]
  | k + 1 => by rw [rows, List.length_append, rows_length h k, h, Nat.add_mul, Nat.one_mul]
theorem rows_get {el : Nat → List Value} {size : Nat} (h : ∀ i, (el i).length = size) : ∀ n j i, j < n → i < size → (rows el n)[j * size + i]? = (el j)[i]?
  | 0, j, i, hj, _ => absurd hj (by omega)
  | n + 1, j, i, hj, hi => by
    have hl := rows_length h n
    rw [rows]
    by_cases hjn : j < n
    · have : (j + 1) * size ≤ n * size := Nat.mul_le_mul_right _ hjn
      rw [Nat.add_mul, Nat.one_mul] at this
      rw [List.getElem?_append_left (by rw [hl]; omega)]
      exact rows_get h n j i hjn hi
    · obtain rfl : j = n := by omega
      rw [List.getElem?_append_right (by rw [hl]; omega), hl, Nat.add_sub_cancel_left]

/-- what a mark looks like in the i-th byte -/
def sgn (mk i : Nat) : Int := wrap64 ((mk : Int) + wrap64 ((i : Int) * (1 + (mk : Int) / 256))) % 256
def eB (mk i : Nat) : List Value := [.int .u8 (sgn mk i)]
def eP (mk _i : Nat) : List Value := [.int .i64 (-(mk : Int)), .int .i64 0, .int .i64 0, .string ⟨#[]⟩]
def eC (mk _i : Nat) : List Value := [.int .i64 (-(mk : Int))]
def eE (mk _i : Nat) : List Value := [.int .i64 (-(mk : Int)), .string ⟨#[]⟩]
def eS (mk _i : Nat) : List Value := [.int .i64 (-(mk : Int)), .int .i64 0, .string ⟨#[]⟩]
def eN (mk _i : Nat) : List Value := [.int .i64 (-(mk : Int))]

/-- a hold: its block, its mark, its lists and how long they are -/
structure HoldD where
  b : Nat
  mark : Nat
  v0 : Value
  n0 : Nat
  v1 : Value
  n1 : Nat
  v2 : Value
  n2 : Nat
  v3 : Value
  n3 : Nat
  v4 : Value
  n4 : Nat
  v5 : Value
  n5 : Nat
/-- .. as it lies in memory, whatever its lists hold -/
structure HoldX (w : World) (lo : Nat) (h : HoldD) (x0 x1 x2 x3 x4 x5 : List Value) : Prop where
  lob : lo ≤ h.b
  blk : w.heap[h.b]? = some (.cells #[h.v0, h.v1, h.v2, h.v3, h.v4, h.v5, .int .i64 (h.mark : Int)] 106 (0, 0))
  mkb : h.mark ≤ 1152921504606846976
  o0 : w.ownsRow lo 5 1 h.v0 h.n0 x0
  o1 : w.ownsRow lo 43 4 h.v1 h.n1 x1
  o2 : w.ownsRow lo 35 1 h.v2 h.n2 x2
  o3 : w.ownsRow lo 47 2 h.v3 h.n3 x3
  o4 : w.ownsRow lo 45 3 h.v4 h.n4 x4
  o5 : w.ownsRow lo 3 1 h.v5 h.n5 x5
  c0 : h.n0 ≤ 1152921504606846976
  c1 : h.n1 ≤ 1152921504606846976
  c2 : h.n2 ≤ 1152921504606846976
  c3 : h.n3 ≤ 1152921504606846976
  c4 : h.n4 ≤ 1152921504606846976
  c5 : h.n5 ≤ 1152921504606846976
/-- .. and its lists are full of its mark -/
def HoldOk (w : World) (lo : Nat) (h : HoldD) : Prop := HoldX w lo h (rows (eB h.mark) h.n0) (rows (eP h.mark) h.n1) (rows (eC h.mark) h.n2) (rows (eE h.mark) h.n3) (rows (eS h.mark) h.n4) (rows (eN h.mark) h.n5)

theorem own_ne {w : World} {l1 l2 : Nat} {e1 e2 : TypeId} {s1 s2 : Nat} {v1 v2 : Value} {n1 n2 : Nat} {x1 x2 : List Value} (h1 : w.ownsRow l1 e1 s1 v1 n1 x1) (h2 : w.ownsRow l2 e2 s2 v2 n2 x2) (hne : e1 ≠ e2) : v1.ownBlock = none ∨ v1.ownBlock ≠ v2.ownBlock := by
  rcases h1.2 with ⟨rfl, _⟩ | ⟨g, cap, cur, rfl, _, hg, _⟩
  · exact Or.inl rfl
  · refine Or.inr (fun e => ?_)
    rcases h2.2 with ⟨rfl, _⟩ | ⟨g', cap', cur', rfl, _, hg', _⟩
    · cases e
    · injection e with e
      simp only at e
      subst e
      rw [hg] at hg'
      injection hg' with hg'
      injection hg' with _ h
      exact hne h
theorem own_ne_blk {w : World} {l1 : Nat} {e1 : TypeId} {s1 : Nat} {v1 : Value} {n1 : Nat} {x1 : List Value} {b : Nat} {c : Array Value} {t : TypeId} {fz : Nat × Nat} (h1 : w.ownsRow l1 e1 s1 v1 n1 x1) (hb : w.heap[b]? = some (.cells c t fz)) (hne : e1 ≠ t) : some b ≠ v1.ownBlock := by
  rcases h1.2 with ⟨rfl, _⟩ | ⟨g, cap, cur, rfl, _, hg, _⟩
  · exact fun e => by cases e
  · intro e
    injection e with e
    simp only at e
    subst e
    rw [hg] at hb
    injection hb with hb
    injection hb with _ h
    exact hne h
theorem blk_lt {w : World} {b : Nat} {o : Obj} (hb : w.heap[b]? = some o) : b < w.heap.size := (Array.getElem?_eq_some_iff.1 hb).1

/-- list 0 alone has been written into -/
theorem HoldX.put0 {w w' : World} {lo : Nat} {h : HoldD} {x0 x1 x2 x3 x4 x5 y : List Value} (H : HoldX w lo h x0 x1 x2 x3 x4 x5) (hg : w.grownBy w' h.v0.ownBlock) (ho : w'.ownsRow lo 5 1 h.v0 h.n0 y) : HoldX w' lo h y x1 x2 x3 x4 x5 where
  lob := H.lob
  blk := (hg.block _ (blk_lt H.blk) (own_ne_blk H.o0 H.blk (by decide))).trans H.blk
  mkb := H.mkb
  o0 := ho
  o1 := H.o1.kept hg (own_ne H.o1 H.o0 (by decide))
  o2 := H.o2.kept hg (own_ne H.o2 H.o0 (by decide))
  o3 := H.o3.kept hg (own_ne H.o3 H.o0 (by decide))
  o4 := H.o4.kept hg (own_ne H.o4 H.o0 (by decide))
  o5 := H.o5.kept hg (own_ne H.o5 H.o0 (by decide))
  c0 := H.c0
  c1 := H.c1
  c2 := H.c2
  c3 := H.c3
  c4 := H.c4
  c5 := H.c5
/-- list 1 alone has been written into -/
theorem HoldX.put1 {w w' : World} {lo : Nat} {h : HoldD} {x0 x1 x2 x3 x4 x5 y : List Value} (H : HoldX w lo h x0 x1 x2 x3 x4 x5) (hg : w.grownBy w' h.v1.ownBlock) (ho : w'.ownsRow lo 43 4 h.v1 h.n1 y) : HoldX w' lo h x0 y x2 x3 x4 x5 where
  lob := H.lob
  blk := (hg.block _ (blk_lt H.blk) (own_ne_blk H.o1 H.blk (by decide))).trans H.blk
  mkb := H.mkb
  o0 := H.o0.kept hg (own_ne H.o0 H.o1 (by decide))
  o1 := ho
  o2 := H.o2.kept hg (own_ne H.o2 H.o1 (by decide))
  o3 := H.o3.kept hg (own_ne H.o3 H.o1 (by decide))
  o4 := H.o4.kept hg (own_ne H.o4 H.o1 (by decide))
  o5 := H.o5.kept hg (own_ne H.o5 H.o1 (by decide))
  c0 := H.c0
  c1 := H.c1
  c2 := H.c2
  c3 := H.c3
  c4 := H.c4
  c5 := H.c5
/-- list 2 alone has been written into -/
theorem HoldX.put2 {w w' : World} {lo : Nat} {h : HoldD} {x0 x1 x2 x3 x4 x5 y : List Value} (H : HoldX w lo h x0 x1 x2 x3 x4 x5) (hg : w.grownBy w' h.v2.ownBlock) (ho : w'.ownsRow lo 35 1 h.v2 h.n2 y) : HoldX w' lo h x0 x1 y x3 x4 x5 where
  lob := H.lob
  blk := (hg.block _ (blk_lt H.blk) (own_ne_blk H.o2 H.blk (by decide))).trans H.blk
  mkb := H.mkb
  o0 := H.o0.kept hg (own_ne H.o0 H.o2 (by decide))
  o1 := H.o1.kept hg (own_ne H.o1 H.o2 (by decide))
  o2 := ho
  o3 := H.o3.kept hg (own_ne H.o3 H.o2 (by decide))
  o4 := H.o4.kept hg (own_ne H.o4 H.o2 (by decide))
  o5 := H.o5.kept hg (own_ne H.o5 H.o2 (by decide))
  c0 := H.c0
  c1 := H.c1
  c2 := H.c2
  c3 := H.c3
  c4 := H.c4
  c5 := H.c5
/-- list 3 alone has been written into -/
theorem HoldX.put3 {w w' : World} {lo : Nat} {h : HoldD} {x0 x1 x2 x3 x4 x5 y : List Value} (H : HoldX w lo h x0 x1 x2 x3 x4 x5) (hg : w.grownBy w' h.v3.ownBlock) (ho : w'.ownsRow lo 47 2 h.v3 h.n3 y) : HoldX w' lo h x0 x1 x2 y x4 x5 where
  lob := H.lob
  blk := (hg.block _ (blk_lt H.blk) (own_ne_blk H.o3 H.blk (by decide))).trans H.blk
  mkb := H.mkb
  o0 := H.o0.kept hg (own_ne H.o0 H.o3 (by decide))
  o1 := H.o1.kept hg (own_ne H.o1 H.o3 (by decide))
  o2 := H.o2.kept hg (own_ne H.o2 H.o3 (by decide))
  o3 := ho
  o4 := H.o4.kept hg (own_ne H.o4 H.o3 (by decide))
  o5 := H.o5.kept hg (own_ne H.o5 H.o3 (by decide))
  c0 := H.c0
  c1 := H.c1
  c2 := H.c2
  c3 := H.c3
  c4 := H.c4
  c5 := H.c5
/-- list 4 alone has been written into -/
theorem HoldX.put4 {w w' : World} {lo : Nat} {h : HoldD} {x0 x1 x2 x3 x4 x5 y : List Value} (H : HoldX w lo h x0 x1 x2 x3 x4 x5) (hg : w.grownBy w' h.v4.ownBlock) (ho : w'.ownsRow lo 45 3 h.v4 h.n4 y) : HoldX w' lo h x0 x1 x2 x3 y x5 where
  lob := H.lob
  blk := (hg.block _ (blk_lt H.blk) (own_ne_blk H.o4 H.blk (by decide))).trans H.blk
  mkb := H.mkb
  o0 := H.o0.kept hg (own_ne H.o0 H.o4 (by decide))
  o1 := H.o1.kept hg (own_ne H.o1 H.o4 (by decide))
  o2 := H.o2.kept hg (own_ne H.o2 H.o4 (by decide))
  o3 := H.o3.kept hg (own_ne H.o3 H.o4 (by decide))
  o4 := ho
  o5 := H.o5.kept hg (own_ne H.o5 H.o4 (by decide))
  c0 := H.c0
  c1 := H.c1
  c2 := H.c2
  c3 := H.c3
  c4 := H.c4
  c5 := H.c5
/-- list 5 alone has been written into -/
theorem HoldX.put5 {w w' : World} {lo : Nat} {h : HoldD} {x0 x1 x2 x3 x4 x5 y : List Value} (H : HoldX w lo h x0 x1 x2 x3 x4 x5) (hg : w.grownBy w' h.v5.ownBlock) (ho : w'.ownsRow lo 3 1 h.v5 h.n5 y) : HoldX w' lo h x0 x1 x2 x3 x4 y where
  lob := H.lob
  blk := (hg.block _ (blk_lt H.blk) (own_ne_blk H.o5 H.blk (by decide))).trans H.blk
  mkb := H.mkb
  o0 := H.o0.kept hg (own_ne H.o0 H.o5 (by decide))
  o1 := H.o1.kept hg (own_ne H.o1 H.o5 (by decide))
  o2 := H.o2.kept hg (own_ne H.o2 H.o5 (by decide))
  o3 := H.o3.kept hg (own_ne H.o3 H.o5 (by decide))
  o4 := H.o4.kept hg (own_ne H.o4 H.o5 (by decide))
  o5 := ho
  c0 := H.c0
  c1 := H.c1
  c2 := H.c2
  c3 := H.c3
  c4 := H.c4
  c5 := H.c5

/-- blocks of the kinds that holds are made of are as they were -/
def KeepT (w w' : World) : Prop := ∀ (k : Nat) (c : Array Value) (t : TypeId) (fz : Nat × Nat), w.heap[k]? = some (.cells c t fz) → t ≠ 78 → t ≠ 65 → w'.heap[k]? = w.heap[k]?
theorem own_same {w w' : World} {lo : Nat} {e : TypeId} {size : Nat} {v : Value} {n : Nat} {xs : List Value} (h : w.ownsRow lo e size v n xs) (hk : ∀ (k : Nat) (c : Array Value) (fz : Nat × Nat), w.heap[k]? = some (.cells c e fz) → w'.heap[k]? = w.heap[k]?) : w'.ownsRow lo e size v n xs := by
  refine ⟨h.1, ?_⟩
  rcases h.2 with h | ⟨g, cap, cur, h1, h2, h3, h4⟩
  · exact Or.inl h
  · exact Or.inr ⟨g, cap, cur, h1, h2, (hk g cur (0, 0) h3).trans h3, h4⟩
theorem HoldX.keepT {w w' : World} {lo : Nat} {h : HoldD} {x0 x1 x2 x3 x4 x5 : List Value} (H : HoldX w lo h x0 x1 x2 x3 x4 x5) (hk : KeepT w w') : HoldX w' lo h x0 x1 x2 x3 x4 x5 where
  lob := H.lob
  blk := (hk _ _ _ _ H.blk (by decide) (by decide)).trans H.blk
  mkb := H.mkb
  o0 := own_same H.o0 (fun k c fz hc => hk k c _ fz hc (by decide) (by decide))
  o1 := own_same H.o1 (fun k c fz hc => hk k c _ fz hc (by decide) (by decide))
  o2 := own_same H.o2 (fun k c fz hc => hk k c _ fz hc (by decide) (by decide))
  o3 := own_same H.o3 (fun k c fz hc => hk k c _ fz hc (by decide) (by decide))
  o4 := own_same H.o4 (fun k c fz hc => hk k c _ fz hc (by decide) (by decide))
  o5 := own_same H.o5 (fun k c fz hc => hk k c _ fz hc (by decide) (by decide))
  c0 := H.c0
  c1 := H.c1
  c2 := H.c2
  c3 := H.c3
  c4 := H.c4
  c5 := H.c5
theorem KeepT.below {w w' : World} (h : Below w.heap.size w w') : KeepT w w' := fun k _ _ _ hc _ _ => h.block k (blk_lt hc)
theorem KeepT.trans {a b c : World} (h1 : KeepT a b) (h2 : KeepT b c) : KeepT a c := fun k x t fz hc h3 h4 => by
  have h5 := h1 k x t fz hc h3 h4
  exact (h2 k x t fz (h5.trans hc) h3 h4).trans h5
/-- cells of the hold itself -/
theorem HoldX.cells {w : World} {lo : Nat} {h : HoldD} {x0 x1 x2 x3 x4 x5 : List Value} (H : HoldX w lo h x0 x1 x2 x3 x4 x5) : w.cell? ⟨h.b, 0, none⟩ = some h.v0 ∧ w.cell? ⟨h.b, 1, none⟩ = some h.v1 ∧ w.cell? ⟨h.b, 2, none⟩ = some h.v2 ∧ w.cell? ⟨h.b, 3, none⟩ = some h.v3 ∧ w.cell? ⟨h.b, 4, none⟩ = some h.v4 ∧ w.cell? ⟨h.b, 5, none⟩ = some h.v5 ∧ w.cell? ⟨h.b, 6, none⟩ = some (.int .i64 (h.mark : Int)) ∧ (∀ j, w.frozen? ⟨h.b, j, none⟩ = false) := by
  refine ⟨?_, ?_, ?_, ?_, ?_, ?_, ?_, fun j => Lib.frozen_of_heap H.blk j⟩ <;> (rw [Lib.cell_of_heap H.blk]; rfl)

theorem own_cell {w : World} {lo : Nat} {e : TypeId} {size : Nat} {g n cap : Nat} {xs : List Value} (h : w.ownsRow lo e size (.slice (some ⟨g, 0, none⟩) n cap) n xs) (j : Nat) (u : Value) (hj : xs[j]? = some u) : w.cell? ⟨g, j, none⟩ = some u := by
  have := h.cells (g := g) rfl j u hj
  have hadd : (⟨g, 0, none⟩ : Addr).add j = ⟨g, j, none⟩ := by unfold Addr.add; split <;> simp_all
  rw [hadd] at this
  exact this
/-- a list's k-th element -/
theorem own_elem {w : World} {lo : Nat} {e : TypeId} {size n k : Nat} {v : Value} {el : Nat → List Value} (h : w.ownsRow lo e size v n (rows el n)) (hel : ∀ i, (el i).length = size) (hk : k < n) :
    ∃ g cap, v = .slice (some ⟨g, 0, none⟩) n cap ∧ ∀ i u, i < size → (el k)[i]? = some u → w.cell? ⟨g, k * size + i, none⟩ = some u := by
  obtain ⟨g, cap, rfl, _, _⟩ := h.form (by omega)
  exact ⟨g, cap, rfl, fun i u hi hu => own_cell h _ u (by rw [rows_get hel n k i hk hi]; exact hu)⟩
end Go.Proofs.YthphojdnbfghmaaGreat
