import Derived.Test.YthphojdnbfghmaaGreatUnpack
import Derived.Test.YthphojdnbfghmaaGreatPmath
import Derived.Laws.AppendOwnNone
namespace Go.Proofs.YthphojdnbfghmaaGreat
open Go.RowKit

theorem partCells_congr {f g : Nat → PartR} : ∀ n, (∀ j, j < n → f j = g j) → partCells f n = partCells g n
  | 0, _ => rfl
  | n + 1, h => by rw [partCells, partCells, partCells_congr n (fun j hj => h j (by omega)), h n (by omega)]
theorem SeesParts.at {w : World} {p : Option Addr} {n cap k : Nat} {f : Nat → PartR} (h : SeesParts w (.slice p n cap) n f) (hk : k < n) : ∃ b o, p = some ⟨b, o, none⟩ ∧ b < w.heap.size ∧ PartsAt w b o f n := by
  rcases h with ⟨h0, _⟩ | ⟨b, o, cap', e, h1, h2⟩
  · omega
  · injection e with e1 e2 e3
    exact ⟨b, o, e1, h1, h2⟩
theorem strCells_get (s : ByteArray) (j : Nat) (u : Value) (h : (Lib.strCells s)[j]? = some u) : j < s.size ∧ u = .int .u8 (dby s j) := by
  have hj : j < (Lib.strCells s).length := (List.getElem?_eq_some_iff.1 h).1
  rw [Lib.strCells_length] at hj
  have hj' : j < (ls s).length := by rw [ls_length]; exact hj
  have h2 : ((ls s).map fun b => Value.int .u8 b.toNat)[j]? = some u := h
  rw [List.getElem?_map, List.getElem?_eq_getElem hj'] at h2
  refine ⟨hj, ?_⟩
  unfold dby
  rw [List.getElem?_eq_getElem hj']
  simpa using h2.symm

/-- append of bytes that are seen, onto a row of one's own -/
theorem wpList_append_sees {w : World} {ops : Array Oper} {rest : List Oper} {o : Oper} {a : Act} {Q : Exit → Act → World → Prop} (hgd : o.guard = none) (s x : Operand)
    (ho : o.op = .call { callee := .builtin .append, args := #[s, x], argTypes := #[27, 27] }) (base : Nat) (v : Value) (n : Nat) (xs : List Value) (hs : a.eval s = v) (hown : w.ownsRow base 5 1 v n xs)
    (xv : Value) (t : ByteArray) (hx : a.eval x = xv) (hsee : SeesB w xv t) (hb : n + t.size ≤ 140737488355328) (hbase : base ≤ w.heap.size)
    (h : ∀ v' w', w'.ownsRow base 5 1 v' (n + t.size) (xs ++ Lib.strCells t) → w.grownBy w' v.ownBlock → wpList Tryz.prog ops Q rest (a.put o.dst v') w') : wpList Tryz.prog ops Q (o :: rest) a w := by
  obtain ⟨i0, hi, hz0, hz1, hz2⟩ := info_parts info_u8
  have h63 : n + t.size ≤ maxLen := by unfold maxLen; omega
  rcases hsee with ⟨⟨ao, cap, rfl, hn0⟩, h0⟩ | ⟨b, off, cap, h1, h2, h3, rfl, h5⟩
  · have hl : Lib.strCells t = [] := List.eq_nil_of_length_eq_zero (by rw [Lib.strCells_length]; exact h0)
    rw [hl, h0] at h
    simp only [List.append_nil, Nat.add_zero] at h
    cases ao with
    | none =>
      rw [hn0 rfl] at hx
      refine wpList_append_own_none hgd s x 27 ho base 5 i0 1 Tryz.underlying27 hi v n xs hs hown hx ?_
      exact h v w hown ⟨rfl, rfl, rfl, Nat.le_refl _, fun _ _ _ => rfl⟩
    | some ad =>
      refine wpList_append_own w hgd s x 27 ho base 5 i0 (.int .u8 0) 1 1 Tryz.underlying27 hi hz0 hz1 hz2 rfl (by decide) v n xs hs hown ad 0 cap [] hx rfl (fun j u hj => by simp at hj) (fun u hu => by simp at hu) (by omega) (by omega) hbase ?_
      intro v' w' h6 h7 _
      exact h v' w' (by simpa using h6) h7
  · refine wpList_append_own w hgd s x 27 ho base 5 i0 (.int .u8 0) 1 1 Tryz.underlying27 hi hz0 hz1 hz2 rfl (by decide) v n xs hs hown ⟨b, off, none⟩ t.size cap (Lib.strCells t) hx (by rw [Lib.strCells_length, Nat.mul_one]) (fun j u hj => ?_) (Lib.strCells_oneCell t) h63 (by omega) hbase ?_
    · obtain ⟨hj1, rfl⟩ := strCells_get t j u hj
      have hadd : (⟨b, off, none⟩ : Addr).add j = ⟨b, off + j, none⟩ := by unfold Addr.add; split <;> simp_all
      rw [hadd]
      exact h5 j hj1
    · intro v' w' h6 h7 _
      exact h v' w' h6 h7

def onePart : Nat → PartR := fun _ => ⟨0, 1, 0, ⟨#[49, 50, 51, 52, 53, 54, 55, 56]⟩⟩
theorem onePart_man : isMan 1 1 onePart = true := by decide
theorem onePart_size : (packS 1 1 onePart).size = 19 := by rw [packS, if_pos onePart_man, man_size onePart_man]
theorem onePart_err : packE 1 1 onePart = 0 := by rw [packE, if_pos onePart_man]

theorem conv_sees {W : World} {v : Value} {s : ByteArray} (h : SeesB W v s) (h0 : 0 < s.size) : (convert 27 9 v).run Tryz.prog W = .ok (.string s) W := by
  rcases h with ⟨_, hz⟩ | ⟨b, off, cap, h1, h2, h3, rfl, h5⟩
  · omega
  · have h1 := run_convert_bytes_arg (P := Tryz.prog) W 27 5 Tryz.underlying27 Tryz.underlying5 b off s.size cap ((List.range s.size).map fun j => dby s (0 + j)) (by simp) (fun i hi => by
      rw [h5 i hi, List.getD_eq_getElem?_getD, List.getElem?_map, List.getElem?_range hi]
      simp) 9 Tryz.underlying9
    have hE : s.extract 0 s.size = s := by
      apply ls_inj
      rw [ls_extract, List.drop_zero, List.take_of_length_le (by rw [ls_length]; omega)]
    rw [h1, strOfNums_extract s 0 s.size (by omega), Nat.zero_add, hE]
theorem SeesB.take {W : World} {a : Option Addr} {c cap : Nat} {s : ByteArray} (h : SeesB W (.slice a s.size cap) s) (hc : c ≤ s.size) (h0 : 0 < c) : SeesB W (.slice a c cap) (s.extract 0 c) := by
  have hz : (s.extract 0 c).size = c := by rw [ByteArray.size_extract]; omega
  rcases h with ⟨_, hz⟩ | ⟨b, off, cap', h1, h2, h3, e, h5⟩
  · omega
  · injection e with e1 e2 e3
    subst e1 e3
    exact Or.inr ⟨b, off, cap, h1, by omega, h3, by rw [hz], fun j hj => by rw [dby_extract _ _ _ (by omega)]; exact h5 j (by omega)⟩
theorem SeesB.drewN {W : World} {v : Value} {s : ByteArray} (h : SeesB W v s) (k : Nat) : SeesB (W.drewN k) v s := h.below (Nat.le_refl _) (below_drewN (Below.refl _ _) k)
theorem SeesB.room {W : World} {a : Option Addr} {c cap : Nat} {s : ByteArray} (h : SeesB W (.slice a c cap) s) (h0 : 0 < s.size) : s.size ≤ cap ∧ ∃ b off, a = some ⟨b, off, none⟩ := by
  rcases h with ⟨_, hz⟩ | ⟨b, off, cap', h1, h2, h3, e, h5⟩
  · omega
  · injection e with e1 e2 e3
    subst e3
    exact ⟨h2, b, off, e1⟩

end Go.Proofs.YthphojdnbfghmaaGreat
