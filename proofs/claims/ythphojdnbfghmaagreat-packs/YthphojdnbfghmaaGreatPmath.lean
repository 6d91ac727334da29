import Derived.Test.YthphojdnbfghmaaGreatRefUnpack
import Derived.Test.YthphojdnbfghmaaGreatVmath
namespace Go.Proofs.YthphojdnbfghmaaGreat
open Go.RowKit

theorem ls_word (n : Int) : ls (wordS n) = [byt (n % 256), byt (n / 256)] := by rw [wordS, ls_nums]; rfl
theorem byt_nat (x : Int) (h : 0 ≤ x ∧ x ≤ 255) : ((byt x).toNat : Int) = x := by
  unfold byt
  rw [UInt8.toNat_ofNat']
  omega
theorem dby_of {s : ByteArray} {a : Nat} {x : Int} (hx : 0 ≤ x ∧ x ≤ 255) (h : (ls s)[a]? = some (byt x)) : dby s a = x := by
  unfold dby
  rw [h]
  exact byt_nat x hx
theorem get_dby {s : ByteArray} {a : Nat} (h : a < s.size) : (ls s)[a]? = some (byt (dby s a)) := by
  have h' : a < (ls s).length := by rw [ls_length]; exact h
  unfold dby
  rw [List.getElem?_eq_getElem h']
  simp [byt]
theorem num_of {s : ByteArray} {a : Nat} {n : Int} (hn : 0 ≤ n ∧ n ≤ 65535) (h0 : (ls s)[a]? = some (byt (n % 256))) (h1 : (ls s)[a + 1]? = some (byt (n / 256))) : numAt s a = n := by
  unfold numAt
  rw [dby_of (by omega) h0, dby_of (by omega) h1]
  omega

theorem ls_part (p : PartR) : ls (partS p) = [byt (p.off % 256), byt (p.off / 256), byt (p.len % 256), byt (p.len / 256), byt (p.at' % 256), byt (p.at' / 256)] ++ ls p.dig := by
  rw [partS, ls_append, ls_append, ls_append, ls_word, ls_word, ls_word]
  rfl
theorem ls_parts_succ (f : Nat → PartR) (k : Nat) (s : ByteArray) : ls (partsS f (k + 1) s) = ls (partsS f k s) ++ ls (partS (f k)) := by
  simp only [partsS, partS, ls_append, List.append_assoc]
theorem part_len {p : PartR} (h : isPart p = true) : (ls (partS p)).length = 14 := by
  rw [ls_part, List.length_append, ls_length, (isPart_parts h).2.2.2.2]
  rfl
theorem parts_len {f : Nat → PartR} {k : Nat} {s : ByteArray} (h : ∀ j, j < k → isPart (f j) = true) : (ls (partsS f k s)).length = s.size + 14 * k := by
  rw [ls_length, partsS_size f s k h]
theorem parts_low (f : Nat → PartR) (s : ByteArray) (i : Nat) (hi : i < s.size) : ∀ k, (ls (partsS f k s))[i]? = (ls s)[i]?
  | 0 => rfl
  | k + 1 => by
    rw [ls_parts_succ, List.getElem?_append_left, parts_low f s i hi k]
    have : ∀ k, s.size ≤ (ls (partsS f k s)).length := by
      intro k
      induction k with
      | zero => rw [ls_length]; exact Nat.le_refl _
      | succ k ih => rw [ls_parts_succ, List.length_append]; omega
    have := this k
    omega
theorem parts_get (f : Nat → PartR) (s : ByteArray) : ∀ k j i, (∀ j, j < k → isPart (f j) = true) → j < k → i < 14 → (ls (partsS f k s))[s.size + 14 * j + i]? = (ls (partS (f j)))[i]?
  | 0, j, i, _, h, _ => absurd h (by omega)
  | k + 1, j, i, hp, h, hi => by
    have hl := parts_len (s := s) (fun j (hj : j < k) => hp j (by omega))
    rw [ls_parts_succ]
    by_cases hj : j < k
    · rw [List.getElem?_append_left (by omega)]
      exact parts_get f s k j i (fun j hj => hp j (by omega)) hj hi
    · obtain rfl : j = k := by omega
      rw [List.getElem?_append_right (by omega), hl, Nat.add_sub_cancel_left]
theorem ls_head (v : Int) (n : Nat) : ls (headS v n) = [75, 83, byt (v % 256), byt (v / 256), byt (n : Int)] := by
  rw [headS, ls_append, ls_append, ls_word, ls_nums]
  rfl

/-- a manifest's bytes, and whatever behind them: what is read -/
theorem man_get {v : Int} {n : Nat} {f : Nat → PartR} (hM : isMan v n f = true) (t : ByteArray) :
    (∀ i, i < 5 → (ls (manS v n f ++ t))[i]? = (ls (headS v n))[i]?) ∧ (∀ j i, j < n → i < 14 → (ls (manS v n f ++ t))[5 + 14 * j + i]? = (ls (partS (f j)))[i]?) := by
  obtain ⟨hv, h1, h8, hall⟩ := isMan_parts hM
  have hl : (ls (manS v n f)).length = 5 + 14 * n := by rw [manS, parts_len hall, headS_size]
  refine ⟨fun i hi => ?_, fun j i hj hi => ?_⟩
  · rw [ls_append, List.getElem?_append_left (by omega), manS]
    exact parts_low f _ i (by rw [headS_size]; exact hi) n
  · rw [ls_append, List.getElem?_append_left (by omega), manS]
    have := parts_get f (headS v n) n j i hall hj hi
    rw [headS_size] at this
    exact this
theorem toList_extract (s : ByteArray) (a b : Nat) : (s.extract a b).toList = ls (s.extract a b) := Lib.toList_data _
theorem man_facts {v : Int} {n : Nat} {f : Nat → PartR} (hM : isMan v n f = true) (t : ByteArray) :
    ((((manS v n f ++ t).extract 0 2).toList == [75, 83]) = true) ∧ cnt (manS v n f ++ t) = n ∧ numAt (manS v n f ++ t) 2 = v ∧ ∀ j, j < n → partOf (manS v n f ++ t) j = f j := by
  obtain ⟨hv, h1, h8, hall⟩ := isMan_parts hM
  obtain ⟨hlo, hhi⟩ := man_get hM t
  have hz : (manS v n f ++ t).size = 5 + 14 * n + t.size := by rw [ByteArray.size_append, manS, partsS_size f _ n hall, headS_size]
  rw [ls_head] at hlo
  generalize manS v n f ++ t = S at *
  refine ⟨?_, ?_, ?_, ?_⟩
  · rw [toList_extract, ls_extract]
    have e : ((ls S).drop 0).take (2 - 0) = [75, 83] := by
      apply List.ext_getElem?
      intro i
      rw [List.getElem?_take, List.drop_zero]
      match i with
      | 0 => simpa using hlo 0 (by omega)
      | 1 => simpa using hlo 1 (by omega)
      | i + 2 => rw [if_neg (by omega)]; rfl
    rw [e]
    rfl
  · have := dby_of (s := S) (a := 4) (x := n) (by omega) (by simpa using hlo 4 (by omega))
    unfold cnt
    omega
  · exact num_of hv (by simpa using hlo 2 (by omega)) (by simpa using hlo 3 (by omega))
  · intro j hj
    obtain ⟨p0, p1, p2, _, p8⟩ := isPart_parts (hall j hj)
    have hp := fun i (hi : i < 14) => hhi j i hj hi
    rw [ls_part] at hp
    generalize hq : f j = q at *
    obtain ⟨qo, ql, qa, qd⟩ := q
    simp only at p0 p1 p2 p8 hp
    unfold partOf
    congr 1
    · exact num_of p0 (by simpa using hp 0 (by omega)) (by simpa using hp 1 (by omega))
    · exact num_of p1 (by simpa using hp 2 (by omega)) (by simpa [Nat.add_assoc] using hp 3 (by omega))
    · exact num_of p2 (by simpa using hp 4 (by omega)) (by simpa [Nat.add_assoc] using hp 5 (by omega))
    · apply ls_inj
      rw [ls_extract]
      apply List.ext_getElem?
      intro i
      rw [List.getElem?_take, List.getElem?_drop]
      by_cases hi : i < 8
      · rw [if_pos (by omega)]
        have := hp (6 + i) (by omega)
        rw [List.getElem?_append_right (by simp), ← Nat.add_assoc] at this
        rw [this]
        simp
      · rw [if_neg (by omega), List.getElem?_eq_none (by rw [ls_length]; omega)]

theorem man_size {v : Int} {n : Nat} {f : Nat → PartR} (hM : isMan v n f = true) : (manS v n f).size = 5 + 14 * n := by
  rw [manS, partsS_size f _ n (isMan_parts hM).2.2.2, headS_size]
theorem man_has {v : Int} {n : Nat} {f : Nat → PartR} (hM : isMan v n f = true) (t : ByteArray) : hasMan (manS v n f ++ t) = true := by
  obtain ⟨hv, h1, h8, hall⟩ := isMan_parts hM
  obtain ⟨hk, hc, hn, hp⟩ := man_facts hM t
  have hz : (manS v n f ++ t).size = 5 + 14 * n + t.size := by rw [ByteArray.size_append, man_size hM]
  simp only [hasMan, headOk, hk, hc, Bool.and_eq_true, decide_eq_true_eq, List.all_eq_true, List.mem_range]
  refine ⟨⟨⟨⟨⟨by omega, trivial⟩, h1⟩, h8⟩, by omega⟩, fun j hj => ?_⟩
  rw [hp j hj]
  exact (isPart_parts (hall j hj)).2.2.2.1
theorem dby_extract (s : ByteArray) (m j : Nat) (hj : j < m) : dby (s.extract 0 m) j = dby s j := by
  unfold dby
  rw [ls_extract, List.drop_zero, Nat.sub_zero, List.getElem?_take, if_pos hj]
theorem man_short {v : Int} {n : Nat} {f : Nat → PartR} (hM : isMan v n f = true) : hasMan ((manS v n f).extract 0 (4 + 14 * n)) = false := by
  obtain ⟨hv, h1, h8, hall⟩ := isMan_parts hM
  obtain ⟨hk, hc, _⟩ := man_facts hM ByteArray.empty
  rw [ByteArray.append_empty] at hc
  have hz := man_size hM
  cases h : hasMan ((manS v n f).extract 0 (4 + 14 * n))
  · rfl
  · simp only [hasMan, headOk, Bool.and_eq_true, decide_eq_true_eq] at h
    have h5 := h.1.2
    have hc' : cnt ((manS v n f).extract 0 (4 + 14 * n)) = n := by
      unfold cnt at hc ⊢
      rw [dby_extract _ _ _ (by omega)]
      exact hc
    rw [hc', ByteArray.size_extract] at h5
    omega

theorem word_num (s : ByteArray) (a : Nat) : ls (wordS (numAt s a)) = [byt (dby s a), byt (dby s (a + 1))] := by
  have h0 := dby_bd s a
  have h1 := dby_bd s (a + 1)
  rw [ls_word, numAt]
  congr 2
  · omega
  · congr 1
    omega
theorem take_two {l : List UInt8} {a : Nat} {x y : UInt8} (h0 : l[a]? = some x) (h1 : l[a + 1]? = some y) (k : Nat) : (l.drop a).take (k + 2) = x :: y :: (l.drop (a + 2)).take k := by
  obtain ⟨e0, e0'⟩ := List.getElem?_eq_some_iff.1 h0
  obtain ⟨e1, e1'⟩ := List.getElem?_eq_some_iff.1 h1
  rw [List.drop_eq_getElem_cons e0, List.drop_eq_getElem_cons e1, e0', e1']
  rfl
theorem take_one {l : List UInt8} {a : Nat} {x : UInt8} (h0 : l[a]? = some x) : (l.drop a).take 1 = [x] := by
  obtain ⟨e0, e0'⟩ := List.getElem?_eq_some_iff.1 h0
  rw [List.drop_eq_getElem_cons e0, e0']
  rfl
theorem part_of (s : ByteArray) (j : Nat) (h : 5 + 14 * j + 14 ≤ s.size) : ls (partS (partOf s j)) = ((ls s).drop (5 + 14 * j)).take 14 := by
  rw [partS, ls_append, ls_append, ls_append]
  unfold partOf
  simp only
  rw [word_num, word_num, word_num, ls_extract]
  rw [take_two (k := 12) (get_dby (by omega)) (get_dby (by omega)), take_two (k := 10) (get_dby (by omega)) (get_dby (by omega)), take_two (k := 8) (get_dby (by omega)) (get_dby (by omega))]
  simp only [Nat.add_assoc, Nat.reduceAdd, List.cons_append, List.nil_append]
  rw [show 5 + (14 * j + 14) - (5 + (14 * j + 6)) = 8 by omega]
theorem parts_of (s h : ByteArray) : ∀ k, 5 + 14 * k ≤ s.size → ls (partsS (partOf s) k h) = ls h ++ ((ls s).drop 5).take (14 * k)
  | 0, _ => by simp [partsS]
  | k + 1, hk => by
    rw [ls_parts_succ, parts_of s h k (by omega), part_of s k (by omega), List.append_assoc]
    congr 1
    rw [show 14 * (k + 1) = 14 * k + 14 by omega, List.take_add, List.drop_drop]
/-- bytes from which a manifest is read are that one's own -/
theorem repack {s : ByteArray} (hm : hasMan s = true) : manS (numAt s 2) (cnt s) (partOf s) = s.extract 0 (5 + 14 * cnt s) := by
  simp only [hasMan, headOk, Bool.and_eq_true, decide_eq_true_eq] at hm
  obtain ⟨⟨⟨⟨⟨h5, hk⟩, h1⟩, h8⟩, hz⟩, _⟩ := hm
  have hcn : (cnt s : Int) = dby s 4 := by have := dby_bd s 4; unfold cnt; omega
  apply ls_inj
  rw [manS, parts_of s _ _ hz, ls_extract, List.drop_zero, Nat.sub_zero, List.take_add, headS, ls_append, ls_append, word_num, ls_nums, hcn]
  congr 1
  have hks : (ls s).take 2 = [75, 83] := by
    have h : (s.extract 0 2).toList = [75, 83] := by simpa using hk
    rw [toList_extract, ls_extract, List.drop_zero] at h
    exact h
  rw [show (5 : Nat) = 2 + 3 from rfl, List.take_add, hks, take_two (k := 1) (get_dby (by omega)) (get_dby (by omega))]
  rw [take_one (get_dby (s := s) (a := 4) (by omega))]
  rfl
end Go.Proofs.YthphojdnbfghmaaGreat
