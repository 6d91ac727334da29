import Derived.Test.YthphojdnbfghmaaGreatVer2
namespace Go.Proofs.YthphojdnbfghmaaGreat
open Go.RowKit

theorem ls_extract (t : ByteArray) (a b : Nat) : ls (t.extract a b) = ((ls t).drop a).take (b - a) := by
  unfold ls
  rw [ByteArray.data_extract, Array.toList_extract, List.extract_eq_take_drop]
theorem lss_cons (s : ByteArray) (e : List ByteArray) : lss (s :: e) = ls s ++ lss e := by simp [lss]
theorem take_lss (e : List ByteArray) (h8 : ∀ s ∈ e, s.size = 8) : ∀ i (h : i < e.length), ((lss e).drop (i * 8)).take 8 = ls e[i] := by
  induction e with
  | nil => intro i h; simp at h
  | cons s e ih =>
    intro i h
    have hs : (ls s).length = 8 := by rw [ls_length]; exact h8 s (by simp)
    rw [lss_cons]
    cases i with
    | zero =>
      rw [Nat.zero_mul, List.drop_zero, List.take_append_of_le_length (by omega), List.take_of_length_le (by omega)]
      rfl
    | succ i =>
      have e1 : (ls s ++ lss e).drop 8 = lss e := by
        rw [← hs, List.drop_left]
      rw [show (i + 1) * 8 = 8 + i * 8 by omega, ← List.drop_drop, e1, ih (fun t ht => h8 t (by simp [ht])) i (by simpa using h)]
      rfl

/-- links and path of a signature, one behind the other -/
def body (seed : ByteArray) (leaf : Int) (l : List UInt8) : List ByteArray := links seed leaf (dd leaf l) 18 ++ path seed leaf 3
theorem body_len (seed : ByteArray) (leaf : Int) (l : List UInt8) : (body seed leaf l).length = 21 := by
  rw [body, List.length_append, path_len]
  simp [links]
theorem body_size (seed : ByteArray) (leaf : Int) (l : List UInt8) : ∀ s ∈ body seed leaf l, s.size = 8 := by
  intro s hs
  rcases List.mem_append.1 hs with h | h
  · exact links_size _ _ _ _ s h
  · exact path_size _ _ _ s h
theorem cons_lss (x : UInt8) (A B : List ByteArray) : [x] ++ lss A ++ lss B = x :: lss (A ++ B) := by
  rw [lss_append, List.append_assoc]; rfl
theorem signL_body (seed : ByteArray) (leaf : Int) (l : List UInt8) : signL seed leaf l = byt leaf :: lss (body seed leaf l) :=
  cons_lss (byt leaf) (links seed leaf (dd leaf l) 18) (path seed leaf 3)
theorem piece_sign (seed : ByteArray) (leaf : Int) (l : List UInt8) (i : Nat) (h : i < (body seed leaf l).length) : piece (signOf seed leaf l) i = (body seed leaf l)[i] := by
  apply ls_inj
  rw [piece, ls_extract, ls_signOf, signL_body, show 1 + i * 8 + 8 - (1 + i * 8) = 8 by omega, show 1 + i * 8 = i * 8 + 1 by omega, List.drop_succ_cons]
  exact take_lss _ (body_size _ _ _) i h
theorem piece_link (seed : ByteArray) (leaf : Int) (l : List UInt8) (c : Nat) (h : c < 18) : piece (signOf seed leaf l) c = lnk seed leaf (c : Int) (dgt (dd leaf l) c).toNat := by
  rw [piece_sign _ _ _ c (by rw [body_len]; omega)]
  have hlen : (links seed leaf (dd leaf l) 18).length = 18 := by simp [links]
  show (links seed leaf (dd leaf l) 18 ++ path seed leaf 3)[c]'(by rw [List.length_append, hlen, path_len]; omega) = _
  rw [List.getElem_append_left (by omega)]
  simp [links]
theorem piece_path (seed : ByteArray) (leaf : Int) (l : List UInt8) (k : Nat) (h : k < 3) : piece (signOf seed leaf l) (18 + k) = nod seed k (sib (up leaf k)) := by
  rw [piece_sign _ _ _ (18 + k) (by rw [body_len]; omega)]
  have hlen : (links seed leaf (dd leaf l) 18).length = 18 := by simp [links]
  show (links seed leaf (dd leaf l) 18 ++ path seed leaf 3)[18 + k]'(by rw [List.length_append, hlen, path_len]; omega) = _
  rw [List.getElem_append_right (by omega)]
  simp only [hlen, Nat.add_sub_cancel_left]
  match k, h with
  | 0, _ => rfl
  | 1, _ => rfl
  | 2, _ => rfl
theorem lead_sign (seed : ByteArray) (leaf : Int) (l : List UInt8) (hl : 0 ≤ leaf ∧ leaf ≤ 7) : lead (signOf seed leaf l) = leaf := by
  have h0 : ∀ (x : UInt8) (r : List UInt8), (((x :: r)[0]?.getD 0).toNat : Int) = (x.toNat : Int) := fun _ _ => rfl
  rw [lead, dby, ls_signOf, signL_body, h0]
  exact byt_toNat leaf hl.1 (by omega)
theorem vends_sign (seed : ByteArray) (leaf : Int) (l : List UInt8) : vends (signOf seed leaf l) leaf (dd leaf l) 18 = endsOf seed leaf 18 := by
  refine List.map_congr_left fun c hc => ?_
  have hb := dgt_bd (dd leaf l) c
  rw [piece_link _ _ _ c (List.mem_range.1 hc)]
  have h := walkN_add leaf (c : Int) (link0 seed leaf (c : Int)) 0 (dgt (dd leaf l) c).toNat (15 - dgt (dd leaf l) c).toNat
  have e1 : (0 : Int) + ((dgt (dd leaf l) c).toNat : Int) = dgt (dd leaf l) c := by omega
  have e2 : (dgt (dd leaf l) c).toNat + (15 - dgt (dd leaf l) c).toNat = 15 := by omega
  rw [e1, e2] at h
  exact h
theorem vnode_sign (seed : ByteArray) (leaf : Int) (l : List UInt8) (hl : 0 ≤ leaf ∧ leaf ≤ 7) : ∀ k, k ≤ 3 → vnode (signOf seed leaf l) leaf (dd leaf l) k = nod seed k (up leaf k)
  | 0, _ => by
    show leafN leaf (vends (signOf seed leaf l) leaf (dd leaf l) 18) = leafN leaf (endsOf seed leaf 18)
    rw [vends_sign]
  | k + 1, hk => by
    have hb := up_bd leaf hl k
    show aboveAt (up leaf k) (vnode (signOf seed leaf l) leaf (dd leaf l) k) (piece (signOf seed leaf l) (18 + k)) = above (nod seed k (2 * (up leaf k / 2))) (nod seed k (2 * (up leaf k / 2) + 1))
    rw [vnode_sign seed leaf l hl k (by omega), piece_path _ _ _ k (by omega), aboveAt]
    by_cases hp : up leaf k % 2 = 0
    · have e1 : 2 * (up leaf k / 2) = up leaf k := by omega
      rw [if_pos hp, e1, sib, if_neg (by omega)]
    · have e1 : 2 * (up leaf k / 2) + 1 = up leaf k := by omega
      have e2 : 2 * (up leaf k / 2) = up leaf k - 1 := by omega
      rw [if_neg hp, e1, e2, sib, if_pos (by omega)]
theorem vkey_sign (seed : ByteArray) (leaf : Int) (l : List UInt8) (hl : 0 ≤ leaf ∧ leaf ≤ 7) : vkey l (signOf seed leaf l) = keyOf seed := by
  rw [vkey, lead_sign _ _ _ hl, vnode_sign _ _ _ hl 3 (by omega), keyOf]
  have : up leaf 3 = 0 := by simp only [up]; omega
  rw [this]
theorem ver_sign (seed : ByteArray) (leaf : Int) (l : List UInt8) (hl : 0 ≤ leaf ∧ leaf ≤ 7) : verV (keyOf seed) l (signOf seed leaf l) = true := by
  rw [verV, if_pos ⟨signOf_size _ _ _, by rw [lead_sign _ _ _ hl]; exact hl.2⟩, vkey_sign _ _ _ hl]
  simp
theorem ver_size (key : ByteArray) (l : List UInt8) (t : ByteArray) (ht : t.size ≠ 169) : verV key l t = false := by
  rw [verV, if_neg (fun h => ht h.1)]
theorem toList_length (s : ByteArray) : s.toList.length = s.size := by rw [Lib.toList_data]; exact Array.length_toList
theorem toList_inj {s t : ByteArray} (h : s.toList = t.toList) : s = t := by
  rw [Lib.toList_data, Lib.toList_data] at h
  exact ls_inj h
theorem vkey_size (l : List UInt8) (t : ByteArray) : (vkey l t).size = 8 := vnode_size _ _ _ _
theorem ver_key (key : ByteArray) (l : List UInt8) (t : ByteArray) (hk : key.size ≠ 8) : verV key l t = false := by
  rw [verV]
  split
  · have h1 := toList_length (vkey l t)
    have h2 := toList_length key
    rw [vkey_size] at h1
    rw [beq_eq_false_iff_ne]
    intro h
    rw [h] at h1
    omega
  · rfl
end Go.Proofs.YthphojdnbfghmaaGreat
