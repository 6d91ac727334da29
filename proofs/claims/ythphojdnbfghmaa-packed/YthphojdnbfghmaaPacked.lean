import Derived.Test.YthphojdnbfghmaaUnpack
import Derived.Test.YthphojdnbfghmaaPmath
import Derived.Laws.AppendOwnNone
namespace Go.Proofs.Ythphojdnbfghmaa
open Go.RowKit

theorem partCells_congr {f g : Nat → PartR} : ∀ n, (∀ j, j < n → f j = g j) → partCells f n = partCells g n
  | 0, _ => rfl
  | n + 1, h => by rw [partCells, partCells, partCells_congr n (fun j hj => h j (by omega)), h n (by omega)]
theorem SeesParts.at {w : World} {p : Option Addr} {n cap k : Nat} {f : Nat → PartR} (h : SeesParts w (.slice p n cap) n f) (hk : k < n) : ∃ b o, p = some ⟨b, o, none⟩ ∧ b < w.heap.size ∧ PartsAt w b o f n := by
  rcases h with ⟨h0, _⟩ | ⟨b, o, cap', e, h1, h2⟩
  · omega
  · injection e with e1 e2 e3
    exact ⟨b, o, e1, h1, h2⟩
theorem strCells_get (s : ByteArray) (j : Nat) (u : Value) (h : (Lib.strCells s)[j]? = some u) : j < s.size ∧ u = .int .u8 (dby s j) := by
  have hj : j < (Lib.strCells s).length := (List.getElem?_eq_some_iff.1 h).1
  rw [Lib.strCells_length] at hj
  have hj' : j < (ls s).length := by rw [ls_length]; exact hj
  have h2 : ((ls s).map fun b => Value.int .u8 b.toNat)[j]? = some u := h
  rw [List.getElem?_map, List.getElem?_eq_getElem hj'] at h2
  refine ⟨hj, ?_⟩
  unfold dby
  rw [List.getElem?_eq_getElem hj']
  simpa using h2.symm

/-- append of bytes that are seen, onto a row of one's own -/
theorem wpList_append_sees {w : World} {ops : Array Oper} {rest : List Oper} {o : Oper} {a : Act} {Q : Exit → Act → World → Prop} (hgd : o.guard = none) (s x : Operand)
    (ho : o.op = .call { callee := .builtin .append, args := #[s, x], argTypes := #[22, 22] }) (base : Nat) (v : Value) (n : Nat) (xs : List Value) (hs : a.eval s = v) (hown : w.ownsRow base 5 1 v n xs)
    (xv : Value) (t : ByteArray) (hx : a.eval x = xv) (hsee : SeesB w xv t) (hb : n + t.size ≤ 140737488355328) (hbase : base ≤ w.heap.size)
    (h : ∀ v' w', w'.ownsRow base 5 1 v' (n + t.size) (xs ++ Lib.strCells t) → w.grownBy w' v.ownBlock → wpList Try.prog ops Q rest (a.put o.dst v') w') : wpList Try.prog ops Q (o :: rest) a w := by
  obtain ⟨i0, hi, hz0, hz1, hz2⟩ := info_parts info_u8
  have h63 : n + t.size ≤ maxLen := by unfold maxLen; omega
  rcases hsee with ⟨⟨ao, cap, rfl, hn0⟩, h0⟩ | ⟨b, off, cap, h1, h2, h3, rfl, h5⟩
  · have hl : Lib.strCells t = [] := List.eq_nil_of_length_eq_zero (by rw [Lib.strCells_length]; exact h0)
    rw [hl, h0] at h
    simp only [List.append_nil, Nat.add_zero] at h
    cases ao with
    | none =>
      rw [hn0 rfl] at hx
      refine wpList_append_own_none hgd s x 22 ho base 5 i0 1 Try.underlying22 hi v n xs hs hown hx ?_
      exact h v w hown ⟨rfl, rfl, rfl, Nat.le_refl _, fun _ _ _ => rfl⟩
    | some ad =>
      refine wpList_append_own w hgd s x 22 ho base 5 i0 (.int .u8 0) 1 1 Try.underlying22 hi hz0 hz1 hz2 rfl (by decide) v n xs hs hown ad 0 cap [] hx rfl (fun j u hj => by simp at hj) (fun u hu => by simp at hu) (by omega) (by omega) hbase ?_
      intro v' w' h6 h7 _
      exact h v' w' (by simpa using h6) h7
  · refine wpList_append_own w hgd s x 22 ho base 5 i0 (.int .u8 0) 1 1 Try.underlying22 hi hz0 hz1 hz2 rfl (by decide) v n xs hs hown ⟨b, off, none⟩ t.size cap (Lib.strCells t) hx (by rw [Lib.strCells_length, Nat.mul_one]) (fun j u hj => ?_) (Lib.strCells_oneCell t) h63 (by omega) hbase ?_
    · obtain ⟨hj1, rfl⟩ := strCells_get t j u hj
      have hadd : (⟨b, off, none⟩ : Addr).add j = ⟨b, off + j, none⟩ := by unfold Addr.add; split <;> simp_all
      rw [hadd]
      exact h5 j hj1
    · intro v' w' h6 h7 _
      exact h v' w' h6 h7

def onePart : Nat → PartR := fun _ => ⟨0, 1, 0, ⟨#[49, 50, 51, 52, 53, 54, 55, 56]⟩⟩
theorem onePart_man : isMan 1 1 onePart = true := by decide
theorem onePart_size : (packS 1 1 onePart).size = 19 := by rw [packS, if_pos onePart_man, man_size onePart_man]
theorem onePart_err : packE 1 1 onePart = 0 := by rw [packE, if_pos onePart_man]

theorem conv_sees {W : World} {v : Value} {s : ByteArray} (h : SeesB W v s) (h0 : 0 < s.size) : (convert 22 9 v).run Try.prog W = .ok (.string s) W := by
  rcases h with ⟨_, hz⟩ | ⟨b, off, cap, h1, h2, h3, rfl, h5⟩
  · omega
  · have h1 := run_convert_bytes_arg (P := Try.prog) W 22 5 Try.underlying22 Try.underlying5 b off s.size cap ((List.range s.size).map fun j => dby s (0 + j)) (by simp) (fun i hi => by
      rw [h5 i hi, List.getD_eq_getElem?_getD, List.getElem?_map, List.getElem?_range hi]
      simp) 9 Try.underlying9
    have hE : s.extract 0 s.size = s := by
      apply ls_inj
      rw [ls_extract, List.drop_zero, List.take_of_length_le (by rw [ls_length]; omega)]
    rw [h1, strOfNums_extract s 0 s.size (by omega), Nat.zero_add, hE]
theorem SeesB.take {W : World} {a : Option Addr} {c cap : Nat} {s : ByteArray} (h : SeesB W (.slice a s.size cap) s) (hc : c ≤ s.size) (h0 : 0 < c) : SeesB W (.slice a c cap) (s.extract 0 c) := by
  have hz : (s.extract 0 c).size = c := by rw [ByteArray.size_extract]; omega
  rcases h with ⟨_, hz⟩ | ⟨b, off, cap', h1, h2, h3, e, h5⟩
  · omega
  · injection e with e1 e2 e3
    subst e1 e3
    exact Or.inr ⟨b, off, cap, h1, by omega, h3, by rw [hz], fun j hj => by rw [dby_extract _ _ _ (by omega)]; exact h5 j (by omega)⟩
theorem SeesB.drewN {W : World} {v : Value} {s : ByteArray} (h : SeesB W v s) (k : Nat) : SeesB (W.drewN k) v s := h.below (Nat.le_refl _) (below_drewN (Below.refl _ _) k)
theorem SeesB.room {W : World} {a : Option Addr} {c cap : Nat} {s : ByteArray} (h : SeesB W (.slice a c cap) s) (h0 : 0 < s.size) : s.size ≤ cap ∧ ∃ b off, a = some ⟨b, off, none⟩ := by
  rcases h with ⟨_, hz⟩ | ⟨b, off, cap', h1, h2, h3, e, h5⟩
  · omega
  · injection e with e1 e2 e3
    subst e3
    exact ⟨h2, b, off, e1⟩

set_option maxRecDepth 100000 in
set_option maxHeartbeats 4000000 in
theorem packed_walk (v : Int) (sv bv : Value) (n : Nat) (f : Nat → PartR) (t : ByteArray) (w : World) (hn : n ≤ 4611686018427387904) (ht : t.size ≤ 140737488351232) (hp : SeesParts w sv n f) (hb : SeesB w bv t) :
    Calls Try.prog 5 #[.agg #[.int .i64 v, sv], bv] w fun e w' => e = .returned (.bool true) ∧ Below w.heap.size w w' := by
  obtain ⟨pa, pc, rfl⟩ : ∃ p cap, sv = .slice p n cap := by
    rcases hp with ⟨rfl, p, cap, rfl⟩ | ⟨b, o, cap, rfl, _⟩ <;> exact ⟨_, _, rfl⟩
  obtain ⟨ba, bc, rfl⟩ := hb.slice
  have HP := hid hp
  have HBv := hid hb
  clear hp hb
  go_enter Try.func5, Try.ntmps5
  go_wp2_with fail
  refine (kpack_any 1 _ 1 onePart _ (by omega) (Or.inr ⟨w.heap.size + 1, 0, 1, rfl, by simp, fun j hj => ?_⟩)).mono ?_
  · obtain rfl : j = 0 := by omega
    refine ⟨?_, ?_, ?_, ?_⟩ <;> simp [go_sem, onePart]
  rintro e w1 ⟨⟨pv, rfl, ho1⟩, hb1⟩
  rw [onePart_size] at ho1
  obtain ⟨a1, c1, rfl⟩ := ownsRow_slice ho1
  rw [onePart_err]
  have hm1 : w1.heap[w.heap.size]? = some (.cells #[.int .i64 v, .slice pa n pc] 34 (0, 0)) := (hb1.block _ (by simp; omega)).trans ((heap_alloc_old _ _ (by simp)).trans (heap_alloc_new w _))
  have HM1 := hid hm1
  have HB1 : Hid (Below w.heap.size w w1) := newB (newB hb1)
  have hz1 : w.heap.size + 1 < w1.heap.size := by have := hb1.size; simp at this; omega
  obtain ⟨q0, q1, g0, g1⟩ := man_cells hm1
  clear hm1 hb1 ho1
  go_wp2_with fail
  refine (kpack_any v _ n f _ hn (HP.out.below (Nat.le_refl _) HB1.out)).mono ?_
  rintro e w2 ⟨⟨pv, rfl, ho2⟩, hb2⟩
  obtain ⟨a2, c2, rfl⟩ := ownsRow_slice ho2
  have HB2 : Hid (Below w.heap.size w w2) := HB1.out.trans (hb2.mono (by omega))
  have hm2 : w2.heap[w.heap.size]? = some (.cells #[.int .i64 v, .slice pa n pc] 34 (0, 0)) := (hb2.block _ (by omega)).trans HM1.out
  have HM2 := hid hm2
  have hz2 : w1.heap.size ≤ w2.heap.size := hb2.size
  have HO2 := hid ho2
  clear ho2 hb2 hm2 q0 q1 g0 g1 HM1
  cases hM : isMan v n f
  · have e1 : packE v n f = 1 := by simp [packE, hM]
    have e2 : (packS v n f).size = 0 := by simp only [packS, hM]; rfl
    rw [e1, e2]
    have HBw := hid HB2.out
    clear e1 e2 HO2 HM2 HP
    go_wp2_with fail
    refine (kunpack_any _ t _ (by omega) (HBv.out.below (Nat.le_refl _) HBw.out)).mono ?_
    rintro e w8 ⟨⟨pv8, rfl, ho8⟩, hb8⟩
    obtain ⟨a8, c8, rfl⟩ := ownsRow_slice ho8
    have HB8 : Hid (Below w.heap.size w w8) := HBw.out.trans (hb8.mono (by have := HBw.out.size; omega))
    have HO8 := hid ho8
    clear ho8 hb8
    cases hm : hasMan t
    · have e1 : unpErr t = 1 := by simp [unpErr, hm]
      have e2 : unpLen t = 0 := by simp [unpLen, hm]
      have e3 : unpN t = 0 := by simp [unpN, hm]
      clear HO8
      go_wp2
      go_ret
      exact ⟨rfl, HB8.out.alloc HB8.out.size _⟩
    · have hX : extOk t = true := by
        cases h : extOk t
        · rw [hasMan_no h] at hm; cases hm
        · rfl
      obtain ⟨h5, _, hz5⟩ := extOk_parts hX
      have hMk : isMan (numAt t 2) (cnt t) (partOf t) = true := (isMan_has hX).trans hm
      have HRp := hid (repack hm)
      obtain ⟨c, hc⟩ : ∃ c : Nat, c = 5 + 14 * cnt t := ⟨_, rfl⟩
      have e1 : unpErr t = 0 := by simp [unpErr, hm]
      have e2 : unpLen t = (c : Int) := by simp [unpLen, hm, hc]
      have e3 : unpN t = cnt t := by simp [unpN, hm]
      have e4 : unpVer t = numAt t 2 := by simp [unpVer, hm]
      rw [e1, e2, e4]
      rw [e3] at HO8 ⊢
      clear e1 e2 e3 e4
      have hcn : cnt t ≤ 255 := by have := dby_bd t 4; unfold cnt; omega
      have hcs : c ≤ t.size := by omega
      have hc0 : 0 < c := by omega
      rw [← hc] at HRp
      clear hc h5 hz5 hX
      go_wp2_with fail
      refine (kpack_any (numAt t 2) _ (cnt t) (partOf t) _ (by omega) (ownsRow_parts (HO8.out.alloc _))).mono ?_
      rintro e w9 ⟨⟨pv9, rfl, ho9⟩, hb9⟩
      have hpk : packS (numAt t 2) (cnt t) (partOf t) = t.extract 0 c := by rw [packS, if_pos hMk, HRp.out]
      have hpe : packE (numAt t 2) (cnt t) (partOf t) = 0 := by rw [packE, if_pos hMk]
      have hxs : (t.extract 0 c).size = c := by rw [ByteArray.size_extract]; omega
      rw [hpk] at ho9
      rw [hpe]
      have hs9 := ownsRow_sees ho9
      rw [hxs] at ho9
      obtain ⟨a9, c9, rfl⟩ := ownsRow_slice ho9
      have HB9 : Hid (Below w.heap.size w w9) := (HB8.out.alloc HB8.out.size _).trans (hb9.mono (by have := HB8.out.size; simp; omega))
      have hsb := HBv.out.below (Nat.le_refl _) HB9.out
      obtain ⟨hroom, bb, bo, rfl⟩ := hsb.room (by omega)
      have hst := hsb.take hcs hc0
      obtain ⟨X, hX⟩ : ∃ X, X = t.extract 0 c := ⟨_, rfl⟩
      rw [← hX] at hst hs9 hxs
      have hcv1 : ∀ k, (convert 22 9 (.slice a9 c c9)).run Try.prog (w9.drewN k) = .ok (.string X) (w9.drewN k) := fun k => conv_sees (hs9.drewN k) (by omega)
      have hcv2 : ∀ k, (convert 22 9 (.slice (some ⟨bb, bo, none⟩) c bc)).run Try.prog (w9.drewN k) = .ok (.string X) (w9.drewN k) := fun k => conv_sees (hst.drewN k) (by omega)
      have i1 : (0 : Int) ≤ (c : Int) := by omega
      have i2 : (c : Int) ≤ (bc : Int) := by omega
      have d1 : decide ((c : Int) ≤ (t.size : Int)) = true := by simp; omega
      clear ho9 hb9 hs9 hst hsb hpk hpe hX HO8 HRp hMk
      go_wp2_with fail
      go_quiet (fail)
      go_wp2
      go_ret
      exact ⟨by simp, below_drewN HB9.out _⟩
  · obtain ⟨hv1, hn1, hn8, hall⟩ := isMan_parts hM
    have e1 : packE v n f = 0 := by simp [packE, hM]
    have e2 : packS v n f = manS v n f := by simp [packS, hM]
    obtain ⟨L, hL⟩ : ∃ L : Nat, L = 5 + 14 * n := ⟨_, rfl⟩
    have e3 : (packS v n f).size = L := by rw [e2, man_size hM, hL]
    rw [e1, e3]
    rw [e3, e2] at HO2
    have HS2 : Hid (SeesB w2 (.slice a2 L c2) (manS v n f)) := ownsRow_sees (by rw [man_size hM, ← hL]; exact HO2.out)
    have HLs : Hid ((manS v n f).size = L) := by rw [man_size hM, hL]; exact rfl
    have HM := hid hM
    have HL := hid hL
    have hL0 : 19 ≤ L := by omega
    have hL1 : L ≤ 117 := by omega
    have g0 : ((L : Int) == 0) = false := by simp; omega
    have HA := hid hall
    clear e1 e2 e3 hL hM hall
    go_wp2_with (at_builtin; refine wpList_append_sees rfl _ _ rfl w2.heap.size (.slice none 0 0) 0 [] rfl (World.ownsRow_nil _ _ _ _) _ (manS v n f) rfl HS2.out (by have := HLs.out; omega) (Nat.le_refl _) ?_)
    intro v3 w3 ho3 hg3
    obtain ⟨a3, c3, rfl⟩ := ownsRow_slice ho3
    have HB3 : Hid (Below w2.heap.size w2 w3) := (Below.refl _ _).grown hg3 (Nat.le_refl _) (fun k hk => by cases hk)
    have hz3 : w2.heap.size ≤ w3.heap.size := hg3.size
    try simp only [Nat.zero_add, List.nil_append] at ho3
    try simp only [Nat.zero_add]
    have HO3 := hid ho3
    clear ho3 hg3
    have HBt3 : Hid (Below w.heap.size w w3) := HB2.out.trans (HB3.out.mono (by omega))
    go_wp2_with (at_builtin; refine wpList_append_sees rfl _ _ rfl w2.heap.size (.slice a3 (manS v n f).size c3) (manS v n f).size (Lib.strCells (manS v n f)) rfl HO3.out _ t rfl (HBv.out.below (Nat.le_refl _) HBt3.out) (by have := HLs.out; omega) (by omega) ?_)
    intro v4 w4 ho4 hg4
    obtain ⟨a4, c4, rfl⟩ := ownsRow_slice ho4
    have hr3 : ∀ k, Value.ownBlock (.slice a3 (manS v n f).size c3) = some k → w2.heap.size ≤ k := fun k hk => (HO3.out.lt k hk).1
    have HB4 : Hid (Below w2.heap.size w2 w4) := HB3.out.grown hg4 hz3 hr3
    have hz4 : w3.heap.size ≤ w4.heap.size := hg4.size
    have HBt4 : Hid (Below w.heap.size w w4) := HB2.out.trans (HB4.out.mono (by omega))
    have hS4 : SeesB w4 (.slice a4 ((manS v n f).size + t.size) c4) (manS v n f ++ t) := ownsRow_sees (by rw [ByteArray.size_append, strCells_append]; exact ho4)
    have HS4 := hid hS4
    clear ho4 hg4 hS4 hr3 HO3 HB3 HBt3
    go_wp2_with fail
    refine (kunpack_any _ (manS v n f ++ t) _ (by rw [ByteArray.size_append]; have := HLs.out; omega) HS4.out).mono ?_
    rintro e w5 ⟨⟨pv5, rfl, ho5⟩, hb5⟩
    have hh := man_has HM.out t
    obtain ⟨_, fc, fv, fp⟩ := man_facts HM.out t
    have u1 : unpErr (manS v n f ++ t) = 0 := by simp [unpErr, hh]
    have u2 : unpLen (manS v n f ++ t) = (L : Int) := by simp [unpLen, hh, fc, HL.out]
    have u3 : unpN (manS v n f ++ t) = n := by simp [unpN, hh, fc]
    have u4 : unpVer (manS v n f ++ t) = v := by simp [unpVer, hh, fv]
    rw [u3, partCells_congr n fp] at ho5
    rw [u1, u2, u4]
    obtain ⟨g5, c5, rfl, _, hg5⟩ := ho5.form (by omega)
    have HO5 := hid ho5
    have HB5 : Hid (Below w2.heap.size w2 w5) := HB4.out.trans (hb5.mono (by omega))
    have hz5 : w4.heap.size ≤ w5.heap.size := hb5.size
    clear u1 u2 u3 u4 fc fv fp hh ho5 hb5 HS4 HB4 HBt4
    have i0 : (0 : Int) ≤ (L : Int) - 1 := by omega
    have i3 : IntKind.i64.wrap ((L : Int) - 1) = (L : Int) - 1 := IntWalk.i64_in _ ⟨by omega, by omega⟩
    have i4 : ((L : Int) - 1).toNat = L - 1 := by omega
    have hroom2 := (HS2.out.room (by have := HLs.out; omega)).1
    have i5 : (L : Int) - 1 ≤ (c2 : Int) := by have := HLs.out; omega
    have HK5 : Hid ((w5.alloc (.cells #[.int .i64 v, .slice (some ⟨g5, 0, none⟩) n c5] 34)).heap[w5.heap.size]? = some (.cells #[.int .i64 v, .slice (some ⟨g5, 0, none⟩) n c5] 34 (0, 0))) := heap_alloc_new w5 _
    have HB5a : Hid (Below w2.heap.size w2 (w5.alloc (.cells #[.int .i64 v, .slice (some ⟨g5, 0, none⟩) n c5] 34))) := HB5.out.alloc HB5.out.size _
    have HO5a : Hid ((w5.alloc (.cells #[.int .i64 v, .slice (some ⟨g5, 0, none⟩) n c5] 34)).ownsRow w4.heap.size 38 4 (.slice (some ⟨g5, 0, none⟩) n c5) n (partCells f n)) := HO5.out.alloc _
    clear hroom2 HB5 HO5
    go_wp2_with fail
    refine (kunpack_any _ ((manS v n f).extract 0 (L - 1)) _ (by rw [ByteArray.size_extract]; have := HLs.out; omega) ?_).mono ?_
    · have h1 : SeesB w2 (.slice a2 (manS v n f).size c2) (manS v n f) := by rw [HLs.out]; exact HS2.out
      exact (h1.take (by rw [HLs.out]; omega) (by omega)).below (Nat.le_refl _) HB5a.out
    rintro e w6 ⟨⟨pv6, rfl, ho6⟩, hb6⟩
    have hh := man_short HM.out
    rw [show 4 + 14 * n = L - 1 by have := HL.out; omega] at hh
    have u1 : unpErr ((manS v n f).extract 0 (L - 1)) = 1 := by simp [unpErr, hh]
    rw [u1]
    obtain ⟨a6, c6, rfl⟩ := ownsRow_slice ho6
    have HB6 : Hid (Below w2.heap.size w2 w6) := HB5a.out.trans (hb6.mono (by simp; omega))
    have hk6 : w6.heap[w5.heap.size]? = some (.cells #[.int .i64 v, .slice (some ⟨g5, 0, none⟩) n c5] 34 (0, 0)) := (hb6.block _ (by simp)).trans HK5.out
    have hm6 : w6.heap[w.heap.size]? = some (.cells #[.int .i64 v, .slice pa n pc] 34 (0, 0)) := (HB6.out.block _ (by omega)).trans HM2.out
    obtain ⟨x0, x1, _, _⟩ := man_cells hk6
    obtain ⟨y0, y1, _, _⟩ := man_cells hm6
    have hz6 : w5.heap.size < w6.heap.size := by have := hb6.size; simp at this; omega
    have HP5 : Hid (SeesParts w6 (.slice (some ⟨g5, 0, none⟩) n c5) n f) := ownsRow_parts (ownsRow_below HO5a.out hb6)
    have HPm : Hid (SeesParts w6 (.slice pa n pc) n f) := HP.out.below (Nat.le_refl _) (HB2.out.trans (HB6.out.mono (by omega)))
    have hzw6 : w.heap.size < w6.heap.size := by omega
    clear u1 hh ho6 hb6 hk6 hm6 HK5 HB5a HO5a i0 i3 i4 i5
    go_wp2
    obtain ⟨b, o, rfl, hbm, hPm⟩ := HPm.out.at (show 0 < n by omega)
    obtain ⟨_, _, e5, hb5, hP5⟩ := HP5.out.at (show 0 < n by omega)
    injection e5 with e5
    injection e5 with e51 e52
    subst e51 e52
    have HPa := hid hPm
    have HPb := hid hP5
    clear hPm hP5 HPm HP5
    have HX : Hid (w6.cell? ⟨w5.heap.size, 1, none⟩ = some (.slice (some ⟨g5, 0, none⟩) n c5) ∧ w6.cell? ⟨w.heap.size, 1, none⟩ = some (.slice (some ⟨b, o, none⟩) n pc)) := ⟨x1, y1⟩
    have HB26 : Hid (Below w.heap.size w w6) := HB2.out.trans (HB6.out.mono (by omega))
    clear x0 x1 y0 y1
    go_loopw [14] (fun i wr => ∃ k : Nat, k ≤ n ∧ i = .int .i64 k ∧ Below w6.heap.size w6 wr) (fun i _ => n - (intOf i).toNat)
    case atStart => exact ⟨0, by omega, rfl, (Below.refl _ _).alloc (Nat.le_refl _) _⟩
    case round =>
      obtain ⟨k, hk, rfl, hbr⟩ := hrel
      have HBr := hid hbr
      have x1 := (hbr.cell (p := ⟨w5.heap.size, 1, none⟩) hz6).trans HX.out.1
      have y1 := (hbr.cell (p := ⟨w.heap.size, 1, none⟩) hzw6).trans HX.out.2
      clear hbr
      by_cases hlt : k < n
      · obtain ⟨c0, c1', c2', c3'⟩ := (HPa.out.below hbm HBr.out) k hlt
        obtain ⟨d0, d1, d2, d3⟩ := (HPb.out.below hb5 HBr.out) k hlt
        generalize f k = q at *
        obtain ⟨qo, ql, qa, qd⟩ := q
        simp only [Nat.zero_add] at c0 c1' c2' c3' d0 d1 d2 d3
        go_wp2_with fail
        go_quiet (fail)
        go_wp2
        go_roundw
        case rel => exact ⟨k + 1, by omega, by go_num, below_drewN HBr.out _⟩
        case measure => simp [intOf]; omega
      · obtain rfl : k = n := by omega
        have HBw : Hid (Below w.heap.size w wr) := HB26.out.trans (HBr.out.mono (by omega))
        clear HPa HPb HX HB26 HB6 HB2 HBr HM2 HS2 HLs HM HL HA HP HO2
        go_wp2_with fail
        refine (kunpack_any _ t _ (by omega) (HBv.out.below (Nat.le_refl _) HBw.out)).mono ?_
        rintro e w8 ⟨⟨pv8, rfl, ho8⟩, hb8⟩
        obtain ⟨a8, c8, rfl⟩ := ownsRow_slice ho8
        have HB8 : Hid (Below w.heap.size w w8) := HBw.out.trans (hb8.mono (by have := HBw.out.size; omega))
        have HO8 := hid ho8
        clear ho8 hb8
        cases hm : hasMan t
        · have e1 : unpErr t = 1 := by simp [unpErr, hm]
          have e2 : unpLen t = 0 := by simp [unpLen, hm]
          have e3 : unpN t = 0 := by simp [unpN, hm]
          clear HO8
          go_wp2
          go_ret
          exact ⟨rfl, HB8.out.alloc HB8.out.size _⟩
        · have hX : extOk t = true := by
            cases h : extOk t
            · rw [hasMan_no h] at hm; cases hm
            · rfl
          obtain ⟨h5, _, hz5⟩ := extOk_parts hX
          have hMk : isMan (numAt t 2) (cnt t) (partOf t) = true := (isMan_has hX).trans hm
          have HRp := hid (repack hm)
          obtain ⟨c, hc⟩ : ∃ c : Nat, c = 5 + 14 * cnt t := ⟨_, rfl⟩
          have e1 : unpErr t = 0 := by simp [unpErr, hm]
          have e2 : unpLen t = (c : Int) := by simp [unpLen, hm, hc]
          have e3 : unpN t = cnt t := by simp [unpN, hm]
          have e4 : unpVer t = numAt t 2 := by simp [unpVer, hm]
          rw [e1, e2, e4]
          rw [e3] at HO8 ⊢
          clear e1 e2 e3 e4
          have hcn : cnt t ≤ 255 := by have := dby_bd t 4; unfold cnt; omega
          have hcs : c ≤ t.size := by omega
          have hc0 : 0 < c := by omega
          rw [← hc] at HRp
          clear hc h5 hz5 hX
          go_wp2_with fail
          refine (kpack_any (numAt t 2) _ (cnt t) (partOf t) _ (by omega) (ownsRow_parts (HO8.out.alloc _))).mono ?_
          rintro e w9 ⟨⟨pv9, rfl, ho9⟩, hb9⟩
          have hpk : packS (numAt t 2) (cnt t) (partOf t) = t.extract 0 c := by rw [packS, if_pos hMk, HRp.out]
          have hpe : packE (numAt t 2) (cnt t) (partOf t) = 0 := by rw [packE, if_pos hMk]
          have hxs : (t.extract 0 c).size = c := by rw [ByteArray.size_extract]; omega
          rw [hpk] at ho9
          rw [hpe]
          have hs9 := ownsRow_sees ho9
          rw [hxs] at ho9
          obtain ⟨a9, c9, rfl⟩ := ownsRow_slice ho9
          have HB9 : Hid (Below w.heap.size w w9) := (HB8.out.alloc HB8.out.size _).trans (hb9.mono (by have := HB8.out.size; simp; omega))
          have hsb := HBv.out.below (Nat.le_refl _) HB9.out
          obtain ⟨hroom, bb, bo, rfl⟩ := hsb.room (by omega)
          have hst := hsb.take hcs hc0
          obtain ⟨X, hX⟩ : ∃ X, X = t.extract 0 c := ⟨_, rfl⟩
          rw [← hX] at hst hs9 hxs
          have hcv1 : ∀ k, (convert 22 9 (.slice a9 c c9)).run Try.prog (w9.drewN k) = .ok (.string X) (w9.drewN k) := fun k => conv_sees (hs9.drewN k) (by omega)
          have hcv2 : ∀ k, (convert 22 9 (.slice (some ⟨bb, bo, none⟩) c bc)).run Try.prog (w9.drewN k) = .ok (.string X) (w9.drewN k) := fun k => conv_sees (hst.drewN k) (by omega)
          have i1 : (0 : Int) ≤ (c : Int) := by omega
          have i2 : (c : Int) ≤ (bc : Int) := by omega
          have d1 : decide ((c : Int) ≤ (t.size : Int)) = true := by simp; omega
          clear ho9 hb9 hs9 hst hsb hpk hpe hX HO8 HRp hMk
          go_wp2_with fail
          go_quiet (fail)
          go_wp2
          go_ret
          exact ⟨by simp, below_drewN HB9.out _⟩
end Go.Proofs.Ythphojdnbfghmaa
