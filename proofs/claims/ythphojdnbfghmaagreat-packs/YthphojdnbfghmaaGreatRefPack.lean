import Derived.Test.YthphojdnbfghmaaGreatMan
import Derived.Test.YthphojdnbfghmaaGreatChain
namespace Go.Proofs.YthphojdnbfghmaaGreat
open Go.RowKit

/-- a part -/
structure PartR where
  off : Int
  len : Int
  at' : Int
  dig : ByteArray

/-- parts one behind the other in memory, from a place on -/
def PartsAt (w : World) (b o : Nat) (f : Nat → PartR) (n : Nat) : Prop :=
  ∀ j, j < n → w.cell? ⟨b, o + j * 4, none⟩ = some (.int .i64 (f j).off) ∧ w.cell? ⟨b, o + j * 4 + 1, none⟩ = some (.int .i64 (f j).len) ∧ w.cell? ⟨b, o + j * 4 + 2, none⟩ = some (.int .i64 (f j).at') ∧ w.cell? ⟨b, o + j * 4 + 3, none⟩ = some (.string (f j).dig)
theorem PartsAt.below {w w1 : World} {m b o n : Nat} {f : Nat → PartR} (h : PartsAt w b o f n) (hb : b < m) (hl : Below m w w1) : PartsAt w1 b o f n := fun j hj =>
  have hj := h j hj
  ⟨(hl.cell (p := ⟨b, o + j * 4, none⟩) hb).trans hj.1, (hl.cell (p := ⟨b, o + j * 4 + 1, none⟩) hb).trans hj.2.1, (hl.cell (p := ⟨b, o + j * 4 + 2, none⟩) hb).trans hj.2.2.1, (hl.cell (p := ⟨b, o + j * 4 + 3, none⟩) hb).trans hj.2.2.2⟩

def isW (n : Int) : Bool := decide (0 ≤ n) && decide (n ≤ 65535)
theorem isW_yes {n : Int} (h : isW n = true) : 0 ≤ n ∧ n ≤ 65535 := by simpa [isW] using h
theorem isW_no {n : Int} (h : isW n = false) : ¬ (0 ≤ n ∧ n ≤ 65535) := by simpa [isW] using h
def isPart (p : PartR) : Bool := isW p.off && isW p.len && isW p.at' && decide (p.at' < p.len) && decide (p.dig.size = 8)

set_option maxHeartbeats 400000 in
theorem isWord_any (n : Int) (w : World) :
    Calls Tryz.prog 64 #[.int .i64 n] w fun e w' => e = .returned (.bool (isW n)) ∧ w' = w := by
  by_cases h0 : 0 ≤ n
  · by_cases h1 : n ≤ 65535
    · go_enter Tryz.func64, Tryz.ntmps64
      go_wp2
      go_ret
      exact ⟨by simp [isW, h0, h1], rfl⟩
    · go_enter Tryz.func64, Tryz.ntmps64
      go_wp2
      go_ret
      exact ⟨by simp [isW, h0, h1], rfl⟩
  · go_enter Tryz.func64, Tryz.ntmps64
    go_wp2
    go_ret
    exact ⟨by simp [isW]; omega, rfl⟩

/-- a list of parts as a value -/
def SeesParts (w : World) (v : Value) (n : Nat) (f : Nat → PartR) : Prop :=
  (n = 0 ∧ ∃ p cap, v = .slice p 0 cap) ∨ ∃ b o cap, v = .slice (some ⟨b, o, none⟩) n cap ∧ b < w.heap.size ∧ PartsAt w b o f n
/-- is it a manifest? -/
def isMan (v : Int) (n : Nat) (f : Nat → PartR) : Bool := isW v && decide (1 ≤ n) && decide (n ≤ 8) && (List.range n).all (fun j => isPart (f j))

theorem isMan_no_w {v : Int} {n : Nat} {f : Nat → PartR} (h : isW v = false) : isMan v n f = false := by simp [isMan, h]
theorem isMan_no_n {v : Int} {n : Nat} {f : Nat → PartR} (h : n = 0 ∨ 8 < n) : isMan v n f = false := by
  rcases h with rfl | h
  · simp [isMan]
  · simp [isMan, show ¬ n ≤ 8 by omega]
theorem isMan_no_p {v : Int} {n k : Nat} {f : Nat → PartR} (hk : k < n) (h : isPart (f k) = false) : isMan v n f = false := by
  have : (List.range n).all (fun j => isPart (f j)) = false := by
    rw [List.all_eq_false]
    exact ⟨k, List.mem_range.2 hk, by simp [h]⟩
  simp [isMan, this]
theorem isMan_yes {v : Int} {n : Nat} {f : Nat → PartR} (h : isW v = true) (h1 : 1 ≤ n) (h8 : n ≤ 8) (hp : ∀ j, j < n → isPart (f j) = true) : isMan v n f = true := by
  have : (List.range n).all (fun j => isPart (f j)) = true := by
    rw [List.all_eq_true]
    exact fun j hj => hp j (List.mem_range.1 hj)
  simp [isMan, this, h, h1, h8]

set_option maxHeartbeats 2000000 in
theorem proper_any (v : Int) (s : Value) (n : Nat) (f : Nat → PartR) (w : World) (hn : n ≤ 4611686018427387904) (hp : SeesParts w s n f) :
    Calls Tryz.prog 33 #[.agg #[.int .i64 v, s]] w fun e w' => e = .returned (.bool (isMan v n f)) ∧ Below w.heap.size w w' := by
  obtain ⟨p, cap, rfl⟩ : ∃ p cap, s = .slice p n cap := by
    rcases hp with ⟨rfl, p, cap, rfl⟩ | ⟨b, o, cap, rfl, _⟩ <;> exact ⟨_, _, rfl⟩
  have HP := hid hp
  clear hp
  by_cases hv : isW v = true
  · by_cases h0 : n = 0
    · subst h0
      go_enter Tryz.func33, Tryz.ntmps33
      go_wp2_with fail
      refine (isWord_any v _).mono ?_
      rintro e w1 ⟨rfl, rfl⟩
      rw [hv]
      go_wp2
      go_ret
      exact ⟨by rw [isMan_no_n (Or.inl rfl)]; rfl, (Below.refl _ _).alloc (Nat.le_refl _) _⟩
    · by_cases h8 : 8 < n
      · go_enter Tryz.func33, Tryz.ntmps33
        go_wp2_with fail
        refine (isWord_any v _).mono ?_
        rintro e w1 ⟨rfl, rfl⟩
        rw [hv]
        go_wp2
        go_ret
        exact ⟨by rw [isMan_no_n (Or.inr h8)]; rfl, (Below.refl _ _).alloc (Nat.le_refl _) _⟩
      · obtain ⟨b, o, rfl, hb, hP⟩ : ∃ b o, p = some ⟨b, o, none⟩ ∧ b < w.heap.size ∧ PartsAt w b o f n := by
          rcases HP.out with ⟨h, _⟩ | ⟨b, o, cap', e, h1, h2⟩
          · exact absurd h h0
          · injection e with e1 e2 e3
            exact ⟨b, o, e1, h1, h2⟩
        have HQ := hid hP
        have HV := hid hv
        clear hP HP
        go_enter Tryz.func33, Tryz.ntmps33
        go_wp2_with fail
        refine (isWord_any v _).mono ?_
        rintro e w1 ⟨rfl, rfl⟩
        rw [hv]
        clear hv
        have g0 : ((n : Int) == 0) = false := by simpa using h0
        have g8 : decide (8 < (n : Int)) = false := by simp; omega
        go_wp2
        clear g0 g8
        go_loopw [4] (fun i wr => ∃ k : Nat, k ≤ n ∧ i = .int .i64 k ∧ (∀ j, j < k → isPart (f j) = true) ∧ wr.cell? ⟨w.heap.size, 1, none⟩ = some (.slice (some ⟨b, o, none⟩) n cap) ∧ w.heap.size < wr.heap.size ∧ Below w.heap.size w wr) (fun i _ => n - (intOf i).toNat)
        case atStart => exact ⟨0, by omega, rfl, fun j hj => absurd hj (by omega), by simp [go_sem], by simp, (Below.refl _ _).alloc (Nat.le_refl _) _⟩
        case round =>
          obtain ⟨k, hk, rfl, hall, hm, hz, hbr⟩ := hrel
          have HA := hid hall
          have HBr := hid hbr
          clear hall hbr
          by_cases hlt : k < n
          · have hc := (HQ.out.below hb HBr.out) k hlt
            obtain ⟨c0, c1, c2, c3⟩ := hc
            have HN : Hid (isPart (f k) = false → isMan v n f = false) := fun h => isMan_no_p hlt h
            have HI : Hid (isPart (f k) = true → ∀ j, j < k + 1 → isPart (f j) = true) := fun h j hj => by
              rcases Nat.lt_succ_iff_lt_or_eq.1 hj with h1 | h1
              · exact HA.out j h1
              · rw [h1]; exact h
            clear HA
            generalize f k = q at *
            obtain ⟨qo, ql, qa, qd⟩ := q
            simp only at c0 c1 c2 c3
            go_wp2_with fail
            refine (isWord_any qo _).mono ?_
            rintro e w2 ⟨rfl, rfl⟩
            go_wp2_with fail
            refine (isWord_any ql _).mono ?_
            rintro e w2 ⟨rfl, rfl⟩
            go_wp2_with fail
            refine (isWord_any qa _).mono ?_
            rintro e w2 ⟨rfl, rfl⟩
            have HB2 := hid (HBr.out.alloc (by omega) (Obj.cells #[.int .i64 qo, .int .i64 ql, .int .i64 qa, .string qd] 43))
            clear c0 c1 c2 c3
            cases hA : isW qo
            · have hno := HN.out (by simp [isPart, hA])
              go_wp2
              go_ret
              exact ⟨by rw [hno]; rfl, HB2.out⟩
            cases hB : isW ql
            · have hno := HN.out (by simp [isPart, hB])
              go_wp2
              go_ret
              exact ⟨by rw [hno]; rfl, HB2.out⟩
            cases hC : isW qa
            · have hno := HN.out (by simp [isPart, hC])
              go_wp2
              go_ret
              exact ⟨by rw [hno]; rfl, HB2.out⟩
            by_cases hD : qa < ql
            · by_cases hE : qd.size = 8
              · have hyes := hid (HI.out (by simp [isPart, hA, hB, hC, hD, hE]))
                go_wp2
                go_roundw
                case rel => exact ⟨k + 1, by omega, by go_num, hyes.out, by simp [go_sem, hz, hm], by simp; omega, HB2.out⟩
                case measure => simp [intOf]; omega
              · have hno := HN.out (by simp [isPart, hE])
                have hE' : ((qd.size : Int) != 8) = true := by simp; omega
                go_wp2
                go_ret
                exact ⟨by rw [hno]; rfl, HB2.out⟩
            · have hno := HN.out (by simp [isPart, hD])
              go_wp2
              go_ret
              exact ⟨by rw [hno]; rfl, HB2.out⟩
          · obtain rfl : k = n := by omega
            go_wp2
            go_ret
            exact ⟨by rw [isMan_yes HV.out (by omega) (by omega) HA.out]; rfl, HBr.out⟩
  · have hv' : isW v = false := by simpa using hv
    go_enter Tryz.func33, Tryz.ntmps33
    go_wp2_with fail
    refine (isWord_any v _).mono ?_
    rintro e w1 ⟨rfl, rfl⟩
    rw [hv']
    go_wp2
    go_ret
    exact ⟨by rw [isMan_no_w hv']; rfl, (Below.refl _ _).alloc (Nat.le_refl _) _⟩

/-- the bytes of a word, of a part, of a manifest -/
def wordS (n : Int) : ByteArray := strOfNums [n % 256, n / 256]
def partS (p : PartR) : ByteArray := wordS p.off ++ wordS p.len ++ wordS p.at' ++ p.dig
def partsS (f : Nat → PartR) : Nat → ByteArray → ByteArray
  | 0, s => s
  | k + 1, s => partsS f k s ++ wordS (f k).off ++ wordS (f k).len ++ wordS (f k).at' ++ (f k).dig
def headS (v : Int) (n : Nat) : ByteArray := (⟨#[75, 83]⟩ : ByteArray) ++ wordS v ++ strOfNums [(n : Int)]
def manS (v : Int) (n : Nat) (f : Nat → PartR) : ByteArray := partsS f n (headS v n)
theorem wordS_size (n : Int) : (wordS n).size = 2 := by rw [wordS, strOfNums_size]; rfl
theorem headS_size (v : Int) (n : Nat) : (headS v n).size = 5 := by
  rw [headS, ByteArray.size_append, ByteArray.size_append, wordS_size, strOfNums_size]; rfl
theorem partsS_size (f : Nat → PartR) (s : ByteArray) : ∀ k, (∀ j, j < k → isPart (f j) = true) → (partsS f k s).size = s.size + 14 * k
  | 0, _ => rfl
  | k + 1, h => by
    have h8 : (f k).dig.size = 8 := by
      have := h k (by omega)
      simp only [isPart, Bool.and_eq_true, decide_eq_true_eq] at this
      exact this.2
    simp only [partsS, ByteArray.size_append, wordS_size, h8, partsS_size f s k (fun j hj => h j (by omega))]
    omega
theorem isMan_parts {v : Int} {n : Nat} {f : Nat → PartR} (h : isMan v n f = true) : (0 ≤ v ∧ v ≤ 65535) ∧ 1 ≤ n ∧ n ≤ 8 ∧ ∀ j, j < n → isPart (f j) = true := by
  simp only [isMan, Bool.and_eq_true, decide_eq_true_eq, List.all_eq_true] at h
  exact ⟨isW_yes h.1.1.1, h.1.1.2, h.1.2, fun j hj => h.2 j (List.mem_range.2 hj)⟩
theorem isPart_parts {p : PartR} (h : isPart p = true) : (0 ≤ p.off ∧ p.off ≤ 65535) ∧ (0 ≤ p.len ∧ p.len ≤ 65535) ∧ (0 ≤ p.at' ∧ p.at' ≤ 65535) ∧ p.at' < p.len ∧ p.dig.size = 8 := by
  simp only [isPart, Bool.and_eq_true, decide_eq_true_eq] at h
  exact ⟨isW_yes h.1.1.1.1, isW_yes h.1.1.1.2, isW_yes h.1.1.2, h.1.2, h.2⟩

theorem SeesParts.below {w w1 : World} {m n : Nat} {v : Value} {f : Nat → PartR} (h : SeesParts w v n f) (hm : w.heap.size ≤ m) (hl : Below m w w1) : SeesParts w1 v n f := by
  rcases h with h | ⟨b, o, cap, e, h1, h2⟩
  · exact Or.inl h
  · exact Or.inr ⟨b, o, cap, e, by have := hl.size; omega, h2.below (Nat.lt_of_lt_of_le h1 hm) hl⟩

/-- what Pack answers -/
def packV (v : Int) (n : Nat) (f : Nat → PartR) : Value := if isMan v n f = true then .tuple #[.string (manS v n f), .int .i64 0] else .tuple #[.string ⟨#[]⟩, .int .i64 1]
theorem packV_yes {v : Int} {n : Nat} {f : Nat → PartR} (h : isMan v n f = true) : packV v n f = .tuple #[.string (manS v n f), .int .i64 0] := if_pos h
theorem packV_no {v : Int} {n : Nat} {f : Nat → PartR} (h : isMan v n f = false) : packV v n f = .tuple #[.string ⟨#[]⟩, .int .i64 1] := if_neg (by simp [h])

set_option maxHeartbeats 2000000 in
theorem refpack_any (v : Int) (s : Value) (n : Nat) (f : Nat → PartR) (w : World) (hn : n ≤ 4611686018427387904) (hp : SeesParts w s n f) :
    Calls Tryz.prog 23 #[.agg #[.int .i64 v, s]] w fun e w' => e = .returned (packV v n f) ∧ Below w.heap.size w w' := by
  obtain ⟨p, cap, rfl⟩ : ∃ p cap, s = .slice p n cap := by
    rcases hp with ⟨rfl, p, cap, rfl⟩ | ⟨b, o, cap, rfl, _⟩ <;> exact ⟨_, _, rfl⟩
  have HP := hid hp
  clear hp
  go_enter Tryz.func23, Tryz.ntmps23
  go_wp2_with fail
  refine (proper_any v _ n f _ hn (HP.out.below (Nat.le_refl _) ((Below.refl _ _).alloc (Nat.le_refl _) _))).mono ?_
  rintro e w1 ⟨rfl, hb1⟩
  by_cases hM : isMan v n f = true
  · obtain ⟨hv, hn1, hn8, hall⟩ := isMan_parts hM
    obtain ⟨b, o, rfl, hb, hP⟩ : ∃ b o, p = some ⟨b, o, none⟩ ∧ b < w.heap.size ∧ PartsAt w b o f n := by
      rcases HP.out with ⟨h, _⟩ | ⟨b, o, cap', e, h1, h2⟩
      · omega
      · injection e with e1 e2 e3
        exact ⟨b, o, e1, h1, h2⟩
    rw [hM]
    have HM := hid hM
    have HA := hid hall
    have HQ := hid hP
    clear hM hall hP HP
    have hz1 : w.heap.size < w1.heap.size := by have := hb1.size; simp at this; omega
    have m0 : w1.cell? ⟨w.heap.size, 0, none⟩ = some (.int .i64 v) := (hb1.cell (p := ⟨w.heap.size, 0, none⟩) (by simp)).trans (by simp [go_sem])
    have m1 : w1.cell? ⟨w.heap.size, 1, none⟩ = some (.slice (some ⟨b, o, none⟩) n cap) := (hb1.cell (p := ⟨w.heap.size, 1, none⟩) (by simp)).trans (by simp [go_sem])
    have HB := hid (newB hb1)
    clear hb1
    have hss := strOfNums_size
    go_wp2_with fail
    go_region_held3 (fun w' => w'.cell? ⟨w.heap.size, 0, none⟩ = some (.int .i64 v) ∧ w'.cell? ⟨w.heap.size, 1, none⟩ = some (.slice (some ⟨b, o, none⟩) n cap) ∧ Below w1.heap.size w1 w')
      (first | (refine ⟨?_, ?_, (Below.refl _ _).drew⟩ <;> (simp [m0, m1]; done)) | (apply keepS2 (w0 := w1) (A := ⟨w.heap.size, 0, none⟩) (A' := ⟨w.heap.size, 1, none⟩) hz1 hz1; assumption; assumption))
      (first | (go_at_call 34; refine (word_any _ _ ⟨by omega, by omega⟩).mono ?_; rintro e w2 ⟨rfl, hb2⟩) | (go_at_call 35; refine (one_any _ _ ⟨by omega, by omega⟩).mono ?_; rintro e w2 ⟨rfl, hb2⟩))
    have hS : w2.cell? ⟨w.heap.size, 0, none⟩ = some (.int .i64 v) ∧ w2.cell? ⟨w.heap.size, 1, none⟩ = some (.slice (some ⟨b, o, none⟩) n cap) ∧ Below w1.heap.size w1 w2 := by assumption
    have HB2 : Hid (Below w.heap.size w w2) := HB.out.trans (hS.2.2.mono (by omega))
    have hz2 : w.heap.size < w2.heap.size := by have := hS.2.2.size; omega
    obtain ⟨_, k1, _⟩ := hS
    clear m0 m1 hz1 HB
    go_wp2
    go_loopw [5, 6] (fun a i wr => ∃ k : Nat, k ≤ n ∧ a = .string (partsS f k (headS v n)) ∧ i = .int .i64 k ∧ wr.cell? ⟨w.heap.size, 1, none⟩ = some (.slice (some ⟨b, o, none⟩) n cap) ∧ w.heap.size < wr.heap.size ∧ Below w.heap.size w wr) (fun _ i _ => n - (intOf i).toNat)
    case atStart => exact ⟨0, by omega, rfl, rfl, k1, hz2, HB2.out⟩
    case round =>
      clear HB2 k1 hz2
      obtain ⟨k, hk, rfl, rfl, hm, hz, hbr⟩ := hrel
      have HBr := hid hbr
      clear hbr
      by_cases hlt : k < n
      · obtain ⟨c0, c1, c2, c3⟩ := (HQ.out.below hb HBr.out) k hlt
        obtain ⟨b0, b1, b2, _, b4⟩ := isPart_parts (HA.out k hlt)
        have hs0 := partsS_size f (headS v n) k (fun j hj => HA.out j (by omega))
        rw [headS_size] at hs0
        have HS : Hid (partsS f (k + 1) (headS v n) = partsS f k (headS v n) ++ wordS (f k).off ++ wordS (f k).len ++ wordS (f k).at' ++ (f k).dig) := rfl
        generalize f k = q at *
        obtain ⟨qo, ql, qa, qd⟩ := q
        simp only at c0 c1 c2 c3 b0 b1 b2 b4 HS
        generalize partsS f k (headS v n) = t at *
        have hs1 : t.size = 5 ∨ t.size = 19 ∨ t.size = 33 ∨ t.size = 47 ∨ t.size = 61 ∨ t.size = 75 ∨ t.size = 89 ∨ t.size = 103 := by omega
        clear hs0
        rcases hs1 with h | h | h | h | h | h | h | h
        all_goals
          go_wp2
          go_region_held3 (fun w' => w'.cell? ⟨wr.heap.size, 0, none⟩ = some (.int .i64 qo) ∧ w'.cell? ⟨wr.heap.size, 1, none⟩ = some (.int .i64 ql) ∧ w'.cell? ⟨wr.heap.size, 2, none⟩ = some (.int .i64 qa) ∧ w'.cell? ⟨wr.heap.size, 3, none⟩ = some (.string qd) ∧ Below (wr.heap.size + 1) (wr.alloc (.cells #[.int .i64 qo, .int .i64 ql, .int .i64 qa, .string qd] 43)) w')
            (first | (refine ⟨?_, ?_, ?_, ?_, (Below.refl _ _).drew⟩ <;> (simp [go_sem]; done)) | (apply keepS4; assumption; assumption))
            (first | (go_at_call 34; refine (word_any _ _ ⟨by omega, by omega⟩).mono ?_; rintro e w3 ⟨rfl, hb3⟩))
          have hS : w3.cell? ⟨wr.heap.size, 0, none⟩ = some (.int .i64 qo) ∧ w3.cell? ⟨wr.heap.size, 1, none⟩ = some (.int .i64 ql) ∧ w3.cell? ⟨wr.heap.size, 2, none⟩ = some (.int .i64 qa) ∧ w3.cell? ⟨wr.heap.size, 3, none⟩ = some (.string qd) ∧ Below (wr.heap.size + 1) (wr.alloc (.cells #[.int .i64 qo, .int .i64 ql, .int .i64 qa, .string qd] 43)) w3 := by assumption
          have HM3 : Hid (w3.cell? ⟨w.heap.size, 1, none⟩ = some (.slice (some ⟨b, o, none⟩) n cap)) := (hS.2.2.2.2.cell (p := ⟨w.heap.size, 1, none⟩) (show w.heap.size < wr.heap.size + 1 by omega)).trans (by rw [World.cell?_alloc_lt _ _ _ hz]; exact hm)
          have HB3 : Hid (Below w.heap.size w w3) := (HBr.out.alloc (by omega) _).trans (hS.2.2.2.2.mono (by omega))
          have HZ3 : Hid (w.heap.size < w3.heap.size) := by have := hS.2.2.2.2.size; simp at this; show _ < _; omega
          clear hS c0 c1 c2 c3
          go_wp2
          go_roundw
          case rel => exact ⟨k + 1, by omega, by rw [HS.out]; rfl, by go_num, HM3.out, HZ3.out, HB3.out⟩
          case measure => simp [intOf]; omega
      · obtain rfl : k = n := by omega
        go_wp2
        go_ret2
        exact ⟨by rw [packV_yes HM.out]; rfl, HBr.out⟩
  · have hM' : isMan v n f = false := by simpa using hM
    rw [hM']
    have HB := hid (newB hb1)
    clear hb1
    go_wp2
    go_ret2
    exact ⟨by rw [packV_no hM']; rfl, HB.out⟩
end Go.Proofs.YthphojdnbfghmaaGreat
