import Derived.Test.YthphojdnbfghmaaMan
import Derived.Test.YthphojdnbfghmaaChain
namespace Go.Proofs.Ythphojdnbfghmaa
open Go.RowKit

/-- a part -/
structure PartR where
  off : Int
  len : Int
  at' : Int
  dig : ByteArray

/-- parts one behind the other in memory, from a place on -/
def PartsAt (w : World) (b o : Nat) (f : Nat → PartR) (n : Nat) : Prop :=
  ∀ j, j < n → w.cell? ⟨b, o + j * 4, none⟩ = some (.int .i64 (f j).off) ∧ w.cell? ⟨b, o + j * 4 + 1, none⟩ = some (.int .i64 (f j).len) ∧ w.cell? ⟨b, o + j * 4 + 2, none⟩ = some (.int .i64 (f j).at') ∧ w.cell? ⟨b, o + j * 4 + 3, none⟩ = some (.string (f j).dig)
theorem PartsAt.below {w w1 : World} {m b o n : Nat} {f : Nat → PartR} (h : PartsAt w b o f n) (hb : b < m) (hl : Below m w w1) : PartsAt w1 b o f n := fun j hj =>
  have hj := h j hj
  ⟨(hl.cell (p := ⟨b, o + j * 4, none⟩) hb).trans hj.1, (hl.cell (p := ⟨b, o + j * 4 + 1, none⟩) hb).trans hj.2.1, (hl.cell (p := ⟨b, o + j * 4 + 2, none⟩) hb).trans hj.2.2.1, (hl.cell (p := ⟨b, o + j * 4 + 3, none⟩) hb).trans hj.2.2.2⟩

def isW (n : Int) : Bool := decide (0 ≤ n) && decide (n ≤ 65535)
theorem isW_yes {n : Int} (h : isW n = true) : 0 ≤ n ∧ n ≤ 65535 := by simpa [isW] using h
theorem isW_no {n : Int} (h : isW n = false) : ¬ (0 ≤ n ∧ n ≤ 65535) := by simpa [isW] using h
def isPart (p : PartR) : Bool := isW p.off && isW p.len && isW p.at' && decide (p.at' < p.len) && decide (p.dig.size = 8)

/-- a list of parts as a value -/
def SeesParts (w : World) (v : Value) (n : Nat) (f : Nat → PartR) : Prop :=
  (n = 0 ∧ ∃ p cap, v = .slice p 0 cap) ∨ ∃ b o cap, v = .slice (some ⟨b, o, none⟩) n cap ∧ b < w.heap.size ∧ PartsAt w b o f n
/-- is it a manifest? -/
def isMan (v : Int) (n : Nat) (f : Nat → PartR) : Bool := isW v && decide (1 ≤ n) && decide (n ≤ 8) && (List.range n).all (fun j => isPart (f j))

theorem isMan_no_w {v : Int} {n : Nat} {f : Nat → PartR} (h : isW v = false) : isMan v n f = false := by simp [isMan, h]
theorem isMan_no_n {v : Int} {n : Nat} {f : Nat → PartR} (h : n = 0 ∨ 8 < n) : isMan v n f = false := by
  rcases h with rfl | h
  · simp [isMan]
  · simp [isMan, show ¬ n ≤ 8 by omega]
theorem isMan_no_p {v : Int} {n k : Nat} {f : Nat → PartR} (hk : k < n) (h : isPart (f k) = false) : isMan v n f = false := by
  have : (List.range n).all (fun j => isPart (f j)) = false := by
    rw [List.all_eq_false]
    exact ⟨k, List.mem_range.2 hk, by simp [h]⟩
  simp [isMan, this]
theorem isMan_yes {v : Int} {n : Nat} {f : Nat → PartR} (h : isW v = true) (h1 : 1 ≤ n) (h8 : n ≤ 8) (hp : ∀ j, j < n → isPart (f j) = true) : isMan v n f = true := by
  have : (List.range n).all (fun j => isPart (f j)) = true := by
    rw [List.all_eq_true]
    exact fun j hj => hp j (List.mem_range.1 hj)
  simp [isMan, this, h, h1, h8]

/-- the bytes of a word, of a part, of a manifest -/
def wordS (n : Int) : ByteArray := strOfNums [n % 256, n / 256]
def partS (p : PartR) : ByteArray := wordS p.off ++ wordS p.len ++ wordS p.at' ++ p.dig
def partsS (f : Nat → PartR) : Nat → ByteArray → ByteArray
  | 0, s => s
  | k + 1, s => partsS f k s ++ wordS (f k).off ++ wordS (f k).len ++ wordS (f k).at' ++ (f k).dig
def headS (v : Int) (n : Nat) : ByteArray := (⟨#[75, 83]⟩ : ByteArray) ++ wordS v ++ strOfNums [(n : Int)]
def manS (v : Int) (n : Nat) (f : Nat → PartR) : ByteArray := partsS f n (headS v n)
theorem wordS_size (n : Int) : (wordS n).size = 2 := by rw [wordS, strOfNums_size]; rfl
theorem headS_size (v : Int) (n : Nat) : (headS v n).size = 5 := by
  rw [headS, ByteArray.size_append, ByteArray.size_append, wordS_size, strOfNums_size]; rfl
theorem partsS_size (f : Nat → PartR) (s : ByteArray) : ∀ k, (∀ j, j < k → isPart (f j) = true) → (partsS f k s).size = s.size + 14 * k
  | 0, _ => rfl
  | k + 1, h => by
    have h8 : (f k).dig.size = 8 := by
      have := h k (by omega)
      simp only [isPart, Bool.and_eq_true, decide_eq_true_eq] at this
      exact this.2
    simp only [partsS, ByteArray.size_append, wordS_size, h8, partsS_size f s k (fun j hj => h j (by omega))]
    omega
theorem isMan_parts {v : Int} {n : Nat} {f : Nat → PartR} (h : isMan v n f = true) : (0 ≤ v ∧ v ≤ 65535) ∧ 1 ≤ n ∧ n ≤ 8 ∧ ∀ j, j < n → isPart (f j) = true := by
  simp only [isMan, Bool.and_eq_true, decide_eq_true_eq, List.all_eq_true] at h
  exact ⟨isW_yes h.1.1.1, h.1.1.2, h.1.2, fun j hj => h.2 j (List.mem_range.2 hj)⟩
theorem isPart_parts {p : PartR} (h : isPart p = true) : (0 ≤ p.off ∧ p.off ≤ 65535) ∧ (0 ≤ p.len ∧ p.len ≤ 65535) ∧ (0 ≤ p.at' ∧ p.at' ≤ 65535) ∧ p.at' < p.len ∧ p.dig.size = 8 := by
  simp only [isPart, Bool.and_eq_true, decide_eq_true_eq] at h
  exact ⟨isW_yes h.1.1.1.1, isW_yes h.1.1.1.2, isW_yes h.1.1.2, h.1.2, h.2⟩

theorem SeesParts.below {w w1 : World} {m n : Nat} {v : Value} {f : Nat → PartR} (h : SeesParts w v n f) (hm : w.heap.size ≤ m) (hl : Below m w w1) : SeesParts w1 v n f := by
  rcases h with h | ⟨b, o, cap, e, h1, h2⟩
  · exact Or.inl h
  · exact Or.inr ⟨b, o, cap, e, by have := hl.size; omega, h2.below (Nat.lt_of_lt_of_le h1 hm) hl⟩

/-- what Pack answers -/
def packV (v : Int) (n : Nat) (f : Nat → PartR) : Value := if isMan v n f = true then .tuple #[.string (manS v n f), .int .i64 0] else .tuple #[.string ⟨#[]⟩, .int .i64 1]
theorem packV_yes {v : Int} {n : Nat} {f : Nat → PartR} (h : isMan v n f = true) : packV v n f = .tuple #[.string (manS v n f), .int .i64 0] := if_pos h
theorem packV_no {v : Int} {n : Nat} {f : Nat → PartR} (h : isMan v n f = false) : packV v n f = .tuple #[.string ⟨#[]⟩, .int .i64 1] := if_neg (by simp [h])

end Go.Proofs.Ythphojdnbfghmaa
