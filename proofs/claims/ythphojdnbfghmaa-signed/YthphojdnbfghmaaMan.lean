import Derived.Test.YthphojdnbfghmaaText
import Derived.Test.YthphojdnbfghmaaLent
import Derived.Deep.RegionHeld3
namespace Go.Proofs.Ythphojdnbfghmaa
open Go.RowKit

theorem conv2 (b : Nat) (m n : Int) (w : World) (hb : b = w.heap.size) : (convert 22 9 (.slice (some ⟨b, 0, none⟩) 2 2)).run Try.prog (w.alloc (.cells #[.int .u8 m, .int .u8 n] 5)) = .ok (.string (strOfNums [m, n])) (w.alloc (.cells #[.int .u8 m, .int .u8 n] 5)) := by
  subst hb
  refine run_convert_bytes_arg _ 22 5 Try.underlying22 Try.underlying5 _ 0 2 2 [m, n] rfl ?_ 9 Try.underlying9
  intro i hi
  match i, hi with
  | 0, _ => simp [go_sem]
  | 1, _ => simp [go_sem]

theorem keepB {w0 W w2 : World} (h : Below w0.heap.size w0 W) (hb : Below W.heap.size W w2) : Below w0.heap.size w0 w2 := h.trans (hb.mono h.size)

/-- two cells and all that was there: kept behind a call that only makes memory -/
theorem keepS2 {w0 W w2 : World} {A A' : Addr} {a a' : Value} (hA : A.block < w0.heap.size) (hA' : A'.block < w0.heap.size) (hh : W.cell? A = some a ∧ W.cell? A' = some a' ∧ Below w0.heap.size w0 W) (hb : Below W.heap.size W w2) :
    w2.cell? A = some a ∧ w2.cell? A' = some a' ∧ Below w0.heap.size w0 w2 :=
  have h := hh.2.2.size
  ⟨(hb.cell (p := A) (by omega)).trans hh.1, (hb.cell (p := A') (by omega)).trans hh.2.1, keepB hh.2.2 hb⟩

theorem keepS4 {w0 W w2 : World} {B : Nat} {a0 a1 a2 a3 : Value} (hh : W.cell? ⟨B, 0, none⟩ = some a0 ∧ W.cell? ⟨B, 1, none⟩ = some a1 ∧ W.cell? ⟨B, 2, none⟩ = some a2 ∧ W.cell? ⟨B, 3, none⟩ = some a3 ∧ Below (B + 1) w0 W) (hb : Below W.heap.size W w2) :
    w2.cell? ⟨B, 0, none⟩ = some a0 ∧ w2.cell? ⟨B, 1, none⟩ = some a1 ∧ w2.cell? ⟨B, 2, none⟩ = some a2 ∧ w2.cell? ⟨B, 3, none⟩ = some a3 ∧ Below (B + 1) w0 w2 :=
  have h : B < W.heap.size := World.block_lt_of_cell? W ⟨B, 0, none⟩ hh.1
  ⟨(hb.cell (p := ⟨B, 0, none⟩) h).trans hh.1, (hb.cell (p := ⟨B, 1, none⟩) h).trans hh.2.1, (hb.cell (p := ⟨B, 2, none⟩) h).trans hh.2.2.1, (hb.cell (p := ⟨B, 3, none⟩) h).trans hh.2.2.2.1, hh.2.2.2.2.trans (hb.mono h)⟩

end Go.Proofs.Ythphojdnbfghmaa
