import Derived.Test.YthphojdnbfghmaaRefPack
import Derived.Test.YthphojdnbfghmaaVer2
namespace Go.Proofs.Ythphojdnbfghmaa
open Go.RowKit

/-- the number of a word at a place -/
def numAt (s : ByteArray) (a : Nat) : Int := dby s a + 256 * dby s (a + 1)
theorem numAt_bd (s : ByteArray) (a : Nat) : 0 ≤ numAt s a ∧ numAt s a ≤ 65535 := by
  have h0 := dby_bd s a
  have h1 := dby_bd s (a + 1)
  unfold numAt
  omega

/-- a manifest's head is there, and room for its parts -/
def cnt (s : ByteArray) : Nat := (dby s 4).toNat
def headOk (s : ByteArray) : Bool := decide (5 ≤ s.size) && ((s.extract 0 2).toList == [75, 83]) && decide (1 ≤ cnt s) && decide (cnt s ≤ 8) && decide (5 + 14 * cnt s ≤ s.size)
def partOf (s : ByteArray) (i : Nat) : PartR := ⟨numAt s (5 + 14 * i), numAt s (5 + 14 * i + 2), numAt s (5 + 14 * i + 4), s.extract (5 + 14 * i + 6) (5 + 14 * i + 14)⟩
def hasMan (s : ByteArray) : Bool := headOk s && (List.range (cnt s)).all (fun j => decide ((partOf s j).at' < (partOf s j).len))
def unpackNo : Value := .tuple #[.agg #[.int .i64 0, .slice none 0 0], .int .i64 0, .int .i64 1]

theorem results_man {fn : Func} (hfn : fn.results = #[.cell 2 34, .tmp 3, .tmp 4]) (tmps : Array Value) (w : World) (B : Nat) (a b c d : Value) (hp : tmps[2]?.getD undef = .pointer (some ⟨B, 0, none⟩)) (hc : tmps[3]?.getD undef = c) (hd : tmps[4]?.getD undef = d)
    (h : w.rangeAt B 0 [a, b]) : (results fn tmps).run Try.prog w = .ok (.tuple #[.agg #[a, b], c, d]) w := by
  have hl := run_loadVar_mid (P := Try.prog) w B 0 34 [a, b] _ h Try.underlying34 rfl (by kernel_rfl)
  simp [results, hfn, hp, hc, hd, hl, asAddr]

end Go.Proofs.Ythphojdnbfghmaa
