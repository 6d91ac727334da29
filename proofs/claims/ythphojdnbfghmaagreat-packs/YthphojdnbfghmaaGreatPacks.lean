import Derived.Test.YthphojdnbfghmaaGreatStepU
import Derived.Test.YthphojdnbfghmaaGreatSigns
namespace Go.Proofs.YthphojdnbfghmaaGreat
open Go.RowKit

set_option maxHeartbeats 1000000 in
theorem step_pack (B : Nat) (hs : List HoldD) (on oc of ver : Int) (ob os ot ok : ByteArray) (ofa sv : Value) (om orw : Bool) (np : Nat) (f : Nat → PartR) (w : World) (I : Inv B w hs) (hlen : hs.length ≤ 8796093022208) (hnp : np * 40 ≤ 140737488351232) (hsv : SeesParts w sv np f) :
    Calls Tryz.prog 24 #[.pointer (some ⟨B, 0, none⟩), .agg #[.int .i64 5, .string ob, .string os, .string ot, .int .i64 on, .int .i64 oc, .int .i64 of, ofa, .int .i64 ver, sv, .bool om, .bool orw, .string ok]] w fun e w' => StepPost B hs w e w' := by
  have HI := hid I
  have HS := hid hsv
  have hB : B < w.heap.size := by obtain ⟨hv, h1, _⟩ := I.blk; exact blk_lt h1
  clear I hsv
  have HW := hid ((Below.refl w.heap.size w).alloc (Nat.le_refl _) (.cells #[.int .i64 5, .string ob, .string os, .string ot, .int .i64 on, .int .i64 oc, .int .i64 of, ofa, .int .i64 ver, sv, .bool om, .bool orw, .string ok] 61))
  go_enter Tryz.func24, Tryz.ntmps24
  go_wp2_with fail
  refine (packed_any B hs 5 on oc of ver ob os ot ok ofa sv om orw np f _ (HI.out.below HW.out) hlen hnp (HS.out.below (Nat.le_refl _) HW.out)).mono ?_
  rintro e w1 ⟨rfl, ⟨hs', h1, h2⟩, h3⟩
  have H1 : Hid (Inv B w1 hs' ∧ hs'.length ≤ hs.length + 4 ∧ Below B w w1) := ⟨h1, h2, (HW.out.mono (by omega)).trans h3⟩
  clear h1 h2 h3 HI HS HW
  go_wp2
  go_ret
  exact ⟨rfl, ⟨hs', H1.out.1, H1.out.2.1⟩, H1.out.2.2⟩

set_option maxHeartbeats 1000000 in
theorem step_unpack (B : Nat) (hs : List HoldD) (on oc of ver : Int) (ob os ot ok : ByteArray) (ofa sv : Value) (om orw : Bool) (w : World) (I : Inv B w hs) (hlen : hs.length ≤ 8796093022208) (hob : ob.size ≤ 140737488351232) :
    Calls Tryz.prog 24 #[.pointer (some ⟨B, 0, none⟩), .agg #[.int .i64 6, .string ob, .string os, .string ot, .int .i64 on, .int .i64 oc, .int .i64 of, ofa, .int .i64 ver, sv, .bool om, .bool orw, .string ok]] w fun e w' => StepPost B hs w e w' := by
  have HI := hid I
  have hB : B < w.heap.size := by obtain ⟨hv, h1, _⟩ := I.blk; exact blk_lt h1
  clear I
  have HW := hid ((Below.refl w.heap.size w).alloc (Nat.le_refl _) (.cells #[.int .i64 6, .string ob, .string os, .string ot, .int .i64 on, .int .i64 oc, .int .i64 of, ofa, .int .i64 ver, sv, .bool om, .bool orw, .string ok] 61))
  go_enter Tryz.func24, Tryz.ntmps24
  go_wp2_with fail
  refine (unpacked_any B hs 6 on oc of ver ob os ot ok ofa sv om orw _ (HI.out.below HW.out) hlen hob).mono ?_
  rintro e w1 ⟨rfl, ⟨hs', h1, h2⟩, h3⟩
  have H1 : Hid (Inv B w1 hs' ∧ hs'.length ≤ hs.length + 4 ∧ Below B w w1) := ⟨h1, h2, (HW.out.mono (by omega)).trans h3⟩
  clear h1 h2 h3 HI HW
  go_wp2
  go_ret
  exact ⟨rfl, ⟨hs', H1.out.1, H1.out.2.1⟩, H1.out.2.2⟩

/-- the parts of a step are seen -/
def PartsSeen (w : World) (o : OpV) : Prop := ∃ np f, SeesParts w o.parts np f ∧ np * 40 ≤ 140737488351232
theorem PartsSeen.below {w w' : World} {o : OpV} {m : Nat} (h : PartsSeen w o) (hm : w.heap.size ≤ m) (hb : Below m w w') : PartsSeen w' o := by
  obtain ⟨np, f, h1, h2⟩ := h
  exact ⟨np, f, h1.below hm hb, h2⟩
/-- what a step owes, lists kept -/
def StepOk2 (o : OpV) : Prop := ∀ (B : Nat) (hs : List HoldD) (W : World), Inv B W hs → hs.length ≤ 8796093022208 → PartsSeen W o →
  Calls Tryz.prog 24 #[.pointer (some ⟨B, 0, none⟩), .agg o.cells] W fun e w' => StepPost B hs W e w'
theorem stepPost_free {B : Nat} {hs : List HoldD} {W w' : World} {e : Ending} (I : Inv B W hs) (he : e = .returned (.bool true)) (hb : Below W.heap.size W w') : StepPost B hs W e w' :=
  ⟨he, ⟨hs, I.below hb, by omega⟩, hb.mono (by obtain ⟨hv, h1, _⟩ := I.blk; have := blk_lt h1; omega)⟩
theorem stepOk2_six (o : OpV) (h : o.ok) (h1 : 1 ≤ o.kind) (h6 : o.kind ≤ 6) : StepOk2 o := by
  intro B hs W I hlen ⟨np, f, hp, hnp⟩
  unfold OpV.cells
  rcases (show o.kind = 1 ∨ o.kind = 2 ∨ o.kind = 3 ∨ o.kind = 4 ∨ o.kind = 5 ∨ o.kind = 6 by omega) with hk | hk | hk | hk | hk | hk <;> rw [hk]
  · exact (step_digest _ _ _ _ _ _ _ _ _ _ _ _ B W h.1).mono fun e w' ⟨he, hb⟩ => stepPost_free I he hb
  · exact (step_key _ _ _ _ _ _ _ _ _ _ _ _ B W h.2.1).mono fun e w' ⟨he, hb⟩ => stepPost_free I he hb
  · by_cases hn : 0 ≤ o.n ∧ o.n ≤ 7
    · exact (step_sign_yes _ _ _ _ _ _ _ _ _ _ _ _ B W h.1 h.2.1 hn).mono fun e w' ⟨he, hb⟩ => stepPost_free I he hb
    · exact (step_sign_no _ _ _ _ _ _ _ _ _ _ _ _ B W h.1 (by omega)).mono fun e w' ⟨he, hb⟩ => stepPost_free I he hb
  · exact (step_verify _ _ _ _ _ _ _ _ _ _ _ _ B W h.1 h.2.1 h.2.2.1).mono fun e w' ⟨he, hb⟩ => stepPost_free I he hb
  · exact step_pack B hs _ _ _ _ _ _ _ _ _ _ _ _ np f W I hlen hnp hp
  · exact step_unpack B hs _ _ _ _ _ _ _ _ _ _ _ _ W I hlen h.1

set_option maxHeartbeats 1000000 in
theorem upto2_some (ops : List OpV) (least last : Int) (b off cap : Nat) (w : World) (hlen : ops.length ≤ 879609302200) (hb : b < w.heap.size) (hs : ScriptAt w b off ops) (hps : ∀ o ∈ ops, PartsSeen w o) (hst : ∀ o ∈ ops, least ≤ o.kind → o.kind ≤ last → StepOk2 o) :
    Calls Tryz.prog 12 #[.slice (some ⟨b, off, none⟩) ops.length cap, .int .i64 least, .int .i64 last] w fun e w' => e = .returned (.int .i64 (-1)) ∧ Below w.heap.size w w' := by
  have HS := hid hst
  have HPS := hid hps
  clear hst hps
  go_enter Tryz.func12, Tryz.ntmps12
  go_wp2
  go_loopw [8] (fun i wr => ∃ (k : Nat) (hs : List HoldD), k ≤ ops.length ∧ i = .int .i64 k ∧ Inv w.heap.size wr hs ∧ hs.length ≤ 4 * k ∧ Below w.heap.size w wr) (fun i _ => ops.length - (intOf i).toNat)
  case atStart => exact ⟨0, [], by omega, rfl, ⟨⟨.slice none 0 0, heap_alloc_new w _, World.ownsRow_nil _ _ _ _⟩, fun h hh => by cases hh⟩, by show 0 ≤ _; omega, (Below.refl _ _).alloc (Nat.le_refl _) _⟩
  case round =>
    obtain ⟨k, hds, hk, rfl, hI, hhl, hbr⟩ := hrel
    have HI := hid hI
    have HBr := hid hbr
    clear hI
    by_cases hlt : k < ops.length
    · have hcs : ∀ j, j < 13 → wr.cell? ⟨b, off + k * 13 + j, none⟩ = (ops[k]).cells[j]? := fun j hj => (hbr.cell (p := ⟨b, off + k * 13 + j, none⟩) hb).trans (hs k hlt j hj)
      have HC := hid hcs
      have c0 : wr.cell? ⟨b, off + k * 13, none⟩ = some (.int .i64 (ops[k]).kind) := hcs 0 (by omega)
      clear hcs hbr
      obtain ⟨o, ho⟩ : ∃ o, o = ops[k] := ⟨_, rfl⟩
      have hmem : o ∈ ops := by rw [ho]; exact List.getElem_mem hlt
      rw [← ho] at c0 HC
      have HM := hid hmem
      clear ho hmem
      obtain ⟨kind, hkind⟩ : ∃ x, x = o.kind := ⟨_, rfl⟩
      rw [← hkind] at c0
      have HK := hid hkind
      clear hkind
      by_cases hlo : kind < least
      · clear HC HM HK
        go_wp2
        go_roundw
        case rel => exact ⟨k + 1, hds, by omega, by go_num, HI.out, by omega, HBr.out⟩
        case measure => simp [intOf]; omega
      · by_cases hhi : last < kind
        · clear HC HM HK
          go_wp2
          go_roundw
          case rel => exact ⟨k + 1, hds, by omega, by go_num, HI.out, by omega, HBr.out⟩
          case measure => simp [intOf]; omega
        · have c1 := HC.out 1 (by omega)
          have c2 := HC.out 2 (by omega)
          have c3 := HC.out 3 (by omega)
          have c4 := HC.out 4 (by omega)
          have c5 := HC.out 5 (by omega)
          have c6 := HC.out 6 (by omega)
          have c7 := HC.out 7 (by omega)
          have c8 := HC.out 8 (by omega)
          have c9 := HC.out 9 (by omega)
          have c10 := HC.out 10 (by omega)
          have c11 := HC.out 11 (by omega)
          have c12 := HC.out 12 (by omega)
          simp only [OpV.cells, List.getElem?_toArray, List.getElem?_cons_succ, List.getElem?_cons_zero] at c1 c2 c3 c4 c5 c6 c7 c8 c9 c10 c11 c12
          go_wp2_with fail
          have hst := HS.out o HM.out (by rw [← HK.out]; exact hlo) (by rw [← HK.out]; exact hhi) w.heap.size hds wr HI.out (by omega) ((HPS.out o HM.out).below (Nat.le_refl _) HBr.out)
          unfold OpV.cells at hst
          rw [← HK.out] at hst
          refine hst.mono ?_
          rintro e w1 ⟨rfl, ⟨hds', hI1, hl1⟩, hb1⟩
          have HI1 := hid hI1
          have HB : Hid (Below w.heap.size w w1) := HBr.out.trans hb1
          clear hst hb1 hI1 HI HBr c0 c1 c2 c3 c4 c5 c6 c7 c8 c9 c10 c11 c12 HC HM HK
          go_wp2_with fail
          refine (looks_any _ hds' _ HI1.out (by omega)).mono ?_
          rintro e w2 ⟨rfl, nd, rfl⟩
          have HI2 : Hid (Inv w.heap.size (w1.drewN nd) hds') := HI1.out.below (below_drewN (Below.refl _ _) nd)
          have HB2 : Hid (Below w.heap.size w (w1.drewN nd)) := below_drewN HB.out nd
          clear HI1 HB
          go_wp2
          go_roundw
          case rel => exact ⟨k + 1, hds', by omega, by go_num, HI2.out, by omega, HB2.out⟩
          case measure => simp [intOf]; omega
    · obtain rfl : k = ops.length := by omega
      go_wp2
      go_ret
      exact ⟨rfl, HBr.out⟩
end Go.Proofs.YthphojdnbfghmaaGreat
