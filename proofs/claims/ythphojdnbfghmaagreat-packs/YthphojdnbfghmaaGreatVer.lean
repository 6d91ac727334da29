import Derived.Test.YthphojdnbfghmaaGreatSig
namespace Go.Proofs.YthphojdnbfghmaaGreat
open Go.RowKit

/-- piece i of a signature -/
def piece (t : ByteArray) (i : Nat) : ByteArray := t.extract (1 + i * 8) (1 + i * 8 + 8)
theorem piece_size (t : ByteArray) (i : Nat) (ht : t.size = 169) (hi : i < 21) : (piece t i).size = 8 := by
  unfold piece
  rw [ByteArray.size_extract]
  omega

set_option maxHeartbeats 1000000 in
theorem piece_any (t : ByteArray) (i : Int) (w : World) (ht : t.size = 169) (hi : 0 ≤ i ∧ i ≤ 20) :
    Calls Tryz.prog 104 #[.string t, .int .i64 i] w fun e w' => e = .returned (.string (piece t i.toNat)) ∧ w' = w := by
  obtain ⟨k, rfl⟩ : ∃ k : Nat, i = (k : Int) := ⟨i.toNat, by omega⟩
  go_enter Tryz.func104, Tryz.ntmps104
  go_wp2
  go_ret
  exact ⟨rfl, rfl⟩

/-- the ends to which a signature's links lead -/
def vends (t : ByteArray) (leaf : Int) (d : ByteArray) (n : Nat) : List ByteArray := (List.range n).map fun (c : Nat) => walkN leaf (c : Int) (piece t c) (dgt d c) (15 - dgt d c).toNat
theorem vends_succ (t : ByteArray) (leaf : Int) (d : ByteArray) (n : Nat) : vends t leaf d (n + 1) = vends t leaf d n ++ [walkN leaf (n : Int) (piece t n) (dgt d n) (15 - dgt d n).toNat] := by
  simp [vends, List.range_succ]
/-- the node to which a signature leads, k levels up -/
def vnode (t : ByteArray) (leaf : Int) (d : ByteArray) : Nat → ByteArray
  | 0 => leafN leaf (vends t leaf d 18)
  | k + 1 => aboveAt (up leaf k) (vnode t leaf d k) (piece t (18 + k))
/-- the first byte -/
def lead (t : ByteArray) : Int := dby t 0
/-- the key to which a signature leads -/
def vkey (l : List UInt8) (t : ByteArray) : ByteArray := vnode t (lead t) (dd (lead t) l) 3

theorem size_int (w : World) : (Go.sizeOf 3).run Tryz.prog w = .ok 1 w := by
  have h : (Tryz.prog.info? 3).map (·.size) = some 1 := by kernel_rfl
  obtain ⟨i, hi, h⟩ := Option.map_eq_some_iff.1 h
  simp [Go.sizeOf, typeInfo, hi, h]
theorem ints_get (f : Nat → Int) (n k : Nat) (hk : k < n) : (ints f n)[k]? = some (.int .i64 (f k)) := by
  simp [ints, hk]
theorem index_digits (f : Nat → Int) (k : Nat) (hk : k < 18) (w : World) : (Instr.index 170 (.agg (ints f 18).toArray) (.int .i64 (k : Int))).run Tryz.prog w = .ok (.int .i64 (f k)) w := by
  have hg := ints_get f 18 k hk
  simp [Instr.index, run_underlying Tryz.underlying170, asIntOf, hk, part, isAgg, run_underlying Tryz.underlying3, hg]

theorem strs_one (e : List ByteArray) : ∀ v ∈ strs e, v.oneCell' = true := by
  intro v hv
  obtain ⟨j, _, rfl⟩ := List.mem_map.1 hv
  rfl
theorem strs_size (e : List ByteArray) : (strs e).toArray.size = e.length := by simp [strs]
theorem StrRow.other {w : World} {B n : Nat} {f : Nat → ByteArray} (h : StrRow w B n f) (a : Addr) (v : Value) (ha : a.block ≠ B) : StrRow (w.setCell a v) B n f :=
  ⟨fun j hj => by rw [World.cell?_setCell_other _ _ _ _ (fun e => ha (by rw [e]))]; exact h.1 j hj, fun j => by rw [World.frozen?_setCell]; exact h.2.1 j, by simpa using h.2.2.1, lab_set _ _ h.2.2.2⟩
theorem StrRow.there {w : World} {B n : Nat} {f : Nat → ByteArray} (h : StrRow w B n f) : w.there B 0 n := by
  intro j hj
  rw [Nat.zero_add, h.1 j hj]
  exact ⟨rfl, h.2.1 j⟩
/-- a result that lies in memory: a row of strings -/
theorem results_strs {fn : Func} {p : Tmp} {ty : TypeId} (hfn : fn.results = #[.cell p ty]) (tmps : Array Value) (w : World) (B : Nat) (e : List ByteArray) (hp : tmps[p]?.getD undef = .pointer (some ⟨B, 0, none⟩)) (h : w.rangeAt B 0 (strs e))
    (t : TypeId) (hu : Tryz.prog.underlying ty = some (.array 18 t)) (hi : (Tryz.prog.info? ty).map (·.size) = some (strs e).length) : (results fn tmps).run Tryz.prog w = .ok (.agg (strs e).toArray) w := by
  have hl := run_loadVar_mid (P := Tryz.prog) w B 0 ty (strs e) _ h hu rfl hi
  simp [results, hfn, hp, hl, asAddr]

set_option maxHeartbeats 2000000 in
theorem reckonEnds_any (leaf : Int) (v : Value) (l : List UInt8) (t : ByteArray) (w : World) (hl : 0 ≤ leaf ∧ leaf ≤ 255) (hll : l.length ≤ 4611686018427387904) (hs : SeesBytes w v l) (ht : t.size = 169) :
    Calls Tryz.prog 102 #[.int .u8 leaf, v, .string t] w fun e w' => e = .returned (.agg (strs (vends t leaf (dd leaf l) 18)).toArray) ∧ Below w.heap.size w w' := by
  obtain ⟨d, hd⟩ : ∃ d, d = dd leaf l := ⟨_, rfl⟩
  go_enter Tryz.func102, Tryz.ntmps102
  go_wp2_with fail
  obtain ⟨C, hC⟩ : ∃ C : Array Value, C = #[.string ⟨#[]⟩, .string ⟨#[]⟩, .string ⟨#[]⟩, .string ⟨#[]⟩, .string ⟨#[]⟩, .string ⟨#[]⟩, .string ⟨#[]⟩, .string ⟨#[]⟩, .string ⟨#[]⟩, .string ⟨#[]⟩, .string ⟨#[]⟩, .string ⟨#[]⟩, .string ⟨#[]⟩, .string ⟨#[]⟩, .string ⟨#[]⟩, .string ⟨#[]⟩, .string ⟨#[]⟩, .string ⟨#[]⟩] := ⟨_, rfl⟩
  rw [← hC]
  have hR := (new_row w 157 C 18 (fun c => walkN leaf (c : Int) (piece t c) (dgt d c) (15 - dgt d c).toNat) hC (by decide)).below ((Below.refl _ _).alloc (Nat.le_refl _) (Obj.cells C 157))
  have hQ := new_row (w.alloc (Obj.cells C 157)) 157 C 18 (fun c => walkN leaf (c : Int) (piece t c) (dgt d c) (15 - dgt d c).toNat) hC (by decide)
  rw [World.size_alloc] at hQ
  clear hC
  refine (digitsOf_any leaf v l _ hl hll ((hs.alloc _).alloc _)).mono ?_
  rintro e w1 ⟨rfl, hb1⟩
  rw [← hd]
  have HD := hid hd
  clear hd
  have hR1 := hR.below hb1
  have hQ1 := hQ.below hb1
  have HB1 := hid (newB (newB hb1))
  clear hb1 hR hQ hs
  go_wp2
  go_loopw [13] (fun i wr => ∃ k : Nat, k ≤ 18 ∧ i = .int .i64 k ∧ StrRow wr w.heap.size 18 (fill (fun c => walkN leaf (c : Int) (piece t c) (dgt d c) (15 - dgt d c).toNat) 0) ∧ StrRow wr (w.heap.size + 1) 18 (fill (fun c => walkN leaf (c : Int) (piece t c) (dgt d c) (15 - dgt d c).toNat) k) ∧ Below w.heap.size w wr) (fun i _ => 18 - (intOf i).toNat)
  case atStart => exact ⟨0, by omega, rfl, hR1, hQ1, HB1.out⟩
  case round =>
    clear hR1 hQ1
    obtain ⟨k, hk, rfl, hR0, hRr, hbr⟩ := hrel
    by_cases hlt : k < 18
    · have hidx := index_digits (dgt d) k hlt
      have hdb := dgt_bd d k
      have hp8 := piece_size t k ht (by omega)
      obtain ⟨g, hg⟩ : ∃ g, g = dgt d k := ⟨_, rfl⟩
      rw [← hg] at hidx hdb
      have HG := hid hg
      clear hg
      go_wp2_with fail
      refine (piece_any t _ _ ht ⟨by omega, by omega⟩).mono ?_
      rintro e w2 ⟨rfl, rfl⟩
      go_wp2_with fail
      refine (walk_any _ leaf _ g 15 _ (by simp [hp8]) hl ⟨by omega, by omega⟩ hdb.1 hdb.2 (by omega)).mono ?_
      rintro e w3 ⟨rfl, hb3⟩
      have hR3 := hRr.below hb3
      have hR03 := hR0.below hb3
      have c0 := hR3.1 k hlt
      have f0 := hR3.2.1 k
      have HB3 := hid (keepB hbr hb3)
      have HP : Hid (StrRow (w3.setCell ⟨w.heap.size + 1, k, none⟩ (.string (walkN leaf (k : Int) (piece t k) g (15 - g).toNat))) (w.heap.size + 1) 18 (fill (fun c => walkN leaf (c : Int) (piece t c) (dgt d c) (15 - dgt d c).toNat) (k + 1))) := by
        rw [HG.out]; exact hR3.put hlt
      have HP0 := hid hR03
      clear hb3 hbr hRr hR0 hidx hR3 hR03
      generalize fill (fun c => walkN leaf (c : Int) (piece t c) (dgt d c) (15 - dgt d c).toNat) k k = old at c0
      go_wp2
      go_roundw
      case rel => exact ⟨k + 1, by omega, by go_num, HP0.out.other _ _ (by simp), HP.out, HB3.out.setCell (by simp) _⟩
      case measure => simp [intOf]; omega
    · obtain rfl : k = 18 := by omega
      have hr := hRr.range
      have HE : Hid ((List.range 18).map (fill (fun c => walkN leaf (c : Int) (piece t c) (dgt d c) (15 - dgt d c).toNat) 18) = vends t leaf d 18) := by
        refine List.map_congr_left fun j hj => ?_
        exact fill_all _ _ _ (List.mem_range.1 hj)
      rw [HE.out] at hr
      have h18 : (vends t leaf d 18).length = 18 := by simp [vends]
      have H18 := hid h18
      have HI : Hid ((Tryz.prog.info? 157).map (·.size) = some (strs (vends t leaf d 18)).length) := by rw [strs_length, h18]; exact info_ends
      have HI2 : Hid ((Tryz.prog.info? 157).map (·.size) = some (strs (vends t leaf d 18)).toArray.size) := by rw [strs_size, h18]; exact info_ends
      have HT : Hid (wr.there w.heap.size 0 (strs (vends t leaf d 18)).toArray.size) := by rw [strs_size, h18]; exact hR0.there
      have HF : Hid ((wr.setCells w.heap.size 0 (strs (vends t leaf d 18))).rangeAt w.heap.size 0 (strs (vends t leaf d 18))) := World.rangeAt_setCells_same _ _ _ _ (by rw [strs_length, h18]; exact hR0.there)
      have HBr := hid hbr
      clear hR0 hRr h18 hbr
      go_wp2_with (first | (refine wpList_load_mid rfl 157 _ rfl (w.heap.size + 1) 0 (by rfl) (strs (vends t leaf d 18)) _ (by exact hr) Tryz.underlying157 rfl HI.out ?_) | (refine wpList_store_mid rfl 157 _ _ rfl w.heap.size 0 (strs (vends t leaf d 18)).toArray (by rfl) (by rfl) (by exact HT.out) HI2.out (all_oneCell_toArray (strs_one _)) ?_))
      refine bodyPost_ret (v := .agg (strs (vends t leaf d 18)).toArray) (results_strs Tryz.results102 _ _ w.heap.size _ rfl HF.out _ Tryz.underlying157 HI.out) rfl ⟨by rw [HD.out], ?_⟩
      exact below_setCells (Nat.le_refl _) _ _ _ HBr.out
end Go.Proofs.YthphojdnbfghmaaGreat
