import Derived.Test.YthphojdnbfghmaaGreatDigits2
namespace Go.Proofs.YthphojdnbfghmaaGreat
open Go.RowKit

/-- the one beside -/
def sib (n : Int) : Int := if n % 2 = 1 then n - 1 else n + 1
/-- a leaf's place, k levels up -/
def up (leaf : Int) : Nat → Int
  | 0 => leaf
  | k + 1 => up leaf k / 2
theorem up_bd (leaf : Int) (h : 0 ≤ leaf ∧ leaf ≤ 7) : ∀ k, 0 ≤ up leaf k ∧ up leaf k ≤ 7
  | 0 => h
  | k + 1 => by have := up_bd leaf h k; simp only [up]; omega
/-- the nodes beside, up to k levels -/
def path (seed : ByteArray) (leaf : Int) : Nat → List ByteArray
  | 0 => []
  | k + 1 => path seed leaf k ++ [nod seed k (sib (up leaf k))]
/-- the links of a signature -/
def links (seed : ByteArray) (leaf : Int) (d : ByteArray) (n : Nat) : List ByteArray := (List.range n).map fun (c : Nat) => lnk seed leaf (c : Int) (dgt d c).toNat
theorem links_succ (seed : ByteArray) (leaf : Int) (d : ByteArray) (n : Nat) : links seed leaf d (n + 1) = links seed leaf d n ++ [lnk seed leaf (n : Int) (dgt d n).toNat] := by
  simp [links, List.range_succ]
/-- a signature's bytes -/
def signL (seed : ByteArray) (leaf : Int) (l : List UInt8) : List UInt8 := [byt leaf] ++ lss (links seed leaf (dd leaf l) 18) ++ lss (path seed leaf 3)
def signOf (seed : ByteArray) (leaf : Int) (l : List UInt8) : ByteArray := ⟨(signL seed leaf l).toArray⟩
theorem ls_signOf (seed : ByteArray) (leaf : Int) (l : List UInt8) : ls (signOf seed leaf l) = signL seed leaf l := rfl
theorem signOf_of {s : ByteArray} {seed : ByteArray} {leaf : Int} {l : List UInt8} (h : ls s = signL seed leaf l) : s = signOf seed leaf l := ls_inj (h.trans (ls_signOf _ _ _).symm)
theorem links_size (seed : ByteArray) (leaf : Int) (d : ByteArray) (n : Nat) : ∀ s ∈ links seed leaf d n, s.size = 8 := by
  intro s hs
  obtain ⟨c, _, rfl⟩ := List.mem_map.1 hs
  exact lnk_size _ _ _ _
theorem path_size (seed : ByteArray) (leaf : Int) : ∀ k, ∀ s ∈ path seed leaf k, s.size = 8
  | 0, s, hs => by simp [path] at hs
  | k + 1, s, hs => by
    simp only [path, List.mem_append, List.mem_singleton] at hs
    rcases hs with hs | rfl
    · exact path_size seed leaf k s hs
    · exact nod_size _ _ _
theorem path_len (seed : ByteArray) (leaf : Int) : ∀ k, (path seed leaf k).length = k
  | 0 => rfl
  | k + 1 => by simp [path, path_len seed leaf k]
theorem signOf_size (seed : ByteArray) (leaf : Int) (l : List UInt8) : (signOf seed leaf l).size = 169 := by
  rw [← ls_length, ls_signOf, signL, List.length_append, List.length_append, lss_length _ 18 (by simp [links]) (links_size _ _ _ _), lss_length _ 3 (path_len _ _ _) (path_size _ _ _)]
  rfl

set_option maxHeartbeats 1000000 in
theorem refsign_no (seed : ByteArray) (leaf : Int) (b : ByteArray) (w : World) (hl : leaf < 0 ∨ 7 < leaf) :
    Calls Tryz.prog 39 #[.string seed, .int .i64 leaf, .string b] w fun e w' => e = .returned (.tuple #[.string ⟨#[]⟩, .int .i64 7]) ∧ Below w.heap.size w w' := by
  rcases hl with hl | hl
  · go_enter Tryz.func39, Tryz.ntmps39
    go_wp2_with fail
    go_ret2
    exact ⟨rfl, Below.refl _ _⟩
  · have h2 : ¬ leaf < 0 := by omega
    go_enter Tryz.func39, Tryz.ntmps39
    go_wp2_with fail
    go_ret2
    exact ⟨rfl, Below.refl _ _⟩

set_option maxHeartbeats 2000000 in
theorem refsign_yes (seed : ByteArray) (leaf : Int) (b : ByteArray) (w : World) (hs : seed.size ≤ 4611686018427387904) (hb : b.size ≤ 4611686018427387904) (hl : 0 ≤ leaf ∧ leaf ≤ 7) :
    Calls Tryz.prog 39 #[.string seed, .int .i64 leaf, .string b] w fun e w' => e = .returned (.tuple #[.string (signOf seed leaf (ls b)), .int .i64 0]) ∧ Below w.heap.size w w' := by
  have hss := strOfNums_size
  obtain ⟨d, hd⟩ : ∃ d, d = dd leaf (ls b) := ⟨_, rfl⟩
  go_enter Tryz.func39, Tryz.ntmps39
  go_wp2_with fail
  refine (refdigits_any leaf b _ ⟨hl.1, by omega⟩ hb).mono ?_
  rintro e w1 ⟨rfl, hb1⟩
  rw [← hd]
  have HD := hid hd
  clear hd
  obtain ⟨C, hC⟩ : ∃ C : Array Value, C = #[Value.int IntKind.i64 0, Value.int IntKind.i64 0, Value.int IntKind.i64 0, Value.int IntKind.i64 0, Value.int IntKind.i64 0, Value.int IntKind.i64 0, Value.int IntKind.i64 0, Value.int IntKind.i64 0, Value.int IntKind.i64 0, Value.int IntKind.i64 0, Value.int IntKind.i64 0, Value.int IntKind.i64 0, Value.int IntKind.i64 0, Value.int IntKind.i64 0, Value.int IntKind.i64 0, Value.int IntKind.i64 0, Value.int IntKind.i64 0, Value.int IntKind.i64 0] := ⟨_, rfl⟩
  have hN := new_ints w1 100 C 18 (dgt d) hC
  have HT := hid ((ints_size (dgt d) 18).symm ▸ hN.there)
  have HI : Hid ((Tryz.prog.info? 100).map (·.size) = some (ints (dgt d) 18).toArray.size) := by rw [ints_size]; exact info_18
  have HR := hid (hN.stored (g := dgt d))
  have HB : Hid (Below w.heap.size w ((w1.alloc (.cells C 100)).setCells w1.heap.size 0 (ints (dgt d) 18))) := below_setCells (by have := hb1.size; omega) _ _ _ (hb1.alloc hb1.size _)
  rw [hC] at HT HR HB
  clear hN hC hb1
  go_wp2_with (refine wpList_store_mid rfl 100 _ _ rfl w1.heap.size 0 (ints (dgt d) 18).toArray (by rfl) (by rfl) (by exact HT.out) HI.out (all_oneCell_toArray (ints_one _ _)) ?_)
  refine (one_any leaf _ ⟨hl.1, by omega⟩).mono ?_
  rintro e w2 ⟨rfl, hb2⟩
  have hR2 := HR.out.below hb2
  have HB2 := hid (keepB HB.out hb2)
  clear hb2 HR HB HT HI
  go_wp2
  go_loopw [9, 10] (fun a i wr => ∃ (k : Nat) (s : ByteArray), k ≤ 18 ∧ i = .int .i64 k ∧ a = .string s ∧ s.size = 1 + 8 * k ∧ ls s = [byt leaf] ++ lss (links seed leaf d k) ∧ IntRow wr w1.heap.size 18 (dgt d) ∧ Below w.heap.size w wr) (fun _ i _ => 18 - (intOf i).toNat)
  case atStart => exact ⟨0, _, by omega, rfl, rfl, by simp [strOfNums_size], rfl, hR2, HB2.out⟩
  case round =>
    clear hR2
    obtain ⟨k, s, hk, rfl, rfl, hsz, hls, hRr, hbr⟩ := hrel
    have HL := hid hls
    clear hls
    by_cases hlt : k < 18
    · have c0 := hRr.1 k hlt
      have hdb := dgt_bd d k
      have HX : Hid (links seed leaf d (k + 1) = links seed leaf d k ++ [lnk seed leaf (k : Int) (dgt d k).toNat]) := links_succ _ _ _ _
      obtain ⟨m, hm⟩ : ∃ m : Nat, dgt d k = (m : Int) := ⟨(dgt d k).toNat, by omega⟩
      rw [hm] at c0 HX hdb
      clear hm
      go_wp2_with fail
      refine (reflink_any m seed leaf _ _ hs ⟨hl.1, by omega⟩ ⟨by omega, by omega⟩ (by omega)).mono ?_
      rintro e w3 ⟨rfl, hb3⟩
      obtain ⟨x, hx⟩ : ∃ x, x = lnk seed leaf (k : Int) m := ⟨_, rfl⟩
      have hx8 : x.size = 8 := by rw [hx]; exact lnk_size _ _ _ _
      have HX' : Hid (links seed leaf d (k + 1) = links seed leaf d k ++ [x]) := by rw [hx]; exact HX.out
      rw [← hx]
      clear hx HX c0
      have hR3 := hRr.below hb3
      have HB3 := hid (keepB hbr hb3)
      clear hb3 hbr hRr
      go_wp2
      go_roundw
      case rel => exact ⟨k + 1, s ++ x, by omega, by go_num, rfl, by simp; omega, by rw [ls_append, HL.out, HX'.out, lss_append, lss_one, List.append_assoc], hR3, HB3.out⟩
      case measure => simp [intOf]; omega
    · obtain rfl : k = 18 := by omega
      have HBr := hid hbr
      clear hRr hbr
      go_wp2
      go_loopw [9, 12, 13] (fun a n i wr => ∃ (k : Nat) (s : ByteArray), k ≤ 3 ∧ i = .int .i64 k ∧ n = .int .i64 (up leaf k) ∧ a = .string s ∧ s.size = 145 + 8 * k ∧ ls s = [byt leaf] ++ lss (links seed leaf d 18) ++ lss (path seed leaf k) ∧ Below w.heap.size w wr) (fun _ _ i _ => 3 - (intOf i).toNat)
      case atStart => exact ⟨0, s, by omega, rfl, rfl, rfl, by omega, by rw [HL.out]; simp [path, lss], HBr.out⟩
      case round =>
        obtain ⟨k, t, hk, rfl, rfl, rfl, htz, hlt, hbr⟩ := hrel
        have HL2 := hid hlt
        clear hlt
        by_cases hlt : k < 3
        · have hub := up_bd leaf hl k
          have HX : Hid (path seed leaf (k + 1) = path seed leaf k ++ [nod seed k (sib (up leaf k))]) := rfl
          have HU : Hid (up leaf (k + 1) = up leaf k / 2) := rfl
          have hx8 := nod_size seed k (sib (up leaf k))
          have HP : Hid ((sib (up leaf k) + 1) * 2 ^ k ≤ 256 ∧ 0 ≤ sib (up leaf k)) := by
            have h1 : 0 ≤ sib (up leaf k) ∧ sib (up leaf k) ≤ 8 := by unfold sib; split <;> omega
            refine ⟨?_, h1.1⟩
            match k, hlt with
            | 0, _ => omega
            | 1, _ => omega
            | 2, _ => omega
          obtain ⟨n, hn⟩ : ∃ n, n = up leaf k := ⟨_, rfl⟩
          rw [← hn] at HX HU hub HP hx8 ⊢
          clear hn
          by_cases hpar : n % 2 = 1
          · have hsb : sib n = n - 1 := by unfold sib; rw [if_pos hpar]
            rw [hsb] at HX HP hx8
            clear hsb
            obtain ⟨x, hx⟩ : ∃ x, x = nod seed k (n - 1) := ⟨_, rfl⟩
            go_wp2_with fail
            refine (refnode_any k seed (n - 1) _ hs (by omega) HP.out.2 HP.out.1).mono ?_
            rintro e w3 ⟨rfl, hb3⟩
            rw [← hx] at HX hx8 ⊢
            clear hx
            have HB3 := hid (keepB hbr hb3)
            clear hb3 hbr
            go_wp2
            go_roundw
            case rel => refine ⟨_, _, _, _, _, _, _, _, _, _, _, _, _, _, _, _, _, _, _, _, _, _, _, _, _, ⟨k + 1, t ++ x, by omega, ?_, ?_, ?_, by simp; omega, by rw [ls_append, HL2.out, HX.out, lss_append, lss_one, List.append_assoc _ _ (ls x)], HB3.out⟩, rfl⟩ <;> first | rfl | go_num | (rw [HU.out])
            case measure => simp [intOf]; omega
          · have hsb : sib n = n + 1 := by unfold sib; rw [if_neg hpar]
            rw [hsb] at HX HP hx8
            clear hsb
            obtain ⟨x, hx⟩ : ∃ x, x = nod seed k (n + 1) := ⟨_, rfl⟩
            go_wp2_with fail
            refine (refnode_any k seed (n + 1) _ hs (by omega) HP.out.2 HP.out.1).mono ?_
            rintro e w3 ⟨rfl, hb3⟩
            rw [← hx] at HX hx8 ⊢
            clear hx
            have HB3 := hid (keepB hbr hb3)
            clear hb3 hbr
            go_wp2
            go_roundw
            case rel => refine ⟨_, _, _, _, _, _, _, _, _, _, _, _, _, _, _, _, _, _, _, _, _, _, _, _, _, ⟨k + 1, t ++ x, by omega, ?_, ?_, ?_, by simp; omega, by rw [ls_append, HL2.out, HX.out, lss_append, lss_one, List.append_assoc _ _ (ls x)], HB3.out⟩, rfl⟩ <;> first | rfl | go_num | (rw [HU.out])
            case measure => simp [intOf]; omega
        · obtain rfl : k = 3 := by omega
          go_wp2
          go_ret2
          have : t = signOf seed leaf (ls b) := signOf_of (by rw [HL2.out, signL, ← HD.out])
          exact ⟨by rw [this]; rfl, hbr⟩
end Go.Proofs.YthphojdnbfghmaaGreat
