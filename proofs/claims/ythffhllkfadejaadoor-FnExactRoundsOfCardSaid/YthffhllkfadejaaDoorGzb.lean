/- Several of this claim's texts in one: Bi1, Gs1, Gs2. -/
import Derived.Test.YthffhllkfadejaaDoorGr1
import Derived.Test.YthffhllkfadejaaDoorFm2
import Derived.Test.YthffhllkfadejaaDoorGr9
/- Bits of small numbers of type int64. -/
namespace Go.Proofs.YthffhllkfadejaaDoor
open Go.RowKit
set_option linter.unusedSimpArgs false
set_option linter.unusedVariables false
theorem ofInt_64 (a : Nat) (ha : a < 65536) : (BitVec.ofInt 64 (a : Int)).toNat = a := by
  rw [BitVec.ofInt_natCast, BitVec.toNat_ofNat]; exact Nat.mod_eq_of_lt (by omega)
theorem i64_and_nat (a b : Nat) (ha : a < 65536) (hb : b < 65536) : bits .and .i64 (a : Int) (b : Int) = ((a &&& b : Nat) : Int) := by
  have hx : a &&& b < 2 ^ 16 := Nat.and_lt_two_pow _ (by omega)
  show IntKind.i64.wrap ((BitVec.ofInt 64 (a : Int) &&& BitVec.ofInt 64 (b : Int)).toNat : Int) = _
  rw [BitVec.toNat_and, ofInt_64 a ha, ofInt_64 b hb, IntKind.wrap_i64]
  omega
theorem i64_or_nat (a b : Nat) (ha : a < 65536) (hb : b < 65536) : bits .or .i64 (a : Int) (b : Int) = ((a ||| b : Nat) : Int) := by
  have hx : a ||| b < 2 ^ 16 := Nat.or_lt_two_pow (by omega) (by omega)
  show IntKind.i64.wrap ((BitVec.ofInt 64 (a : Int) ||| BitVec.ofInt 64 (b : Int)).toNat : Int) = _
  rw [BitVec.toNat_or, ofInt_64 a ha, ofInt_64 b hb, IntKind.wrap_i64]
  omega
theorem mask_64 (a b : Nat) (ha : a < 65536) (hb : b < 65536) : a &&& (2 ^ 64 - 1 - b) = a &&& (65535 - b) := by
  apply bits_ext
  intro i
  rw [Nat.testBit_and, Nat.testBit_and, mask_bit 64 b i (by omega), mask_bit 16 b i hb]
  by_cases h : a.testBit i = true
  · have := bits_lt (n := 16) ha h
    have h64 : i < 64 := by omega
    simp [this, h64]
  · simp [h]
theorem i64_andNot_nat (a b : Nat) (ha : a < 65536) (hb : b < 65536) : bits .andNot .i64 (a : Int) (b : Int) = ((a &&& (65535 - b) : Nat) : Int) := by
  have hx : a &&& (65535 - b) < 2 ^ 16 := Nat.and_lt_two_pow _ (by omega)
  show IntKind.i64.wrap ((BitVec.ofInt 64 (a : Int) &&& ~~~BitVec.ofInt 64 (b : Int)).toNat : Int) = _
  rw [BitVec.toNat_and, BitVec.toNat_not, ofInt_64 a ha, ofInt_64 b hb, mask_64 a b ha hb, IntKind.wrap_i64]
  omega
theorem i64_bit (b x : Nat) (hb : b < 65536) : (bits .and .i64 ((b : Int) / 2 ^ x) 1 == 1) = b.testBit x := by
  have ep : ((2 : Int) ^ x) = ((2 ^ x : Nat) : Int) := by simp
  have e : (b : Int) / 2 ^ x = ((b / 2 ^ x : Nat) : Int) := by rw [ep]; simp
  have h2 : bits .and .i64 ((b : Int) / 2 ^ x) 1 = ((b / 2 ^ x &&& 1 : Nat) : Int) := by
    rw [e]; exact i64_and_nat _ 1 (Nat.lt_of_le_of_lt (Nat.div_le_self _ _) hb) (by omega)
  rw [h2, nat_mask1, shr_bit]
  cases b.testBit x <;> rfl
theorem wrap_64n (a : Nat) (h : a < 65536) : IntKind.i64.wrap (a : Int) = (a : Int) := IntWalk.i64_in _ (by omega)
end Go.Proofs.YthffhllkfadejaaDoor
/- The specification's graph: l08In, l08Set, hit, defends, free, admissible. -/
namespace Go.Proofs.YthffhllkfadejaaDoor
open Go.ChangeShapes Go.WideShapes Go.ChangeAt Go.RowKit Go.Deep Go.Maps
set_option linter.unusedSimpArgs false
set_option linter.unusedVariables false
theorem pow_c (n : Nat) : ((2 : Int) ^ n) = ((2 ^ n : Nat) : Int) := by simp
theorem pow_10 {n : Nat} (h : n ≤ 10) : 2 ^ n ≤ 1024 := Nat.le_trans (Nat.pow_le_pow_right (by omega) h) (by decide)
theorem sin_any (s x : Nat) (w : World) (hs : s < 65536) (hx : x < 16) :
    Calls Tryd.prog 56 #[.int .i64 (s : Int), .int .i64 (x : Int)] w fun e w' => e = .returned (.bool (s.testBit x)) ∧ w = w' := by
  have E := Lib.hid (i64_bit s x hs)
  go_enter Tryd.func56, Tryd.ntmps56
  go_wp2
  go_ret
  exact ⟨by rw [E.out]; rfl, rfl⟩
/-- The specification's graph of a frame: it lies at q, what is attacked in block h, the attackers in block c. -/
structure SgIs (w : World) (q h c n : Nat) (L : List (List Int)) : Prop where
  c0 : w.cell? ⟨q, 0, none⟩ = some (.int .i64 (n : Int))
  c1 : w.cell? ⟨q, 1, none⟩ = some (.slice (some ⟨h, 0, none⟩) n n)
  c2 : w.cell? ⟨q, 2, none⟩ = some (.slice (some ⟨c, 0, none⟩) n n)
  hits : w.rowIs h 2 n (fun i => .int .i64 (hitF L (i : Int) : Int))
  bys : w.rowIs c 2 n (fun i => .int .i64 (byF L (i : Int) : Int))
  ok : ∀ l ∈ L, atkOk (n : Int) l
  le : n ≤ 10
theorem SgIs.below {w w' : World} {q h c n : Nat} {L : List (List Int)} (H : SgIs w q h c n L) (hb : Below w.heap.size w w') : SgIs w' q h c n L := by
  obtain ⟨c0, c1, c2, h1, h2, h3, h4⟩ := H
  have k : ∀ {o : Nat} {v : Value}, w.cell? ⟨q, o, none⟩ = some v → w'.cell? ⟨q, o, none⟩ = some v := fun {o v} hc => (hb.cell (p := ⟨q, o, none⟩) (World.block_lt_of_cell? _ _ hc)).trans hc
  exact ⟨k c0, k c1, k c2, h1.of_block (hb.block h h1.lt), h2.of_block (hb.block c h2.lt), h3, h4⟩
theorem hitS_lt {n : Nat} {L : List (List Int)} (h : ∀ l ∈ L, atkOk (n : Int) l) (hn : n ≤ 10) (s k : Nat) : hitS L s k < 1024 := by
  refine Nat.lt_of_lt_of_le (lt_of_bits (n := n) (fun i hi => ?_)) (pow_10 hn)
  obtain ⟨j, _, _, q⟩ := (hitS_bit L n h s k i).1 hi
  exact (atk_lt h q).2
set_option maxHeartbeats 1000000 in
set_option maxRecDepth 100000 in
theorem shit_any (q h c n : Nat) (L : List (List Int)) (s : Nat) (w : World) (H : SgIs w q h c n L) (hs : s < 65536) :
    Calls Tryd.prog 55 #[.pointer (some ⟨q, 0, none⟩), .int .i64 (s : Int)] w fun e w' => e = .returned (.int .i64 (attB n L s : Int)) ∧ w = w' := by
  have hle := H.le
  have HE := Lib.hid (hit_att H.ok s)
  have HL := Lib.hid (fun k => hitS_lt H.ok H.le s k)
  have HT := Lib.hid (fun k => Nat.lt_of_lt_of_le (hitF_lt H.ok k) (pow_10 H.le))
  have HH := Lib.hid H
  obtain ⟨c0, c1, c2, h1, -, -, -⟩ := H
  have Hh := Lib.hid h1
  clear h1
  go_enter Tryd.func55, Tryd.ntmps55
  go_wp2
  go_loopg [5, 6] n (fun g o i wr => ∃ k : Nat, k ≤ n ∧ g = n - k ∧ o = .int .i64 (hitS L s k : Int) ∧ i = .int .i64 (k : Int) ∧ w = wr)
  case atStart => exact ⟨0, Nat.zero_le _, rfl, rfl, rfl, rfl⟩
  case round =>
    obtain ⟨k, hk, rfl, rfl, rfl, rfl⟩ := hrel
    by_cases hlt : k < n
    · have x1 := Hh.out.cell (i := k) hlt
      have HC := fun w' => sin_any s k w' hs (by omega)
      have ho : hitS L s (k + 1) = if s.testBit k = true then hitS L s k ||| hitF L (k : Int) else hitS L s k := rfl
      obtain ⟨z, hz⟩ : ∃ z, s.testBit k = z := ⟨_, rfl⟩
      rw [hz] at HC ho
      have lo := Nat.lt_trans (HL.out k) (by decide : 1024 < 65536)
      have lt := Nat.lt_trans (HT.out k) (by decide : 1024 < 65536)
      have eo : bits .or .i64 (hitS L s k : Int) (hitF L (k : Int) : Int) = ((hitS L s k ||| hitF L (k : Int) : Nat) : Int) := i64_or_nat _ _ lo lt
      have EO := Lib.hid eo
      have HO := Lib.hid ho
      clear ho hz eo lo lt
      cases z with
      | true =>
        go_wp2_with fail
        refine (HC _).mono ?_
        rintro e w1 ⟨rfl, rfl⟩
        go_wp2
        go_roundg (n - (k + 1))
        case measure => omega
        case rel => exact ⟨k + 1, by omega, rfl, by rw [EO.out, HO.out]; simp, by simp, rfl⟩
      | false =>
        go_wp2_with fail
        refine (HC _).mono ?_
        rintro e w1 ⟨rfl, rfl⟩
        go_wp2
        go_roundg (n - (k + 1))
        case measure => omega
        case rel => exact ⟨k + 1, by omega, rfl, by rw [HO.out]; simp, by simp, rfl⟩
    · obtain rfl : k = n := by omega
      go_wp2
      go_ret
      exact ⟨by rw [← HE.out]; rfl, rfl⟩
end Go.Proofs.YthffhllkfadejaaDoor
/- The specification's graph: defends, free, admissible, l08Set. -/
namespace Go.Proofs.YthffhllkfadejaaDoor
open Go.ChangeShapes Go.WideShapes Go.ChangeAt Go.RowKit Go.Deep Go.Maps
set_option linter.unusedSimpArgs false
set_option linter.unusedVariables false
theorem pow_16 {x : Nat} (h : x < 16) : 2 ^ x < 65536 := by have := Nat.pow_lt_pow_right (a := 2) (by omega) h; simpa using this
theorem or_shl (a x : Nat) (ha : a < 65536) (hx : x < 16) : bits .or .i64 (a : Int) (IntKind.i64.wrap (2 ^ x)) = ((a ||| 2 ^ x : Nat) : Int) := by
  rw [pow_c, wrap_64n _ (pow_16 hx)]; exact i64_or_nat _ _ ha (pow_16 hx)
theorem or_shl' (a x : Nat) (ha : a < 65536) (hx : x < 16) : bits .or .i64 (a : Int) (wrap64 (2 ^ x)) = ((a ||| 2 ^ x : Nat) : Int) := by
  have e : wrap64 (2 ^ x) = IntKind.i64.wrap (2 ^ x) := by unfold wrap64; rw [IntKind.wrap_i64]
  rw [e, or_shl a x ha hx]
theorem attB_1024 {n : Nat} (h : n ≤ 10) (L : List (List Int)) (s : Nat) : attB n L s < 65536 := Nat.lt_of_lt_of_le (attB_lt n L s) (Nat.le_trans (pow_10 h) (by decide))
theorem defB_1024 {n : Nat} (h : n ≤ 10) (L : List (List Int)) (s : Nat) : defB n L s < 65536 := Nat.lt_of_lt_of_le (defB_lt n L s) (Nat.le_trans (pow_10 h) (by decide))
set_option maxHeartbeats 1000000 in
set_option maxRecDepth 100000 in
theorem sdef_any (q h c n : Nat) (L : List (List Int)) (s : Nat) (w : World) (H : SgIs w q h c n L) (hs : s < 65536) :
    Calls Tryd.prog 42 #[.pointer (some ⟨q, 0, none⟩), .int .i64 (s : Int)] w fun e w' => e = .returned (.int .i64 (defB n L s : Int)) ∧ w = w' := by
  have hle := H.le
  have HA := shit_any q h c n L s w H hs
  have HT := Lib.hid (fun k => Nat.lt_of_lt_of_le (byF_lt H.ok k) (Nat.le_trans (pow_10 H.le) (by decide : 1024 ≤ 65536)))
  have la := attB_1024 hle L s
  have HD : defB n L s = those n (fun x => subB (byF L (x : Int)) (attB n L s)) := rfl
  rw [HD]
  generalize attB n L s = a at HA la ⊢
  obtain ⟨c0, c1, c2, -, h1, -, -⟩ := H
  have Hh := Lib.hid h1
  clear h1 HD
  go_enter Tryd.func42, Tryd.ntmps42
  go_wp2_with fail
  refine HA.mono ?_
  rintro e w1 ⟨rfl, rfl⟩
  go_wp2
  go_loopg [6, 7] n (fun g o i wr => ∃ k : Nat, k ≤ n ∧ g = n - k ∧ o = .int .i64 (those k (fun x => subB (byF L (x : Int)) a) : Int) ∧ i = .int .i64 (k : Int) ∧ w = wr)
  case atStart => exact ⟨0, Nat.zero_le _, rfl, rfl, rfl, rfl⟩
  case round =>
    obtain ⟨k, hk, rfl, rfl, rfl, rfl⟩ := hrel
    by_cases hlt : k < n
    · have x1 := Hh.out.cell (i := k) hlt
      have e1 : (bits .andNot .i64 (byF L (k : Int) : Int) (a : Int) == 0) = subB (byF L (k : Int)) a := by
        rw [i64_andNot_nat _ _ (HT.out k) la]
        unfold subB
        rw [Bool.eq_iff_iff]
        simp
      have hd : those (k + 1) (fun x => subB (byF L (x : Int)) a) = if subB (byF L (k : Int)) a = true then those k (fun x => subB (byF L (x : Int)) a) ||| 2 ^ k else those k (fun x => subB (byF L (x : Int)) a) := rfl
      obtain ⟨z, hz⟩ : ∃ z, subB (byF L (k : Int)) a = z := ⟨_, rfl⟩
      obtain ⟨T, hT⟩ : ∃ T, those k (fun x => subB (byF L (x : Int)) a) = T := ⟨_, rfl⟩
      have lT : T < 65536 := by rw [← hT]; exact Nat.lt_of_lt_of_le (those_lt k _) (Nat.le_trans (pow_10 (by omega)) (by decide))
      rw [hz] at e1 hd
      rw [hT] at hd ⊢
      have eo := or_shl' T k lT (by omega)
      have EO := Lib.hid eo
      have HO := Lib.hid hd
      clear eo hd hz hT lT
      cases z with
      | true =>
        have e2 := e1
        go_wp2
        go_roundg (n - (k + 1))
        case measure => omega
        case rel => exact ⟨k + 1, by omega, rfl, by rw [EO.out, HO.out]; simp, by simp, rfl⟩
      | false =>
        go_wp2
        go_roundg (n - (k + 1))
        case measure => omega
        case rel => exact ⟨k + 1, by omega, rfl, by rw [HO.out]; simp, by simp, rfl⟩
    · obtain rfl : k = n := by omega
      go_wp2
      go_ret
      exact ⟨rfl, rfl⟩
set_option maxHeartbeats 1000000 in
set_option maxRecDepth 100000 in
theorem sset_any (v : Value) (l : List Int) (n : Nat) (w : World) (hv : RowV w v l) (hl : l.length ≤ 1048576) (hn : n ≤ 10) (hm : ∀ x ∈ l, 0 ≤ x ∧ x < (n : Int)) :
    Calls Tryd.prog 43 #[v] w fun e w' => e = .returned (.int .i64 (setL l : Int)) ∧ w = w' := by
  have HM := Lib.hid hm
  clear hm
  by_cases e : l = []
  · subst e
    obtain ⟨a, cap, rfl⟩ := hv.shape
    clear hv
    go_enter Tryd.func43, Tryd.ntmps43
    go_wp2
    go_loopg [3, 4] 0 (fun g s i wr => s = .int .i64 0 ∧ i = .int .i64 0 ∧ w = wr)
    case atStart => exact ⟨rfl, rfl, rfl⟩
    case round =>
      obtain ⟨rfl, rfl, rfl⟩ := hrel
      go_wp2
      go_ret
      exact ⟨rfl, rfl⟩
  · obtain ⟨x, cap, rfl, hx, hc⟩ := hv.cons e
    have HC := Lib.hid hc
    clear hv hc
    go_enter Tryd.func43, Tryd.ntmps43
    go_wp2
    go_loopg [3, 4] l.length (fun g s i wr => ∃ k : Nat, k ≤ l.length ∧ g = l.length - k ∧ s = .int .i64 (setL (l.take k) : Int) ∧ i = .int .i64 (k : Int) ∧ w = wr)
    case atStart => exact ⟨0, Nat.zero_le _, rfl, rfl, rfl, rfl⟩
    case round =>
      obtain ⟨k, hk, rfl, rfl, rfl, rfl⟩ := hrel
      by_cases hlt : k < l.length
      · have c1 := HC.out k hlt
        have et : l.take (k + 1) = l.take k ++ [l.getD k 0] := by
          rw [List.take_succ_eq_append_getElem hlt]
          simp [List.getD, hlt]
        have hm := HM.out (l.getD k 0) (by have eg : l.getD k 0 = l[k] := by simp [List.getD, hlt]
                                           rw [eg]; exact List.getElem_mem hlt)
        have hsl : setL (l.take k) < 65536 := Nat.lt_of_lt_of_le (setL_lt (l.take k) n (fun y hy => HM.out y (List.mem_of_mem_take hy))) (Nat.le_trans (pow_10 hn) (by decide))
        have hs := setL_snoc (l.take k) (l.getD k 0)
        rw [← et] at hs
        obtain ⟨y, hy⟩ : ∃ y, l.getD k 0 = y := ⟨_, rfl⟩
        rw [hy] at c1 hs hm
        obtain ⟨Y, rfl⟩ : ∃ Y : Nat, y = (Y : Int) := ⟨y.toNat, by omega⟩
        obtain ⟨S, hS⟩ : ∃ S, setL (l.take k) = S := ⟨_, rfl⟩
        rw [hS] at hs hsl ⊢
        have eo := or_shl' S Y hsl (by omega)
        have EO := Lib.hid eo
        have HS := Lib.hid hs
        clear hs hy hsl eo et hS
        go_wp2
        go_roundg (l.length - (k + 1))
        case measure => omega
        case rel => exact ⟨k + 1, by omega, rfl, by rw [EO.out, HS.out]; simp, by simp, rfl⟩
      · obtain rfl : k = l.length := by omega
        have e : l.take l.length = l := List.take_length
        rw [e]
        go_wp2
        go_ret
        exact ⟨rfl, rfl⟩
end Go.Proofs.YthffhllkfadejaaDoor
