/- The specification's graph: defends, free, admissible, l08Set. -/
import Derived.Test.YthffhllkfadejaaGs1
namespace Go.Proofs.Ythffhllkfadejaa
open Go.ChangeShapes Go.WideShapes Go.ChangeAt Go.RowKit Go.Deep Go.Maps
set_option linter.unusedSimpArgs false
set_option linter.unusedVariables false
theorem pow_16 {x : Nat} (h : x < 16) : 2 ^ x < 65536 := by have := Nat.pow_lt_pow_right (a := 2) (by omega) h; simpa using this
theorem or_shl (a x : Nat) (ha : a < 65536) (hx : x < 16) : bits .or .i64 (a : Int) (IntKind.i64.wrap (2 ^ x)) = ((a ||| 2 ^ x : Nat) : Int) := by
  rw [pow_c, wrap_64n _ (pow_16 hx)]; exact i64_or_nat _ _ ha (pow_16 hx)
theorem or_shl' (a x : Nat) (ha : a < 65536) (hx : x < 16) : bits .or .i64 (a : Int) (wrap64 (2 ^ x)) = ((a ||| 2 ^ x : Nat) : Int) := by
  have e : wrap64 (2 ^ x) = IntKind.i64.wrap (2 ^ x) := by unfold wrap64; rw [IntKind.wrap_i64]
  rw [e, or_shl a x ha hx]
theorem attB_1024 {n : Nat} (h : n ≤ 10) (L : List (List Int)) (s : Nat) : attB n L s < 65536 := Nat.lt_of_lt_of_le (attB_lt n L s) (Nat.le_trans (pow_10 h) (by decide))
theorem defB_1024 {n : Nat} (h : n ≤ 10) (L : List (List Int)) (s : Nat) : defB n L s < 65536 := Nat.lt_of_lt_of_le (defB_lt n L s) (Nat.le_trans (pow_10 h) (by decide))
set_option maxHeartbeats 1000000 in
set_option maxRecDepth 100000 in
theorem sdef_any (q h c n : Nat) (L : List (List Int)) (s : Nat) (w : World) (H : SgIs w q h c n L) (hs : s < 65536) :
    Calls Try.prog 48 #[.pointer (some ⟨q, 0, none⟩), .int .i64 (s : Int)] w fun e w' => e = .returned (.int .i64 (defB n L s : Int)) ∧ w = w' := by
  have hle := H.le
  have HA := shit_any q h c n L s w H hs
  have HT := Lib.hid (fun k => Nat.lt_of_lt_of_le (byF_lt H.ok k) (Nat.le_trans (pow_10 H.le) (by decide : 1024 ≤ 65536)))
  have la := attB_1024 hle L s
  have HD : defB n L s = those n (fun x => subB (byF L (x : Int)) (attB n L s)) := rfl
  rw [HD]
  generalize attB n L s = a at HA la ⊢
  obtain ⟨c0, c1, c2, -, h1, -, -⟩ := H
  have Hh := Lib.hid h1
  clear h1 HD
  go_enter Try.func48, Try.ntmps48
  go_wp2_with fail
  refine HA.mono ?_
  rintro e w1 ⟨rfl, rfl⟩
  go_wp2
  go_loopg [6, 7] n (fun g o i wr => ∃ k : Nat, k ≤ n ∧ g = n - k ∧ o = .int .i64 (those k (fun x => subB (byF L (x : Int)) a) : Int) ∧ i = .int .i64 (k : Int) ∧ w = wr)
  case atStart => exact ⟨0, Nat.zero_le _, rfl, rfl, rfl, rfl⟩
  case round =>
    obtain ⟨k, hk, rfl, rfl, rfl, rfl⟩ := hrel
    by_cases hlt : k < n
    · have x1 := Hh.out.cell (i := k) hlt
      have e1 : (bits .andNot .i64 (byF L (k : Int) : Int) (a : Int) == 0) = subB (byF L (k : Int)) a := by
        rw [i64_andNot_nat _ _ (HT.out k) la]
        unfold subB
        rw [Bool.eq_iff_iff]
        simp
      have hd : those (k + 1) (fun x => subB (byF L (x : Int)) a) = if subB (byF L (k : Int)) a = true then those k (fun x => subB (byF L (x : Int)) a) ||| 2 ^ k else those k (fun x => subB (byF L (x : Int)) a) := rfl
      obtain ⟨z, hz⟩ : ∃ z, subB (byF L (k : Int)) a = z := ⟨_, rfl⟩
      obtain ⟨T, hT⟩ : ∃ T, those k (fun x => subB (byF L (x : Int)) a) = T := ⟨_, rfl⟩
      have lT : T < 65536 := by rw [← hT]; exact Nat.lt_of_lt_of_le (those_lt k _) (Nat.le_trans (pow_10 (by omega)) (by decide))
      rw [hz] at e1 hd
      rw [hT] at hd ⊢
      have eo := or_shl' T k lT (by omega)
      have EO := Lib.hid eo
      have HO := Lib.hid hd
      clear eo hd hz hT lT
      cases z with
      | true =>
        have e2 := e1
        go_wp2
        go_roundg (n - (k + 1))
        case measure => omega
        case rel => exact ⟨k + 1, by omega, rfl, by rw [EO.out, HO.out]; simp, by simp, rfl⟩
      | false =>
        go_wp2
        go_roundg (n - (k + 1))
        case measure => omega
        case rel => exact ⟨k + 1, by omega, rfl, by rw [HO.out]; simp, by simp, rfl⟩
    · obtain rfl : k = n := by omega
      go_wp2
      go_ret
      exact ⟨rfl, rfl⟩
theorem sfree_any (q h c n : Nat) (L : List (List Int)) (s : Nat) (w : World) (H : SgIs w q h c n L) (hs : s < 65536) :
    Calls Try.prog 26 #[.pointer (some ⟨q, 0, none⟩), .int .i64 (s : Int)] w fun e w' => e = .returned (.bool (freeB n L s)) ∧ w = w' := by
  have HA := shit_any q h c n L s w H hs
  have e1 : (bits .and .i64 (attB n L s : Int) (s : Int) == 0) = freeB n L s := by
    rw [i64_and_nat _ _ (attB_1024 H.le L s) hs]
    unfold freeB
    rw [Bool.eq_iff_iff]
    simp
  generalize attB n L s = a at HA e1
  generalize freeB n L s = z at e1 ⊢
  have E := Lib.hid e1
  clear H e1
  go_enter Try.func26, Try.ntmps26
  go_wp2_with fail
  refine HA.mono ?_
  rintro e w1 ⟨rfl, rfl⟩
  go_wp2
  go_ret
  exact ⟨by rw [E.out]; rfl, rfl⟩
theorem sadm_any (q h c n : Nat) (L : List (List Int)) (s : Nat) (w : World) (H : SgIs w q h c n L) (hs : s < 65536) :
    Calls Try.prog 32 #[.pointer (some ⟨q, 0, none⟩), .int .i64 (s : Int)] w fun e w' => e = .returned (.bool (freeB n L s && ownB n L s)) ∧ w = w' := by
  have HA := sfree_any q h c n L s w H hs
  have HB := sdef_any q h c n L s w H hs
  have e1 : (bits .andNot .i64 (s : Int) (defB n L s : Int) == 0) = ownB n L s := by
    rw [i64_andNot_nat _ _ hs (defB_1024 H.le L s)]
    unfold ownB subB
    rw [Bool.eq_iff_iff]
    simp
  generalize defB n L s = a at HB e1
  generalize freeB n L s = z at HA ⊢
  generalize ownB n L s = y at e1 ⊢
  have E := Lib.hid e1
  clear H e1
  cases z with
  | true =>
    go_enter Try.func32, Try.ntmps32
    go_wp2_with fail
    refine HA.mono ?_
    rintro e w1 ⟨rfl, rfl⟩
    go_wp2_with fail
    refine HB.mono ?_
    rintro e w1 ⟨rfl, rfl⟩
    go_wp2
    go_ret
    exact ⟨by rw [E.out]; rfl, rfl⟩
  | false =>
    clear HB
    go_enter Try.func32, Try.ntmps32
    go_wp2_with fail
    refine HA.mono ?_
    rintro e w1 ⟨rfl, rfl⟩
    go_wp2
    go_ret
    exact ⟨rfl, rfl⟩
set_option maxHeartbeats 1000000 in
set_option maxRecDepth 100000 in
theorem sset_any (v : Value) (l : List Int) (n : Nat) (w : World) (hv : RowV w v l) (hl : l.length ≤ 1048576) (hn : n ≤ 10) (hm : ∀ x ∈ l, 0 ≤ x ∧ x < (n : Int)) :
    Calls Try.prog 27 #[v] w fun e w' => e = .returned (.int .i64 (setL l : Int)) ∧ w = w' := by
  have HM := Lib.hid hm
  clear hm
  by_cases e : l = []
  · subst e
    obtain ⟨a, cap, rfl⟩ := hv.shape
    clear hv
    go_enter Try.func27, Try.ntmps27
    go_wp2
    go_loopg [3, 4] 0 (fun g s i wr => s = .int .i64 0 ∧ i = .int .i64 0 ∧ w = wr)
    case atStart => exact ⟨rfl, rfl, rfl⟩
    case round =>
      obtain ⟨rfl, rfl, rfl⟩ := hrel
      go_wp2
      go_ret
      exact ⟨rfl, rfl⟩
  · obtain ⟨x, cap, rfl, hx, hc⟩ := hv.cons e
    have HC := Lib.hid hc
    clear hv hc
    go_enter Try.func27, Try.ntmps27
    go_wp2
    go_loopg [3, 4] l.length (fun g s i wr => ∃ k : Nat, k ≤ l.length ∧ g = l.length - k ∧ s = .int .i64 (setL (l.take k) : Int) ∧ i = .int .i64 (k : Int) ∧ w = wr)
    case atStart => exact ⟨0, Nat.zero_le _, rfl, rfl, rfl, rfl⟩
    case round =>
      obtain ⟨k, hk, rfl, rfl, rfl, rfl⟩ := hrel
      by_cases hlt : k < l.length
      · have c1 := HC.out k hlt
        have et : l.take (k + 1) = l.take k ++ [l.getD k 0] := by
          rw [List.take_succ_eq_append_getElem hlt]
          simp [List.getD, hlt]
        have hm := HM.out (l.getD k 0) (by have eg : l.getD k 0 = l[k] := by simp [List.getD, hlt]
                                           rw [eg]; exact List.getElem_mem hlt)
        have hsl : setL (l.take k) < 65536 := Nat.lt_of_lt_of_le (setL_lt (l.take k) n (fun y hy => HM.out y (List.mem_of_mem_take hy))) (Nat.le_trans (pow_10 hn) (by decide))
        have hs := setL_snoc (l.take k) (l.getD k 0)
        rw [← et] at hs
        obtain ⟨y, hy⟩ : ∃ y, l.getD k 0 = y := ⟨_, rfl⟩
        rw [hy] at c1 hs hm
        obtain ⟨Y, rfl⟩ : ∃ Y : Nat, y = (Y : Int) := ⟨y.toNat, by omega⟩
        obtain ⟨S, hS⟩ : ∃ S, setL (l.take k) = S := ⟨_, rfl⟩
        rw [hS] at hs hsl ⊢
        have eo := or_shl' S Y hsl (by omega)
        have EO := Lib.hid eo
        have HS := Lib.hid hs
        clear hs hy hsl eo et hS
        go_wp2
        go_roundg (l.length - (k + 1))
        case measure => omega
        case rel => exact ⟨k + 1, by omega, rfl, by rw [EO.out, HS.out]; simp, by simp, rfl⟩
      · obtain rfl : k = l.length := by omega
        have e : l.take l.length = l := List.take_length
        rw [e]
        go_wp2
        go_ret
        exact ⟨rfl, rfl⟩
end Go.Proofs.Ythffhllkfadejaa
