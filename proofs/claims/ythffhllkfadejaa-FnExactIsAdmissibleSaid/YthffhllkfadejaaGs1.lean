/- The specification's graph: l08In, l08Set, hit, defends, free, admissible. -/
import Derived.Test.YthffhllkfadejaaBi1
import Derived.Test.YthffhllkfadejaaGr9
namespace Go.Proofs.Ythffhllkfadejaa
open Go.ChangeShapes Go.WideShapes Go.ChangeAt Go.RowKit Go.Deep Go.Maps
set_option linter.unusedSimpArgs false
set_option linter.unusedVariables false
theorem pow_c (n : Nat) : ((2 : Int) ^ n) = ((2 ^ n : Nat) : Int) := by simp
theorem pow_10 {n : Nat} (h : n ≤ 10) : 2 ^ n ≤ 1024 := Nat.le_trans (Nat.pow_le_pow_right (by omega) h) (by decide)
theorem sin_any (s x : Nat) (w : World) (hs : s < 65536) (hx : x < 16) :
    Calls Try.prog 52 #[.int .i64 (s : Int), .int .i64 (x : Int)] w fun e w' => e = .returned (.bool (s.testBit x)) ∧ w = w' := by
  have E := Lib.hid (i64_bit s x hs)
  go_enter Try.func52, Try.ntmps52
  go_wp2
  go_ret
  exact ⟨by rw [E.out]; rfl, rfl⟩
/-- The specification's graph of a frame: it lies at q, what is attacked in block h, the attackers in block c. -/
structure SgIs (w : World) (q h c n : Nat) (L : List (List Int)) : Prop where
  c0 : w.cell? ⟨q, 0, none⟩ = some (.int .i64 (n : Int))
  c1 : w.cell? ⟨q, 1, none⟩ = some (.slice (some ⟨h, 0, none⟩) n n)
  c2 : w.cell? ⟨q, 2, none⟩ = some (.slice (some ⟨c, 0, none⟩) n n)
  hits : w.rowIs h 2 n (fun i => .int .i64 (hitF L (i : Int) : Int))
  bys : w.rowIs c 2 n (fun i => .int .i64 (byF L (i : Int) : Int))
  ok : ∀ l ∈ L, atkOk (n : Int) l
  le : n ≤ 10
theorem SgIs.below {w w' : World} {q h c n : Nat} {L : List (List Int)} (H : SgIs w q h c n L) (hb : Below w.heap.size w w') : SgIs w' q h c n L := by
  obtain ⟨c0, c1, c2, h1, h2, h3, h4⟩ := H
  have k : ∀ {o : Nat} {v : Value}, w.cell? ⟨q, o, none⟩ = some v → w'.cell? ⟨q, o, none⟩ = some v := fun {o v} hc => (hb.cell (p := ⟨q, o, none⟩) (World.block_lt_of_cell? _ _ hc)).trans hc
  exact ⟨k c0, k c1, k c2, h1.of_block (hb.block h h1.lt), h2.of_block (hb.block c h2.lt), h3, h4⟩
theorem hitS_lt {n : Nat} {L : List (List Int)} (h : ∀ l ∈ L, atkOk (n : Int) l) (hn : n ≤ 10) (s k : Nat) : hitS L s k < 1024 := by
  refine Nat.lt_of_lt_of_le (lt_of_bits (n := n) (fun i hi => ?_)) (pow_10 hn)
  obtain ⟨j, _, _, q⟩ := (hitS_bit L n h s k i).1 hi
  exact (atk_lt h q).2
set_option maxHeartbeats 1000000 in
set_option maxRecDepth 100000 in
theorem shit_any (q h c n : Nat) (L : List (List Int)) (s : Nat) (w : World) (H : SgIs w q h c n L) (hs : s < 65536) :
    Calls Try.prog 44 #[.pointer (some ⟨q, 0, none⟩), .int .i64 (s : Int)] w fun e w' => e = .returned (.int .i64 (attB n L s : Int)) ∧ w = w' := by
  have hle := H.le
  have HE := Lib.hid (hit_att H.ok s)
  have HL := Lib.hid (fun k => hitS_lt H.ok H.le s k)
  have HT := Lib.hid (fun k => Nat.lt_of_lt_of_le (hitF_lt H.ok k) (pow_10 H.le))
  have HH := Lib.hid H
  obtain ⟨c0, c1, c2, h1, -, -, -⟩ := H
  have Hh := Lib.hid h1
  clear h1
  go_enter Try.func44, Try.ntmps44
  go_wp2
  go_loopg [5, 6] n (fun g o i wr => ∃ k : Nat, k ≤ n ∧ g = n - k ∧ o = .int .i64 (hitS L s k : Int) ∧ i = .int .i64 (k : Int) ∧ w = wr)
  case atStart => exact ⟨0, Nat.zero_le _, rfl, rfl, rfl, rfl⟩
  case round =>
    obtain ⟨k, hk, rfl, rfl, rfl, rfl⟩ := hrel
    by_cases hlt : k < n
    · have x1 := Hh.out.cell (i := k) hlt
      have HC := fun w' => sin_any s k w' hs (by omega)
      have ho : hitS L s (k + 1) = if s.testBit k = true then hitS L s k ||| hitF L (k : Int) else hitS L s k := rfl
      obtain ⟨z, hz⟩ : ∃ z, s.testBit k = z := ⟨_, rfl⟩
      rw [hz] at HC ho
      have lo := Nat.lt_trans (HL.out k) (by decide : 1024 < 65536)
      have lt := Nat.lt_trans (HT.out k) (by decide : 1024 < 65536)
      have eo : bits .or .i64 (hitS L s k : Int) (hitF L (k : Int) : Int) = ((hitS L s k ||| hitF L (k : Int) : Nat) : Int) := i64_or_nat _ _ lo lt
      have EO := Lib.hid eo
      have HO := Lib.hid ho
      clear ho hz eo lo lt
      cases z with
      | true =>
        go_wp2_with fail
        refine (HC _).mono ?_
        rintro e w1 ⟨rfl, rfl⟩
        go_wp2
        go_roundg (n - (k + 1))
        case measure => omega
        case rel => exact ⟨k + 1, by omega, rfl, by rw [EO.out, HO.out]; simp, by simp, rfl⟩
      | false =>
        go_wp2_with fail
        refine (HC _).mono ?_
        rintro e w1 ⟨rfl, rfl⟩
        go_wp2
        go_roundg (n - (k + 1))
        case measure => omega
        case rel => exact ⟨k + 1, by omega, rfl, by rw [HO.out]; simp, by simp, rfl⟩
    · obtain rfl : k = n := by omega
      go_wp2
      go_ret
      exact ⟨by rw [← HE.out]; rfl, rfl⟩
end Go.Proofs.Ythffhllkfadejaa
