/- The specification's rounds. -/
import Derived.Test.YthffhllkfadejaaDoorGs3
import Derived.Test.YthffhllkfadejaaDoorRna
namespace Go.Proofs.YthffhllkfadejaaDoor
open Go.ChangeShapes Go.WideShapes Go.ChangeAt Go.RowKit Go.Deep Go.Maps
set_option linter.unusedSimpArgs false
set_option linter.unusedVariables false
theorem acc_small {n : Nat} {L : List (List Int)} (hn : n ≤ 10) (k : Nat) : accB n L k < 1024 := by
  cases k with
  | zero => show 0 < 1024; decide
  | succ k => exact Nat.lt_of_lt_of_le (defB_lt n L _) (pow_10 hn)
theorem att_small {n : Nat} {L : List (List Int)} (hn : n ≤ 10) (s : Nat) : attB n L s < 1024 := Nat.lt_of_lt_of_le (attB_lt n L s) (pow_10 hn)
theorem those_small {j : Nat} (hj : j ≤ 10) (p : Nat → Bool) : those j p < 1024 := Nat.lt_of_lt_of_le (those_lt j p) (pow_10 hj)
theorem or_1024 {a b : Nat} (ha : a < 1024) (hb : b < 1024) : a ||| b < 1024 := or_lt (n := 10) ha hb
theorem or_step (a j : Nat) (p : Nat → Bool) : a ||| those (j + 1) p = if p j = true then (a ||| those j p) ||| 2 ^ j else a ||| those j p := by
  show a ||| (if p j = true then those j p ||| 2 ^ j else those j p) = _
  split
  · rw [Nat.or_assoc]
  · rfl
/-- The decisions when those below j have been accepted; and when those below j have been rejected. -/
def rowA (n : Nat) (L : List (List Int)) (k j : Nat) : Nat → Value := fun i => .int .i64 (if i < j then midD n L k i else decD n L k i)
def rowR (n : Nat) (L : List (List Int)) (k j : Nat) : Nat → Value := fun i => .int .i64 (if i < j then decD n L (k + 1) i else midD n L k i)
set_option maxHeartbeats 4000000 in
set_option maxRecDepth 100000 in
theorem srounds (q h c n : Nat) (L : List (List Int)) (w : World) (H : SgIs w q h c n L) :
    Calls Tryd.prog 48 #[.pointer (some ⟨q, 0, none⟩)] w fun e w' => e = .returned (.slice (some ⟨w.heap.size, 0, none⟩) n n) ∧ w'.rowIs w.heap.size 2 n (fun i => .int .i64 (decD n L n i)) ∧ Below w.heap.size w w' := by
  have hle := H.le
  have hmk := fun W : World => run_make_row' (w := W) (P := Tryd.prog) 26 2 (.int .i64 0) 8 Tryd.underlying26 infoI rfl .i64 .i64 n (by omega) (by omega)
  have hb0 : Below w.heap.size w (w.alloc (.cells (madeCells #[.int .i64 0] n) 2)) := (Below.refl _ _).alloc (Nat.le_refl _) _
  have hr0 := World.rowIs_made w (.int .i64 0) n 2
  have HH := Lib.hid H
  have hql := World.block_lt_of_cell? _ _ H.c0
  have c0 := H.c0
  have ok := Lib.hid H.ok
  clear H
  go_enter Tryd.func48, Tryd.ntmps48
  go_wp2
  go_loopg [4, 5, 6] n (fun g u4 u5 u6 wr => ∃ k : Nat, k ≤ n ∧ g = n - k ∧ u4 = .int .i64 (accB n L k : Int) ∧ u5 = .int .i64 (attB n L (accB n L k) : Int) ∧ u6 = .int .i64 ((k : Int) + 1) ∧ Hid (wr.rowIs w.heap.size 2 n (fun i => .int .i64 (decD n L k i))) ∧ Below w.heap.size w wr)
  case atStart =>
    refine ⟨0, Nat.zero_le _, rfl, rfl, ?_, rfl, ?_, hb0⟩
    · have e : attB n L (accB n L 0) = 0 := by
        apply bits_ext
        intro i
        cases e : (attB n L (accB n L 0)).testBit i with
        | false => simp
        | true => obtain ⟨a, b, _⟩ := (attB_bit ok.out _ _).1 e
                  simp [accB] at b
      rw [e]; rfl
    · exact Lib.hid (hr0.congr (fun i _ => rfl))
  case round =>
    clear hmk hb0 hr0
    obtain ⟨k, hk, rfl, rfl, rfl, rfl, HR, hb⟩ := hrel
    have d0 := (hb.cell (p := ⟨q, 0, none⟩) hql).trans c0
    by_cases hlt : k < n
    · have hga : attB n L (accB n L k) < 65536 := Nat.lt_trans (att_small hle _) (by decide)
      have hkd : decide ((k : Int) + 1 ≤ (n : Int)) = true := by simp; omega
      go_wp2
      go_loopg [7, 8] n (fun g u7 u8 wr1 => ∃ j : Nat, j ≤ n ∧ g = n - j ∧ u7 = .int .i64 ((accB n L k ||| those j (newA n L k) : Nat) : Int) ∧ u8 = .int .i64 (j : Int) ∧ Hid (wr1.rowIs w.heap.size 2 n (rowA n L k j)) ∧ Below w.heap.size w wr1)
      case atStart => exact ⟨0, Nat.zero_le _, rfl, by simp [those], rfl, Lib.hid (HR.out.congr (fun i _ => by simp [rowA])), hb⟩
      case round =>
        clear d0
        obtain ⟨j, hj, rfl, rfl, rfl, HR1, hb1⟩ := hrel
        have d0 := (hb1.cell (p := ⟨q, 0, none⟩) hql).trans c0
        by_cases hjl : j < n
        · have x1 := HR1.out.cell (i := j) hjl
          have z1 : wr.frozen? ⟨w.heap.size, j, none⟩ = false := HR1.out.frozen j
          have d2 := (HH.out.below hb1).c2
          have x2 := (HH.out.below hb1).bys.cell (i := j) hjl
          simp only [rowA, Nat.lt_irrefl, if_false] at x1
          have hst := or_step (accB n L k) j (newA n L k)
          have hmid := mid_at (L := L) k j hjl
          have hby := Nat.lt_of_lt_of_le (byF_lt ok.out j) (Nat.le_trans (pow_10 hle) (by decide : 1024 ≤ 65536))
          have e1 : (bits .andNot .i64 (byF L (j : Int) : Int) (attB n L (accB n L k) : Int) == 0) = subB (byF L (j : Int)) (attB n L (accB n L k)) := by
            rw [i64_andNot_nat _ _ hby hga]
            unfold subB
            rw [Bool.eq_iff_iff]
            simp
          have en : newA n L k j = (decide (decD n L k j = 0) && subB (byF L (j : Int)) (attB n L (accB n L k))) := rfl
          obtain ⟨D, hD⟩ : ∃ D, decD n L k j = D := ⟨_, rfl⟩
          obtain ⟨S, hS⟩ : ∃ S, subB (byF L (j : Int)) (attB n L (accB n L k)) = S := ⟨_, rfl⟩
          obtain ⟨T, hT⟩ : ∃ T, accB n L k ||| those j (newA n L k) = T := ⟨_, rfl⟩
          have lT : T < 65536 := by rw [← hT]; exact Nat.lt_trans (or_1024 (acc_small hle k) (those_small (by omega) _)) (by decide)
          have eo := or_shl' T j lT (by omega)
          rw [hD] at x1 en hmid
          rw [hS] at e1 en
          rw [hT] at hst ⊢
          have EO := Lib.hid eo
          have HST := Lib.hid hst
          have EN := Lib.hid en
          have HMD := Lib.hid hmid
          have HDD := Lib.hid hD
          have lb1 := HR1.out.lt
          clear eo hst en hmid hD hS hT lT hby
          by_cases hD0 : D = 0
          · subst hD0
            cases S with
            | true =>
              go_wp2
              go_roundg (n - (j + 1))
              case measure => omega
              case rel =>
                refine ⟨j + 1, by omega, rfl, by rw [EO.out, HST.out, EN.out]; simp, by simp, Lib.hid ((HR1.out.set j _).congr (fun i hi => ?_)), hb1.setCell (Nat.le_refl _) _⟩
                unfold rowA
                by_cases ei : i = j
                · subst ei
                  rw [if_pos rfl, if_pos (by omega), HMD.out, EN.out]; simp
                · rw [if_neg ei]
                  by_cases hij : i < j
                  · rw [if_pos hij, if_pos (by omega)]
                  · rw [if_neg hij, if_neg (by omega)]
            | false =>
              go_wp2
              go_roundg (n - (j + 1))
              case measure => omega
              case rel =>
                refine ⟨j + 1, by omega, rfl, by rw [HST.out, EN.out]; simp, by simp, Lib.hid (HR1.out.congr (fun i hi => ?_)), hb1⟩
                unfold rowA
                by_cases ei : i = j
                · subst ei
                  rw [if_neg (by omega), if_pos (by omega), HMD.out, EN.out, HDD.out]; simp
                · by_cases hij : i < j
                  · rw [if_pos hij, if_pos (by omega)]
                  · rw [if_neg hij, if_neg (by omega)]
          · have hDb : (D == 0) = false := by simpa using hD0
            have HD0 := Lib.hid hD0
            clear hD0
            go_wp2
            go_roundg (n - (j + 1))
            case measure => omega
            case rel =>
              have en0 : newA n L k j = false := by rw [EN.out]; simp [HD0.out]
              refine ⟨j + 1, by omega, rfl, by rw [HST.out, en0]; simp, by simp, Lib.hid (HR1.out.congr (fun i hi => ?_)), hb1⟩
              unfold rowA
              by_cases ei : i = j
              · subst ei
                rw [if_neg (by omega), if_pos (by omega), HMD.out, en0, HDD.out]; simp
              · by_cases hij : i < j
                · rw [if_pos hij, if_pos (by omega)]
                · rw [if_neg hij, if_neg (by omega)]
        · obtain rfl : n = j := by omega
          have HRM : Hid (wr.rowIs w.heap.size 2 n (rowR n L k 0)) := Lib.hid (HR1.out.congr (fun i hi => by simp [rowA, rowR, hi]))
          have ea := acc_next ok.out hle k
          rw [ea]
          have HA := fun w' (G : SgIs w' q h c n L) => shit_any q h c n L (accB n L (k + 1)) w' G (Nat.lt_trans (acc_small hle _) (by decide))
          have HA1 := HA wr (HH.out.below hb1)
          have HGN := Lib.hid (gone_next ok.out hle k)
          have la1 := Nat.lt_trans (att_small (L := L) hle (accB n L (k + 1))) (by decide : 1024 < 65536)
          obtain ⟨w1, rfl⟩ : ∃ w1, wr = w1 := ⟨_, rfl⟩
          clear HA HR1 ea
          go_wp2_with fail
          refine HA1.mono ?_
          rintro e w2 ⟨rfl, rfl⟩
          clear HA1 d0
          have d0 := (hb1.cell (p := ⟨q, 0, none⟩) hql).trans c0
          go_wp2
          go_loopg [5, 10] n (fun g u5 u10 wr2 => ∃ i2 : Nat, i2 ≤ n ∧ g = n - i2 ∧ u5 = .int .i64 ((attB n L (accB n L k) ||| those i2 (newR n L k) : Nat) : Int) ∧ u10 = .int .i64 (i2 : Int) ∧ Hid (wr2.rowIs w.heap.size 2 n (rowR n L k i2)) ∧ Below w.heap.size w wr2)
          case atStart => exact ⟨0, Nat.zero_le _, rfl, by simp [those], rfl, HRM, hb1⟩
          case round =>
            clear d0 HRM hb1
            obtain ⟨j, hj, rfl, rfl, rfl, HR1, hb1⟩ := hrel
            have d0 := (hb1.cell (p := ⟨q, 0, none⟩) hql).trans c0
            by_cases hjl : j < n
            · have x1 := HR1.out.cell (i := j) hjl
              have z1 : wr.frozen? ⟨w.heap.size, j, none⟩ = false := HR1.out.frozen j
              simp only [rowR, Nat.lt_irrefl, if_false] at x1
              have hst := or_step (attB n L (accB n L k)) j (newR n L k)
              have hdec := dec_at (L := L) k j hjl
              have HC := fun w' => sin_any (attB n L (accB n L (k + 1))) j w' la1 (by omega)
              have en : newR n L k j = (decide (midD n L k j = 0) && (attB n L (accB n L (k + 1))).testBit j) := rfl
              obtain ⟨D, hD⟩ : ∃ D, midD n L k j = D := ⟨_, rfl⟩
              obtain ⟨S, hS⟩ : ∃ S, (attB n L (accB n L (k + 1))).testBit j = S := ⟨_, rfl⟩
              obtain ⟨T, hT⟩ : ∃ T, attB n L (accB n L k) ||| those j (newR n L k) = T := ⟨_, rfl⟩
              have lT : T < 65536 := by rw [← hT]; exact Nat.lt_trans (or_1024 (att_small hle _) (those_small (by omega) _)) (by decide)
              have eo := or_shl' T j lT (by omega)
              rw [hD] at x1 en hdec
              rw [hS] at HC en
              rw [hT] at hst ⊢
              have EO := Lib.hid eo
              have HST := Lib.hid hst
              have EN := Lib.hid en
              have HMD := Lib.hid hdec
              have HDD := Lib.hid hD
              have lb1 := HR1.out.lt
              clear eo hst en hdec hD hS hT lT
              by_cases hD0 : D = 0
              · subst hD0
                cases S with
                | true =>
                  go_wp2_with fail
                  refine (HC _).mono ?_
                  rintro e w2 ⟨rfl, rfl⟩
                  go_wp2
                  go_roundg (n - (j + 1))
                  case measure => omega
                  case rel =>
                    refine ⟨j + 1, by omega, rfl, by rw [EO.out, HST.out, EN.out]; simp, by simp, Lib.hid ((HR1.out.set j _).congr (fun i hi => ?_)), hb1.setCell (Nat.le_refl _) _⟩
                    unfold rowR
                    by_cases ei : i = j
                    · subst ei
                      rw [if_pos rfl, if_pos (by omega), HMD.out, EN.out]; simp
                    · rw [if_neg ei]
                      by_cases hij : i < j
                      · rw [if_pos hij, if_pos (by omega)]
                      · rw [if_neg hij, if_neg (by omega)]
                | false =>
                  go_wp2_with fail
                  refine (HC _).mono ?_
                  rintro e w2 ⟨rfl, rfl⟩
                  go_wp2
                  go_roundg (n - (j + 1))
                  case measure => omega
                  case rel =>
                    refine ⟨j + 1, by omega, rfl, by rw [HST.out, EN.out]; simp, by simp, Lib.hid (HR1.out.congr (fun i hi => ?_)), hb1⟩
                    unfold rowR
                    by_cases ei : i = j
                    · subst ei
                      rw [if_neg (by omega), if_pos (by omega), HMD.out, EN.out, HDD.out]; simp
                    · by_cases hij : i < j
                      · rw [if_pos hij, if_pos (by omega)]
                      · rw [if_neg hij, if_neg (by omega)]
              · have hDb : (D == 0) = false := by simpa using hD0
                have HD0 := Lib.hid hD0
                clear hD0 HC
                go_wp2
                go_roundg (n - (j + 1))
                case measure => omega
                case rel =>
                  have en0 : newR n L k j = false := by rw [EN.out]; simp [HD0.out]
                  refine ⟨j + 1, by omega, rfl, by rw [HST.out, en0]; simp, by simp, Lib.hid (HR1.out.congr (fun i hi => ?_)), hb1⟩
                  unfold rowR
                  by_cases ei : i = j
                  · subst ei
                    rw [if_neg (by omega), if_pos (by omega), HMD.out, en0, HDD.out]; simp
                  · by_cases hij : i < j
                    · rw [if_pos hij, if_pos (by omega)]
                    · rw [if_neg hij, if_neg (by omega)]
            · obtain rfl : n = j := by omega
              rw [HGN.out]
              go_wp2
              go_roundg (n - (k + 1))
              case measure => omega
              case rel => exact ⟨k + 1, by omega, rfl, rfl, rfl, by simp, Lib.hid (HR1.out.congr (fun i hi => by simp [rowR, hi])), hb1⟩
    · obtain rfl : k = n := by omega
      go_wp2
      go_ret
      exact ⟨rfl, HR.out, hb⟩
end Go.Proofs.YthffhllkfadejaaDoor
