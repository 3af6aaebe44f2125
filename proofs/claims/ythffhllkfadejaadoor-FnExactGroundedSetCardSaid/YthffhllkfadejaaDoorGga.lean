/- Several of this claim's texts in one: Gg1, Gg2. -/
import Derived.Test.YthffhllkfadejaaDoorRq1
import Derived.Test.YthffhllkfadejaaDoorGab
/- The grounded set, on both sides. -/
namespace Go.Proofs.YthffhllkfadejaaDoor
open Go.ChangeShapes Go.WideShapes Go.ChangeAt Go.RowKit Go.Deep Go.Maps
set_option linter.unusedSimpArgs false
set_option linter.unusedVariables false
def grB (n : Nat) (L : List (List Int)) : Nat := those n (fun i => decide (0 < decD n L n i))
noncomputable def mGrd (X : Fm) : List Int × Bool := if fOkB X = true then (listB (grB X.1.toNat X.2), true) else ([], false)
theorem gr1_any (d : Nat → Int) (k p : Nat) (w : World) (h : ArrAt w p d) (hk : k < 10) :
    Calls Tryd.prog 73 (#[.int .i64 (k : Int)] ++ #[.pointer (some ⟨p, 0, none⟩)]) w fun e w' => e = .returned (.bool (decide (0 < d k))) ∧ Below w.heap.size w w' := by
  show Calls Tryd.prog 73 #[.int .i64 (k : Int), .pointer (some ⟨p, 0, none⟩)] w _
  have c := h.c k hk
  clear h
  generalize d k = D at c ⊢
  by_cases hD : 0 < D
  · have e1 : decide (0 < D) = true := by simpa using hD
    rw [e1]
    go_enter Tryd.func73, Tryd.ntmps73
    go_wp2
    go_ret
    exact ⟨by first | rfl | simp [e1], Below.refl _ _⟩
  · have e1 : decide (0 < D) = false := by simpa using hD
    rw [e1]
    go_enter Tryd.func73, Tryd.ntmps73
    go_wp2
    go_ret
    exact ⟨by first | rfl | simp [e1], Below.refl _ _⟩
set_option maxHeartbeats 2000000 in
theorem igrounded (n m : Nat) (L : List (List Int)) (w : World) (h : GrIs w n m L) (hT : DBT w) :
    Calls Tryd.prog 53 #[.agg #[.int .i64 (n : Int), .map (some m)]] w fun e w' => e = .returned (.int .u16 (grB n L : Int)) ∧ Below w.heap.size w w' := by
  have hle := h.le
  have b0 := (Below.refl w.heap.size w).alloc (Nat.le_refl _) (.cells #[.int .i64 (n : Int), .map (some m)] 55)
  have HR := irounds n m L _ (h.below b0) (hT.below b0)
  have hg0 : (w.alloc (.cells #[.int .i64 (n : Int), .map (some m)] 55)).cell? ⟨w.heap.size, 0, none⟩ = some (.int .i64 (n : Int)) := by go_simp
  have hg1 : (w.alloc (.cells #[.int .i64 (n : Int), .map (some m)] 55)).cell? ⟨w.heap.size, 1, none⟩ = some (.map (some m)) := by go_simp
  have hs0 : w.heap.size < (w.alloc (.cells #[.int .i64 (n : Int), .map (some m)] 55)).heap.size := by simp
  have G0 := Lib.hid hg0
  have G1 := Lib.hid hg1
  have HT := fun w' (a : ArrAt w' w'.heap.size (decD n L n)) => trivial
  have HTH := fun (w1 : World) (p : Nat) (a : ArrAt w1 p (decD n L n)) => those_any 73 (fun _ _ => rfl) #[.pointer (some ⟨p, 0, none⟩)] n (.map (some m)) (fun i => decide (0 < decD n L n i)) w1 hle
    (fun k w'' hk hb => gr1_any (decD n L n) k p w'' (a.below hb) (by omega))
  have eD : grB n L = those n (fun i => decide (0 < decD n L n i)) := rfl
  rw [eD]
  generalize those n (fun i => decide (0 < decD n L n i)) = V at HTH ⊢
  generalize decD n L n = d at HR HTH
  clear h hT hg0 hg1 HT eD
  go_enter Tryd.func53, Tryd.ntmps53
  go_wp2_with fail
  refine HR.mono ?_
  rintro e w1 ⟨rfl, hb1⟩
  have e0 := (hb1.cell (p := ⟨w.heap.size, 0, none⟩) hs0).trans G0.out
  have e1 := (hb1.cell (p := ⟨w.heap.size, 1, none⟩) hs0).trans G1.out
  have b1 := b0.trans (hb1.mono b0.size)
  have lt1 : w.heap.size < w1.heap.size := Nat.lt_of_lt_of_le hs0 hb1.size
  have ne1 : w.heap.size ≠ w1.heap.size := Nat.ne_of_lt lt1
  have HTH1 := HTH _ w1.heap.size (arr_at w1 d)
  have b2 := b1.alloc (by omega) (arrC d)
  clear HTH hb1
  go_wp2_with fail
  refine HTH1.mono ?_
  rintro e w2 ⟨rfl, hb2⟩
  go_wp2
  go_ret
  exact ⟨rfl, b2.trans (hb2.mono b2.size)⟩
set_option maxHeartbeats 2000000 in
theorem gs1_ok (X : Fm) (b hi p : Nat) (w : World) (h : FmR w b hi X) (hp : FmAt w p X.1 (.slice (some ⟨b, 0, none⟩) X.2.length X.2.length)) (ok : fOk X) (hT : DBT w) :
    Calls Tryd.prog 52 #[.pointer (some ⟨p, 0, none⟩)] w fun e w' => (∃ v, e = .returned v ∧ OwI w' w.heap.size w'.heap.size v (listB (grB X.1.toNat X.2))) ∧ Below w.heap.size w w' := by
  have HG := graphof_yes X b hi w h ok
  have hn : X.1.toNat ≤ 10 := by have := ok.2.1; omega
  have hN : ((X.1.toNat : Nat) : Int) = X.1 := by have := ok.1; omega
  have hlt : grB X.1.toNat X.2 < 1024 := Nat.lt_of_lt_of_le (those_lt _ _) (pow10 hn)
  have HL := fun w' (hb : Below w.heap.size w w') => ilist (grB X.1.toNat X.2) w' hlt (hT.below hb)
  have HGR := fun m w' (hb : Below w.heap.size w w') (G : GrIs w' X.1.toNat m X.2) => igrounded X.1.toNat m X.2 w' G (hT.below hb)
  rw [hN] at HGR
  generalize grB X.1.toNat X.2 = D at HL HGR hlt ⊢
  obtain ⟨p0, p1, pl⟩ := hp
  clear ok h hT hN
  go_enter Tryd.func52, Tryd.ntmps52
  go_wp2_with fail
  refine HG.mono ?_
  rintro e w1 ⟨m, rfl, hG, hb1⟩
  have HGR1 := HGR m w1 hb1 hG
  clear HGR hG
  go_wp2_with fail
  refine HGR1.mono ?_
  rintro e w2 ⟨rfl, hb2⟩
  have b2 := hb1.trans (hb2.mono hb1.size)
  have HL2 := HL w2 b2
  clear HL
  go_wp2_with fail
  refine HL2.mono ?_
  rintro e w3 ⟨⟨v, rfl, ho⟩, hb3⟩
  go_wp2
  go_ret
  exact ⟨⟨v, rfl, ho.mono b2.size (Nat.le_refl _)⟩, b2.trans (hb3.mono b2.size)⟩
theorem gs1_bad (X : Fm) (b hi p : Nat) (w : World) (h : FmR w b hi X) (hp : FmAt w p X.1 (.slice (some ⟨b, 0, none⟩) X.2.length X.2.length)) (no : ¬ fOk X) :
    Calls Tryd.prog 52 #[.pointer (some ⟨p, 0, none⟩)] w fun e w' => Panics e ∧ Below w.heap.size w w' := by
  have HG := graphof_no X b hi w h no
  obtain ⟨p0, p1, pl⟩ := hp
  clear h no
  go_enter Tryd.func52, Tryd.ntmps52
  go_wp2_with fail
  refine HG.mono ?_
  rintro e w1 ⟨⟨u, x, rfl⟩, hb1⟩
  go_wp2
  exact ⟨rfl, ⟨_, _, rfl⟩, hb1⟩
set_option maxHeartbeats 1000000 in
theorem iGrd (X : Fm) (w : World) (lo hi : Nat) (u : Value) (h : CpG w lo hi u X) (hT : DBT w) : Calls Tryd.prog 23 #[u] w (QIb (mGrd X) w) := by
  obtain ⟨b, rfl, -, h⟩ := h
  have b0 := (Below.refl w.heap.size w).alloc (Nat.le_refl _) (.cells #[.int .i64 X.1, .slice (some ⟨b, 0, none⟩) X.2.length X.2.length] 29)
  have hp := fm_at w X.1 (.slice (some ⟨b, 0, none⟩) X.2.length X.2.length)
  unfold mGrd
  by_cases ok : fOk X
  · rw [if_pos (fOkB_yes ok)]
    have HV := att_yes_ints 52 (fun _ _ => rfl) #[.pointer (some ⟨w.heap.size, 0, none⟩)] _ _
      (gs1_ok X b hi w.heap.size _ (h.below b0) hp ok (hT.below b0))
    generalize listB (grB X.1.toNat X.2) = z at HV ⊢
    clear h hp ok hT
    go_enter Tryd.func23, Tryd.ntmps23
    go_wp2_with fail
    refine HV.mono ?_
    rintro e w1 ⟨⟨v, rfl, ho⟩, hb1⟩
    go_wp2
    go_ret2
    exact ⟨v, rfl, ho.mono b0.size (Nat.le_refl _), b0.trans (hb1.mono b0.size)⟩
  · rw [if_neg (by rw [fOkB_no ok]; simp)]
    have HV := att_no_ints 52 (fun _ _ => rfl) #[.pointer (some ⟨w.heap.size, 0, none⟩)] _
      (gs1_bad X b hi w.heap.size _ (h.below b0) hp ok)
    clear h hp ok hT
    go_enter Tryd.func23, Tryd.ntmps23
    go_wp2_with fail
    refine HV.mono ?_
    rintro e w1 ⟨rfl, hb1⟩
    go_wp2
    go_ret2
    exact ⟨_, rfl, OwI.nil _ _ _, b0.trans (hb1.mono b0.size)⟩
end Go.Proofs.YthffhllkfadejaaDoor
/- The grounded set, by the specification. -/
namespace Go.Proofs.YthffhllkfadejaaDoor
open Go.ChangeShapes Go.WideShapes Go.ChangeAt Go.RowKit Go.Deep Go.Maps
set_option linter.unusedSimpArgs false
set_option linter.unusedVariables false
set_option maxHeartbeats 2000000 in
set_option maxRecDepth 100000 in
theorem sgrounded (q h c n : Nat) (L : List (List Int)) (w : World) (H : SgIs w q h c n L) :
    Calls Tryd.prog 51 #[.pointer (some ⟨q, 0, none⟩)] w fun e w' => e = .returned (.int .i64 (grB n L : Int)) ∧ Below w.heap.size w w' := by
  have hle := H.le
  have HR := srounds q h c n L w H
  have c0 := H.c0
  have hql := World.block_lt_of_cell? _ _ H.c0
  have eD : grB n L = those n (fun i => decide (0 < decD n L n i)) := rfl
  rw [eD]
  generalize decD n L n = d at HR ⊢
  clear H eD
  go_enter Tryd.func51, Tryd.ntmps51
  go_wp2_with fail
  refine HR.mono ?_
  rintro e w1 ⟨rfl, hr, hb1⟩
  have d0 := (hb1.cell (p := ⟨q, 0, none⟩) hql).trans c0
  have HRR := Lib.hid hr
  have lw := World.rowIs.lt hr
  clear hr
  go_wp2
  go_loopg [3, 5] n (fun g o i wr => ∃ k : Nat, k ≤ n ∧ g = n - k ∧ o = .int .i64 (those k (fun i => decide (0 < d i)) : Int) ∧ i = .int .i64 (k : Int) ∧ w1 = wr)
  case atStart => exact ⟨0, Nat.zero_le _, rfl, rfl, rfl, rfl⟩
  case round =>
    obtain ⟨k, hk, rfl, rfl, rfl, rfl⟩ := hrel
    by_cases hlt : k < n
    · have x1 := HRR.out.cell (i := k) hlt
      (try simp only at x1)
      have hd : those (k + 1) (fun i => decide (0 < d i)) = if decide (0 < d k) = true then those k (fun i => decide (0 < d i)) ||| 2 ^ k else those k (fun i => decide (0 < d i)) := rfl
      obtain ⟨D, hD⟩ : ∃ D, d k = D := ⟨_, rfl⟩
      obtain ⟨T, hT⟩ : ∃ T, those k (fun i => decide (0 < d i)) = T := ⟨_, rfl⟩
      have lT : T < 65536 := by rw [← hT]; exact Nat.lt_of_lt_of_le (those_lt k _) (Nat.le_trans (pow_10 (by omega)) (by decide))
      rw [hD] at x1 hd
      rw [hT] at hd ⊢
      have eo := or_shl' T k lT (by omega)
      have EO := Lib.hid eo
      have HO := Lib.hid hd
      clear eo hd hD hT lT
      by_cases hp : 0 < D
      · have e1 : decide (0 < D) = true := by simpa using hp
        have HP := Lib.hid e1
        go_wp2
        go_roundg (n - (k + 1))
        case measure => omega
        case rel => exact ⟨k + 1, by omega, rfl, by rw [EO.out, HO.out, HP.out]; simp, by simp, rfl⟩
      · have e1 : decide (0 < D) = false := by simpa using hp
        have HP := Lib.hid e1
        go_wp2
        go_roundg (n - (k + 1))
        case measure => omega
        case rel => exact ⟨k + 1, by omega, rfl, by rw [HO.out, HP.out]; simp, by simp, rfl⟩
    · obtain rfl : k = n := by omega
      go_wp2
      go_ret
      exact ⟨rfl, hb1⟩
set_option maxHeartbeats 2000000 in
theorem sGrd (X : Fm) (w : World) (lo hi : Nat) (u : Value) (h : CpG w lo hi u X) : Calls Tryd.prog 22 #[u] w (PIb (mGrd X) w) := by
  obtain ⟨b, rfl, -, h⟩ := h
  have b0 := (Below.refl w.heap.size w).alloc (Nat.le_refl _) (.cells #[.int .i64 X.1, .slice (some ⟨b, 0, none⟩) X.2.length X.2.length] 29)
  have hp := fm_at w X.1 (.slice (some ⟨b, 0, none⟩) X.2.length X.2.length)
  have HF := sfok X b hi w.heap.size _ (h.below b0) hp
  unfold mGrd
  by_cases ok : fOk X
  · rw [fOkB_yes ok] at HF ⊢
    rw [if_pos rfl]
    have hn : X.1.toNat ≤ 10 := by have := ok.2.1; omega
    have HO := fun w' (hb : Below _ _ w') => sof_any X b hi w.heap.size w' ((h.below b0).below hb) ok (hp.below hb)
    have HM := fun w' q hh cc (H : SgIs w' q hh cc X.1.toNat X.2) => sgrounded q hh cc X.1.toNat X.2 w' H
    have hlt : grB X.1.toNat X.2 < 1024 := Nat.lt_of_lt_of_le (those_lt _ _) (pow_10 hn)
    have HL := fun w' => slist (grB X.1.toNat X.2) w' hlt
    generalize grB X.1.toNat X.2 = D at HM HL hlt ⊢
    clear ok h hp
    go_enter Tryd.func22, Tryd.ntmps22
    go_wp2_with fail
    refine HF.mono ?_
    rintro e w1 ⟨rfl, hd1⟩
    have hb1 := hd1.below
    have HO1 := HO _ hb1
    clear hd1
    go_wp2_with fail
    refine HO1.mono ?_
    rintro e w2 ⟨⟨q, hh, cc, rfl, HG⟩, hb2⟩
    have hb3 := hb1.trans (hb2.mono hb1.size)
    have HM1 := HM _ _ _ _ HG
    go_wp2_with fail
    refine HM1.mono ?_
    rintro e w3 ⟨rfl, hb4⟩
    have hb5 := hb3.trans (hb4.mono hb3.size)
    go_wp2_with fail
    refine (HL _).mono ?_
    rintro e w4 ⟨⟨v, rfl, ho⟩, hb6⟩
    go_wp2
    go_ret2
    have b3 := b0.trans (hb5.mono b0.size)
    exact ⟨v, rfl, (ho.mono b3.size (Nat.le_refl _)).rd, b3.trans (hb6.mono b3.size)⟩
  · rw [fOkB_no ok] at HF ⊢
    rw [if_neg (by simp)]
    clear h hp ok
    go_enter Tryd.func22, Tryd.ntmps22
    go_wp2_with fail
    refine HF.mono ?_
    rintro e w1 ⟨rfl, hd1⟩
    go_wp2
    go_ret2
    exact ⟨_, rfl, (OwI.nil _ _ _).rd, b0.trans (hd1.below.mono b0.size)⟩
end Go.Proofs.YthffhllkfadejaaDoor
