/- The program's AttackersOf: the closure. -/
import Derived.Test.YtllfopbpchjhpaaDoorGa1
import Derived.Test.YtllfopbpchjhpaaDoorGr8
import Derived.Test.YtllfopbpchjhpaaDoorAta
import Derived.Deep.RegionHeld3
import Derived.RegionDies
namespace Go
theorem wpAnyH_take8 {P : Program} {md : Region.Mode} {ops : Array Oper} {Q : Exit → Act → World → Prop} {S : World → Prop} {i : Nat} {oi : Oper} {v : Value} {fuel : Nat} {listed : Array Bool} {a : Act} {w : World} (d : Tmp) (hi : ops[i]? = some oi) (hd : oi.dst = some d)
    (hs : Region.noSelect ops = true) (hf : Region.free md ops listed i = true) (hr : (Region.ready md ops listed).contains i = true)
    (hQ : ∀ c a w, Q (.panic c) (a.put (some d) v) w → Q (.panic c) a w) (hy : YieldsIf P ops S oi v a) (hS : S w)
    (h : wpAnyH P md ops Q S fuel (listed.setIfInBounds i true) (a.put (some d) v) w) : wpAnyH P md ops Q S (fuel + 1) listed a w :=
  wpAnyH_take hi hs hf hr (by rw [hd]; exact hQ) hy hS (by rw [hd]; exact h)
end Go
namespace Go.Proofs.YtllfopbpchjhpaaDoor
open Go.ChangeShapes Go.WideShapes Go.ChangeAt Go.RowKit Go.Deep Go.Maps
set_option linter.unusedSimpArgs false
set_option linter.unusedVariables false
/-- What a region with a graph and one more variable reads, kept. -/
def Bu (w0 : World) (q r : Nat) (n m v : Value) (w' : World) : Prop := w'.cell? ⟨q, 0, none⟩ = some n ∧ w'.cell? ⟨q, 1, none⟩ = some m ∧ w'.cell? ⟨r, 0, none⟩ = some v ∧ Hid (Below w0.heap.size w0 w')
theorem Bu.bel {w0 w' : World} {q r : Nat} {n m v : Value} (h : Bu w0 q r n m v w') : Below w0.heap.size w0 w' := h.2.2.2.out
theorem Bu.drew {w0 w' : World} {q r : Nat} {n m v : Value} (h : Bu w0 q r n m v w') : Bu w0 q r n m v w'.drew := ⟨h.1, h.2.1, h.2.2.1, Lib.hid h.bel.drew⟩
theorem Bu.below {w0 w' w'' : World} {q r : Nat} {n m v : Value} (h : Bu w0 q r n m v w') (hb : Below w'.heap.size w' w'') : Bu w0 q r n m v w'' := by
  have k : ∀ {b : Nat} {o : Nat} {v : Value}, w'.cell? ⟨b, o, none⟩ = some v → w''.cell? ⟨b, o, none⟩ = some v := fun {b o v} hc => (hb.cell (p := ⟨b, o, none⟩) (World.block_lt_of_cell? _ _ hc)).trans hc
  exact ⟨k h.1, k h.2.1, k h.2.2.1, Lib.hid (h.bel.trans (hb.mono h.bel.size))⟩
theorem all_has8 {N : Nat} (x : Int) : hasB (2 ^ N - 1) x = decide (0 ≤ x ∧ x < (N : Int)) := by
  unfold hasB
  rw [all_bit, Bool.eq_iff_iff]
  simp
  omega
set_option maxHeartbeats 2000000 in
theorem ak1_okX (X : Fm) (b cp p r k : Nat) (w : World) (h : FmX w b X) (hp : FmAt w p X.1 (.slice (some ⟨b, 0, none⟩) X.2.length cp)) (hr : w.cell? ⟨r, 0, none⟩ = some (.int .i64 (k : Int))) (ok : fOk X) (hk : (k : Int) < X.1) (hT : DBT w) :
    Calls Tryd.prog 14 #[.pointer (some ⟨p, 0, none⟩), .pointer (some ⟨r, 0, none⟩)] w fun e w' => (∃ v, e = .returned v ∧ OwI w' w.heap.size w'.heap.size v (listB (byF X.2 (k : Int)))) ∧ Below w.heap.size w w' := by
  have HG := graphof_yesX X b cp w h ok
  obtain ⟨N, L⟩ := X
  have n0 : 0 ≤ N := ok.1
  have n1 : N ≤ 10 := ok.2.1
  obtain ⟨n, rfl⟩ : ∃ n : Nat, N = (n : Int) := ⟨N.toNat, by omega⟩
  simp only [Int.toNat_natCast] at *
  have HA : ∀ (m : Value) (w' : World), Calls Tryd.prog 16 #[.agg #[.int .i64 (n : Int), m]] w' fun e w'' => e = .returned (.int .u16 ((2 ^ n - 1 : Nat) : Int)) ∧ Below w'.heap.size w' w'' := fun m w' => by
    have := all_any (n : Int) m w' (by omega) (by omega)
    simpa using this
  have HH : ∀ w', Calls Tryd.prog 17 #[.int .u16 ((2 ^ n - 1 : Nat) : Int), .int .i64 (k : Int)] w' fun e w'' => e = .returned (.bool true) ∧ w' = w'' := fun w' => by
    have := has_any (2 ^ n - 1) (k : Int) w' (by have := pow10 (n := n) (by omega); omega)
    rw [all_has8] at this
    have e : decide (0 ≤ (k : Int) ∧ (k : Int) < (n : Int)) = true := by simp; omega
    rwa [e] at this
  have HL := fun w' (hb : Below w.heap.size w w') (hs : byF L (k : Int) < 1024) => ilist (byF L (k : Int)) w' hs (hT.below hb)
  generalize 2 ^ n - 1 = AA at HA HH
  obtain ⟨p0, p1, pl⟩ := hp
  have hrl := World.block_lt_of_cell? _ _ hr
  have hk10 : k < 10 := by omega
  clear ok h hT hk
  go_enter Tryd.func14, Tryd.ntmps14
  go_wp2_with fail
  refine HG.mono ?_
  rintro e w1 ⟨m, rfl, hG, hb1⟩
  have r1 := (hb1.cell (p := ⟨r, 0, none⟩) hrl).trans hr
  have hrl1 := Nat.lt_of_lt_of_le hrl hb1.size
  have b2 := (Below.refl w1.heap.size w1).alloc (Nat.le_refl _) (.cells #[.int .i64 (n : Int), .map (some m)] 40)
  obtain ⟨w2, hw2⟩ : ∃ w2, w2 = w1.alloc (.cells #[.int .i64 (n : Int), .map (some m)] 40) := ⟨_, rfl⟩
  have q0 : w2.cell? ⟨w1.heap.size, 0, none⟩ = some (.int .i64 (n : Int)) := by rw [hw2]; go_simp
  have q1 : w2.cell? ⟨w1.heap.size, 1, none⟩ = some (.map (some m)) := by rw [hw2]; go_simp
  have q2 : w2.cell? ⟨r, 0, none⟩ = some (.int .i64 (k : Int)) := by rw [hw2]; exact (b2.cell (p := ⟨r, 0, none⟩) hrl1).trans r1
  rw [← hw2] at b2
  have hG2 := hG.below b2
  have hb2 := hb1.trans (b2.mono hb1.size)
  obtain ⟨s, hs⟩ : ∃ s, w1.heap.size = s := ⟨_, rfl⟩
  rw [hs] at q0 q1
  go_wp2_with fail
  (try rw [← hw2])
  (try rw [hs])
  have bs : Hid (Bu w2 s r (.int .i64 (n : Int)) (.map (some m)) (.int .i64 (k : Int)) w2) := Lib.hid ⟨q0, q1, q2, Lib.hid (Below.refl _ _)⟩
  have HAh := Lib.hid (HA (.map (some m)))
  have HHh := Lib.hid HH
  have B2 := Lib.hid hb2
  clear HA HH hG hw2 r1 hrl1 hb1 hb2 b2 hs
  go_region_held3 (fun w' => w'.cell? ⟨s, 0, none⟩ = some (.int .i64 (n : Int)) ∧ w'.cell? ⟨s, 1, none⟩ = some (.map (some m)) ∧ w'.cell? ⟨r, 0, none⟩ = some (.int .i64 (k : Int)) ∧ Hid (Below w2.heap.size w2 w'))
    (first | exact (Hid.out bs).drew | exact Hid.out (by assumption))
    (first
      | (go_at_call 16; have hcur : Bu w2 s r (.int .i64 (n : Int)) (.map (some m)) (.int .i64 (k : Int)) _ := (by assumption); refine (HAh.out _).mono ?_; rintro e w3 ⟨rfl, hb3⟩; have hB : Hid (Bu w2 s r (.int .i64 (n : Int)) (.map (some m)) (.int .i64 (k : Int)) w3) := Lib.hid (hcur.below hb3))
      | (go_at_call 17; have hcur : Bu w2 s r (.int .i64 (n : Int)) (.map (some m)) (.int .i64 (k : Int)) _ := (by assumption); refine (HHh.out _).mono ?_; rintro e w4 ⟨rfl, rfl⟩; have hB2 := Lib.hid hcur)
      | (go_at_call 15; have hcur : Bu w2 s r (.int .i64 (n : Int)) (.map (some m)) (.int .i64 (k : Int)) _ := (by assumption); refine (req_yes _).mono ?_; rintro e w4 ⟨rfl, rfl⟩; have hB3 := Lib.hid hcur))
  all_goals
    have b3 := B2.out.trans (hcur.bel.mono B2.out.size)
    have hG3 := hG2.below hcur.bel
    have hlook := hG3.look k hk10
    have HL3 := HL w3 b3 (hG3.by_lt k)
    obtain ⟨t0, t1, t2, -⟩ := hcur
    clear HL hG2 hG3 hB hB2 hB3 bs HAh HHh
    obtain ⟨D, hD⟩ : ∃ D, byF L (k : Int) = D := ⟨_, rfl⟩
    rw [hD] at HL3 hlook
    have HD := Lib.hid hD
    clear hD
    go_wp2_with fail
    refine HL3.mono ?_
    rintro e w4 ⟨⟨v, rfl, ho⟩, hb4⟩
    go_wp2
    go_ret
    exact ⟨⟨v, rfl, by rw [HD.out]; exact ho.mono b3.size (Nat.le_refl _)⟩, b3.trans (hb4.mono b3.size)⟩
theorem ak1_ok (X : Fm) (b hi p r k : Nat) (w : World) (h : FmR w b hi X) (hp : FmAt w p X.1 (.slice (some ⟨b, 0, none⟩) X.2.length X.2.length)) (hr : w.cell? ⟨r, 0, none⟩ = some (.int .i64 (k : Int))) (ok : fOk X) (hk : (k : Int) < X.1) (hT : DBT w) :
    Calls Tryd.prog 14 #[.pointer (some ⟨p, 0, none⟩), .pointer (some ⟨r, 0, none⟩)] w fun e w' => (∃ v, e = .returned v ∧ OwI w' w.heap.size w'.heap.size v (listB (byF X.2 (k : Int)))) ∧ Below w.heap.size w w' := ak1_okX X b _ p r k w h.toX hp hr ok hk hT
set_option maxHeartbeats 4000000 in
theorem ak1_bad (X : Fm) (a : Int) (b hi p r : Nat) (w : World) (h : FmR w b hi X) (hp : FmAt w p X.1 (.slice (some ⟨b, 0, none⟩) X.2.length X.2.length)) (hr : w.cell? ⟨r, 0, none⟩ = some (.int .i64 a)) (hm : ¬ (fOk X ∧ 0 ≤ a ∧ a < X.1)) :
    Calls Tryd.prog 14 #[.pointer (some ⟨p, 0, none⟩), .pointer (some ⟨r, 0, none⟩)] w fun e w' => Panics e ∧ Below w.heap.size w w' := by
  by_cases ok : fOk X
  · have HG := graphof_yes X b hi w h ok
    obtain ⟨N, L⟩ := X
    have n0 : 0 ≤ N := ok.1
    have n1 : N ≤ 10 := ok.2.1
    have hma : ¬ (0 ≤ a ∧ a < N) := fun q => hm ⟨ok, q⟩
    obtain ⟨n, rfl⟩ : ∃ n : Nat, N = (n : Int) := ⟨N.toNat, by omega⟩
    simp only [Int.toNat_natCast] at *
    have HA : ∀ (m : Value) (w' : World), Calls Tryd.prog 16 #[.agg #[.int .i64 (n : Int), m]] w' fun e w'' => e = .returned (.int .u16 ((2 ^ n - 1 : Nat) : Int)) ∧ Below w'.heap.size w' w'' := fun m w' => by
      have := all_any (n : Int) m w' (by omega) (by omega)
      simpa using this
    have HH : ∀ w', Calls Tryd.prog 17 #[.int .u16 ((2 ^ n - 1 : Nat) : Int), .int .i64 a] w' fun e w'' => e = .returned (.bool false) ∧ w' = w'' := fun w' => by
      have := has_any (2 ^ n - 1) a w' (by have := pow10 (n := n) (by omega); omega)
      rw [all_has8] at this
      have e : decide (0 ≤ a ∧ a < (n : Int)) = false := by simpa using hma
      rwa [e] at this
    generalize 2 ^ n - 1 = AA at HA HH
    obtain ⟨p0, p1, pl⟩ := hp
    have hrl := World.block_lt_of_cell? _ _ hr
    clear ok h hm hma
    go_enter Tryd.func14, Tryd.ntmps14
    go_wp2_with fail
    refine HG.mono ?_
    rintro e w1 ⟨m, rfl, hG, hb1⟩
    have r1 := (hb1.cell (p := ⟨r, 0, none⟩) hrl).trans hr
    have hrl1 := Nat.lt_of_lt_of_le hrl hb1.size
    have b2 := (Below.refl w1.heap.size w1).alloc (Nat.le_refl _) (.cells #[.int .i64 (n : Int), .map (some m)] 40)
    obtain ⟨w2, hw2⟩ : ∃ w2, w2 = w1.alloc (.cells #[.int .i64 (n : Int), .map (some m)] 40) := ⟨_, rfl⟩
    have q0 : w2.cell? ⟨w1.heap.size, 0, none⟩ = some (.int .i64 (n : Int)) := by rw [hw2]; go_simp
    have q1 : w2.cell? ⟨w1.heap.size, 1, none⟩ = some (.map (some m)) := by rw [hw2]; go_simp
    have q2 : w2.cell? ⟨r, 0, none⟩ = some (.int .i64 a) := by rw [hw2]; exact (b2.cell (p := ⟨r, 0, none⟩) hrl1).trans r1
    rw [← hw2] at b2
    have hb2 := hb1.trans (b2.mono hb1.size)
    obtain ⟨s, hs⟩ : ∃ s, w1.heap.size = s := ⟨_, rfl⟩
    rw [hs] at q0 q1
    go_wp2_with fail
    (try rw [← hw2])
    (try rw [hs])
    have bs : Hid (Bu w2 s r (.int .i64 (n : Int)) (.map (some m)) (.int .i64 a) w2) := Lib.hid ⟨q0, q1, q2, Lib.hid (Below.refl _ _)⟩
    have HAh := Lib.hid (HA (.map (some m)))
    have HHh := Lib.hid HH
    have B2 := Lib.hid hb2
    clear HA HH hG hw2 r1 hrl1 hb1 hb2 b2 hs
    refine wp_region_held_drew (S := fun w' => w'.cell? ⟨s, 0, none⟩ = some (.int .i64 (n : Int)) ∧ w'.cell? ⟨s, 1, none⟩ = some (.map (some m)) ∧ w'.cell? ⟨r, 0, none⟩ = some (.int .i64 a) ∧ Hid (Below w2.heap.size w2 w')) (by kernel_rfl) (Bu.drew bs.out) (fun hHeld => ?_)
    refine wpAnyH_take8 (i := 0) (v := .agg #[.int .i64 (n : Int), .map (some m)]) 6 rfl rfl (by kernel_rfl) (by kernel_rfl) (by kernel_rfl) (fun _ _ _ h => h) (Or.inl ⟨by rfl, fun w hSw => ?_⟩) hHeld ?_
    · obtain ⟨u0, u1, u2, -⟩ := hSw
      go_simp
    try simp only [Act.put, List.setIfInBounds_toArray, List.set_cons_zero, List.set_cons_succ]
    refine wpAnyH_take8 (i := 2) (v := .int .i64 a) 8 rfl rfl (by kernel_rfl) (by kernel_rfl) (by kernel_rfl) (fun _ _ _ h => h) (Or.inl ⟨by rfl, fun w hSw => ?_⟩) hHeld ?_
    · obtain ⟨u0, u1, u2, -⟩ := hSw
      go_simp
    try simp only [Act.put, List.setIfInBounds_toArray, List.set_cons_zero, List.set_cons_succ]
    refine wpAnyH_ready (rs := [1]) (by kernel_rfl) (by simp) ?_
    refine AllReadyH.cons rfl (fun K hK => ?_) AllReadyH.nil
    go_simp
    go_at_call 16
    refine (HAh.out _).mono ?_
    rintro e w3 ⟨rfl, hb3⟩
    have hcur := (Bu.drew bs.out).below hb3
    refine hK.out _ _ hcur (fun hHeld => ?_)
    clear hK K
    try simp only [Act.put, List.setIfInBounds_toArray, List.set_cons_zero, List.set_cons_succ]
    refine wpAnyH_ready (rs := [3]) (by kernel_rfl) (by simp) ?_
    refine AllReadyH.cons rfl (fun K hK => ?_) AllReadyH.nil
    go_simp
    go_at_call 17
    refine (HHh.out _).mono ?_
    rintro e w4 ⟨rfl, rfl⟩
    refine hK.out _ _ hcur (fun hHeld => ?_)
    clear hK K
    try simp only [Act.put, List.setIfInBounds_toArray, List.set_cons_zero, List.set_cons_succ]
    refine wpAnyH_ready (rs := [4]) (by kernel_rfl) (by simp) ?_
    refine AllReadyH.cons rfl (fun K hK => ?_) AllReadyH.nil
    go_simp
    go_at_call 15
    refine (req_no _).mono ?_
    rintro e w4 ⟨rfl, rfl⟩
    exact ⟨rfl, ⟨_, _, rfl⟩, B2.out.trans (hcur.bel.mono B2.out.size)⟩
  · have HG := graphof_no X b hi w h ok
    obtain ⟨p0, p1, pl⟩ := hp
    clear h ok hm
    go_enter Tryd.func14, Tryd.ntmps14
    go_wp2_with fail
    refine HG.mono ?_
    rintro e w1 ⟨⟨u, x, rfl⟩, hb1⟩
    go_wp2
    exact ⟨rfl, ⟨_, _, rfl⟩, hb1⟩
end Go.Proofs.YtllfopbpchjhpaaDoor
