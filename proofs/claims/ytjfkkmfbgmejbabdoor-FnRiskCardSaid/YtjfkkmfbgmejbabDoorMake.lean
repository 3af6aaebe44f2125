/- Plain numbers of a quotient in lowest terms, and contracts of the functions that make one. -/
import Derived.Test.YtjfkkmfbgmejbabDoorCheck
import Derived.ChangeAlike
import Derived.BigRegion
namespace Go.Proofs.YtjfkkmfbgmejbabDoor
open Go.ChangeShapes Go.WideShapes Go.ChangeAt Go.RowKit
/-- The divisor with the sign of the denominator. -/
def sG (n d : Int) : Int := if d < 0 then -(Int.gcd n d : Int) else Int.gcd n d
def rN (n d : Int) : Int := n.tdiv (sG n d)
def rD (n d : Int) : Int := d.tdiv (sG n d)
noncomputable def gB (p : Bool) (n d : Int) : Bool := p && okB (rN n d) (rD n d)
noncomputable def gN (p : Bool) (n d : Int) : Int := if gB p n d = true then rN n d else 0
noncomputable def gD (p : Bool) (n d : Int) : Int := if gB p n d = true then rD n d else 0
theorem g_yes {p : Bool} {n d : Int} (h : gB p n d = true) : gN p n d = rN n d ∧ gD p n d = rD n d := by simp [gN, gD, h]
theorem g_no {p : Bool} {n d : Int} (h : gB p n d = false) : gN p n d = 0 ∧ gD p n d = 0 := by simp [gN, gD, h]
theorem gcd_pos' {n d : Int} (h : d ≠ 0) : 1 ≤ Int.gcd n d := by
  have := Int.gcd_pos_of_ne_zero_right n h
  omega
theorem gcd_le' {n d : Int} (h : d ≠ 0) : (Int.gcd n d : Int) ≤ d.natAbs := by
  have : Int.gcd n d ≤ d.natAbs := Nat.gcd_le_right _ (by omega)
  omega
theorem sG_ne {n d : Int} (h : d ≠ 0) : sG n d ≠ 0 := by
  have := gcd_pos' (n := n) h
  unfold sG; split <;> omega
theorem sG_bd {n d : Int} (h : d ≠ 0) : -(d.natAbs : Int) ≤ sG n d ∧ sG n d ≤ d.natAbs := by
  have := gcd_le' (n := n) h
  have := gcd_pos' (n := n) h
  unfold sG; split <;> omega
theorem sG_neg {n d : Int} (h : d < 0) : -(Int.gcd n d : Int) = sG n d := by simp [sG, h]
theorem sG_pos {n d : Int} (h : ¬ d < 0) : (Int.gcd n d : Int) = sG n d := by simp [sG, h]
theorem tdiv_bd (n d : Int) : -(n.natAbs : Int) ≤ n.tdiv d ∧ n.tdiv d ≤ n.natAbs := by
  have h : (n.tdiv d).natAbs ≤ n.natAbs := by
    rw [Int.natAbs_tdiv]; exact Nat.div_le_self _ _
  omega

/-- What 'reduced' answers: the two terms and nil, or 0, 0 and an error. -/
def redPost (b : Bool) (x y : Int) (w : World) (e : Ending) (w' : World) : Prop :=
  (if b = true then e = .returned (.tuple #[.agg #[.int .i64 x, .int .i64 y], .nilIface]) else ∃ s, e = .returned (.tuple #[.agg #[.int .i64 0, .int .i64 0], .iface 110 (.agg #[.string s])])) ∧ Below w.heap.size w w'
theorem okB_t {n d : Int} (h : okB n d = true) : okF n d := by
  rcases okF_dec n d with k | k
  · exact k
  · rw [okB_no k] at h; cases h
theorem okB_f {n d : Int} (h : okB n d = false) : ¬ okF n d := by
  intro k; rw [okB_yes k] at h; cases h

section
variable (n d c : Int) (w : World) (h1 : -4000000000000000000 ≤ n) (h2 : n ≤ 4000000000000000000) (h3 : -4000000000000000000 ≤ d) (h4 : d ≤ 4000000000000000000) (hd : d ≠ 0)
    (q3 : c ≠ 0) (q5 : -(n.natAbs : Int) ≤ n.tdiv c ∧ n.tdiv c ≤ n.natAbs) (q6 : -(d.natAbs : Int) ≤ d.tdiv c ∧ d.tdiv c ≤ d.natAbs)
    (g1 : 1 ≤ Int.gcd n d) (g2 : (Int.gcd n d : Int) ≤ d.natAbs)
include h1 h2 h3 h4 hd q3 q5 q6 g1 g2
set_option maxHeartbeats 2000000 in
theorem reduced_core_yes (Q1 : d < 0 → Hid (-(Int.gcd n d : Int) = c)) (Q2 : ¬ d < 0 → Hid ((Int.gcd n d : Int) = c)) (hk : Hid (okF (n.tdiv c) (d.tdiv c))) :
    Calls Tryd.prog 54 #[.int .i64 n, .int .i64 d] w (redPost true (n.tdiv c) (d.tdiv c) w) := by
  have hd' : (d == 0) = false := by simp [hd]
  have hc : (c == 0) = false := by simp [q3]
  by_cases hn : d < 0
  all_goals
    have Q := by first | exact Q1 hn | exact Q2 hn
    clear Q1 Q2
    go_enter Tryd.func54, Tryd.ntmps54
    go_wp2_with (go_at_call 82; refine (div_any _ _ _ (by omega) (by omega) (by omega) (by omega)).mono ?_; rintro e w' ⟨rfl, k, rfl⟩)
    rw [Q.out]
    clear Q
    generalize (Int.gcd n d : Int) = g at *
    go_region
    go_wp2_with fail
    refine (check_yes _ _ _ hk.out).mono ?_
    rintro e w1 ⟨rfl, hb⟩
    obtain ⟨hcc, hf⟩ := bcell hb
    have c0 : w1.cell? ⟨w.heap.size, 0, none⟩ = some (.int .i64 0) := by rw [hcc _ _ (by simp; omega)]; go_simp
    have c1 : w1.cell? ⟨w.heap.size, 1, none⟩ = some (.int .i64 0) := by rw [hcc _ _ (by simp; omega)]; go_simp
    have z1 : w.heap.size + 1 < w1.heap.size := by have := hb.size; simp at this; omega
    go_wp2
    refine bodyPost_ret (v := .tuple #[.agg #[.int .i64 (n.tdiv c), .int .i64 (d.tdiv c)], .nilIface]) (by simp [results, Tryd.results54, go_sem, c0, c1]) rfl ⟨by rw [if_pos rfl], ?_⟩
    have b0 := (below_drewN ((Below.refl w.heap.size w).alloc (Nat.le_refl _) (.cells #[.int .i64 0, .int .i64 0] 26)) (k + 1)).alloc (by simp) (.cells #[.int .i64 (n.tdiv c), .int .i64 (d.tdiv c)] 26)
    exact ((b0.trans (hb.mono (by simp; omega))).setCell (by simp) _).setCell (by simp) _
set_option maxHeartbeats 2000000 in
theorem reduced_core_no (Q1 : d < 0 → Hid (-(Int.gcd n d : Int) = c)) (Q2 : ¬ d < 0 → Hid ((Int.gcd n d : Int) = c)) (hk : Hid (¬ okF (n.tdiv c) (d.tdiv c))) :
    Calls Tryd.prog 54 #[.int .i64 n, .int .i64 d] w (redPost false (n.tdiv c) (d.tdiv c) w) := by
  have hd' : (d == 0) = false := by simp [hd]
  have hc : (c == 0) = false := by simp [q3]
  by_cases hn : d < 0
  all_goals
    have Q := by first | exact Q1 hn | exact Q2 hn
    clear Q1 Q2
    go_enter Tryd.func54, Tryd.ntmps54
    go_wp2_with (go_at_call 82; refine (div_any _ _ _ (by omega) (by omega) (by omega) (by omega)).mono ?_; rintro e w' ⟨rfl, k, rfl⟩)
    rw [Q.out]
    clear Q
    generalize (Int.gcd n d : Int) = g at *
    go_region
    go_wp2_with fail
    refine (check_no _ _ _ hk.out).mono ?_
    rintro e w1 ⟨⟨v, rfl, sv, rfl⟩, hb⟩
    obtain ⟨hcc, hf⟩ := bcell hb
    have c0 : w1.cell? ⟨w.heap.size, 0, none⟩ = some (.int .i64 0) := by rw [hcc _ _ (by simp; omega)]; go_simp
    have c1 : w1.cell? ⟨w.heap.size, 1, none⟩ = some (.int .i64 0) := by rw [hcc _ _ (by simp; omega)]; go_simp
    have z1 : w.heap.size + 1 < w1.heap.size := by have := hb.size; simp at this; omega
    go_wp2
    refine bodyPost_ret (v := .tuple #[.agg #[.int .i64 0, .int .i64 0], .iface 110 (.agg #[.string sv])]) (by simp [results, Tryd.results54, go_sem, c0, c1]) rfl ⟨by rw [if_neg (by decide)]; exact ⟨_, rfl⟩, ?_⟩
    have b0 := (below_drewN ((Below.refl w.heap.size w).alloc (Nat.le_refl _) (.cells #[.int .i64 0, .int .i64 0] 26)) (k + 1)).alloc (by simp) (.cells #[.int .i64 (n.tdiv c), .int .i64 (d.tdiv c)] 26)
    exact ((b0.trans (hb.mono (by simp; omega))).setCell (by simp) _).setCell (by simp) _
end
theorem reduced_zero (n : Int) (x y : Int) (w : World) : Calls Tryd.prog 54 #[.int .i64 n, .int .i64 0] w (redPost false x y w) := by
  go_enter Tryd.func54, Tryd.ntmps54
  go_wp2
  refine bodyPost_ret (v := .tuple #[.agg #[.int .i64 0, .int .i64 0], _]) (by simp [results, Tryd.results54, go_sem]; rfl) rfl ⟨by rw [if_neg (by decide)]; exact ⟨_, rfl⟩, ?_⟩
  exact (Below.refl w.heap.size w).alloc (Nat.le_refl _) _

theorem reduced_any (n d : Int) (w : World) (h1 : -4000000000000000000 ≤ n) (h2 : n ≤ 4000000000000000000) (h3 : -4000000000000000000 ≤ d) (h4 : d ≤ 4000000000000000000) :
    Calls Tryd.prog 54 #[.int .i64 n, .int .i64 d] w (redPost (gB (decide (d ≠ 0)) n d) (rN n d) (rD n d) w) := by
  by_cases hd : d = 0
  · subst hd
    have e : gB (decide ((0 : Int) ≠ 0)) n 0 = false := by simp [gB]
    rw [e]
    exact reduced_zero n _ _ w
  · rcases okF_dec (rN n d) (rD n d) with hk | hk
    · have e : gB (decide (d ≠ 0)) n d = true := by simp [gB, hd, okB_yes hk]
      rw [e]
      exact reduced_core_yes n d (sG n d) w h1 h2 h3 h4 hd (sG_ne hd) (tdiv_bd _ _) (tdiv_bd _ _) (gcd_pos' hd) (gcd_le' hd) (fun h => sG_neg h) (fun h => sG_pos h) hk
    · have e : gB (decide (d ≠ 0)) n d = false := by simp [gB, okB_no hk]
      rw [e]
      exact reduced_core_no n d (sG n d) w h1 h2 h3 h4 hd (sG_ne hd) (tdiv_bd _ _) (tdiv_bd _ _) (gcd_pos' hd) (gcd_le' hd) (fun h => sG_neg h) (fun h => sG_pos h) hk

/-! The specification's own. -/
/-- What a function answers that gives a fraction and a bool. -/
def frPost (b : Bool) (x y : Int) (w : World) (e : Ending) (w' : World) : Prop :=
  (e = .returned (.tuple #[.agg #[.int .i64 (if b = true then x else 0), .int .i64 (if b = true then y else 0)], .bool b])) ∧ Below w.heap.size w w'
section
variable (n d g : Int) (w : World) (h1 : -4000000000000000000 ≤ n) (h2 : n ≤ 4000000000000000000) (h3 : -4000000000000000000 ≤ d) (h4 : d ≤ 4000000000000000000)
    (q5 : -(n.natAbs : Int) ≤ n.tdiv g ∧ n.tdiv g ≤ n.natAbs) (q6 : -(d.natAbs : Int) ≤ d.tdiv g ∧ d.tdiv g ≤ d.natAbs) (g1 : 1 ≤ g)
include h1 h2 h3 h4 q5 q6 g1
theorem make_neg_yes (hn : d < 0) (Q : Hid ((Int.gcd n (-d) : Int) = g)) (hk : Hid (okB (-n.tdiv g) (-d.tdiv g) = true)) :
    Calls Tryd.prog 85 #[.int .i64 n, .int .i64 d] w (frPost true (-n.tdiv g) (-d.tdiv g) w) := by
  have gg : (g == 0) = false := by simp; omega
  go_enter Tryd.func85, Tryd.ntmps85
  go_wp2_with fail
  refine (abs_any _ _ (by omega) (by omega)).mono ?_
  rintro e w' ⟨rfl, rfl⟩
  go_wp2_with fail
  refine (gcd_abs n _ _ (by omega) (by omega) (by omega) (by omega)).mono ?_
  rintro e w' ⟨rfl, rfl⟩
  rw [Q.out]
  clear Q
  go_wp2_with fail
  go_region
  go_wp2_with fail
  refine (ok_any _ _ _).mono ?_
  rintro e w1 ⟨rfl, hb⟩
  rw [hk.out]
  obtain ⟨hcc, hf⟩ := bcell hb
  have c0 : w1.cell? ⟨w.heap.size, 0, none⟩ = some (.int .i64 0) := by rw [hcc _ _ (by simp; omega)]; go_simp
  have c1 : w1.cell? ⟨w.heap.size, 1, none⟩ = some (.int .i64 0) := by rw [hcc _ _ (by simp; omega)]; go_simp
  have z1 : w.heap.size + 1 < w1.heap.size := by have := hb.size; simp at this; omega
  go_wp2
  refine bodyPost_ret (v := .tuple #[.agg #[.int .i64 (-n.tdiv g), .int .i64 (-d.tdiv g)], .bool true]) (by simp [results, Tryd.results85, go_sem, c0, c1]) rfl ⟨by simp, ?_⟩
  have b0 := ((Below.refl w.heap.size w).alloc (Nat.le_refl _) (.cells #[.int .i64 0, .int .i64 0] 26)).alloc (by simp) (.cells #[.int .i64 (-n.tdiv g), .int .i64 (-d.tdiv g)] 26)
  exact ((b0.drew.trans (hb.mono (by simp; omega))).setCell (by simp) _).setCell (by simp) _
theorem make_pos_yes (hn : ¬ d < 0) (Q : Hid ((Int.gcd n d : Int) = g)) (hk : Hid (okB (n.tdiv g) (d.tdiv g) = true)) :
    Calls Tryd.prog 85 #[.int .i64 n, .int .i64 d] w (frPost true (n.tdiv g) (d.tdiv g) w) := by
  have gg : (g == 0) = false := by simp; omega
  go_enter Tryd.func85, Tryd.ntmps85
  go_wp2_with fail
  refine (abs_any _ _ (by omega) (by omega)).mono ?_
  rintro e w' ⟨rfl, rfl⟩
  go_wp2_with fail
  refine (gcd_abs n _ _ (by omega) (by omega) (by omega) (by omega)).mono ?_
  rintro e w' ⟨rfl, rfl⟩
  rw [Q.out]
  clear Q
  go_wp2_with fail
  go_region
  go_wp2_with fail
  refine (ok_any _ _ _).mono ?_
  rintro e w1 ⟨rfl, hb⟩
  rw [hk.out]
  obtain ⟨hcc, hf⟩ := bcell hb
  have c0 : w1.cell? ⟨w.heap.size, 0, none⟩ = some (.int .i64 0) := by rw [hcc _ _ (by simp; omega)]; go_simp
  have c1 : w1.cell? ⟨w.heap.size, 1, none⟩ = some (.int .i64 0) := by rw [hcc _ _ (by simp; omega)]; go_simp
  have z1 : w.heap.size + 1 < w1.heap.size := by have := hb.size; simp at this; omega
  go_wp2
  refine bodyPost_ret (v := .tuple #[.agg #[.int .i64 (n.tdiv g), .int .i64 (d.tdiv g)], .bool true]) (by simp [results, Tryd.results85, go_sem, c0, c1]) rfl ⟨by simp, ?_⟩
  have b0 := ((Below.refl w.heap.size w).alloc (Nat.le_refl _) (.cells #[.int .i64 0, .int .i64 0] 26)).alloc (by simp) (.cells #[.int .i64 (n.tdiv g), .int .i64 (d.tdiv g)] 26)
  exact ((b0.drew.trans (hb.mono (by simp; omega))).setCell (by simp) _).setCell (by simp) _
theorem make_neg_no (hn : d < 0) (Q : Hid ((Int.gcd n (-d) : Int) = g)) (hk : Hid (okB (-n.tdiv g) (-d.tdiv g) = false)) :
    Calls Tryd.prog 85 #[.int .i64 n, .int .i64 d] w (frPost false (-n.tdiv g) (-d.tdiv g) w) := by
  have gg : (g == 0) = false := by simp; omega
  go_enter Tryd.func85, Tryd.ntmps85
  go_wp2_with fail
  refine (abs_any _ _ (by omega) (by omega)).mono ?_
  rintro e w' ⟨rfl, rfl⟩
  go_wp2_with fail
  refine (gcd_abs n _ _ (by omega) (by omega) (by omega) (by omega)).mono ?_
  rintro e w' ⟨rfl, rfl⟩
  rw [Q.out]
  clear Q
  go_wp2_with fail
  go_region
  go_wp2_with fail
  refine (ok_any _ _ _).mono ?_
  rintro e w1 ⟨rfl, hb⟩
  rw [hk.out]
  obtain ⟨hcc, hf⟩ := bcell hb
  have c0 : w1.cell? ⟨w.heap.size, 0, none⟩ = some (.int .i64 0) := by rw [hcc _ _ (by simp; omega)]; go_simp
  have c1 : w1.cell? ⟨w.heap.size, 1, none⟩ = some (.int .i64 0) := by rw [hcc _ _ (by simp; omega)]; go_simp
  have z1 : w.heap.size + 1 < w1.heap.size := by have := hb.size; simp at this; omega
  go_wp2
  refine bodyPost_ret (v := .tuple #[.agg #[.int .i64 0, .int .i64 0], .bool false]) (by simp [results, Tryd.results85, go_sem, c0, c1]) rfl ⟨by simp, ?_⟩
  have b0 := ((Below.refl w.heap.size w).alloc (Nat.le_refl _) (.cells #[.int .i64 0, .int .i64 0] 26)).alloc (by simp) (.cells #[.int .i64 (-n.tdiv g), .int .i64 (-d.tdiv g)] 26)
  exact ((b0.drew.trans (hb.mono (by simp; omega))).setCell (by simp) _).setCell (by simp) _
theorem make_pos_no (hn : ¬ d < 0) (Q : Hid ((Int.gcd n d : Int) = g)) (hk : Hid (okB (n.tdiv g) (d.tdiv g) = false)) :
    Calls Tryd.prog 85 #[.int .i64 n, .int .i64 d] w (frPost false (n.tdiv g) (d.tdiv g) w) := by
  have gg : (g == 0) = false := by simp; omega
  go_enter Tryd.func85, Tryd.ntmps85
  go_wp2_with fail
  refine (abs_any _ _ (by omega) (by omega)).mono ?_
  rintro e w' ⟨rfl, rfl⟩
  go_wp2_with fail
  refine (gcd_abs n _ _ (by omega) (by omega) (by omega) (by omega)).mono ?_
  rintro e w' ⟨rfl, rfl⟩
  rw [Q.out]
  clear Q
  go_wp2_with fail
  go_region
  go_wp2_with fail
  refine (ok_any _ _ _).mono ?_
  rintro e w1 ⟨rfl, hb⟩
  rw [hk.out]
  obtain ⟨hcc, hf⟩ := bcell hb
  have c0 : w1.cell? ⟨w.heap.size, 0, none⟩ = some (.int .i64 0) := by rw [hcc _ _ (by simp; omega)]; go_simp
  have c1 : w1.cell? ⟨w.heap.size, 1, none⟩ = some (.int .i64 0) := by rw [hcc _ _ (by simp; omega)]; go_simp
  have z1 : w.heap.size + 1 < w1.heap.size := by have := hb.size; simp at this; omega
  go_wp2
  refine bodyPost_ret (v := .tuple #[.agg #[.int .i64 0, .int .i64 0], .bool false]) (by simp [results, Tryd.results85, go_sem, c0, c1]) rfl ⟨by simp, ?_⟩
  have b0 := ((Below.refl w.heap.size w).alloc (Nat.le_refl _) (.cells #[.int .i64 0, .int .i64 0] 26)).alloc (by simp) (.cells #[.int .i64 (n.tdiv g), .int .i64 (d.tdiv g)] 26)
  exact ((b0.drew.trans (hb.mono (by simp; omega))).setCell (by simp) _).setCell (by simp) _
end
theorem make_any (n d : Int) (w : World) (hd : d ≠ 0) (h1 : -4000000000000000000 ≤ n) (h2 : n ≤ 4000000000000000000) (h3 : -4000000000000000000 ≤ d) (h4 : d ≤ 4000000000000000000) :
    Calls Tryd.prog 85 #[.int .i64 n, .int .i64 d] w (frPost (gB true n d) (rN n d) (rD n d) w) := by
  have g1 := gcd_pos' (n := n) hd
  by_cases hn : d < 0
  · have e1 : rN n d = -n.tdiv (Int.gcd n d) := by unfold rN; rw [← sG_neg hn, Int.tdiv_neg]
    have e2 : rD n d = -d.tdiv (Int.gcd n d) := by unfold rD; rw [← sG_neg hn, Int.tdiv_neg]
    unfold gB
    rw [e1, e2]
    cases hb : okB (-n.tdiv (Int.gcd n d)) (-d.tdiv (Int.gcd n d))
    · exact make_neg_no n d _ w h1 h2 h3 h4 (tdiv_bd _ _) (tdiv_bd _ _) (by omega) hn (by show _ = _; rw [Int.gcd_neg]) hb
    · exact make_neg_yes n d _ w h1 h2 h3 h4 (tdiv_bd _ _) (tdiv_bd _ _) (by omega) hn (by show _ = _; rw [Int.gcd_neg]) hb
  · have e1 : rN n d = n.tdiv (Int.gcd n d) := by unfold rN; rw [← sG_pos hn]
    have e2 : rD n d = d.tdiv (Int.gcd n d) := by unfold rD; rw [← sG_pos hn]
    unfold gB
    rw [e1, e2]
    cases hb : okB (n.tdiv (Int.gcd n d)) (d.tdiv (Int.gcd n d))
    · exact make_pos_no n d _ w h1 h2 h3 h4 (tdiv_bd _ _) (tdiv_bd _ _) (by omega) hn rfl hb
    · exact make_pos_yes n d _ w h1 h2 h3 h4 (tdiv_bd _ _) (tdiv_bd _ _) (by omega) hn rfl hb
end Go.Proofs.YtjfkkmfbgmejbabDoor
