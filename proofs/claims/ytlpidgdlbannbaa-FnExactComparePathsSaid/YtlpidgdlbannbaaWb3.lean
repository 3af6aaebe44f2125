/- The program's rules: ranksBy and its comparison (made by tools/mkwb3.py). -/
import Derived.Test.YtlpidgdlbannbaaWb2
import Derived.Laws.EntriesVeiled
namespace Go.Proofs.Ytlpidgdlbannbaa
open Go.ChangeShapes Go.WideShapes Go.ChangeAt Go.RowKit Go.Deep
set_option linter.unusedSimpArgs false
set_option linter.unusedVariables false
def kcmp (rule : Int) (a b : List Int) : Int := if cmpI (mes rule a) (mes rule b) = 0 then lessL a b else cmpI (mes rule a) (mes rule b)
set_option maxHeartbeats 1000000 in
set_option maxRecDepth 100000 in
theorem cmp4_0 (p : Nat) (v v' : Value) (a b : List Int) (w : World) (hp : w.cell? ⟨p, 0, none⟩ = some (.func (.func 92) #[] #[])) (hpl : p < w.heap.size) (h : RowV w v a) (h' : RowV w v' b) (hl : a.length ≤ 1048576) (hl' : b.length ≤ 1048576) (ba : ∀ n ∈ a, -2000000 ≤ n ∧ n ≤ 2000000) (bb : ∀ n ∈ b, -2000000 ≤ n ∧ n ≤ 2000000) :
    Calls Try.prog 95 #[v, v', .pointer (some ⟨p, 0, none⟩)] w fun e w' => e = .returned (.int .i64 (kcmp 0 a b)) ∧ Below w.heap.size w w' := by
  have hd : Below w.heap.size w w.drew := (Below.refl _ _).drew
  have HM1 : Calls Try.prog 92 #[v] w.drew fun e w' => e = .returned (.int .i64 (mes 0 a)) ∧ w.drew = w' := mes0 v a _ (h.below hd) hl
  have HM2 : Calls Try.prog 92 #[v'] w.drew fun e w' => e = .returned (.int .i64 (mes 0 b)) ∧ w.drew = w' := mes0 v' b _ (h'.below hd) hl'
  have HC := scmp_any v v' a b w.drew (h.below hd) (h'.below hd) hl hl'
  unfold kcmp
  generalize mes 0 a = x1 at HM1 ⊢
  generalize mes 0 b = x2 at HM2 ⊢
  have HQ := cmp_int x1 x2 w.drew
  generalize cmpI x1 x2 = x3 at HQ ⊢
  generalize lessL a b = x4 at HC ⊢
  have HO := or_any w.heap.size x3 x4 (w.drew.alloc (.cells #[.int .i64 x3, .int .i64 x4] 3)) (by go_simp) (by go_simp)
  generalize (if x3 = 0 then x4 else x3) = x5 at HO ⊢
  have hb2 : Below w.heap.size w (w.drew.alloc (.cells #[.int .i64 x3, .int .i64 x4] 3)) := hd.alloc (by simp) _
  have np : p ≠ w.heap.size := by omega
  clear h h' ba bb
  go_enter Try.func95, Try.ntmps95
  go_wp2_with fail
  go_region_held3 (fun w' => w'.cell? ⟨p, 0, none⟩ = some (.func (.func 92) #[] #[]))
    (first
      | go_keep
      | assumption
      | (simp; assumption)
      | (go_split_ands; go_simp))
    (first
      | (go_simp; go_at_call 92; with_reducible refine HM1.mono ?_; rintro e w1 ⟨rfl, rfl⟩)
      | (go_simp; go_at_call 92; with_reducible refine HM2.mono ?_; rintro e w1 ⟨rfl, rfl⟩)
      | (go_simp; go_at_call 97; refine HQ.mono ?_; rintro e w1 ⟨rfl, rfl⟩)
      | (go_simp; go_at_call 98; refine HC.mono ?_; rintro e w1 ⟨rfl, rfl⟩)
      | (go_simp; go_at_call 96; refine HO.mono ?_; rintro e w1 ⟨rfl, rfl⟩))
  go_wp2
  go_ret
  exact ⟨rfl, hb2⟩
set_option maxHeartbeats 1000000 in
set_option maxRecDepth 100000 in
theorem cmp4_1 (p : Nat) (v v' : Value) (a b : List Int) (w : World) (hp : w.cell? ⟨p, 0, none⟩ = some (.func (.func 93) #[] #[])) (hpl : p < w.heap.size) (h : RowV w v a) (h' : RowV w v' b) (hl : a.length ≤ 1048576) (hl' : b.length ≤ 1048576) (ba : ∀ n ∈ a, -2000000 ≤ n ∧ n ≤ 2000000) (bb : ∀ n ∈ b, -2000000 ≤ n ∧ n ≤ 2000000) :
    Calls Try.prog 95 #[v, v', .pointer (some ⟨p, 0, none⟩)] w fun e w' => e = .returned (.int .i64 (kcmp 1 a b)) ∧ Below w.heap.size w w' := by
  have hd : Below w.heap.size w w.drew := (Below.refl _ _).drew
  have HM1 : Calls Try.prog 93 #[v] w.drew fun e w' => e = .returned (.int .i64 (mes 1 a)) ∧ w.drew = w' := mes1 v a _ (h.below hd) hl ba
  have HM2 : Calls Try.prog 93 #[v'] w.drew fun e w' => e = .returned (.int .i64 (mes 1 b)) ∧ w.drew = w' := mes1 v' b _ (h'.below hd) hl' bb
  have HC := scmp_any v v' a b w.drew (h.below hd) (h'.below hd) hl hl'
  unfold kcmp
  generalize mes 1 a = x1 at HM1 ⊢
  generalize mes 1 b = x2 at HM2 ⊢
  have HQ := cmp_int x1 x2 w.drew
  generalize cmpI x1 x2 = x3 at HQ ⊢
  generalize lessL a b = x4 at HC ⊢
  have HO := or_any w.heap.size x3 x4 (w.drew.alloc (.cells #[.int .i64 x3, .int .i64 x4] 3)) (by go_simp) (by go_simp)
  generalize (if x3 = 0 then x4 else x3) = x5 at HO ⊢
  have hb2 : Below w.heap.size w (w.drew.alloc (.cells #[.int .i64 x3, .int .i64 x4] 3)) := hd.alloc (by simp) _
  have np : p ≠ w.heap.size := by omega
  clear h h' ba bb
  go_enter Try.func95, Try.ntmps95
  go_wp2_with fail
  go_region_held3 (fun w' => w'.cell? ⟨p, 0, none⟩ = some (.func (.func 93) #[] #[]))
    (first
      | go_keep
      | assumption
      | (simp; assumption)
      | (go_split_ands; go_simp))
    (first
      | (go_simp; go_at_call 93; with_reducible refine HM1.mono ?_; rintro e w1 ⟨rfl, rfl⟩)
      | (go_simp; go_at_call 93; with_reducible refine HM2.mono ?_; rintro e w1 ⟨rfl, rfl⟩)
      | (go_simp; go_at_call 97; refine HQ.mono ?_; rintro e w1 ⟨rfl, rfl⟩)
      | (go_simp; go_at_call 98; refine HC.mono ?_; rintro e w1 ⟨rfl, rfl⟩)
      | (go_simp; go_at_call 96; refine HO.mono ?_; rintro e w1 ⟨rfl, rfl⟩))
  go_wp2
  go_ret
  exact ⟨rfl, hb2⟩
set_option maxHeartbeats 1000000 in
set_option maxRecDepth 100000 in
theorem cmp4_2 (p : Nat) (v v' : Value) (a b : List Int) (w : World) (hp : w.cell? ⟨p, 0, none⟩ = some (.func (.func 94) #[] #[])) (hpl : p < w.heap.size) (h : RowV w v a) (h' : RowV w v' b) (hl : a.length ≤ 1048576) (hl' : b.length ≤ 1048576) (ba : ∀ n ∈ a, -2000000 ≤ n ∧ n ≤ 2000000) (bb : ∀ n ∈ b, -2000000 ≤ n ∧ n ≤ 2000000) :
    Calls Try.prog 95 #[v, v', .pointer (some ⟨p, 0, none⟩)] w fun e w' => e = .returned (.int .i64 (kcmp 2 a b)) ∧ Below w.heap.size w w' := by
  have hd : Below w.heap.size w w.drew := (Below.refl _ _).drew
  have HM1 : Calls Try.prog 94 #[v] w.drew fun e w' => e = .returned (.int .i64 (mes 2 a)) ∧ w.drew = w' := mes2 v a _
  have HM2 : Calls Try.prog 94 #[v'] w.drew fun e w' => e = .returned (.int .i64 (mes 2 b)) ∧ w.drew = w' := mes2 v' b _
  have HC := scmp_any v v' a b w.drew (h.below hd) (h'.below hd) hl hl'
  unfold kcmp
  generalize mes 2 a = x1 at HM1 ⊢
  generalize mes 2 b = x2 at HM2 ⊢
  have HQ := cmp_int x1 x2 w.drew
  generalize cmpI x1 x2 = x3 at HQ ⊢
  generalize lessL a b = x4 at HC ⊢
  have HO := or_any w.heap.size x3 x4 (w.drew.alloc (.cells #[.int .i64 x3, .int .i64 x4] 3)) (by go_simp) (by go_simp)
  generalize (if x3 = 0 then x4 else x3) = x5 at HO ⊢
  have hb2 : Below w.heap.size w (w.drew.alloc (.cells #[.int .i64 x3, .int .i64 x4] 3)) := hd.alloc (by simp) _
  have np : p ≠ w.heap.size := by omega
  clear h h' ba bb
  go_enter Try.func95, Try.ntmps95
  go_wp2_with fail
  go_region_held3 (fun w' => w'.cell? ⟨p, 0, none⟩ = some (.func (.func 94) #[] #[]))
    (first
      | go_keep
      | assumption
      | (simp; assumption)
      | (go_split_ands; go_simp))
    (first
      | (go_simp; go_at_call 94; with_reducible refine HM1.mono ?_; rintro e w1 ⟨rfl, rfl⟩)
      | (go_simp; go_at_call 94; with_reducible refine HM2.mono ?_; rintro e w1 ⟨rfl, rfl⟩)
      | (go_simp; go_at_call 97; refine HQ.mono ?_; rintro e w1 ⟨rfl, rfl⟩)
      | (go_simp; go_at_call 98; refine HC.mono ?_; rintro e w1 ⟨rfl, rfl⟩)
      | (go_simp; go_at_call 96; refine HO.mono ?_; rintro e w1 ⟨rfl, rfl⟩))
  go_wp2
  go_ret
  exact ⟨rfl, hb2⟩
set_option maxRecDepth 100000 in
theorem rby_0 (w : World) : Calls Try.prog 62 #[.int .i64 0] w fun e w' => (e = .returned (.tuple #[.func (.func 95) #[] #[.pointer (some ⟨w.heap.size, 0, none⟩)], .bool true]) ∧ w'.cell? ⟨w.heap.size, 0, none⟩ = some (.func (.func 92) #[] #[]) ∧ w.heap.size < w'.heap.size) ∧ Below w.heap.size w w' := by
  have hb : Below w.heap.size w (w.alloc (.cells #[.func (.func 92) #[] #[]] 105)) := (Below.refl _ _).alloc (Nat.le_refl _) _
  go_enter Try.func62, Try.ntmps62
  go_wp2
  go_ret2
  refine ⟨⟨rfl, by go_simp, by simp⟩, hb⟩
set_option maxRecDepth 100000 in
theorem rby_1 (w : World) : Calls Try.prog 62 #[.int .i64 1] w fun e w' => (e = .returned (.tuple #[.func (.func 95) #[] #[.pointer (some ⟨w.heap.size, 0, none⟩)], .bool true]) ∧ w'.cell? ⟨w.heap.size, 0, none⟩ = some (.func (.func 93) #[] #[]) ∧ w.heap.size < w'.heap.size) ∧ Below w.heap.size w w' := by
  have hb : Below w.heap.size w (w.alloc (.cells #[.func (.func 93) #[] #[]] 105)) := (Below.refl _ _).alloc (Nat.le_refl _) _
  go_enter Try.func62, Try.ntmps62
  go_wp2
  go_ret2
  refine ⟨⟨rfl, by go_simp, by simp⟩, hb⟩
set_option maxRecDepth 100000 in
theorem rby_2 (w : World) : Calls Try.prog 62 #[.int .i64 2] w fun e w' => (e = .returned (.tuple #[.func (.func 95) #[] #[.pointer (some ⟨w.heap.size, 0, none⟩)], .bool true]) ∧ w'.cell? ⟨w.heap.size, 0, none⟩ = some (.func (.func 94) #[] #[]) ∧ w.heap.size < w'.heap.size) ∧ Below w.heap.size w w' := by
  have hb : Below w.heap.size w (w.alloc (.cells #[.func (.func 94) #[] #[]] 105)) := (Below.refl _ _).alloc (Nat.le_refl _) _
  go_enter Try.func62, Try.ntmps62
  go_wp2
  go_ret2
  refine ⟨⟨rfl, by go_simp, by simp⟩, hb⟩
theorem rby_none (r : Int) (w : World) (h : inB r 0 2 = false) : Calls Try.prog 62 #[.int .i64 r] w fun e w' => e = .returned (.tuple #[.nilFunc, .bool false]) ∧ Below w.heap.size w w' := by
  have hn : ¬ (0 ≤ r ∧ r ≤ 2) := fun q => by rw [inB_yes q.1 q.2] at h; cases h
  have h0 : (r == 0) = false := by simp; omega
  have h1 : (r == 1) = false := by simp; omega
  have h2 : (r == 2) = false := by simp; omega
  have hb : Below w.heap.size w (w.alloc (.cells #[.nilFunc] 105)) := (Below.refl _ _).alloc (Nat.le_refl _) _
  clear h
  go_enter Try.func62, Try.ntmps62
  go_wp2
  go_ret2
  exact ⟨rfl, hb⟩
end Go.Proofs.Ytlpidgdlbannbaa
