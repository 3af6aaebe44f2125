/- Texts of pools: the program's. -/
import Derived.Test.YtfjpjiieocdgeaaDoorTx3
import Derived.Test.YtfjpjiieocdgeaaDoorPo5
import Derived.Test.YtfjpjiieocdgeaaDoorPo8a
import Derived.Deep.RegionHeld3
namespace Go.Proofs.YtfjpjiieocdgeaaDoor
open Go.ChangeShapes Go.WideShapes Go.ChangeAt Go.RowKit Go.Deep
set_option linter.unusedSimpArgs false
set_option linter.unusedVariables false
theorem add_d (a b c : List UInt8) (la lb : ByteArray) (ea : la = bytesOf a) (eb : lb = bytesOf b) (hc : a ++ b = c) (h : a.length + b.length ≤ 1000000) (W : World) : (Op.stringOp .add la lb).run Tryd.prog W = .ok (.string (bytesOf c)) W := by
  subst ea hc
  exact add_b a b lb eb h W
theorem idecb7 (n : Int) (w : World) (h1 : -1000000000 ≤ n) (h2 : n ≤ 1000000000) (hp : PowT w) :
    Calls Tryd.prog 44 #[.int .i64 n] w fun e w' => e = .returned (.string (bytesOf (Lib.itoa n))) ∧ Below w.heap.size w w' := idec n w (by omega) (by omega) hp
/-- The numbers of a quota are small. -/
def smallQ (q : Qt) : Prop := smallI q.1 ∧ (-1000000000 ≤ q.2.1 ∧ q.2.1 ≤ 1000000000) ∧ (-1000000000 ≤ q.2.2 ∧ q.2.2 ≤ 1000000000)
def qtext (q : Qt) : List UInt8 := Lib.join (q.1.map Lib.itoa) [44] ++ ([61] ++ (Lib.itoa q.2.1 ++ ([46, 46] ++ Lib.itoa q.2.2)))
theorem qtext_len {q : Qt} (h : smallQ q) : (qtext q).length ≤ 170 := by
  have h1 := jn_int_len h.1 44 q.1.length
  rw [jn_all] at h1
  have l1 := itoa_len9 h.2.1.1 h.2.1.2
  have l2 := itoa_len9 h.2.2.1 h.2.2.2
  unfold qtext
  simp only [List.length_append, List.length_cons, List.length_nil]
  omega
/-- The texts of the first k quotas. -/
def qtail (L : List Qt) (k : Nat) : List UInt8 := ((L.take k).map (fun q => 59 :: qtext q)).flatten
theorem qtail_zero (L : List Qt) : qtail L 0 = [] := by simp [qtail]
theorem qtail_succ (L : List Qt) (k : Nat) (h : k < L.length) : qtail L (k + 1) = qtail L k ++ 59 :: qtext (L.getD k q0) := by
  unfold qtail
  rw [List.take_add_one, List.getElem?_eq_getElem h, List.map_append, List.flatten_append]
  simp [List.getD, h]
theorem qtail_len {L : List Qt} (hs : ∀ k, k < L.length → smallQ (L.getD k q0)) : ∀ k, k ≤ L.length → (qtail L k).length ≤ 171 * k := by
  intro k
  induction k with
  | zero => intro _; simp [qtail]
  | succ k ih =>
    intro hk
    have h1 := ih (by omega)
    have h2 := qtext_len (hs k (by omega))
    rw [qtail_succ L k (by omega)]
    simp only [List.length_append, List.length_cons]
    omega
/-- What the text of a quota reads, kept. -/
def Bq (w : World) (p : Nat) (v : Value) (m n : Int) (w' : World) : Prop := w'.cell? ⟨p, 0, none⟩ = some v ∧ w'.cell? ⟨p, 1, none⟩ = some (.int .i64 m) ∧ w'.cell? ⟨p, 2, none⟩ = some (.int .i64 n) ∧ Hid (Below w.heap.size w w')
theorem Bq.drew {w w' : World} {p : Nat} {v : Value} {m n : Int} (h : Bq w p v m n w') : Bq w p v m n w'.drew := ⟨h.1, h.2.1, h.2.2.1, Lib.hid h.2.2.2.out.drew⟩
theorem Bq.bel {w w' : World} {p : Nat} {v : Value} {m n : Int} (h : Bq w p v m n w') : Below w.heap.size w w' := h.2.2.2.out
theorem Bq.below {w w' w'' : World} {p : Nat} {v : Value} {m n : Int} (h : Bq w p v m n w') (hb : Below w'.heap.size w' w'') : Bq w p v m n w'' := by
  obtain ⟨a1, a2, a3, g⟩ := h
  have q : ∀ {b : Nat} {o : Nat} {v : Value}, w'.cell? ⟨b, o, none⟩ = some v → w''.cell? ⟨b, o, none⟩ = some v := fun {b o v} hc => (hb.cell (p := ⟨b, o, none⟩) (World.block_lt_of_cell? _ _ hc)).trans hc
  exact ⟨q a1, q a2, q a3, Lib.hid (g.out.trans (hb.mono g.out.size))⟩
theorem Bq.start (w : World) (v : Value) (m n : Int) (t : TypeId) : Bq w w.heap.size v m n (w.alloc (.cells #[v, .int .i64 m, .int .i64 n] t)) := ⟨by go_simp, by go_simp, by go_simp, Lib.hid ((Below.refl _ _).alloc (Nat.le_refl _) _)⟩
set_option maxHeartbeats 4000000 in
theorem iqtext (A : List Int) (v : Value) (m n : Int) (w : World) (h : RowV w v A) (hs : smallQ (A, m, n)) (hp : PowT w) :
    Calls Tryd.prog 45 #[.agg #[v, .int .i64 m, .int .i64 n]] w fun e w' => e = .returned (.string (bytesOf (qtext (A, m, n)))) ∧ Below w.heap.size w w' := by
  obtain ⟨hA, ⟨m1, m2⟩, n1, n2⟩ := hs
  simp only at hA m1 m2 n1 n2
  have HN := Lib.hid (fun (x : Int) (h1 : -1000000000 ≤ x) (h2 : x ≤ 1000000000) w (hp : PowT w) => idecb7 x w h1 h2 hp)
  have HP := Lib.hid hp
  have l1 := itoa_len9 m1 m2
  have l2 := itoa_len9 n1 n2
  have hjl := jn_int_len hA 44 A.length
  rw [jn_all] at hjl
  have HT0 : ∀ w' (hw : Below w.heap.size w w'), Calls Tryd.prog 55 #[v, .string ⟨#[44]⟩, .func (.func 44) #[] #[]] w' fun e w'' => e = .returned (.string (bytesOf (Lib.join (A.map Lib.itoa) [44]))) ∧ Below w'.heap.size w' w'' := fun w' hw => toe_int v A 44 w' (h.below hw) (by have := hA.1; omega) hA.2 (hp.below hw)
  have hqt : ∀ J T1 T2 T3 T4, Lib.join (A.map Lib.itoa) [44] = J → J ++ [61] = T1 → T1 ++ Lib.itoa m = T2 → T2 ++ [46, 46] = T3 → T3 ++ Lib.itoa n = T4 → qtext (A, m, n) = T4 := by
    intro J T1 T2 T3 T4 e1 e2 e3 e4 e5
    rw [← e5, ← e4, ← e3, ← e2, ← e1]
    simp [qtext]
  obtain ⟨J, hJ⟩ : ∃ J, Lib.join (A.map Lib.itoa) [44] = J := ⟨_, rfl⟩
  rw [hJ] at hjl
  obtain ⟨T1, hT1⟩ : ∃ T, J ++ [61] = T := ⟨_, rfl⟩
  obtain ⟨T2, hT2⟩ : ∃ T, T1 ++ Lib.itoa m = T := ⟨_, rfl⟩
  obtain ⟨T3, hT3⟩ : ∃ T, T2 ++ [46, 46] = T := ⟨_, rfl⟩
  obtain ⟨T4, hT4⟩ : ∃ T, T3 ++ Lib.itoa n = T := ⟨_, rfl⟩
  rw [hqt J T1 T2 T3 T4 hJ hT1 hT2 hT3 hT4]
  have q1 : T1.length = J.length + 1 := by rw [← hT1]; simp
  have q2 : T2.length = T1.length + (Lib.itoa m).length := by rw [← hT2]; simp
  have q3 : T3.length = T2.length + 2 := by rw [← hT3]; simp
  have A1 := add_d J [61] T1 (bytesOf J) ⟨#[61]⟩ rfl rfl hT1 (by simp; omega)
  have A2 := add_d T1 (Lib.itoa m) T2 (bytesOf T1) (bytesOf (Lib.itoa m)) rfl rfl hT2 (by omega)
  have A3 := add_d T2 [46, 46] T3 (bytesOf T2) ⟨#[46, 46]⟩ rfl rfl hT3 (by simp; omega)
  have A4 := add_d T3 (Lib.itoa n) T4 (bytesOf T3) (bytesOf (Lib.itoa n)) rfl rfl hT4 (by omega)
  rw [hJ] at HT0
  have HT := Lib.hid HT0
  clear hp h hA hjl hqt hJ hT1 hT2 hT3 hT4 HT0
  go_enter Tryd.func45, Tryd.ntmps45
  go_wp2
  go_region_held3 (fun w' => w'.cell? ⟨w.heap.size, 0, none⟩ = some v ∧ w'.cell? ⟨w.heap.size, 1, none⟩ = some (.int .i64 m) ∧ w'.cell? ⟨w.heap.size, 2, none⟩ = some (.int .i64 n) ∧ Hid (Below w.heap.size w w'))
    (first | exact (Bq.start w v m n _).drew | exact Bq.below (w := w) (by assumption) (by assumption))
    (first
      | (go_at_call 44; refine (HN.out _ (by omega) (by omega) _ ?_).mono ?_; (exact HP.out.below (show Bq w w.heap.size v m n _ from by assumption).bel); rintro e w2 ⟨rfl, hb⟩)
      | (go_at_call 55; refine (HT.out _ (show Bq w w.heap.size v m n _ from by assumption).bel).mono ?_; rintro e w2 ⟨rfl, hb⟩))
  all_goals
    go_wp2
    go_ret
    exact ⟨rfl, (show Bq w w.heap.size v m n _ from by assumption).bel⟩
end Go.Proofs.YtfjpjiieocdgeaaDoor
