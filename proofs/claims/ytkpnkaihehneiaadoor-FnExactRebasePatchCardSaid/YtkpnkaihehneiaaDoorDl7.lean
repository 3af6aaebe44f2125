/- slices.DeleteFunc over edits, for any function that tells which to delete. -/
import Derived.Test.YtkpnkaihehneiaaDoorCf5
import Derived.Lib.SliceRun
import Derived.Lib.LazyBuf
namespace Go.Proofs.YtkpnkaihehneiaaDoor
open Go.ChangeShapes Go.WideShapes Go.ChangeAt Go.RowKit Go.Deep
set_option linter.unusedSimpArgs false
set_option linter.unusedVariables false
def IdxE (P : Ed → Bool) (l : List Ed) (r : Int) : Prop := (r = -1 ∧ ∀ j, j < l.length → P (l.getD j e0) = true) ∨ ∃ k : Nat, k < l.length ∧ r = (k : Int) ∧ P (l.getD k e0) = false ∧ ∀ j, j < k → P (l.getD j e0) = true
theorem row_at {w : World} {c N : Nat} {f : Nat → Value} {R : List Ed} (row : w.rowIs c 70 N f) (hN : R.length * 4 ≤ N) {k : Nat} (hk : k < R.length) (hv : ∀ j, k * 4 ≤ j → j < k * 4 + 4 → f j = ec R j) : EdAt w c (k * 4) (R.getD k e0) := by
  have e1 : k * 4 / 4 = k := by omega
  have e2 : k * 4 % 4 = 0 := by omega
  have e3 : (k * 4 + 1) / 4 = k := by omega
  have e4 : (k * 4 + 1) % 4 = 1 := by omega
  have e5 : (k * 4 + 2) / 4 = k := by omega
  have e6 : (k * 4 + 2) % 4 = 2 := by omega
  have e7 : (k * 4 + 3) / 4 = k := by omega
  have e8 : (k * 4 + 3) % 4 = 3 := by omega
  refine ⟨?_, ?_, ?_, ?_⟩
  · rw [row.cell (i := k * 4) (by omega), hv _ (by omega) (by omega)]; simp [ec, e1, e2]
  · rw [row.cell (i := k * 4 + 1) (by omega), hv _ (by omega) (by omega)]; simp [ec, e3, e4]
  · rw [row.cell (i := k * 4 + 2) (by omega), hv _ (by omega) (by omega)]; simp [ec, e5, e6]
  · rw [row.cell (i := k * 4 + 3) (by omega), hv _ (by omega) (by omega)]; simp [ec, e7, e8]
set_option maxHeartbeats 1000000 in
set_option maxRecDepth 100000 in
theorem idx_del7 (P : Ed → Bool) (F : FuncId) (HF : ∀ args w, (callFunc F args).run Tryd.prog w = .ok (.enter F args) w) (caps : Array Value) (S : World → Prop)
    (HT : ∀ x w', S w' → Calls Tryd.prog F (#[vE x] ++ caps) w' fun e w'' => e = .returned (.bool (!P x)) ∧ Below w'.heap.size w' w'') (hSb : ∀ w w', S w → Below w.heap.size w w' → S w')
    (c cp N : Nat) (f : Nat → Value) (R : List Ed) (w : World) (hS : S w) (hl : R.length ≤ 1048576) (row : w.rowIs c 70 N f) (hN : R.length * 4 ≤ N) (hv : ∀ j, j < R.length * 4 → f j = ec R j) :
    Calls Tryd.prog 87 #[.slice (some ⟨c, 0, none⟩) R.length cp, .func (.func F) #[] caps] w fun e w' => (∃ r : Int, e = .returned (.int .i64 r) ∧ -1 ≤ r ∧ r ≤ 1048576 ∧ IdxE P R r) ∧ Below w.heap.size w w' := by
  have HV := Lib.hid hv
  have HR := Lib.hid row
  have HTT := Lib.hid HT
  have HSB := Lib.hid hSb
  have HS0 := Lib.hid hS
  have lc := row.lt
  clear hv HT hSb hS row
  go_enter Tryd.func87, Tryd.ntmps87
  go_wp2
  go_loopg [8] R.length (fun g i wr => ∃ k : Nat, k ≤ R.length ∧ g = R.length - k ∧ i = .int .i64 k ∧ Below w.heap.size w wr ∧ Hid (∀ j, j < k → P (R.getD j e0) = true))
  case atStart => exact ⟨0, Nat.zero_le _, rfl, rfl, Below.refl _ _, fun j hj => absurd hj (Nat.not_lt_zero _)⟩
  case round =>
    obtain ⟨k, hk, rfl, rfl, hb, H⟩ := hrel
    by_cases hlt : k < R.length
    · obtain ⟨a1, a2, a3, a4⟩ := row_at (HR.out.of_block (hb.block c HR.out.lt)) hN hlt (fun j _ hj => HV.out j (by omega))
      obtain ⟨q, hq⟩ : ∃ q, R.getD k e0 = q := ⟨_, rfl⟩
      rw [hq] at a1 a2 a3 a4
      have hK := HTT.out q wr (HSB.out _ _ HS0.out hb)
      have HQ := Lib.hid hq
      obtain ⟨z, hz⟩ : ∃ z, P q = z := ⟨_, rfl⟩
      rw [hz] at hK
      have HZ := Lib.hid hz
      obtain ⟨n, y, sa, sb⟩ := q
      unfold vE at hK
      simp only at a1 a2 a3 a4 hK
      clear hz hq
      cases z with
      | false =>
        go_wp2_with fail
        refine hK.mono ?_
        rintro e w1 ⟨rfl, hb1⟩
        go_wp2
        go_ret
        exact ⟨⟨_, rfl, by omega, by omega, .inr ⟨k, hlt, rfl, by rw [HQ.out]; exact HZ.out, H.out⟩⟩, hb.trans (hb1.mono hb.size)⟩
      | true =>
        go_wp2_with fail
        refine hK.mono ?_
        rintro e w1 ⟨rfl, hb1⟩
        go_wp2
        go_roundg (R.length - (k + 1))
        case measure => omega
        case rel =>
          refine ⟨k + 1, by omega, rfl, by simp, hb.trans (hb1.mono hb.size), fun q hq => ?_⟩
          by_cases eq : q = k
          · subst eq; rw [HQ.out]; exact HZ.out
          · exact H.out q (by omega)
    · have e : k = R.length := by omega
      subst e
      go_wp2
      go_ret
      exact ⟨⟨_, rfl, by omega, by omega, .inl ⟨rfl, H.out⟩⟩, hb⟩
def kpE (P : Ed → Bool) (R : List Ed) (j : Nat) : List Ed := (R.take j).filter fun x => P x
theorem kpE_succ (P : Ed → Bool) (R : List Ed) {j : Nat} (h : j < R.length) : kpE P R (j + 1) = kpE P R j ++ if P (R.getD j e0) = true then [R.getD j e0] else [] := by
  unfold kpE
  rw [take_snoc h, List.filter_append]
  congr 1
  by_cases q : P (R.getD j e0) = true
  · rw [if_pos q]; simp only [List.filter_cons, q, if_true, List.filter_nil]
  · rw [if_neg q]; simp only [List.filter_cons, q, if_false, List.filter_nil]; simp
theorem kpE_all {P : Ed → Bool} {R : List Ed} : ∀ k, k ≤ R.length → (∀ j, j < k → P (R.getD j e0) = true) → kpE P R k = R.take k
  | 0, _, _ => rfl
  | k + 1, hk, h => by
    have hk' : k < R.length := by omega
    rw [kpE_succ P R hk', kpE_all k (by omega) (fun j hj => h j (by omega)), if_pos (h k (by omega)), take_snoc hk']
theorem kpE_end (P : Ed → Bool) (R : List Ed) : kpE P R R.length = R.filter fun x => P x := by unfold kpE; rw [List.take_length]
theorem ec_take {R : List Ed} {k j : Nat} (h : j < k * 4) (hk : k ≤ R.length) : ec (R.take k) j = ec R j := by
  have : (R.take k).getD (j / 4) e0 = R.getD (j / 4) e0 := by
    have : j / 4 < k := by omega
    simp [List.getD, List.getElem?_take, this]
  unfold ec
  rw [this]
theorem ec_snoc_lt {L : List Ed} {e : Ed} {j : Nat} (h : j < L.length * 4) : ec (L ++ [e]) j = ec L j := by
  have : (L ++ [e]).getD (j / 4) e0 = L.getD (j / 4) e0 := by
    simp [List.getD, List.getElem?_append_left (show j / 4 < L.length by omega)]
  unfold ec
  rw [this]
theorem ec_snoc_eq {L : List Ed} {e : Ed} {i : Nat} (hi : L.length = i) :
    ec (L ++ [e]) (i * 4) = .int .i64 e.1 ∧ ec (L ++ [e]) (i * 4 + 1) = .int .i64 e.2.1 ∧ ec (L ++ [e]) (i * 4 + 2) = .string e.2.2.1 ∧ ec (L ++ [e]) (i * 4 + 3) = .string e.2.2.2 := by
  have hg : (L ++ [e]).getD i e0 = e := by rw [← hi]; simp [List.getD]
  have e1 : i * 4 / 4 = i := by omega
  have e2 : i * 4 % 4 = 0 := by omega
  have e3 : (i * 4 + 1) / 4 = i := by omega
  have e4 : (i * 4 + 1) % 4 = 1 := by omega
  have e5 : (i * 4 + 2) / 4 = i := by omega
  have e6 : (i * 4 + 2) % 4 = 2 := by omega
  have e7 : (i * 4 + 3) / 4 = i := by omega
  have e8 : (i * 4 + 3) % 4 = 3 := by omega
  unfold ec
  rw [e1, e2, e3, e4, e5, e6, e7, e8, hg]
  exact ⟨rfl, rfl, rfl, rfl⟩
/-- What the loop of DeleteFunc keeps. -/
structure DelE (P : Ed → Bool) (R : List Ed) (N : Nat) (c : Nat) (w : World) (i j : Nat) (f : Nat → Value) : Prop where
  row : w.rowIs c 70 N f
  le : j ≤ R.length
  lt : i < j
  len : (kpE P R j).length = i
  low : ∀ t, t < i * 4 → f t = ec (kpE P R j) t
  high : ∀ t, j * 4 ≤ t → t < R.length * 4 → f t = ec R t
theorem DelE.below {P : Ed → Bool} {R : List Ed} {N c : Nat} {w w' : World} {i j : Nat} {f : Nat → Value} (h : DelE P R N c w i j f) (hb : Below w.heap.size w w') : DelE P R N c w' i j f :=
  ⟨h.row.of_block (hb.block c h.row.lt), h.le, h.lt, h.len, h.low, h.high⟩
theorem DelE.skip {P : Ed → Bool} {R : List Ed} {N c : Nat} {w : World} {i j : Nat} {f : Nat → Value} (h : DelE P R N c w i j f) (hj : j < R.length) (hs : P (R.getD j e0) = false) : DelE P R N c w i (j + 1) f := by
  have e : kpE P R (j + 1) = kpE P R j := by rw [kpE_succ P R hj, if_neg (by rw [hs]; decide)]; simp
  exact ⟨h.row, by omega, by have := h.lt; omega, by rw [e]; exact h.len, fun t ht => by rw [e]; exact h.low t ht, fun t h1 h2 => h.high t (by omega) h2⟩
theorem DelE.keep {P : Ed → Bool} {R : List Ed} {N c : Nat} {w : World} {i j : Nat} {f : Nat → Value} (h : DelE P R N c w i j f) (hj : j < R.length) (hs : P (R.getD j e0) = true) :
    DelE P R N c ((((w.setCell ⟨c, i * 4, none⟩ (.int .i64 (R.getD j e0).1)).setCell ⟨c, i * 4 + 1, none⟩ (.int .i64 (R.getD j e0).2.1)).setCell ⟨c, i * 4 + 2, none⟩ (.string (R.getD j e0).2.2.1)).setCell ⟨c, i * 4 + 3, none⟩ (.string (R.getD j e0).2.2.2)) (i + 1) (j + 1)
      (fun t => if t = i * 4 + 3 then .string (R.getD j e0).2.2.2 else if t = i * 4 + 2 then .string (R.getD j e0).2.2.1 else if t = i * 4 + 1 then .int .i64 (R.getD j e0).2.1 else if t = i * 4 then .int .i64 (R.getD j e0).1 else f t) := by
  have e : kpE P R (j + 1) = kpE P R j ++ [R.getD j e0] := by rw [kpE_succ P R hj, if_pos hs]
  have hl := h.len
  obtain ⟨s0, s1, s2, s3⟩ := ec_snoc_eq (e := R.getD j e0) hl
  refine ⟨((((h.row.set (i * 4) _).set (i * 4 + 1) _).set (i * 4 + 2) _).set (i * 4 + 3) _).congr fun t _ => rfl, by omega, by have := h.lt; omega, by rw [e, List.length_append, hl]; rfl, fun t ht => ?_, fun t h1 h2 => ?_⟩
  · rw [e]
    by_cases q3 : t = i * 4 + 3
    · subst q3; rw [if_pos rfl, s3]
    rw [if_neg q3]
    by_cases q2 : t = i * 4 + 2
    · subst q2; rw [if_pos rfl, s2]
    rw [if_neg q2]
    by_cases q1 : t = i * 4 + 1
    · subst q1; rw [if_pos rfl, s1]
    rw [if_neg q1]
    by_cases q0 : t = i * 4
    · subst q0; rw [if_pos rfl, s0]
    rw [if_neg q0, ec_snoc_lt (by omega)]
    exact h.low t (by omega)
  · have := h.lt
    rw [if_neg (by omega), if_neg (by omega), if_neg (by omega), if_neg (by omega)]
    exact h.high t (by omega) h2
theorem kept_setCells7 (c : Nat) : ∀ (vs : List Value) (o : Nat) (w : World), Kept w (w.setCells c o vs) (fun x => x = c)
  | [], _, _ => Kept.refl _ _
  | v :: r, o, w => (Kept.set w ⟨c, o, none⟩ v (S := fun x => x = c) rfl).trans (kept_setCells7 c r (o + 1) _)
def zE (n : Nat) : List Value := (Builtin.zeroCells #[.int .i64 0, .int .i64 0, .string ⟨#[]⟩, .string ⟨#[]⟩] n).toList
theorem zE_len (n : Nat) : (zE n).length = n * 4 := by simp [zE, Builtin.zeroCells]
theorem zE_one (n : Nat) : ∀ v ∈ zE n, v.oneCell' = true := by
  intro v hv
  simp only [zE, Builtin.zeroCells, Array.toList_map, List.mem_map] at hv
  obtain ⟨i, -, rfl⟩ := hv
  have : i % (#[Value.int IntKind.i64 0, .int .i64 0, .string ⟨#[]⟩, .string ⟨#[]⟩] : Array Value).size < 4 := Nat.mod_lt _ (by decide)
  generalize i % (#[Value.int IntKind.i64 0, .int .i64 0, .string ⟨#[]⟩, .string ⟨#[]⟩] : Array Value).size = m at this ⊢
  match m, this with
  | 0, _ => rfl
  | 1, _ => rfl
  | 2, _ => rfl
  | 3, _ => rfl
theorem run_clear7 (w : World) (ty : TypeId) (b o n c : Nat) (hn : 0 < n) (hc : ∀ j, j < n * 4 → (w.cell? ⟨b, o + j, none⟩).isSome = true) (hf : ∀ j, j < n * 4 → w.frozen? ⟨b, o + j, none⟩ = false) :
    (Builtin.clear_ #[32] ty #[.slice (some ⟨b, o, none⟩) n c]).run Tryd.prog w = .ok (.tuple #[]) (w.setCells b o (zE n)) := by
  have hst := run_storeCells_cells (P := Tryd.prog) b o (zE n) 0 w (by rw [zE_len]; simpa using hc) (by rw [zE_len]; simpa using hf) (zE_one n)
  simp only [Nat.add_zero] at hst
  obtain ⟨m, rfl⟩ : ∃ m, n = m + 1 := ⟨n - 1, by omega⟩
  have hv : ∀ w, (zeroValue 70).run Tryd.prog w = .ok (vE e0) w := zeroEd
  have hz : (vE e0).cells = #[.int .i64 0, .int .i64 0, .string ⟨#[]⟩, .string ⟨#[]⟩] := by rfl
  unfold zE at hst ⊢
  simp [Builtin.clear_, run_underlying Tryd.underlying32, hv, hz, hst]
end Go.Proofs.YtkpnkaihehneiaaDoor
