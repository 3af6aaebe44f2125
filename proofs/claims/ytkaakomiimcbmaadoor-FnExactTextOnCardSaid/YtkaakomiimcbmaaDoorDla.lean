/- Several of this claim's texts in one: Dl7, Dl8. -/
import Derived.Test.YtkaakomiimcbmaaDoorCfa
import Derived.Lib.SliceRun
import Derived.Lib.LazyBuf
/- slices.DeleteFunc over edits, for any function that tells which to delete. -/
namespace Go.Proofs.YtkaakomiimcbmaaDoor
open Go.ChangeShapes Go.WideShapes Go.ChangeAt Go.RowKit Go.Deep
set_option linter.unusedSimpArgs false
set_option linter.unusedVariables false
def IdxE (P : Ed → Bool) (l : List Ed) (r : Int) : Prop := (r = -1 ∧ ∀ j, j < l.length → P (l.getD j e0) = true) ∨ ∃ k : Nat, k < l.length ∧ r = (k : Int) ∧ P (l.getD k e0) = false ∧ ∀ j, j < k → P (l.getD j e0) = true
theorem row_at {w : World} {c N : Nat} {f : Nat → Value} {R : List Ed} (row : w.rowIs c 93 N f) (hN : R.length * 4 ≤ N) {k : Nat} (hk : k < R.length) (hv : ∀ j, k * 4 ≤ j → j < k * 4 + 4 → f j = ec R j) : EdAt w c (k * 4) (R.getD k e0) := by
  have e1 : k * 4 / 4 = k := by omega
  have e2 : k * 4 % 4 = 0 := by omega
  have e3 : (k * 4 + 1) / 4 = k := by omega
  have e4 : (k * 4 + 1) % 4 = 1 := by omega
  have e5 : (k * 4 + 2) / 4 = k := by omega
  have e6 : (k * 4 + 2) % 4 = 2 := by omega
  have e7 : (k * 4 + 3) / 4 = k := by omega
  have e8 : (k * 4 + 3) % 4 = 3 := by omega
  refine ⟨?_, ?_, ?_, ?_⟩
  · rw [row.cell (i := k * 4) (by omega), hv _ (by omega) (by omega)]; simp [ec, e1, e2]
  · rw [row.cell (i := k * 4 + 1) (by omega), hv _ (by omega) (by omega)]; simp [ec, e3, e4]
  · rw [row.cell (i := k * 4 + 2) (by omega), hv _ (by omega) (by omega)]; simp [ec, e5, e6]
  · rw [row.cell (i := k * 4 + 3) (by omega), hv _ (by omega) (by omega)]; simp [ec, e7, e8]
set_option maxHeartbeats 1000000 in
set_option maxRecDepth 100000 in
theorem idx_del7 (P : Ed → Bool) (F : FuncId) (HF : ∀ args w, (callFunc F args).run Tryd.prog w = .ok (.enter F args) w) (caps : Array Value) (S : World → Prop)
    (HT : ∀ x w', S w' → Calls Tryd.prog F (#[vE x] ++ caps) w' fun e w'' => e = .returned (.bool (!P x)) ∧ Below w'.heap.size w' w'') (hSb : ∀ w w', S w → Below w.heap.size w w' → S w')
    (c cp N : Nat) (f : Nat → Value) (R : List Ed) (w : World) (hS : S w) (hl : R.length ≤ 1048576) (row : w.rowIs c 93 N f) (hN : R.length * 4 ≤ N) (hv : ∀ j, j < R.length * 4 → f j = ec R j) :
    Calls Tryd.prog 87 #[.slice (some ⟨c, 0, none⟩) R.length cp, .func (.func F) #[] caps] w fun e w' => (∃ r : Int, e = .returned (.int .i64 r) ∧ -1 ≤ r ∧ r ≤ 1048576 ∧ IdxE P R r) ∧ Below w.heap.size w w' := by
  have HV := Lib.hid hv
  have HR := Lib.hid row
  have HTT := Lib.hid HT
  have HSB := Lib.hid hSb
  have HS0 := Lib.hid hS
  have lc := row.lt
  clear hv HT hSb hS row
  go_enter Tryd.func87, Tryd.ntmps87
  go_wp2
  go_loopg [8] R.length (fun g i wr => ∃ k : Nat, k ≤ R.length ∧ g = R.length - k ∧ i = .int .i64 k ∧ Below w.heap.size w wr ∧ Hid (∀ j, j < k → P (R.getD j e0) = true))
  case atStart => exact ⟨0, Nat.zero_le _, rfl, rfl, Below.refl _ _, fun j hj => absurd hj (Nat.not_lt_zero _)⟩
  case round =>
    obtain ⟨k, hk, rfl, rfl, hb, H⟩ := hrel
    by_cases hlt : k < R.length
    · obtain ⟨a1, a2, a3, a4⟩ := row_at (HR.out.of_block (hb.block c HR.out.lt)) hN hlt (fun j _ hj => HV.out j (by omega))
      obtain ⟨q, hq⟩ : ∃ q, R.getD k e0 = q := ⟨_, rfl⟩
      rw [hq] at a1 a2 a3 a4
      have hK := HTT.out q wr (HSB.out _ _ HS0.out hb)
      have HQ := Lib.hid hq
      obtain ⟨z, hz⟩ : ∃ z, P q = z := ⟨_, rfl⟩
      rw [hz] at hK
      have HZ := Lib.hid hz
      obtain ⟨n, y, sa, sb⟩ := q
      unfold vE at hK
      simp only at a1 a2 a3 a4 hK
      clear hz hq
      cases z with
      | false =>
        go_wp2_with fail
        refine hK.mono ?_
        rintro e w1 ⟨rfl, hb1⟩
        go_wp2
        go_ret
        exact ⟨⟨_, rfl, by omega, by omega, .inr ⟨k, hlt, rfl, by rw [HQ.out]; exact HZ.out, H.out⟩⟩, hb.trans (hb1.mono hb.size)⟩
      | true =>
        go_wp2_with fail
        refine hK.mono ?_
        rintro e w1 ⟨rfl, hb1⟩
        go_wp2
        go_roundg (R.length - (k + 1))
        case measure => omega
        case rel =>
          refine ⟨k + 1, by omega, rfl, by simp, hb.trans (hb1.mono hb.size), fun q hq => ?_⟩
          by_cases eq : q = k
          · subst eq; rw [HQ.out]; exact HZ.out
          · exact H.out q (by omega)
    · have e : k = R.length := by omega
      subst e
      go_wp2
      go_ret
      exact ⟨⟨_, rfl, by omega, by omega, .inl ⟨rfl, H.out⟩⟩, hb⟩
def kpE (P : Ed → Bool) (R : List Ed) (j : Nat) : List Ed := (R.take j).filter fun x => P x
theorem kpE_succ (P : Ed → Bool) (R : List Ed) {j : Nat} (h : j < R.length) : kpE P R (j + 1) = kpE P R j ++ if P (R.getD j e0) = true then [R.getD j e0] else [] := by
  unfold kpE
  rw [take_snoc h, List.filter_append]
  congr 1
  by_cases q : P (R.getD j e0) = true
  · rw [if_pos q]; simp only [List.filter_cons, q, if_true, List.filter_nil]
  · rw [if_neg q]; simp only [List.filter_cons, q, if_false, List.filter_nil]; simp
theorem kpE_all {P : Ed → Bool} {R : List Ed} : ∀ k, k ≤ R.length → (∀ j, j < k → P (R.getD j e0) = true) → kpE P R k = R.take k
  | 0, _, _ => rfl
  | k + 1, hk, h => by
    have hk' : k < R.length := by omega
    rw [kpE_succ P R hk', kpE_all k (by omega) (fun j hj => h j (by omega)), if_pos (h k (by omega)), take_snoc hk']
theorem kpE_end (P : Ed → Bool) (R : List Ed) : kpE P R R.length = R.filter fun x => P x := by unfold kpE; rw [List.take_length]
theorem ec_take {R : List Ed} {k j : Nat} (h : j < k * 4) (hk : k ≤ R.length) : ec (R.take k) j = ec R j := by
  have : (R.take k).getD (j / 4) e0 = R.getD (j / 4) e0 := by
    have : j / 4 < k := by omega
    simp [List.getD, List.getElem?_take, this]
  unfold ec
  rw [this]
theorem ec_snoc_lt {L : List Ed} {e : Ed} {j : Nat} (h : j < L.length * 4) : ec (L ++ [e]) j = ec L j := by
  have : (L ++ [e]).getD (j / 4) e0 = L.getD (j / 4) e0 := by
    simp [List.getD, List.getElem?_append_left (show j / 4 < L.length by omega)]
  unfold ec
  rw [this]
theorem ec_snoc_eq {L : List Ed} {e : Ed} {i : Nat} (hi : L.length = i) :
    ec (L ++ [e]) (i * 4) = .int .i64 e.1 ∧ ec (L ++ [e]) (i * 4 + 1) = .int .i64 e.2.1 ∧ ec (L ++ [e]) (i * 4 + 2) = .string e.2.2.1 ∧ ec (L ++ [e]) (i * 4 + 3) = .string e.2.2.2 := by
  have hg : (L ++ [e]).getD i e0 = e := by rw [← hi]; simp [List.getD]
  have e1 : i * 4 / 4 = i := by omega
  have e2 : i * 4 % 4 = 0 := by omega
  have e3 : (i * 4 + 1) / 4 = i := by omega
  have e4 : (i * 4 + 1) % 4 = 1 := by omega
  have e5 : (i * 4 + 2) / 4 = i := by omega
  have e6 : (i * 4 + 2) % 4 = 2 := by omega
  have e7 : (i * 4 + 3) / 4 = i := by omega
  have e8 : (i * 4 + 3) % 4 = 3 := by omega
  unfold ec
  rw [e1, e2, e3, e4, e5, e6, e7, e8, hg]
  exact ⟨rfl, rfl, rfl, rfl⟩
/-- What the loop of DeleteFunc keeps. -/
structure DelE (P : Ed → Bool) (R : List Ed) (N : Nat) (c : Nat) (w : World) (i j : Nat) (f : Nat → Value) : Prop where
  row : w.rowIs c 93 N f
  le : j ≤ R.length
  lt : i < j
  len : (kpE P R j).length = i
  low : ∀ t, t < i * 4 → f t = ec (kpE P R j) t
  high : ∀ t, j * 4 ≤ t → t < R.length * 4 → f t = ec R t
theorem DelE.below {P : Ed → Bool} {R : List Ed} {N c : Nat} {w w' : World} {i j : Nat} {f : Nat → Value} (h : DelE P R N c w i j f) (hb : Below w.heap.size w w') : DelE P R N c w' i j f :=
  ⟨h.row.of_block (hb.block c h.row.lt), h.le, h.lt, h.len, h.low, h.high⟩
theorem DelE.skip {P : Ed → Bool} {R : List Ed} {N c : Nat} {w : World} {i j : Nat} {f : Nat → Value} (h : DelE P R N c w i j f) (hj : j < R.length) (hs : P (R.getD j e0) = false) : DelE P R N c w i (j + 1) f := by
  have e : kpE P R (j + 1) = kpE P R j := by rw [kpE_succ P R hj, if_neg (by rw [hs]; decide)]; simp
  exact ⟨h.row, by omega, by have := h.lt; omega, by rw [e]; exact h.len, fun t ht => by rw [e]; exact h.low t ht, fun t h1 h2 => h.high t (by omega) h2⟩
theorem DelE.keep {P : Ed → Bool} {R : List Ed} {N c : Nat} {w : World} {i j : Nat} {f : Nat → Value} (h : DelE P R N c w i j f) (hj : j < R.length) (hs : P (R.getD j e0) = true) :
    DelE P R N c ((((w.setCell ⟨c, i * 4, none⟩ (.int .i64 (R.getD j e0).1)).setCell ⟨c, i * 4 + 1, none⟩ (.int .i64 (R.getD j e0).2.1)).setCell ⟨c, i * 4 + 2, none⟩ (.string (R.getD j e0).2.2.1)).setCell ⟨c, i * 4 + 3, none⟩ (.string (R.getD j e0).2.2.2)) (i + 1) (j + 1)
      (fun t => if t = i * 4 + 3 then .string (R.getD j e0).2.2.2 else if t = i * 4 + 2 then .string (R.getD j e0).2.2.1 else if t = i * 4 + 1 then .int .i64 (R.getD j e0).2.1 else if t = i * 4 then .int .i64 (R.getD j e0).1 else f t) := by
  have e : kpE P R (j + 1) = kpE P R j ++ [R.getD j e0] := by rw [kpE_succ P R hj, if_pos hs]
  have hl := h.len
  obtain ⟨s0, s1, s2, s3⟩ := ec_snoc_eq (e := R.getD j e0) hl
  refine ⟨((((h.row.set (i * 4) _).set (i * 4 + 1) _).set (i * 4 + 2) _).set (i * 4 + 3) _).congr fun t _ => rfl, by omega, by have := h.lt; omega, by rw [e, List.length_append, hl]; rfl, fun t ht => ?_, fun t h1 h2 => ?_⟩
  · rw [e]
    by_cases q3 : t = i * 4 + 3
    · subst q3; rw [if_pos rfl, s3]
    rw [if_neg q3]
    by_cases q2 : t = i * 4 + 2
    · subst q2; rw [if_pos rfl, s2]
    rw [if_neg q2]
    by_cases q1 : t = i * 4 + 1
    · subst q1; rw [if_pos rfl, s1]
    rw [if_neg q1]
    by_cases q0 : t = i * 4
    · subst q0; rw [if_pos rfl, s0]
    rw [if_neg q0, ec_snoc_lt (by omega)]
    exact h.low t (by omega)
  · have := h.lt
    rw [if_neg (by omega), if_neg (by omega), if_neg (by omega), if_neg (by omega)]
    exact h.high t (by omega) h2
theorem kept_setCells7 (c : Nat) : ∀ (vs : List Value) (o : Nat) (w : World), Kept w (w.setCells c o vs) (fun x => x = c)
  | [], _, _ => Kept.refl _ _
  | v :: r, o, w => (Kept.set w ⟨c, o, none⟩ v (S := fun x => x = c) rfl).trans (kept_setCells7 c r (o + 1) _)
def zE (n : Nat) : List Value := (Builtin.zeroCells #[.int .i64 0, .int .i64 0, .string ⟨#[]⟩, .string ⟨#[]⟩] n).toList
theorem zE_len (n : Nat) : (zE n).length = n * 4 := by simp [zE, Builtin.zeroCells]
theorem zE_one (n : Nat) : ∀ v ∈ zE n, v.oneCell' = true := by
  intro v hv
  simp only [zE, Builtin.zeroCells, Array.toList_map, List.mem_map] at hv
  obtain ⟨i, -, rfl⟩ := hv
  have : i % (#[Value.int IntKind.i64 0, .int .i64 0, .string ⟨#[]⟩, .string ⟨#[]⟩] : Array Value).size < 4 := Nat.mod_lt _ (by decide)
  generalize i % (#[Value.int IntKind.i64 0, .int .i64 0, .string ⟨#[]⟩, .string ⟨#[]⟩] : Array Value).size = m at this ⊢
  match m, this with
  | 0, _ => rfl
  | 1, _ => rfl
  | 2, _ => rfl
  | 3, _ => rfl
theorem run_clear7 (w : World) (ty : TypeId) (b o n c : Nat) (hn : 0 < n) (hc : ∀ j, j < n * 4 → (w.cell? ⟨b, o + j, none⟩).isSome = true) (hf : ∀ j, j < n * 4 → w.frozen? ⟨b, o + j, none⟩ = false) :
    (Builtin.clear_ #[49] ty #[.slice (some ⟨b, o, none⟩) n c]).run Tryd.prog w = .ok (.tuple #[]) (w.setCells b o (zE n)) := by
  have hst := run_storeCells_cells (P := Tryd.prog) b o (zE n) 0 w (by rw [zE_len]; simpa using hc) (by rw [zE_len]; simpa using hf) (zE_one n)
  simp only [Nat.add_zero] at hst
  obtain ⟨m, rfl⟩ : ∃ m, n = m + 1 := ⟨n - 1, by omega⟩
  have hv : ∀ w, (zeroValue 93).run Tryd.prog w = .ok (vE e0) w := zeroEd
  have hz : (vE e0).cells = #[.int .i64 0, .int .i64 0, .string ⟨#[]⟩, .string ⟨#[]⟩] := by rfl
  unfold zE at hst ⊢
  simp [Builtin.clear_, run_underlying Tryd.underlying49, hv, hz, hst]
end Go.Proofs.YtkaakomiimcbmaaDoor
/- slices.DeleteFunc over edits, walked. -/
namespace Go.Proofs.YtkaakomiimcbmaaDoor
open Go.ChangeShapes Go.WideShapes Go.ChangeAt Go.RowKit Go.Deep
set_option linter.unusedSimpArgs false
set_option linter.unusedVariables false
theorem kset7 (w : World) (c o : Nat) (v : Value) : Kept w (w.setCell ⟨c, o, none⟩ v) (fun x => x = c) := Kept.set w ⟨c, o, none⟩ v (S := fun x => x = c) rfl
set_option maxHeartbeats 4000000 in
set_option maxRecDepth 100000 in
theorem del_any7 (P : Ed → Bool) (F : FuncId) (HF : ∀ args w, (callFunc F args).run Tryd.prog w = .ok (.enter F args) w) (caps : Array Value) (S : World → Prop)
    (HT : ∀ x w', S w' → Calls Tryd.prog F (#[vE x] ++ caps) w' fun e w'' => e = .returned (.bool (!P x)) ∧ Below w'.heap.size w' w'') (c cp N : Nat) (hSk : ∀ w w', S w → Kept w w' (fun x => x = c) → S w')
    (f : Nat → Value) (R : List Ed) (w : World) (hS : S w) (hl : R.length ≤ 1048576) (row : w.rowIs c 93 N f) (hN : R.length * 4 ≤ N) (hcp : R.length ≤ cp) (hv : ∀ j, j < R.length * 4 → f j = ec R j) :
    Calls Tryd.prog 83 #[.slice (some ⟨c, 0, none⟩) R.length cp, .func (.func F) #[] caps] w fun e w' => (∃ f', e = .returned (.slice (some ⟨c, 0, none⟩) (R.filter fun x => P x).length cp) ∧ w'.rowIs c 93 N f' ∧ ∀ j, j < (R.filter fun x => P x).length * 4 → f' j = ec (R.filter fun x => P x) j) ∧ Kept w w' (fun x => x = c) := by
  have hSb : ∀ w w', S w → Below w.heap.size w w' → S w' := fun w w' h hb => hSk w w' h (Kept.ofBel hb)
  have HI := idx_del7 P F HF caps S HT hSb c cp N f R w hS hl row hN hv
  have HV := Lib.hid hv
  have HTT := Lib.hid HT
  have HSK := Lib.hid hSk
  have HSS := Lib.hid hS
  have HSB := Lib.hid hSb
  have lc := row.lt
  clear hv HT hSk hS hSb
  go_enter Tryd.func83, Tryd.ntmps83
  go_wp2_with fail
  refine HI.mono ?_
  rintro e w1 ⟨⟨r, rfl, r1, r2, hidx⟩, hb1⟩
  have row1 := row.of_block (hb1.block c lc)
  have HS1 := Lib.hid (HSB.out _ _ HSS.out hb1)
  have HK1 : Hid (Kept w w1 (fun x => x = c)) := Lib.hid (Kept.ofBel hb1)
  rcases hidx with ⟨rfl, ha⟩ | ⟨k, hk, rfl, hs, ha⟩
  · have he : kpE P R R.length = R := by rw [kpE_all _ (Nat.le_refl _) ha, List.take_length]
    rw [kpE_end] at he
    have HE := Lib.hid he
    clear he ha HI row
    go_wp2
    go_ret
    rw [HE.out]
    exact ⟨⟨f, rfl, row1, HV.out⟩, HK1.out⟩
  · have hD : DelE P R N c w1 k (k + 1) f := by
      have e1 : kpE P R k = R.take k := kpE_all k (by omega) ha
      have e2 : kpE P R (k + 1) = R.take k := by rw [kpE_succ P R hk, if_neg (by rw [hs]; decide), e1]; simp
      refine ⟨row1, by omega, by omega, by rw [e2, List.length_take]; omega, fun t ht => ?_, fun t _ h => HV.out t h⟩
      rw [e2, HV.out t (by omega), ec_take ht (by omega)]
    have hk9 : ((k : Int) == -1) = false := by first | (simp; done) | (simp; omega)
    have wk1 : IntKind.i64.wrap ((k : Int) + 1) = ((k + 1 : Nat) : Int) := by rw [IntKind.wrap_i64]; omega
    clear ha hs row HI row1 hb1
    go_wp2
    go_loopg [5, 6, 7] (R.length - (k + 1)) (fun g vi vj _ wr => ∃ (i j : Nat) (f : Nat → Value), g = R.length - j ∧ vi = .int .i64 i ∧ vj = .int .i64 j ∧ i < j ∧ j ≤ R.length ∧ DelE P R N c wr i j f ∧ S wr ∧ Kept w wr (fun x => x = c))
    case atStart => exact ⟨k, k + 1, f, rfl, rfl, by simp, by omega, by omega, hD, HS1.out, HK1.out⟩
    case round =>
      clear hD
      obtain ⟨i, j, f, rfl, rfl, rfl, hij, hjl, hD, h, hkp⟩ := hrel
      by_cases hlt : j < R.length
      · obtain ⟨a1, a2, a3, a4⟩ := row_at hD.row hN hlt (fun t h1 h2 => hD.high t h1 (by omega))
        obtain ⟨q, hq⟩ : ∃ q, R.getD j e0 = q := ⟨_, rfl⟩
        rw [hq] at a1 a2 a3 a4
        have HQ := Lib.hid hq
        obtain ⟨n, y, sa, sb⟩ := q
        simp only at a1 a2 a3 a4
        have ba := (Below.refl wr.heap.size wr).alloc (Nat.le_refl _) (.cells #[.int .i64 n, .int .i64 y, .string sa, .string sb] 93)
        have hK := HTT.out (n, y, sa, sb) _ (HSB.out _ _ h ba)
        obtain ⟨z, hz⟩ : ∃ z, P (n, y, sa, sb) = z := ⟨_, rfl⟩
        rw [hz] at hK
        have HZ := Lib.hid hz
        unfold vE at hK
        simp only at hK
        have k0 : (wr.alloc (.cells #[.int .i64 n, .int .i64 y, .string sa, .string sb] 93)).cell? ⟨wr.heap.size, 0, none⟩ = some (.int .i64 n) := by go_simp
        have k1 : (wr.alloc (.cells #[.int .i64 n, .int .i64 y, .string sa, .string sb] 93)).cell? ⟨wr.heap.size, 1, none⟩ = some (.int .i64 y) := by go_simp
        have k2 : (wr.alloc (.cells #[.int .i64 n, .int .i64 y, .string sa, .string sb] 93)).cell? ⟨wr.heap.size, 2, none⟩ = some (.string sa) := by go_simp
        have k3 : (wr.alloc (.cells #[.int .i64 n, .int .i64 y, .string sa, .string sb] 93)).cell? ⟨wr.heap.size, 3, none⟩ = some (.string sb) := by go_simp
        have KK := Lib.hid (And.intro k0 (And.intro k1 (And.intro k2 k3)))
        have BA := Lib.hid ba
        have HD := Lib.hid hD
        have H := Lib.hid h
        have HKP := Lib.hid hkp
        have lcw := hD.row.lt
        clear hz hq hD h hkp ba k0 k1 k2 k3
        go_wp2_with fail
        refine hK.mono ?_
        rintro e w2 ⟨rfl, hb2⟩
        have hbx := BA.out.trans (hb2.mono BA.out.size)
        have HS2 := Lib.hid (HSB.out _ _ H.out hbx)
        have HK2 := Lib.hid (HKP.out.trans (Kept.ofBel hbx))
        have HD2 := Lib.hid (HD.out.below hbx)
        cases z with
        | false =>
          have HD3 := Lib.hid (HD2.out.skip hlt (by rw [HQ.out]; exact HZ.out))
          clear hb2 hbx hK
          go_wp2
          go_roundg (R.length - (j + 1))
          case measure => omega
          case rel => exact ⟨i, j + 1, f, rfl, rfl, by simp, by omega, by omega, HD3.out, HS2.out, HK2.out⟩
        | true =>
          have hsz : wr.heap.size < (wr.alloc (.cells #[.int .i64 n, .int .i64 y, .string sa, .string sb] 93)).heap.size := by simp
          have m0 := (hb2.cell (p := ⟨wr.heap.size, 0, none⟩) hsz).trans KK.out.1
          have m1 := (hb2.cell (p := ⟨wr.heap.size, 1, none⟩) hsz).trans KK.out.2.1
          have m2 := (hb2.cell (p := ⟨wr.heap.size, 2, none⟩) hsz).trans KK.out.2.2.1
          have m3 := (hb2.cell (p := ⟨wr.heap.size, 3, none⟩) hsz).trans KK.out.2.2.2
          have c0 : w2.cell? ⟨c, i * 4, none⟩ = some (f (i * 4)) := HD2.out.row.cell (by omega)
          have c1 : w2.cell? ⟨c, i * 4 + 1, none⟩ = some (f (i * 4 + 1)) := HD2.out.row.cell (by omega)
          have c2 : w2.cell? ⟨c, i * 4 + 2, none⟩ = some (f (i * 4 + 2)) := HD2.out.row.cell (by omega)
          have c3 : w2.cell? ⟨c, i * 4 + 3, none⟩ = some (f (i * 4 + 3)) := HD2.out.row.cell (by omega)
          have g0 : w2.frozen? ⟨c, i * 4, none⟩ = false := HD2.out.row.frozen _
          have g1 : w2.frozen? ⟨c, i * 4 + 1, none⟩ = false := HD2.out.row.frozen _
          have g2 : w2.frozen? ⟨c, i * 4 + 2, none⟩ = false := HD2.out.row.frozen _
          have g3 : w2.frozen? ⟨c, i * 4 + 3, none⟩ = false := HD2.out.row.frozen _
          have hD3 := HD2.out.keep hlt (by rw [HQ.out]; exact HZ.out)
          rw [HQ.out] at hD3
          simp only at hD3
          have HD3 := Lib.hid hD3
          clear hb2 hbx hK hD3 a1 a2 a3 a4
          go_wp2
          go_roundg (R.length - (j + 1))
          case measure => omega
          case rel =>
            have kk : Kept w2 ((((w2.setCell ⟨c, i * 4, none⟩ (.int .i64 n)).setCell ⟨c, i * 4 + 1, none⟩ (.int .i64 y)).setCell ⟨c, i * 4 + 2, none⟩ (.string sa)).setCell ⟨c, i * 4 + 3, none⟩ (.string sb)) (fun x => x = c) :=
              (((kset7 w2 c _ _).trans (kset7 _ c _ _)).trans (kset7 _ c _ _)).trans (kset7 _ c _ _)
            exact ⟨i + 1, j + 1, _, rfl, by simp, by simp, by omega, by omega, HD3.out, HSK.out _ _ HS2.out kk, HK2.out.trans kk⟩
      · have e : j = R.length := by omega
        subst e
        have hcl : ∀ ty, (Builtin.clear_ #[49] ty #[.slice (some ⟨c, i * 4, none⟩) (R.length - i) (cp - i)]).run Tryd.prog wr = .ok (.tuple #[]) (wr.setCells c (i * 4) (zE (R.length - i))) := fun ty =>
          run_clear7 wr ty c (i * 4) (R.length - i) (cp - i) (by omega) (fun t ht => by rw [hD.row.cell (i := i * 4 + t) (by omega)]; rfl) (fun t ht => hD.row.frozen _)
        have hlen := hD.len
        have hlow := hD.low
        have hrow := Go.rowIs_setCells (zE (R.length - i)) (i * 4) wr f hD.row
        rw [kpE_end] at hlen hlow
        have HLW := Lib.hid hlow
        have HRW := Lib.hid hrow
        have hkp2 := hkp.trans (kept_setCells7 c (zE (R.length - i)) (i * 4) wr)
        clear hrow hD hlow
        go_wp2
        go_ret
        rw [hlen]
        refine ⟨⟨_, rfl, HRW.out, fun t ht => ?_⟩, hkp2⟩
        rw [if_neg (by omega)]
        exact HLW.out t ht
end Go.Proofs.YtkaakomiimcbmaaDoor
