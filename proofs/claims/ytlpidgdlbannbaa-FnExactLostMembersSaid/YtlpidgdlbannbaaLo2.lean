/- The ends of the paths of a member: IndexFunc, DeleteFunc, endsFrom. -/
import Derived.Test.YtlpidgdlbannbaaLo1
import Derived.Lib.SliceRun
import Derived.Lib.LazyBuf
namespace Go.Proofs.Ytlpidgdlbannbaa
open Go.ChangeShapes Go.WideShapes Go.ChangeAt Go.RowKit Go.Deep
set_option linter.unusedSimpArgs false
set_option linter.unusedVariables false
/-- Member x speaks. -/
def sp (L : List Vc) (x : Int) : Bool := (vAt L x).1
def IdxIs (L : List Vc) (l : List Int) (r : Int) : Prop := (r = -1 ∧ ∀ j, j < l.length → sp L (l.getD j 0) = true) ∨ ∃ k : Nat, k < l.length ∧ r = (k : Int) ∧ sp L (l.getD k 0) = false ∧ ∀ j, j < k → sp L (l.getD j 0) = true
set_option maxHeartbeats 1000000 in
set_option maxRecDepth 100000 in
theorem idx_mute (L : List Vc) (b cap p : Nat) (x : Addr) (cp : Nat) (l : List Int) (w : World) (h : MtAt L b cap p w) (hn : L.length ≤ 12) (hc : ∀ i, i < l.length → w.cell? (x.add i) = some (.int .i64 (l.getD i 0))) (hl : l.length ≤ 1048576) (hr : ∀ x ∈ l, 0 ≤ x ∧ x < (L.length : Int)) :
    Calls Try.prog 116 #[.slice (some x) l.length cp, .func (.func 103) #[] #[.pointer (some ⟨p, 0, none⟩)]] w fun e w' => (∃ r : Int, e = .returned (.int .i64 r) ∧ -1 ≤ r ∧ r ≤ 1048576 ∧ IdxIs L l r) ∧ w = w' := by
  have HR := Lib.hid hr
  have HC := Lib.hid hc
  clear hr hc
  go_enter Try.func116, Try.ntmps116
  go_wp2
  go_loopg [8] l.length (fun g i wr => ∃ k : Nat, k ≤ l.length ∧ g = l.length - k ∧ i = .int .i64 k ∧ w = wr ∧ Hid (∀ j, j < k → sp L (l.getD j 0) = true))
  case atStart => exact ⟨0, Nat.zero_le _, rfl, rfl, rfl, fun j hj => absurd hj (Nat.not_lt_zero _)⟩
  case round =>
    obtain ⟨k, hk, rfl, rfl, rfl, H⟩ := hrel
    by_cases hlt : k < l.length
    · have c1 := HC.out k hlt
      obtain ⟨y, hy⟩ : ∃ y, l.getD k 0 = y := ⟨_, rfl⟩
      have hym := mem_getD hlt
      rw [hy] at c1 hym
      obtain ⟨y1, y2⟩ := HR.out y hym
      obtain ⟨j, rfl⟩ : ∃ j : Nat, y = j := ⟨y.toNat, by omega⟩
      have hj : j < L.length := by omega
      have hK := mute_any L b cap p j w h (by omega) hj
      have HY := Lib.hid hy
      obtain ⟨z, hz⟩ : ∃ z, (vAt L (j : Int)).1 = z := ⟨_, rfl⟩
      rw [hz] at hK
      have HZ := Lib.hid hz
      clear hz hy hym
      cases z with
      | false =>
        go_wp2_with fail
        refine hK.mono ?_
        rintro e w1 ⟨rfl, rfl⟩
        go_wp2
        go_ret
        exact ⟨⟨_, rfl, by omega, by omega, .inr ⟨k, hlt, rfl, by rw [HY.out]; exact HZ.out, H.out⟩⟩, rfl⟩
      | true =>
        go_wp2_with fail
        refine hK.mono ?_
        rintro e w1 ⟨rfl, rfl⟩
        go_wp2
        go_roundg (l.length - (k + 1))
        case measure => omega
        case rel =>
          refine ⟨k + 1, by omega, rfl, by simp, rfl, fun q hq => ?_⟩
          by_cases eq : q = k
          · subst eq; rw [HY.out]; exact HZ.out
          · exact H.out q (by omega)
    · have e : k = l.length := by omega
      subst e
      go_wp2
      go_ret
      exact ⟨⟨_, rfl, by omega, by omega, .inl ⟨rfl, H.out⟩⟩, rfl⟩
def kp (L : List Vc) (R : List Int) (j : Nat) : List Int := (R.take j).filter fun x => sp L x
theorem kp_succ (L : List Vc) (R : List Int) {j : Nat} (h : j < R.length) : kp L R (j + 1) = kp L R j ++ if sp L (R.getD j 0) = true then [R.getD j 0] else [] := by
  unfold kp
  rw [List.take_add_one, List.filter_append]
  congr 1
  have e : R[j]? = some R[j] := List.getElem?_eq_getElem h
  have e2 : R.getD j 0 = R[j] := by simp [List.getD, h]
  rw [e2, e]
  simp only [Option.toList_some]
  by_cases q : sp L R[j] = true
  · rw [if_pos q]; simp [q]
  · rw [if_neg q]; simp [q]
theorem kp_len (L : List Vc) (R : List Int) (j : Nat) : (kp L R j).length ≤ j := by
  unfold kp
  have h1 := List.length_filter_le (fun x => sp L x) (R.take j)
  have h2 : (R.take j).length ≤ j := by rw [List.length_take]; omega
  omega
theorem kp_all {L : List Vc} {R : List Int} : ∀ k, k ≤ R.length → (∀ j, j < k → sp L (R.getD j 0) = true) → kp L R k = R.take k
  | 0, _, _ => rfl
  | k + 1, hk, h => by
    have hk' : k < R.length := by omega
    rw [kp_succ L R hk', kp_all k (by omega) (fun j hj => h j (by omega)), if_pos (h k (by omega)), List.take_add_one]
    have e : R[k]? = some R[k] := List.getElem?_eq_getElem hk'
    have e2 : R.getD k 0 = R[k] := by simp [List.getD, hk']
    rw [e2, e]; rfl
theorem kp_end (L : List Vc) (R : List Int) : kp L R R.length = R.filter fun x => sp L x := by unfold kp; rw [List.take_length]
/-- What the loop of DeleteFunc keeps. -/
structure Del (L : List Vc) (R : List Int) (N : Nat) (c : Nat) (w : World) (i j : Nat) (f : Nat → Value) : Prop where
  row : w.rowIs c 2 N f
  le : j ≤ R.length
  lt : i < j
  len : (kp L R j).length = i
  low : ∀ t, t < i → f t = .int .i64 ((kp L R j).getD t 0)
  high : ∀ t, j ≤ t → t < R.length → f t = .int .i64 (R.getD t 0)
theorem Del.skip {L : List Vc} {R : List Int} {N c : Nat} {w : World} {i j : Nat} {f : Nat → Value} (h : Del L R N c w i j f) (hj : j < R.length) (hs : sp L (R.getD j 0) = false) : Del L R N c w i (j + 1) f := by
  have e : kp L R (j + 1) = kp L R j := by rw [kp_succ L R hj, if_neg (by rw [hs]; decide)]; simp
  exact ⟨h.row, by omega, by have := h.lt; omega, by rw [e]; exact h.len, fun t ht => by rw [e]; exact h.low t ht, fun t h1 h2 => h.high t (by omega) h2⟩
theorem Del.keep {L : List Vc} {R : List Int} {N c : Nat} {w : World} {i j : Nat} {f : Nat → Value} (h : Del L R N c w i j f) (hj : j < R.length) (hs : sp L (R.getD j 0) = true) : Del L R N c (w.setCell ⟨c, i, none⟩ (.int .i64 (R.getD j 0))) (i + 1) (j + 1) (fun t => if t = i then .int .i64 (R.getD j 0) else f t) := by
  have e : kp L R (j + 1) = kp L R j ++ [R.getD j 0] := by rw [kp_succ L R hj, if_pos hs]
  have hl := h.len
  refine ⟨(h.row.set i _).congr fun t _ => rfl, by omega, by have := h.lt; omega, by rw [e, snoc_len, hl], fun t ht => ?_, fun t h1 h2 => ?_⟩
  · rw [e]
    by_cases q : t = i
    · subst q
      rw [if_pos rfl]
      subst hl
      simp [List.getD]
    · rw [if_neg q, getD_snoc_lt (by omega)]
      exact h.low t (by omega)
  · have := h.lt
    rw [if_neg (by omega)]
    exact h.high t (by omega) h2
theorem kept_setCells (c : Nat) : ∀ (vs : List Value) (o : Nat) (w : World), Kept w (w.setCells c o vs) (fun x => x = c)
  | [], _, _ => Kept.refl _ _
  | v :: r, o, w => (Kept.set w ⟨c, o, none⟩ v (S := fun x => x = c) rfl).trans (kept_setCells c r (o + 1) _)
set_option maxHeartbeats 2000000 in
set_option maxRecDepth 100000 in
theorem del_mute (L : List Vc) (b cap p c cp N : Nat) (f : Nat → Value) (R : List Int) (w : World) (h : MtAt L b cap p w) (hn : L.length ≤ 12) (h1 : p ≠ c) (h2 : b ≠ c) (hr : ∀ x ∈ R, 0 ≤ x ∧ x < (L.length : Int)) (hl : R.length ≤ 1048576)
    (row : w.rowIs c 2 N f) (hN : R.length ≤ N) (hcp : R.length ≤ cp) (hv : ∀ i, i < R.length → f i = .int .i64 (R.getD i 0)) :
    Calls Try.prog 102 #[.slice (some ⟨c, 0, none⟩) R.length cp, .func (.func 103) #[] #[.pointer (some ⟨p, 0, none⟩)]] w fun e w' => (∃ f', e = .returned (.slice (some ⟨c, 0, none⟩) (R.filter fun x => sp L x).length cp) ∧ w'.rowIs c 2 N f' ∧ ∀ i, i < (R.filter fun x => sp L x).length → f' i = .int .i64 ((R.filter fun x => sp L x).getD i 0)) ∧ Kept w w' (fun x => x = c) := by
  have HI := idx_mute L b cap p ⟨c, 0, none⟩ cp R w h hn (fun i hi => by rw [Addr.add_lit, Nat.zero_add, row.cell (i := i) (by omega), hv i hi]) hl hr
  have HR := Lib.hid hr
  have HV := Lib.hid hv
  clear hr hv
  go_enter Try.func102, Try.ntmps102
  go_wp2_with fail
  refine HI.mono ?_
  rintro e w1 ⟨⟨r, rfl, r1, r2, hidx⟩, rfl⟩
  rcases hidx with ⟨rfl, ha⟩ | ⟨k, hk, rfl, hs, ha⟩
  · have he : kp L R R.length = R := by rw [kp_all _ (Nat.le_refl _) ha, List.take_length]
    rw [kp_end] at he
    have HE := Lib.hid he
    clear he ha
    go_wp2
    go_ret
    rw [HE.out]
    exact ⟨⟨f, rfl, row, HV.out⟩, Kept.refl _ _⟩
  · have hD : Del L R N c w k (k + 1) f := by
      have e1 : kp L R k = R.take k := kp_all k (by omega) ha
      have e2 : kp L R (k + 1) = R.take k := by rw [kp_succ L R hk, if_neg (by rw [hs]; decide), e1]; simp
      refine ⟨row, by omega, by omega, by rw [e2, List.length_take]; omega, fun t ht => ?_, fun t _ h => HV.out t h⟩
      rw [e2, HV.out t (by omega)]
      simp [List.getD, ht]
    have hk9 : ((k : Int) == -1) = false := by first | (simp; done) | (simp; omega)
    have wk1 : IntKind.i64.wrap ((k : Int) + 1) = ((k + 1 : Nat) : Int) := by rw [IntKind.wrap_i64]; omega
    clear ha hs row HI
    go_wp2
    go_loopg [5, 6] (R.length - (k + 1)) (fun g vi vj wr => ∃ (i j : Nat) (f : Nat → Value), g = R.length - j ∧ vi = .int .i64 i ∧ vj = .int .i64 j ∧ i < j ∧ j ≤ R.length ∧ Del L R N c wr i j f ∧ MtAt L b cap p wr ∧ Kept w wr (fun x => x = c))
    case atStart => exact ⟨k, k + 1, f, rfl, rfl, by simp, by omega, by omega, hD, h, Kept.refl _ _⟩
    case round =>
      clear hD h
      obtain ⟨i, j, f, rfl, rfl, rfl, hij, hjl, hD, h, hkp⟩ := hrel
      by_cases hlt : j < R.length
      · have c1 : wr.cell? ⟨c, j, none⟩ = some (f j) := hD.row.cell (by omega)
        rw [hD.high j (Nat.le_refl _) hlt] at c1
        have c2 : wr.cell? ⟨c, i, none⟩ = some (f i) := hD.row.cell (by omega)
        have f2 : wr.frozen? ⟨c, i, none⟩ = false := hD.row.frozen _
        obtain ⟨fi, hfi⟩ : ∃ x, f i = x := ⟨_, rfl⟩
        rw [hfi] at c2
        have hym := mem_getD hlt
        obtain ⟨y, hy⟩ : ∃ y, R.getD j 0 = y := ⟨_, rfl⟩
        rw [hy] at c1 hym
        obtain ⟨y1, y2⟩ := HR.out y hym
        obtain ⟨n, rfl⟩ : ∃ n : Nat, y = n := ⟨y.toNat, by omega⟩
        have hj : n < L.length := by omega
        have hK := mute_any L b cap p n wr h (by omega) hj
        have HY := Lib.hid hy
        obtain ⟨z, hz⟩ : ∃ z, (vAt L (n : Int)).1 = z := ⟨_, rfl⟩
        rw [hz] at hK
        have HZ := Lib.hid hz
        have HD := Lib.hid hD
        clear hz hy hym hfi hD
        cases z with
        | false =>
          have hD2 := HD.out.skip hlt (by rw [HY.out]; exact HZ.out)
          have HD2 := Lib.hid hD2
          clear hD2
          go_wp2_with fail
          refine hK.mono ?_
          rintro e w1 ⟨rfl, rfl⟩
          go_wp2
          go_roundg (R.length - (j + 1))
          case measure => omega
          case rel => exact ⟨i, j + 1, f, rfl, rfl, by simp, by omega, by omega, HD2.out, h, hkp⟩
        | true =>
          have hD2 := HD.out.keep hlt (by rw [HY.out]; exact HZ.out)
          rw [HY.out] at hD2
          have HD2 := Lib.hid hD2
          clear hD2
          go_wp2_with fail
          refine hK.mono ?_
          rintro e w1 ⟨rfl, rfl⟩
          go_wp2
          go_roundg (R.length - (j + 1))
          case measure => omega
          case rel => exact ⟨i + 1, j + 1, _, rfl, by simp, by simp, by omega, by omega, HD2.out, h.set h1 h2, hkp.trans (Kept.set _ ⟨c, i, none⟩ _ rfl)⟩
      · have e : j = R.length := by omega
        subst e
        have hcl : ∀ ty, (Builtin.clear_ #[29] ty #[.slice (some ⟨c, i, none⟩) (R.length - i) (cp - i)]).run Try.prog wr = .ok (.tuple #[]) (wr.setCells c i (List.replicate (R.length - i) (.int .i64 0))) := fun ty =>
          Lib.run_clear_slice wr 29 2 ty (.int .i64 0) Try.underlying29 (fun w => by first | rfl | kernel_rfl | (simp [zeroValue, go_sem]; done)) rfl rfl c i _ _ (by omega) (fun t ht => by rw [hD.row.cell (i := i + t) (by omega)]; rfl) (fun t ht => hD.row.frozen _)
        have hlen := hD.len
        have hlow := hD.low
        have hrow := Go.rowIs_setCells (List.replicate (R.length - i) (.int .i64 0)) i wr f hD.row
        rw [kp_end] at hlen hlow
        have HLW := Lib.hid hlow
        have HRW := Lib.hid hrow
        have hkp2 := hkp.trans (kept_setCells c (List.replicate (R.length - i) (.int .i64 0)) i wr)
        clear hrow hD hlow
        go_wp2
        go_ret
        rw [hlen]
        refine ⟨⟨_, rfl, HRW.out, fun t ht => ?_⟩, hkp2⟩
        rw [if_neg (by omega)]
        exact HLW.out t ht
end Go.Proofs.Ytlpidgdlbannbaa
