/- Texts of voices: the specification's; both calls. -/
import Derived.Test.YtlpidgdlbannbabDoorTx2
namespace Go.Proofs.YtlpidgdlbannbabDoor
open Go.ChangeShapes Go.WideShapes Go.ChangeAt Go.RowKit Go.Deep
set_option linter.unusedSimpArgs false
set_option linter.unusedVariables false
theorem bytesOf_app (a b : List UInt8) : bytesOf a ++ bytesOf b = bytesOf (a ++ b) := str_app a b
theorem add_b (a b : List UInt8) (lb : ByteArray) (e : lb = bytesOf b) (h : a.length + b.length ≤ 1000000) (W : World) : (Op.stringOp .add (bytesOf a) lb).run Tryd.prog W = .ok (.string (bytesOf (a ++ b))) W := by
  subst e
  rw [← bytesOf_app]
  exact run_string_add_sum (P := Tryd.prog) (w := W) (bytesOf a) (bytesOf b) (by show a.length + b.length ≤ _; omega)
theorem sdecb (n : Int) (w : World) (h1 : -1000000000 ≤ n) (h2 : n ≤ 1000000000) :
    Calls Tryd.prog 20 #[.int .i64 n] w fun e w' => e = .returned (.string (bytesOf (Lib.itoa n))) ∧ Below w.heap.size w w' := sdec n w (by omega) (by omega)
/-- What stands ahead of the numbers of voice k. -/
def pre (L : List Vc) (k : Nat) : List UInt8 := (if k = 0 then [] else jn vtext L 32 k ++ [32]) ++ [sgn (L.getD k (false, [])).1]
theorem pre_full (L : List Vc) (k : Nat) (h : k < L.length) : pre L k ++ jn Lib.itoa (L.getD k (false, [])).2 44 (L.getD k (false, [])).2.length = jn vtext L 32 (k + 1) := by
  unfold pre
  rw [jn_all, List.append_assoc]
  by_cases h0 : k = 0
  · subst h0
    rw [if_pos rfl, jn_one vtext L 32 (false, []) h]
    rfl
  · rw [if_neg h0, jn_succ vtext L 32 (false, []) h (by omega)]
    rfl
theorem jnv_len {L : List Vc} (hl : L.length ≤ 12) (hs : ∀ k, k < L.length → smallI (L.getD k (false, [])).2) (k : Nat) : (jn vtext L 32 k).length ≤ 2000 := by
  have := jn_len vtext L 32 k 145 (fun x hx => by
    obtain ⟨j, hj, rfl⟩ := List.mem_iff_getElem.1 hx
    have := vtext_len (hs j hj)
    simpa [List.getD, hj] using this)
  omega
set_option maxHeartbeats 2000000 in
set_option maxRecDepth 100000 in
theorem svtext (L : List Vc) (B b cap : Nat) (w : World) (h : Vs w B b L) (hl : L.length ≤ 12) (hs : ∀ k, k < L.length → smallI (L.getD k (false, [])).2) :
    Calls Tryd.prog 11 #[.slice (some ⟨b, 0, none⟩) L.length cap] w fun e w' => e = .returned (.string (bytesOf (Lib.join (L.map vtext) [32]))) ∧ Below w.heap.size w w' := by
  have hjv := jnv_len hl hs
  have HJ := Lib.hid hjv
  have HS := Lib.hid hs
  clear hs hjv
  go_enter Tryd.func11, Tryd.ntmps11
  go_wp2
  go_loopg [3, 4] L.length (fun g o i wr => ∃ k : Nat, k ≤ L.length ∧ g = L.length - k ∧ o = .string (bytesOf (jn vtext L 32 k)) ∧ i = .int .i64 k ∧ Below w.heap.size w wr)
  case atStart => exact ⟨0, Nat.zero_le _, rfl, by rw [jn_zero]; rfl, rfl, Below.refl _ _⟩
  case round =>
    obtain ⟨k, hk, rfl, rfl, rfl, hb⟩ := hrel
    by_cases hlt : k < L.length
    · obtain ⟨c, a1, a2, a3⟩ := (h.below hb).at hlt
      have hsm := HS.out k hlt
      have hjk := HJ.out k
      have hpf := pre_full L k hlt
      have hpr : ∀ (b' : List UInt8), (if k = 0 then [] else jn vtext L 32 k ++ [32]) = b' → pre L k = b' ++ [sgn (L.getD k (false, [])).1] := fun b' e => by unfold pre; rw [e]
      obtain ⟨q, hq⟩ : ∃ q, L.getD k (false, []) = q := ⟨_, rfl⟩
      rw [hq] at a1 a2 a3 hsm hpf hpr
      obtain ⟨s, t⟩ := q
      simp only at a1 a2 a3 hsm hpf hpr
      have lb := (h.below hb).lt
      have hj0 : k = 0 → jn vtext L 32 k = [] := fun e => by rw [e, jn_zero]
      generalize hX : jn vtext L 32 k = X at hjk hpr hj0 ⊢
      have HPF := Lib.hid hpf
      have HSM := Lib.hid hsm
      obtain ⟨w2, rfl⟩ : ∃ w2, w2 = wr := ⟨_, rfl⟩
      have C1 := add_b X [32] ⟨#[32]⟩ rfl (by simp; omega)
      clear hq hpf hX
      obtain ⟨Y, hY⟩ : ∃ Y, (if k = 0 then [] else X ++ [32]) = Y := ⟨_, rfl⟩
      have hpY := hpr Y hY
      have hYl : Y.length ≤ 2001 := by rw [← hY]; split <;> simp; omega
      have C2 := add_b Y [43] ⟨#[43]⟩ rfl (by simp; omega)
      have C3 := add_b Y [45] ⟨#[45]⟩ rfl (by simp; omega)
      have HPY := Lib.hid hpY
      have HL := Lib.hid hYl
      clear hpr hpY
      have key : ∀ (hk0 : k = 0 ∨ 0 < k), True := fun _ => trivial
      rcases (show k = 0 ∨ 0 < k by omega) with hk0 | hk0
      · have hX0 := hj0 hk0
        rw [if_pos hk0] at hY
        rw [hX0]
        subst hY
        have HK := Lib.hid hk0
        have hk1 : ¬ 0 < k := by omega
        clear hk0 hj0 hX0
        cases s with
        | true =>
          go_wp2_with fail
          obtain ⟨PZ, hPZ⟩ : ∃ P, pre L k = P := ⟨_, rfl⟩
          have hPl : PZ.length ≤ 2002 := by rw [← hPZ, HPY.out]; have := HL.out; simp only [List.length_append, List.length_cons, List.length_nil] at this ⊢; omega
          have HPZ := Lib.hid (HPY.out.symm.trans hPZ)
          have HPF2 := Lib.hid (show PZ ++ jn Lib.itoa t 44 t.length = jn vtext L 32 (k + 1) by rw [← hPZ]; exact HPF.out)
          clear hPZ C1 C2 C3
          go_loopg [3, 5] t.length (fun g o i wi => ∃ j : Nat, j ≤ t.length ∧ g = t.length - j ∧ o = .string (bytesOf (PZ ++ jn Lib.itoa t 44 j)) ∧ i = .int .i64 j ∧ Below w2.heap.size w2 wi)
          case atStart => exact ⟨0, Nat.zero_le _, rfl, by rw [jn_zero, List.append_nil, ← HPZ.out]; first | rfl | (simp only [List.append_assoc]; rfl), rfl, Below.refl _ _⟩
          case round =>
            obtain ⟨j, hj, rfl, rfl, rfl, hbi⟩ := hrel
            have e1 := (hbi.cell (p := ⟨b, k * 2 + 1, none⟩) lb).trans a2
            by_cases hml : j < t.length
            · obtain ⟨x, cp, hx0, hx, hc⟩ := (a3.below hbi).cons (by intro h; subst h; simp at hml)
              obtain ⟨rfl, rfl⟩ : x = ⟨c, 0, none⟩ ∧ cp = t.length := by simpa [eq_comm] using hx0
              have c1 := hc j hml
              rw [Addr.add_lit, Nat.zero_add] at c1
              have hjb := jn_int_len HSM.out 44 j
              have hjn : 0 < j → jn Lib.itoa t 44 (j + 1) = jn Lib.itoa t 44 j ++ [44] ++ Lib.itoa (t.getD j 0) := fun h => jn_succ Lib.itoa t 44 0 hml h
              have hj1 : j = 0 → jn Lib.itoa t 44 j = [] ∧ jn Lib.itoa t 44 (j + 1) = Lib.itoa (t.getD j 0) := fun h => by subst h; exact ⟨jn_zero _ _ _, jn_one Lib.itoa t 44 0 hml⟩
              obtain ⟨y, hy⟩ : ∃ y, t.getD j 0 = y := ⟨_, rfl⟩
              have hym : y ∈ t := by rw [← hy]; simp [List.getD, hml]
              obtain ⟨y1, y2⟩ := HSM.out.2 y hym
              have hq12 := HSM.out.1
              rw [hy] at c1 hjn hj1
              have HD := fun W => sdecb y W y1 y2
              have hyl := itoa_len9 y1 y2
              have HJN := Lib.hid hjn
              have HJ1 := Lib.hid hj1
              clear hx0 hc hy hym hjn hj1 a1 a2 a3
              generalize jn Lib.itoa t 44 j = Z at hjb HJN HJ1 ⊢
              rcases (show j = 0 ∨ 0 < j by omega) with hj0 | hj0
              · obtain ⟨z0, z1⟩ := HJ1.out hj0
                have Z1 := Lib.hid z1
                have hk1' : ¬ 0 < j := by omega
                have HJ0 := Lib.hid hj0
                have D1 := add_b (PZ ++ Z) (Lib.itoa y) (bytesOf (Lib.itoa y)) rfl (by simp; omega)
                have Z0 := Lib.hid z0
                clear hj0 z0 z1
                go_wp2_with fail
                refine (HD _).mono ?_
                rintro e w5 ⟨rfl, hb5⟩
                go_wp2
                go_roundg (t.length - (j + 1))
                case measure => omega
                case rel => exact ⟨j + 1, by omega, rfl, by rw [Z1.out, Z0.out]; simp only [List.append_assoc, List.nil_append, List.append_nil], by simp, hbi.trans (hb5.mono hbi.size)⟩
              · have z1 := HJN.out hj0
                have Z1 := Lib.hid z1
                have D1 := add_b (PZ ++ Z) [44] ⟨#[44]⟩ rfl (by simp; omega)
                have D2 := add_b (PZ ++ (Z ++ [44])) (Lib.itoa y) (bytesOf (Lib.itoa y)) rfl (by simp; omega)
                clear z1
                go_wp2_with fail
                refine (HD _).mono ?_
                rintro e w5 ⟨rfl, hb5⟩
                go_wp2
                go_roundg (t.length - (j + 1))
                case measure => omega
                case rel => exact ⟨j + 1, by omega, rfl, by rw [Z1.out]; simp only [List.append_assoc, List.cons_append, List.nil_append], by simp, hbi.trans (hb5.mono hbi.size)⟩
            · have e : j = t.length := by omega
              subst e
              have HF := HPF2.out
              go_wp2
              go_roundg (L.length - (k + 1))
              case measure => omega
              case rel => exact ⟨k + 1, by omega, rfl, by rw [HF], by simp, hb.trans (hbi.mono hb.size)⟩
        | false =>
          go_wp2_with fail
          obtain ⟨PZ, hPZ⟩ : ∃ P, pre L k = P := ⟨_, rfl⟩
          have hPl : PZ.length ≤ 2002 := by rw [← hPZ, HPY.out]; have := HL.out; simp only [List.length_append, List.length_cons, List.length_nil] at this ⊢; omega
          have HPZ := Lib.hid (HPY.out.symm.trans hPZ)
          have HPF2 := Lib.hid (show PZ ++ jn Lib.itoa t 44 t.length = jn vtext L 32 (k + 1) by rw [← hPZ]; exact HPF.out)
          clear hPZ C1 C2 C3
          go_loopg [3, 5] t.length (fun g o i wi => ∃ j : Nat, j ≤ t.length ∧ g = t.length - j ∧ o = .string (bytesOf (PZ ++ jn Lib.itoa t 44 j)) ∧ i = .int .i64 j ∧ Below w2.heap.size w2 wi)
          case atStart => exact ⟨0, Nat.zero_le _, rfl, by rw [jn_zero, List.append_nil, ← HPZ.out]; first | rfl | (simp only [List.append_assoc]; rfl), rfl, Below.refl _ _⟩
          case round =>
            obtain ⟨j, hj, rfl, rfl, rfl, hbi⟩ := hrel
            have e1 := (hbi.cell (p := ⟨b, k * 2 + 1, none⟩) lb).trans a2
            by_cases hml : j < t.length
            · obtain ⟨x, cp, hx0, hx, hc⟩ := (a3.below hbi).cons (by intro h; subst h; simp at hml)
              obtain ⟨rfl, rfl⟩ : x = ⟨c, 0, none⟩ ∧ cp = t.length := by simpa [eq_comm] using hx0
              have c1 := hc j hml
              rw [Addr.add_lit, Nat.zero_add] at c1
              have hjb := jn_int_len HSM.out 44 j
              have hjn : 0 < j → jn Lib.itoa t 44 (j + 1) = jn Lib.itoa t 44 j ++ [44] ++ Lib.itoa (t.getD j 0) := fun h => jn_succ Lib.itoa t 44 0 hml h
              have hj1 : j = 0 → jn Lib.itoa t 44 j = [] ∧ jn Lib.itoa t 44 (j + 1) = Lib.itoa (t.getD j 0) := fun h => by subst h; exact ⟨jn_zero _ _ _, jn_one Lib.itoa t 44 0 hml⟩
              obtain ⟨y, hy⟩ : ∃ y, t.getD j 0 = y := ⟨_, rfl⟩
              have hym : y ∈ t := by rw [← hy]; simp [List.getD, hml]
              obtain ⟨y1, y2⟩ := HSM.out.2 y hym
              have hq12 := HSM.out.1
              rw [hy] at c1 hjn hj1
              have HD := fun W => sdecb y W y1 y2
              have hyl := itoa_len9 y1 y2
              have HJN := Lib.hid hjn
              have HJ1 := Lib.hid hj1
              clear hx0 hc hy hym hjn hj1 a1 a2 a3
              generalize jn Lib.itoa t 44 j = Z at hjb HJN HJ1 ⊢
              rcases (show j = 0 ∨ 0 < j by omega) with hj0 | hj0
              · obtain ⟨z0, z1⟩ := HJ1.out hj0
                have Z1 := Lib.hid z1
                have hk1' : ¬ 0 < j := by omega
                have HJ0 := Lib.hid hj0
                have D1 := add_b (PZ ++ Z) (Lib.itoa y) (bytesOf (Lib.itoa y)) rfl (by simp; omega)
                have Z0 := Lib.hid z0
                clear hj0 z0 z1
                go_wp2_with fail
                refine (HD _).mono ?_
                rintro e w5 ⟨rfl, hb5⟩
                go_wp2
                go_roundg (t.length - (j + 1))
                case measure => omega
                case rel => exact ⟨j + 1, by omega, rfl, by rw [Z1.out, Z0.out]; simp only [List.append_assoc, List.nil_append, List.append_nil], by simp, hbi.trans (hb5.mono hbi.size)⟩
              · have z1 := HJN.out hj0
                have Z1 := Lib.hid z1
                have D1 := add_b (PZ ++ Z) [44] ⟨#[44]⟩ rfl (by simp; omega)
                have D2 := add_b (PZ ++ (Z ++ [44])) (Lib.itoa y) (bytesOf (Lib.itoa y)) rfl (by simp; omega)
                clear z1
                go_wp2_with fail
                refine (HD _).mono ?_
                rintro e w5 ⟨rfl, hb5⟩
                go_wp2
                go_roundg (t.length - (j + 1))
                case measure => omega
                case rel => exact ⟨j + 1, by omega, rfl, by rw [Z1.out]; simp only [List.append_assoc, List.cons_append, List.nil_append], by simp, hbi.trans (hb5.mono hbi.size)⟩
            · have e : j = t.length := by omega
              subst e
              have HF := HPF2.out
              go_wp2
              go_roundg (L.length - (k + 1))
              case measure => omega
              case rel => exact ⟨k + 1, by omega, rfl, by rw [HF], by simp, hb.trans (hbi.mono hb.size)⟩
      · have hk1 : ¬ k = 0 := by omega
        rw [if_neg hk1] at hY
        subst hY
        clear hj0 hk1
        cases s with
        | true =>
          go_wp2_with fail
          obtain ⟨PZ, hPZ⟩ : ∃ P, pre L k = P := ⟨_, rfl⟩
          have hPl : PZ.length ≤ 2002 := by rw [← hPZ, HPY.out]; have := HL.out; simp only [List.length_append, List.length_cons, List.length_nil] at this ⊢; omega
          have HPZ := Lib.hid (HPY.out.symm.trans hPZ)
          have HPF2 := Lib.hid (show PZ ++ jn Lib.itoa t 44 t.length = jn vtext L 32 (k + 1) by rw [← hPZ]; exact HPF.out)
          clear hPZ C1 C2 C3
          go_loopg [3, 5] t.length (fun g o i wi => ∃ j : Nat, j ≤ t.length ∧ g = t.length - j ∧ o = .string (bytesOf (PZ ++ jn Lib.itoa t 44 j)) ∧ i = .int .i64 j ∧ Below w2.heap.size w2 wi)
          case atStart => exact ⟨0, Nat.zero_le _, rfl, by rw [jn_zero, List.append_nil, ← HPZ.out]; first | rfl | (simp only [List.append_assoc]; rfl), rfl, Below.refl _ _⟩
          case round =>
            obtain ⟨j, hj, rfl, rfl, rfl, hbi⟩ := hrel
            have e1 := (hbi.cell (p := ⟨b, k * 2 + 1, none⟩) lb).trans a2
            by_cases hml : j < t.length
            · obtain ⟨x, cp, hx0, hx, hc⟩ := (a3.below hbi).cons (by intro h; subst h; simp at hml)
              obtain ⟨rfl, rfl⟩ : x = ⟨c, 0, none⟩ ∧ cp = t.length := by simpa [eq_comm] using hx0
              have c1 := hc j hml
              rw [Addr.add_lit, Nat.zero_add] at c1
              have hjb := jn_int_len HSM.out 44 j
              have hjn : 0 < j → jn Lib.itoa t 44 (j + 1) = jn Lib.itoa t 44 j ++ [44] ++ Lib.itoa (t.getD j 0) := fun h => jn_succ Lib.itoa t 44 0 hml h
              have hj1 : j = 0 → jn Lib.itoa t 44 j = [] ∧ jn Lib.itoa t 44 (j + 1) = Lib.itoa (t.getD j 0) := fun h => by subst h; exact ⟨jn_zero _ _ _, jn_one Lib.itoa t 44 0 hml⟩
              obtain ⟨y, hy⟩ : ∃ y, t.getD j 0 = y := ⟨_, rfl⟩
              have hym : y ∈ t := by rw [← hy]; simp [List.getD, hml]
              obtain ⟨y1, y2⟩ := HSM.out.2 y hym
              have hq12 := HSM.out.1
              rw [hy] at c1 hjn hj1
              have HD := fun W => sdecb y W y1 y2
              have hyl := itoa_len9 y1 y2
              have HJN := Lib.hid hjn
              have HJ1 := Lib.hid hj1
              clear hx0 hc hy hym hjn hj1 a1 a2 a3
              generalize jn Lib.itoa t 44 j = Z at hjb HJN HJ1 ⊢
              rcases (show j = 0 ∨ 0 < j by omega) with hj0 | hj0
              · obtain ⟨z0, z1⟩ := HJ1.out hj0
                have Z1 := Lib.hid z1
                have hk1' : ¬ 0 < j := by omega
                have HJ0 := Lib.hid hj0
                have D1 := add_b (PZ ++ Z) (Lib.itoa y) (bytesOf (Lib.itoa y)) rfl (by simp; omega)
                have Z0 := Lib.hid z0
                clear hj0 z0 z1
                go_wp2_with fail
                refine (HD _).mono ?_
                rintro e w5 ⟨rfl, hb5⟩
                go_wp2
                go_roundg (t.length - (j + 1))
                case measure => omega
                case rel => exact ⟨j + 1, by omega, rfl, by rw [Z1.out, Z0.out]; simp only [List.append_assoc, List.nil_append, List.append_nil], by simp, hbi.trans (hb5.mono hbi.size)⟩
              · have z1 := HJN.out hj0
                have Z1 := Lib.hid z1
                have D1 := add_b (PZ ++ Z) [44] ⟨#[44]⟩ rfl (by simp; omega)
                have D2 := add_b (PZ ++ (Z ++ [44])) (Lib.itoa y) (bytesOf (Lib.itoa y)) rfl (by simp; omega)
                clear z1
                go_wp2_with fail
                refine (HD _).mono ?_
                rintro e w5 ⟨rfl, hb5⟩
                go_wp2
                go_roundg (t.length - (j + 1))
                case measure => omega
                case rel => exact ⟨j + 1, by omega, rfl, by rw [Z1.out]; simp only [List.append_assoc, List.cons_append, List.nil_append], by simp, hbi.trans (hb5.mono hbi.size)⟩
            · have e : j = t.length := by omega
              subst e
              have HF := HPF2.out
              go_wp2
              go_roundg (L.length - (k + 1))
              case measure => omega
              case rel => exact ⟨k + 1, by omega, rfl, by rw [HF], by simp, hb.trans (hbi.mono hb.size)⟩
        | false =>
          go_wp2_with fail
          obtain ⟨PZ, hPZ⟩ : ∃ P, pre L k = P := ⟨_, rfl⟩
          have hPl : PZ.length ≤ 2002 := by rw [← hPZ, HPY.out]; have := HL.out; simp only [List.length_append, List.length_cons, List.length_nil] at this ⊢; omega
          have HPZ := Lib.hid (HPY.out.symm.trans hPZ)
          have HPF2 := Lib.hid (show PZ ++ jn Lib.itoa t 44 t.length = jn vtext L 32 (k + 1) by rw [← hPZ]; exact HPF.out)
          clear hPZ C1 C2 C3
          go_loopg [3, 5] t.length (fun g o i wi => ∃ j : Nat, j ≤ t.length ∧ g = t.length - j ∧ o = .string (bytesOf (PZ ++ jn Lib.itoa t 44 j)) ∧ i = .int .i64 j ∧ Below w2.heap.size w2 wi)
          case atStart => exact ⟨0, Nat.zero_le _, rfl, by rw [jn_zero, List.append_nil, ← HPZ.out]; first | rfl | (simp only [List.append_assoc]; rfl), rfl, Below.refl _ _⟩
          case round =>
            obtain ⟨j, hj, rfl, rfl, rfl, hbi⟩ := hrel
            have e1 := (hbi.cell (p := ⟨b, k * 2 + 1, none⟩) lb).trans a2
            by_cases hml : j < t.length
            · obtain ⟨x, cp, hx0, hx, hc⟩ := (a3.below hbi).cons (by intro h; subst h; simp at hml)
              obtain ⟨rfl, rfl⟩ : x = ⟨c, 0, none⟩ ∧ cp = t.length := by simpa [eq_comm] using hx0
              have c1 := hc j hml
              rw [Addr.add_lit, Nat.zero_add] at c1
              have hjb := jn_int_len HSM.out 44 j
              have hjn : 0 < j → jn Lib.itoa t 44 (j + 1) = jn Lib.itoa t 44 j ++ [44] ++ Lib.itoa (t.getD j 0) := fun h => jn_succ Lib.itoa t 44 0 hml h
              have hj1 : j = 0 → jn Lib.itoa t 44 j = [] ∧ jn Lib.itoa t 44 (j + 1) = Lib.itoa (t.getD j 0) := fun h => by subst h; exact ⟨jn_zero _ _ _, jn_one Lib.itoa t 44 0 hml⟩
              obtain ⟨y, hy⟩ : ∃ y, t.getD j 0 = y := ⟨_, rfl⟩
              have hym : y ∈ t := by rw [← hy]; simp [List.getD, hml]
              obtain ⟨y1, y2⟩ := HSM.out.2 y hym
              have hq12 := HSM.out.1
              rw [hy] at c1 hjn hj1
              have HD := fun W => sdecb y W y1 y2
              have hyl := itoa_len9 y1 y2
              have HJN := Lib.hid hjn
              have HJ1 := Lib.hid hj1
              clear hx0 hc hy hym hjn hj1 a1 a2 a3
              generalize jn Lib.itoa t 44 j = Z at hjb HJN HJ1 ⊢
              rcases (show j = 0 ∨ 0 < j by omega) with hj0 | hj0
              · obtain ⟨z0, z1⟩ := HJ1.out hj0
                have Z1 := Lib.hid z1
                have hk1' : ¬ 0 < j := by omega
                have HJ0 := Lib.hid hj0
                have D1 := add_b (PZ ++ Z) (Lib.itoa y) (bytesOf (Lib.itoa y)) rfl (by simp; omega)
                have Z0 := Lib.hid z0
                clear hj0 z0 z1
                go_wp2_with fail
                refine (HD _).mono ?_
                rintro e w5 ⟨rfl, hb5⟩
                go_wp2
                go_roundg (t.length - (j + 1))
                case measure => omega
                case rel => exact ⟨j + 1, by omega, rfl, by rw [Z1.out, Z0.out]; simp only [List.append_assoc, List.nil_append, List.append_nil], by simp, hbi.trans (hb5.mono hbi.size)⟩
              · have z1 := HJN.out hj0
                have Z1 := Lib.hid z1
                have D1 := add_b (PZ ++ Z) [44] ⟨#[44]⟩ rfl (by simp; omega)
                have D2 := add_b (PZ ++ (Z ++ [44])) (Lib.itoa y) (bytesOf (Lib.itoa y)) rfl (by simp; omega)
                clear z1
                go_wp2_with fail
                refine (HD _).mono ?_
                rintro e w5 ⟨rfl, hb5⟩
                go_wp2
                go_roundg (t.length - (j + 1))
                case measure => omega
                case rel => exact ⟨j + 1, by omega, rfl, by rw [Z1.out]; simp only [List.append_assoc, List.cons_append, List.nil_append], by simp, hbi.trans (hb5.mono hbi.size)⟩
            · have e : j = t.length := by omega
              subst e
              have HF := HPF2.out
              go_wp2
              go_roundg (L.length - (k + 1))
              case measure => omega
              case rel => exact ⟨k + 1, by omega, rfl, by rw [HF], by simp, hb.trans (hbi.mono hb.size)⟩
    · have e : k = L.length := by omega
      subst e
      rw [jn_all]
      go_wp2
      go_ret
      exact ⟨rfl, hb⟩
end Go.Proofs.YtlpidgdlbannbabDoor
