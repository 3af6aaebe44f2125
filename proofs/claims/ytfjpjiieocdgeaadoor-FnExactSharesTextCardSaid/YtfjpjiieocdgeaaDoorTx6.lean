/- Texts of shares: the specification's; both calls. -/
import Derived.Test.YtfjpjiieocdgeaaDoorTx5
import Derived.Test.YtfjpjiieocdgeaaDoorK2
import Derived.Test.YtfjpjiieocdgeaaDoorTx4
namespace Go.Proofs.YtfjpjiieocdgeaaDoor
open Go.ChangeShapes Go.WideShapes Go.ChangeAt Go.RowKit Go.Deep
set_option linter.unusedSimpArgs false
set_option linter.unusedVariables false
theorem add_c (a b c : List UInt8) (lb : ByteArray) (e : lb = bytesOf b) (hc : a ++ b = c) (h : a.length + b.length ≤ 1000000) (W : World) : (Op.stringOp .add (bytesOf a) lb).run Tryd.prog W = .ok (.string (bytesOf c)) W := by
  subst hc
  exact add_b a b lb e h W
/-- What the region that writes a share reads, kept. -/
def Br (w0 : World) (b k c j : Nat) (sl : Value) (n d : Int) (w' : World) : Prop := w'.cell? ⟨b, k, none⟩ = some sl ∧ w'.cell? ⟨c, j * 2, none⟩ = some (.int .i64 n) ∧ w'.cell? ⟨c, j * 2 + 1, none⟩ = some (.int .i64 d) ∧ Hid (Below w0.heap.size w0 w')
theorem Br.drew {w0 w' : World} {b k c j : Nat} {sl : Value} {n d : Int} (h : Br w0 b k c j sl n d w') : Br w0 b k c j sl n d w'.drew := ⟨h.1, h.2.1, h.2.2.1, Lib.hid h.2.2.2.out.drew⟩
theorem Br.bel {w0 w' : World} {b k c j : Nat} {sl : Value} {n d : Int} (h : Br w0 b k c j sl n d w') : Below w0.heap.size w0 w' := h.2.2.2.out
theorem Br.below {w0 w' w'' : World} {b k c j : Nat} {sl : Value} {n d : Int} (h : Br w0 b k c j sl n d w') (hb : Below w'.heap.size w' w'') : Br w0 b k c j sl n d w'' := by
  obtain ⟨a1, a2, a3, g⟩ := h
  have q : ∀ {b : Nat} {o : Nat} {v : Value}, w'.cell? ⟨b, o, none⟩ = some v → w''.cell? ⟨b, o, none⟩ = some v := fun {b o v} hc => (hb.cell (p := ⟨b, o, none⟩) (World.block_lt_of_cell? _ _ hc)).trans hc
  exact ⟨q a1, q a2, q a3, Lib.hid (g.out.trans (hb.mono g.out.size))⟩
theorem preR (L : List (List Sq)) (k : Nat) (h : k < L.length) (Y : List UInt8) (hY : (if k = 0 then [] else jn rtext L 59 k ++ [59]) = Y) : Y ++ jn shtext (L.getD k []) 44 (L.getD k []).length = jn rtext L 59 (k + 1) := by
  rw [← hY, jn_all]
  by_cases h0 : k = 0
  · subst h0
    rw [if_pos rfl, jn_one rtext L 59 [] h]
    rfl
  · rw [if_neg h0, jn_succ rtext L 59 [] h (by omega)]
    rfl
theorem jnR_len {L : List (List Sq)} (hl : L.length ≤ 12) (hs : ∀ k, k < L.length → smallR (L.getD k [])) (k : Nat) : (jn rtext L 59 k).length ≤ 4000 := by
  have := jn_len rtext L 59 k 288 (fun x hx => by
    obtain ⟨j, hj, rfl⟩ := List.mem_iff_getElem.1 hx
    have := rtext_len (hs j hj)
    simpa [List.getD, hj] using this)
  omega
set_option maxHeartbeats 4000000 in
set_option maxRecDepth 100000 in
theorem srtext (L : List (List Sq)) (B b cap : Nat) (w : World) (h : SS w B b L) (hl : L.length ≤ 12) (hs : ∀ k, k < L.length → smallR (L.getD k [])) :
    Calls Tryd.prog 31 #[.slice (some ⟨b, 0, none⟩) L.length cap] w fun e w' => e = .returned (.string (bytesOf (Lib.join (L.map rtext) [59]))) ∧ Below w.heap.size w w' := by
  have hjv := jnR_len hl hs
  have HJ := Lib.hid hjv
  have HS := Lib.hid hs
  clear hs hjv
  go_enter Tryd.func31, Tryd.ntmps31
  go_wp2
  go_loopg [3, 4] L.length (fun g o i wr => ∃ k : Nat, k ≤ L.length ∧ g = L.length - k ∧ o = .string (bytesOf (jn rtext L 59 k)) ∧ i = .int .i64 k ∧ Below w.heap.size w wr)
  case atStart => exact ⟨0, Nat.zero_le _, rfl, by rw [jn_zero]; rfl, rfl, Below.refl _ _⟩
  case round =>
    obtain ⟨k, hk, rfl, rfl, rfl, hb⟩ := hrel
    by_cases hlt : k < L.length
    · obtain ⟨c, a1, a3⟩ := (h.below hb).at hlt
      have hsm := HS.out k hlt
      have hjk := HJ.out k
      obtain ⟨Y, hY⟩ : ∃ Y, (if k = 0 then [] else jn rtext L 59 k ++ [59]) = Y := ⟨_, rfl⟩
      have hpf := preR L k hlt Y hY
      obtain ⟨t, hq⟩ : ∃ q, L.getD k [] = q := ⟨_, rfl⟩
      rw [hq] at a1 a3 hsm hpf
      have lb := (h.below hb).lt
      have hj0 : k = 0 → jn rtext L 59 k = [] := fun e => by rw [e, jn_zero]
      generalize hX : jn rtext L 59 k = X at hjk hY hj0 ⊢
      have hYl : Y.length ≤ 4001 := by rw [← hY]; split <;> simp; omega
      have HPF := Lib.hid hpf
      have HSM := Lib.hid hsm
      obtain ⟨w2, rfl⟩ : ∃ w2, w2 = wr := ⟨_, rfl⟩
      clear hq hpf hX
      have hst : k = 0 ∨ 0 < k := by omega
      rcases hst with hk0 | hk0
      · have hX0 := hj0 hk0
        rw [if_pos hk0] at hY
        rw [hX0]
        subst hY
        have HK := Lib.hid hk0
        have hk1 : ¬ 0 < k := by omega
        clear hk0 hj0 hX0
        go_wp2_with fail
        go_loopg [3, 5] t.length (fun g o i wi => ∃ j : Nat, j ≤ t.length ∧ g = t.length - j ∧ o = .string (bytesOf (([] : List UInt8) ++ jn shtext t 44 j)) ∧ i = .int .i64 j ∧ Below w2.heap.size w2 wi)
        case atStart => exact ⟨0, Nat.zero_le _, rfl, by rw [jn_zero, List.append_nil], rfl, Below.refl _ _⟩
        case round =>
          obtain ⟨j, hj, rfl, rfl, rfl, hbi⟩ := hrel
          have e1 := (hbi.cell (p := ⟨b, k, none⟩) lb).trans a1
          have hq12 := HSM.out.1
          by_cases hml : j < t.length
          · obtain ⟨c1, c2⟩ := (Shs.below a3 hbi).at hml
            have hjb := jnr_len HSM.out 44 j
            have hjn : 0 < j → jn shtext t 44 (j + 1) = jn shtext t 44 j ++ [44] ++ shtext (t.getD j (0, 0)) := fun h => jn_succ shtext t 44 (0, 0) hml h
            have hj1 : j = 0 → jn shtext t 44 j = [] ∧ jn shtext t 44 (j + 1) = shtext (t.getD j (0, 0)) := fun h => by subst h; exact ⟨jn_zero _ _ _, jn_one shtext t 44 (0, 0) hml⟩
            obtain ⟨y, hy⟩ : ∃ y, t.getD j (0, 0) = y := ⟨_, rfl⟩
            have hym : y ∈ t := by rw [← hy]; simp [List.getD, hml]
            obtain ⟨⟨y1, y2⟩, y3, y4⟩ := HSM.out.2 y hym
            rw [hy] at c1 c2 hjn hj1
            obtain ⟨n, d⟩ := y
            simp only at c1 c2 y1 y2 y3 y4
            have HD := Lib.hid (fun (x : Int) (h1 : -1000000000 ≤ x) (h2 : x ≤ 1000000000) W => sdecb x W h1 h2)
            have l1 := itoa_len9 y1 y2
            have l2 := itoa_len9 y3 y4
            obtain ⟨T1, hT1⟩ : ∃ T, Lib.itoa n ++ [58] = T := ⟨_, rfl⟩
            obtain ⟨T2, hT2⟩ : ∃ T, T1 ++ Lib.itoa d = T := ⟨_, rfl⟩
            have q1 : T1.length = (Lib.itoa n).length + 1 := by rw [← hT1]; simp
            have q2 : T2.length = T1.length + (Lib.itoa d).length := by rw [← hT2]; simp
            have hsh : shtext (n, d) = T2 := by rw [← hT2, ← hT1]; simp [shtext]
            rw [hsh] at hjn hj1
            have A1 := add_c (Lib.itoa n) [58] T1 ⟨#[58]⟩ rfl hT1 (by simp; omega)
            have A2 := add_c T1 (Lib.itoa d) T2 (bytesOf (Lib.itoa d)) rfl hT2 (by omega)
            have hnext : ∃ N, ([] : List UInt8) ++ jn shtext t 44 (j + 1) = N := ⟨_, rfl⟩
            obtain ⟨N, hN⟩ := hnext
            have HN := Lib.hid hN
            have HB2 := Lib.hid hbi
            rcases (show j = 0 ∨ 0 < j by omega) with hj0 | hj0
            · obtain ⟨z0, z1⟩ := hj1 hj0
              have hk1' : ¬ 0 < j := by omega
              have HJ0 := Lib.hid hj0
              have hN2 : ([] : List UInt8) ++ T2 = N := by rw [← hN, z1]
              have A3 := add_c ([] : List UInt8) T2 N (bytesOf T2) rfl hN2 (by first | omega | (simp; omega))
              rw [z0, List.append_nil]
              have BR : Br wr b k c j (.slice (some ⟨c, 0, none⟩) t.length t.length) n d wr := ⟨e1, c1, c2, Lib.hid (Below.refl _ _)⟩
              clear hj0 z0 z1 hjn hj1 hT1 hT2 hsh hN hN2 hy hym a3 hbi
              go_wp2_with fail
              go_region_held3 (fun w' => w'.cell? ⟨b, k, none⟩ = some (.slice (some ⟨c, 0, none⟩) t.length t.length) ∧ w'.cell? ⟨c, j * 2, none⟩ = some (.int .i64 n) ∧ w'.cell? ⟨c, j * 2 + 1, none⟩ = some (.int .i64 d) ∧ Hid (Below wr.heap.size wr w'))
                (first | exact BR.drew | exact Br.below (w0 := wr) (by assumption) (by assumption))
                (first
                  | (go_at_call 50; refine (HD.out _ (by omega) (by omega) _).mono ?_; rintro e w5 ⟨rfl, hb5⟩))
              all_goals
                go_wp2_with fail
                go_roundg (t.length - (j + 1))
              all_goals first
                | omega
                | exact ⟨j + 1, by omega, rfl, by rw [HN.out], by simp, HB2.out.trans ((show Br wr b k c j (.slice (some ⟨c, 0, none⟩) t.length t.length) n d _ from by assumption).bel.mono HB2.out.size)⟩
            · have z1 := hjn hj0
              obtain ⟨O0, hO0⟩ : ∃ O, ([] : List UInt8) ++ jn shtext t 44 j = O := ⟨_, rfl⟩
              obtain ⟨O1, hO1⟩ : ∃ O, O0 ++ [44] = O := ⟨_, rfl⟩
              have q3 : O0.length ≤ 4500 := by rw [← hO0]; simp; omega
              have q4 : O1.length = O0.length + 1 := by rw [← hO1]; simp
              have hN2 : O1 ++ T2 = N := by rw [← hN, z1, ← hO1, ← hO0]; simp
              have A0 := add_c O0 [44] O1 ⟨#[44]⟩ rfl hO1 (by simp; omega)
              have A3 := add_c O1 T2 N (bytesOf T2) rfl hN2 (by omega)
              rw [hO0]
              have BR : Br wr b k c j (.slice (some ⟨c, 0, none⟩) t.length t.length) n d wr := ⟨e1, c1, c2, Lib.hid (Below.refl _ _)⟩
              clear z1 hjn hj1 hT1 hT2 hsh hN hN2 hO0 hO1 hy hym a3 hbi
              go_wp2_with fail
              go_region_held3 (fun w' => w'.cell? ⟨b, k, none⟩ = some (.slice (some ⟨c, 0, none⟩) t.length t.length) ∧ w'.cell? ⟨c, j * 2, none⟩ = some (.int .i64 n) ∧ w'.cell? ⟨c, j * 2 + 1, none⟩ = some (.int .i64 d) ∧ Hid (Below wr.heap.size wr w'))
                (first | exact BR.drew | exact Br.below (w0 := wr) (by assumption) (by assumption))
                (first
                  | (go_at_call 50; refine (HD.out _ (by omega) (by omega) _).mono ?_; rintro e w5 ⟨rfl, hb5⟩))
              all_goals
                go_wp2_with fail
                go_roundg (t.length - (j + 1))
              all_goals first
                | omega
                | exact ⟨j + 1, by omega, rfl, by rw [HN.out], by simp, HB2.out.trans ((show Br wr b k c j (.slice (some ⟨c, 0, none⟩) t.length t.length) n d _ from by assumption).bel.mono HB2.out.size)⟩
          · have e : j = t.length := by omega
            subst e
            have HF := HPF.out
            go_wp2
            go_roundg (L.length - (k + 1))
            case measure => omega
            case rel => exact ⟨k + 1, by omega, rfl, by rw [HF], by simp, hb.trans (hbi.mono hb.size)⟩
      · have hk1 : ¬ k = 0 := by omega
        rw [if_neg hk1] at hY
        have C1 := add_c X [59] Y ⟨#[59]⟩ rfl hY (by simp; omega)
        clear hj0 hk1 hY
        go_wp2_with fail
        go_loopg [3, 5] t.length (fun g o i wi => ∃ j : Nat, j ≤ t.length ∧ g = t.length - j ∧ o = .string (bytesOf (Y ++ jn shtext t 44 j)) ∧ i = .int .i64 j ∧ Below w2.heap.size w2 wi)
        case atStart => exact ⟨0, Nat.zero_le _, rfl, by rw [jn_zero, List.append_nil], rfl, Below.refl _ _⟩
        case round =>
          obtain ⟨j, hj, rfl, rfl, rfl, hbi⟩ := hrel
          have e1 := (hbi.cell (p := ⟨b, k, none⟩) lb).trans a1
          have hq12 := HSM.out.1
          by_cases hml : j < t.length
          · obtain ⟨c1, c2⟩ := (Shs.below a3 hbi).at hml
            have hjb := jnr_len HSM.out 44 j
            have hjn : 0 < j → jn shtext t 44 (j + 1) = jn shtext t 44 j ++ [44] ++ shtext (t.getD j (0, 0)) := fun h => jn_succ shtext t 44 (0, 0) hml h
            have hj1 : j = 0 → jn shtext t 44 j = [] ∧ jn shtext t 44 (j + 1) = shtext (t.getD j (0, 0)) := fun h => by subst h; exact ⟨jn_zero _ _ _, jn_one shtext t 44 (0, 0) hml⟩
            obtain ⟨y, hy⟩ : ∃ y, t.getD j (0, 0) = y := ⟨_, rfl⟩
            have hym : y ∈ t := by rw [← hy]; simp [List.getD, hml]
            obtain ⟨⟨y1, y2⟩, y3, y4⟩ := HSM.out.2 y hym
            rw [hy] at c1 c2 hjn hj1
            obtain ⟨n, d⟩ := y
            simp only at c1 c2 y1 y2 y3 y4
            have HD := Lib.hid (fun (x : Int) (h1 : -1000000000 ≤ x) (h2 : x ≤ 1000000000) W => sdecb x W h1 h2)
            have l1 := itoa_len9 y1 y2
            have l2 := itoa_len9 y3 y4
            obtain ⟨T1, hT1⟩ : ∃ T, Lib.itoa n ++ [58] = T := ⟨_, rfl⟩
            obtain ⟨T2, hT2⟩ : ∃ T, T1 ++ Lib.itoa d = T := ⟨_, rfl⟩
            have q1 : T1.length = (Lib.itoa n).length + 1 := by rw [← hT1]; simp
            have q2 : T2.length = T1.length + (Lib.itoa d).length := by rw [← hT2]; simp
            have hsh : shtext (n, d) = T2 := by rw [← hT2, ← hT1]; simp [shtext]
            rw [hsh] at hjn hj1
            have A1 := add_c (Lib.itoa n) [58] T1 ⟨#[58]⟩ rfl hT1 (by simp; omega)
            have A2 := add_c T1 (Lib.itoa d) T2 (bytesOf (Lib.itoa d)) rfl hT2 (by omega)
            have hnext : ∃ N, Y ++ jn shtext t 44 (j + 1) = N := ⟨_, rfl⟩
            obtain ⟨N, hN⟩ := hnext
            have HN := Lib.hid hN
            have HB2 := Lib.hid hbi
            rcases (show j = 0 ∨ 0 < j by omega) with hj0 | hj0
            · obtain ⟨z0, z1⟩ := hj1 hj0
              have hk1' : ¬ 0 < j := by omega
              have HJ0 := Lib.hid hj0
              have hN2 : Y ++ T2 = N := by rw [← hN, z1]
              have A3 := add_c Y T2 N (bytesOf T2) rfl hN2 (by first | omega | (simp; omega))
              rw [z0, List.append_nil]
              have BR : Br wr b k c j (.slice (some ⟨c, 0, none⟩) t.length t.length) n d wr := ⟨e1, c1, c2, Lib.hid (Below.refl _ _)⟩
              clear hj0 z0 z1 hjn hj1 hT1 hT2 hsh hN hN2 hy hym a3 hbi
              go_wp2_with fail
              go_region_held3 (fun w' => w'.cell? ⟨b, k, none⟩ = some (.slice (some ⟨c, 0, none⟩) t.length t.length) ∧ w'.cell? ⟨c, j * 2, none⟩ = some (.int .i64 n) ∧ w'.cell? ⟨c, j * 2 + 1, none⟩ = some (.int .i64 d) ∧ Hid (Below wr.heap.size wr w'))
                (first | exact BR.drew | exact Br.below (w0 := wr) (by assumption) (by assumption))
                (first
                  | (go_at_call 50; refine (HD.out _ (by omega) (by omega) _).mono ?_; rintro e w5 ⟨rfl, hb5⟩))
              all_goals
                go_wp2_with fail
                go_roundg (t.length - (j + 1))
              all_goals first
                | omega
                | exact ⟨j + 1, by omega, rfl, by rw [HN.out], by simp, HB2.out.trans ((show Br wr b k c j (.slice (some ⟨c, 0, none⟩) t.length t.length) n d _ from by assumption).bel.mono HB2.out.size)⟩
            · have z1 := hjn hj0
              obtain ⟨O0, hO0⟩ : ∃ O, Y ++ jn shtext t 44 j = O := ⟨_, rfl⟩
              obtain ⟨O1, hO1⟩ : ∃ O, O0 ++ [44] = O := ⟨_, rfl⟩
              have q3 : O0.length ≤ 4500 := by rw [← hO0]; simp; omega
              have q4 : O1.length = O0.length + 1 := by rw [← hO1]; simp
              have hN2 : O1 ++ T2 = N := by rw [← hN, z1, ← hO1, ← hO0]; simp
              have A0 := add_c O0 [44] O1 ⟨#[44]⟩ rfl hO1 (by simp; omega)
              have A3 := add_c O1 T2 N (bytesOf T2) rfl hN2 (by omega)
              rw [hO0]
              have BR : Br wr b k c j (.slice (some ⟨c, 0, none⟩) t.length t.length) n d wr := ⟨e1, c1, c2, Lib.hid (Below.refl _ _)⟩
              clear z1 hjn hj1 hT1 hT2 hsh hN hN2 hO0 hO1 hy hym a3 hbi
              go_wp2_with fail
              go_region_held3 (fun w' => w'.cell? ⟨b, k, none⟩ = some (.slice (some ⟨c, 0, none⟩) t.length t.length) ∧ w'.cell? ⟨c, j * 2, none⟩ = some (.int .i64 n) ∧ w'.cell? ⟨c, j * 2 + 1, none⟩ = some (.int .i64 d) ∧ Hid (Below wr.heap.size wr w'))
                (first | exact BR.drew | exact Br.below (w0 := wr) (by assumption) (by assumption))
                (first
                  | (go_at_call 50; refine (HD.out _ (by omega) (by omega) _).mono ?_; rintro e w5 ⟨rfl, hb5⟩))
              all_goals
                go_wp2_with fail
                go_roundg (t.length - (j + 1))
              all_goals first
                | omega
                | exact ⟨j + 1, by omega, rfl, by rw [HN.out], by simp, HB2.out.trans ((show Br wr b k c j (.slice (some ⟨c, 0, none⟩) t.length t.length) n d _ from by assumption).bel.mono HB2.out.size)⟩
          · have e : j = t.length := by omega
            subst e
            have HF := HPF.out
            go_wp2
            go_roundg (L.length - (k + 1))
            case measure => omega
            case rel => exact ⟨k + 1, by omega, rfl, by rw [HF], by simp, hb.trans (hbi.mono hb.size)⟩
    · have e : k = L.length := by omega
      subst e
      rw [jn_all]
      go_wp2
      go_ret
      exact ⟨rfl, hb⟩
theorem okS_small {L : List (List Sq)} (h : okS L) : L.length ≤ 12 ∧ ∀ k, k < L.length → smallR (L.getD k []) := by
  refine ⟨by have := h.2.1; omega, fun k hk => ?_⟩
  obtain ⟨h1, h2⟩ := h.2.2 k hk
  generalize L.getD k [] = t at h1 h2
  have hlen : ∀ j, j ≤ t.length → (j : Int) ≤ sumP t j := by
    intro j
    induction j with
    | zero => intro _; simp [sumP]
    | succ j ih =>
      intro hj
      have i1 := ih (by omega)
      have i2 := (h1 j (by omega)).2.2.2.1
      rw [sumP_succ t j (by omega)]
      omega
  have hl := hlen t.length (Nat.le_refl _)
  refine ⟨by omega, fun x hx => ?_⟩
  obtain ⟨j, hj, e⟩ := List.mem_iff_getElem.1 hx
  have h3 := h1 j hj
  have e2 : t.getD j (0, 0) = x := by simp [List.getD, hj, ← e]
  unfold elS at h3
  rw [e2] at h3
  have := h.2.1
  obtain ⟨g1, _, _, g2⟩ := h3
  omega
noncomputable def mSText (L : List (List Sq)) : ByteArray × Bool := if okSB L then (bytesOf (Lib.join (L.map rtext) [59]), true) else (⟨#[]⟩, false)
set_option maxHeartbeats 1000000 in
theorem sSText (L : List (List Sq)) (w : World) (lo hi : Nat) (u : Value) (c : CpS w lo hi u L) : Calls Tryd.prog 12 #[u] w (Psb (mSText L) w) := by
  obtain ⟨rfl, h, -, hf⟩ := c
  have HS := sis_any L lo lo L.length w h hf
  unfold Psb mSText
  obtain ⟨z, hz⟩ : ∃ z, okSB L = z := ⟨_, rfl⟩
  rw [hz] at HS ⊢
  cases z with
  | false =>
    clear h
    go_enter Tryd.func12, Tryd.ntmps12
    go_wp2_with fail
    refine HS.mono ?_
    rintro e w1 ⟨rfl, hb1⟩
    go_wp2
    go_ret2
    exact ⟨rfl, hb1⟩
  | true =>
    obtain ⟨k1, k2⟩ := okS_small (okSB_of hz)
    have HT := fun w' (hw : Below w.heap.size w w') => srtext L lo lo L.length w' (h.below hw) k1 k2
    rw [if_pos rfl]
    generalize bytesOf (Lib.join (L.map rtext) [59]) = s at HT ⊢
    clear h k2
    go_enter Tryd.func12, Tryd.ntmps12
    go_wp2_with fail
    refine HS.mono ?_
    rintro e w1 ⟨rfl, hb1⟩
    go_wp2_with fail
    refine (HT _ hb1).mono ?_
    rintro e w2 ⟨rfl, hb2⟩
    go_wp2
    go_ret2
    exact ⟨rfl, hb1.trans (hb2.mono hb1.size)⟩
set_option maxHeartbeats 1000000 in
theorem iSText (L : List (List Sq)) (w : World) (lo hi : Nat) (u : Value) (c : CpS w lo hi u L) (hp : PowT w) : Calls Tryd.prog 14 #[u] w (Psb (mSText L) w) := by
  obtain ⟨rfl, h, -, hf⟩ := c
  have HS := iis_any L lo lo L.length w h hf
  unfold Psb mSText
  obtain ⟨z, hz⟩ : ∃ z, okSB L = z := ⟨_, rfl⟩
  rw [hz] at HS ⊢
  cases z with
  | false =>
    clear h hp
    go_enter Tryd.func14, Tryd.ntmps14
    go_wp2_with fail
    refine HS.mono ?_
    rintro e w1 ⟨rfl, hb1⟩
    go_wp2
    go_ret2
    exact ⟨rfl, hb1⟩
  | true =>
    obtain ⟨k1, k2⟩ := okS_small (okSB_of hz)
    have HT := fun w' (hw : Below w.heap.size w w') => toe_rows L lo lo L.length w' (h.below hw) k1 k2 (hp.below hw)
    rw [if_pos rfl]
    generalize bytesOf (Lib.join (L.map rtext) [59]) = s at HT ⊢
    clear h k2 hp
    go_enter Tryd.func14, Tryd.ntmps14
    go_wp2_with fail
    refine HS.mono ?_
    rintro e w1 ⟨rfl, hb1⟩
    go_wp2_with fail
    refine (HT _ hb1).mono ?_
    rintro e w2 ⟨rfl, hb2⟩
    go_wp2
    go_ret2
    exact ⟨rfl, hb1.trans (hb2.mono hb1.size)⟩
end Go.Proofs.YtfjpjiieocdgeaaDoor
