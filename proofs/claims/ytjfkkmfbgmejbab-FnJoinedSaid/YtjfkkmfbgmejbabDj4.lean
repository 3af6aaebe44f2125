/- The law FnJoined, walked. -/
import Derived.Test.YtjfkkmfbgmejbabDj3
import Derived.Test.YtjfkkmfbgmejbabDr8
namespace Go.Proofs.Ytjfkkmfbgmejbab
open Go.ChangeShapes Go.WideShapes Go.ChangeAt Go.RowKit Go.Deep
set_option linter.unusedSimpArgs false
set_option linter.unusedVariables false
theorem OwJ.at3 {w : World} {lo hi : Nat} {v : Value} {L : List (List Int)} (h : OwJ w lo hi v L) (hq : AllQQ L) (hl : L ≠ []) : ∃ x cap, v = .slice (some x) L.length cap ∧ x.block < w.heap.size ∧
    ∀ i, i < L.length → ∃ (y : Addr) (c n : Nat), w.cell? (x.add i) = some (.slice (some y) 3 c) ∧ y.block < w.heap.size ∧ w.cell? y = some (.int .i64 (n : Int)) ∧ n ≤ 500000002 := by
  obtain ⟨x, cap, rfl, hx, ha⟩ := h.rd.list.cons hl
  refine ⟨x, cap, rfl, hx, fun i hi => ?_⟩
  obtain ⟨u, hu, hr⟩ := ha i hi
  obtain ⟨l3, q3⟩ := hq i hi
  obtain ⟨y, c, rfl, hy, hc⟩ := hr.cons (by intro e; rw [e] at l3; cases l3)
  have k0 := q3 0 (by omega)
  have c0 := hc 0 (by omega)
  rw [l3] at hu
  refine ⟨y, c, ((L.getD i []).getD 0 0).toNat, hu, hy, ?_, by have := k0; unfold qOk at this; omega⟩
  have e : ((((L.getD i []).getD 0 0).toNat : Nat) : Int) = (L.getD i []).getD 0 0 := Int.toNat_of_nonneg k0.1
  rw [e]
  exact c0
set_option maxHeartbeats 4000000 in
set_option maxRecDepth 100000 in
theorem lawJoined (v0 : Value) (len0 : Nat) (v1 : Value) (len1 : Nat) (w : World) (h0 : ByteV w.heap.size w v0 len0) (h1 : ByteV w.heap.size w v1 len1) :
    Calls Try.prog 3 #[v0, v1] w fun e w' => e = .returned (.bool true) ∧ Below w.heap.size w w' := by
  obtain ⟨i0, hinf, hz0, hz1, hz2⟩ := info_parts infoI
  obtain ⟨a0, cap0, rfl⟩ := h0.shape
  obtain ⟨a1, cap1, rfl⟩ := h1.shape
  have HL := r8long a0 a1 len0 cap0 len1 cap1 w
  by_cases hlong : 48 < len0 ∨ 48 < len1
  · rw [show (decide (48 < len0) || decide (48 < len1)) = true by simpa using hlong] at HL
    clear h0 h1
    go_enter Try.func3, Try.ntmps3
    go_wp2_with fail
    refine HL.mono ?_
    rintro e w1 ⟨rfl, rfl⟩
    go_wp2
    go_ret
    exact ⟨rfl, Below.refl _ _⟩
  have hl0 : len0 ≤ 48 := by omega
  have hl1 : len1 ≤ 48 := by omega
  rw [show (decide (48 < len0) || decide (48 < len1)) = false by simpa using hlong] at HL
  have A1 : Calls Try.prog 8 #[.slice a0 len0 cap0, .int .i64 0, .int .i64 5] w (At8 5 w) := r8at _ _ len0 0 5 w h0 hl0 (by omega) (by omega) (by omega)
  have HV0 := Lib.hid h0
  have HV1 := Lib.hid h1
  clear h0 h1 hlong
  go_enter Try.func3, Try.ntmps3
  go_wp2_with fail
  refine HL.mono ?_
  rintro e w1 ⟨rfl, rfl⟩
  go_wp2_with fail
  refine A1.mono ?_
  rintro e w1 ⟨r, rfl, r0, r1, -, rfl⟩
  have r2 := r1 (by omega)
  obtain ⟨N, hN⟩ : ∃ N : Nat, 1 + r = (N : Int) := ⟨(1 + r).toNat, by omega⟩
  have wn : IntKind.i64.wrap (1 + r) = (N : Int) := by rw [IntKind.wrap_i64]; omega
  have hN1 : 1 ≤ N := by omega
  have hN5 : N ≤ 5 := by omega
  have HR := rows_any (.slice a1 len1 cap1) len1 N w HV1.out (by omega) (by omega)
  clear A1 HL r1
  go_wp2_with fail
  refine HR.mono ?_
  rintro e w1 ⟨u, L, rfl, hJ, hL, hQ, hb1⟩
  obtain ⟨x, xcap, rfl, hx, hrow⟩ := hJ.at3 hQ (by rintro rfl; simp at hL; omega)
  rw [hL] at hrow
  rw [hL]
  have HRW := Lib.hid hrow
  have HB1 := Lib.hid hb1
  have hb1s := hb1.size
  have T0 := Tri.start w1 (Nat.le_refl w1.heap.size)
  have B0 : Below w1.heap.size w1 (((w1.alloc (.cells #[] 2)).alloc (.cells #[] 2)).alloc (.cells #[] 2)) := (((Below.refl w1.heap.size w1).alloc (Nat.le_refl _) _).alloc (by simp <;> omega) _).alloc (by simp <;> omega) _
  have I0 := Lib.hid InvJ.start
  clear hJ hQ hrow hb1 HR hL r0 r2 wn hN
  go_wp2
  go_loopg [7, 8, 9, 10, 11] N (fun g a b c s i wr => ∃ (k A : Nat) (S K W : List Int), k ≤ N ∧ g = N - k ∧ s = .int .i64 (A : Int) ∧ i = .int .i64 (k : Int) ∧ Hid (InvJ k S K W A) ∧ Hid (A ≤ 6 * k) ∧ Tri wr w1.heap.size a b c S K W ∧ Below w1.heap.size w1 wr)
  case atStart => exact ⟨0, 0, [], [], [], Nat.zero_le _, rfl, rfl, rfl, I0, Lib.hid (Nat.zero_le _), T0, B0⟩
  case round =>
    clear T0 B0 I0
    obtain ⟨k, A, S, K, W, hk, rfl, rfl, rfl, HI, HA, HT, hbr⟩ := hrel
    obtain ⟨wo, rfl⟩ : ∃ wo : World, wo = wr := ⟨_, rfl⟩
    have hbw : Below w.heap.size w wo := HB1.out.trans (hbr.mono hb1s)
    have szr := hbr.size
    by_cases hlt : (k : Int) < (N : Int)
    · have HA1 := r8at w.heap.size (.slice a0 len0 cap0) len0 (k + 1) 3 wo (HV0.out.below hbw) hl0 (by omega) (by omega) (by omega)
      have HA2 := r8at w.heap.size (.slice a1 len1 cap1) len1 k 4 wo (HV1.out.below hbw) hl1 (by omega) (by omega) (by omega)
      have ck : ((k + 1 : Nat) : Int) = (k : Int) + 1 := by omega
      rw [ck] at HA1
      obtain ⟨y, yc, m, q1, hy, q2, hm⟩ := HRW.out k (by omega)
      have HBR := Lib.hid hbr
      have HTT := Lib.hid HT
      have Q1 := Lib.hid q1
      have Q2 := Lib.hid q2
      have c1 := (hbr.cell (p := x.add k) (by rw [block_add]; exact hx)).trans q1
      have c2 := (hbr.cell (p := y) hy).trans q2
      clear q1 q2 hbr HT ck hbw
      go_wp2_with fail
      refine HA1.mono ?_
      rintro e w2 ⟨v', rfl, v0', v1', -, rfl⟩
      have v2' := v1' (by omega)
      obtain ⟨v, rfl⟩ : ∃ v : Nat, v' = (v : Int) := ⟨v'.toNat, by omega⟩
      clear HA1 v1' v0'
      go_wp2_with fail
      refine HA2.mono ?_
      rintro e w2 ⟨x', rfl, x0', x1', -, rfl⟩
      have x2' := x1' (by omega)
      obtain ⟨xn, rfl⟩ : ∃ v : Nat, x' = (v : Int) := ⟨x'.toNat, by omega⟩
      have P1 := iseal v m wo (by omega) hm
      have P2 := fun w' => iseal (v + 1) m w' (by omega) hm
      have cv : ((v + 1 : Nat) : Int) = (v : Int) + 1 := by omega
      rw [cv] at P2
      have hsl := seal_sl v m
      have hne := seal_ne v m
      have HST := Lib.hid (HI.out.step (v := v) hm (show xn ≤ 1000 by omega))
      generalize hs : seal9 v m = s at P1 hsl hne HST
      generalize ht : seal9 (v + 1) m = t at P2 hne
      have P3 := fun w' => isl_any s w'
      rw [hsl] at P3
      have hne2 : (s == t) = false := by simp [hne]
      clear HA2 x1' x0' cv hs ht hsl
      go_wp2_with fail
      refine P1.mono ?_
      rintro e w2 ⟨rfl, hb2⟩
      have d1 := (hb2.cell (p := x.add k) (by rw [block_add]; omega)).trans c1
      have d2 := (hb2.cell (p := y) (by omega)).trans c2
      have HB2 := Lib.hid hb2
      clear P1 hb2 c1 c2
      go_wp2_with fail
      refine (P2 _).mono ?_
      rintro e w3 ⟨rfl, hb3⟩
      have HB3 := Lib.hid (HB2.out.trans (hb3.mono HB2.out.size))
      clear P2 hb3 d1 d2
      go_wp2_with fail
      refine (P3 _).mono ?_
      rintro e w4 ⟨rfl, rfl⟩
      have HT3 := Lib.hid (HTT.out.below HB3.out)
      have sz3 : wo.heap.size ≤ w3.heap.size := HB3.out.size
      have HL5 : Hid (S.length ≤ 5 ∧ K.length ≤ 5 ∧ W.length ≤ 5) := Lib.hid (by obtain ⟨l1, l2, l3, _⟩ := HI.out; omega)
      have own1 := HT3.out.o1
      clear P3
      go_wp2_with (first
        | (at_builtin; refine wpList_append_own_at _ rfl _ _ 27 rfl w1.heap.size 2 i0 (.int .i64 0) 1 8 Try.underlying27 hinf hz0 hz1 hz2 rfl (by decide) _ _ _ rfl (own1.alloc _) ⟨w3.heap.size, 0, none⟩ 1 1 [.int .i64 s] rfl rfl (World.news_of_block (cs := #[.int .i64 s]) (t := 2) (fr := (0, 0)) (heap_alloc_new w3 _)) (by simp [Value.oneCell']) (by have := HL5.out; unfold maxLen; omega) (by have := HL5.out; omega) (by simp; omega) ?_))
      intro a' w5 ho5 hg5 _ hat5
      have HT5 := Lib.hid (HT3.out.app ho5 hg5 hat5)
      have hb5 : Below w1.heap.size w3 w5 := ((Below.refl w1.heap.size w3).alloc (by omega) _).grown hg5 (by simp; omega) (fun x e => (own1.lt x e).1)
      have HB5 := Lib.hid ((HBR.out.trans (HB3.out.mono szr)).trans hb5)
      have sz5 : w1.heap.size ≤ w5.heap.size := HB5.out.size
      have d1 := (HB5.out.cell (p := x.add k) (by rw [block_add]; exact hx)).trans Q1.out
      have d2 := (HB5.out.cell (p := y) hy).trans Q2.out
      have own2 := HT5.out.o2
      clear ho5 hg5 hat5 hb5 own1
      go_wp2_with (first
        | (at_builtin; refine wpList_append_own_at _ rfl _ _ 27 rfl w1.heap.size 2 i0 (.int .i64 0) 1 8 Try.underlying27 hinf hz0 hz1 hz2 rfl (by decide) _ _ _ rfl (own2.alloc _) ⟨w5.heap.size, 0, none⟩ 1 1 [.int .i64 (m : Int)] rfl rfl (World.news_of_block (cs := #[.int .i64 (m : Int)]) (t := 2) (fr := (0, 0)) (heap_alloc_new w5 _)) (by simp [Value.oneCell']) (by have := HL5.out; unfold maxLen; omega) (by have := HL5.out; omega) (by simp; omega) ?_))
      intro b' w6 ho6 hg6 _ hat6
      have HT6 := Lib.hid (HT5.out.rot.app ho6 hg6 hat6).rot.rot
      have hb6 : Below w1.heap.size w5 w6 := ((Below.refl w1.heap.size w5).alloc (by omega) _).grown hg6 (by simp; omega) (fun x e => (own2.lt x e).1)
      have HB6 := Lib.hid (HB5.out.trans hb6)
      have sz6 : w1.heap.size ≤ w6.heap.size := HB6.out.size
      have own3 := HT6.out.o3
      clear ho6 hg6 hat6 hb6 own2 d1 d2
      obtain ⟨p, hp⟩ : ∃ p, xn * v = p := ⟨_, rfl⟩
      have hp6 : p ≤ 6 := by rw [← hp]; exact Nat.mul_le_mul (show xn ≤ 3 by omega) (show v ≤ 2 by omega)
      have hp' : (xn : Int) * (v : Int) = (p : Int) := by rw [← hp]; simp
      have wp : IntKind.i64.wrap ((xn : Int) * (v : Int)) = (p : Int) := by rw [hp', IntKind.wrap_i64]; omega
      have ha9 : A ≤ 30 := by have := HA.out; omega
      have wa : IntKind.i64.wrap ((A : Int) + (p : Int)) = (A : Int) + (p : Int) := by rw [IntKind.wrap_i64]; omega
      rw [hp] at HST
      have HA9 : Hid (A + p ≤ 6 * (k + 1)) := Lib.hid (by have := HA.out; omega)
      clear hp
      go_wp2_with (first
        | (at_builtin; refine wpList_append_own_at _ rfl _ _ 27 rfl w1.heap.size 2 i0 (.int .i64 0) 1 8 Try.underlying27 hinf hz0 hz1 hz2 rfl (by decide) _ _ _ rfl (own3.alloc _) ⟨w6.heap.size, 0, none⟩ 1 1 [.int .i64 (xn : Int)] rfl rfl (World.news_of_block (cs := #[.int .i64 (xn : Int)]) (t := 2) (fr := (0, 0)) (heap_alloc_new w6 _)) (by simp [Value.oneCell']) (by have := HL5.out; unfold maxLen; omega) (by have := HL5.out; omega) (by simp; omega) ?_))
      intro c' w7 ho7 hg7 _ hat7
      have HT7 := Lib.hid (HT6.out.rot.rot.app ho7 hg7 hat7).rot
      have hb7 : Below w1.heap.size w6 w7 := ((Below.refl w1.heap.size w6).alloc (by omega) _).grown hg7 (by simp; omega) (fun x e => (own3.lt x e).1)
      have HB7 := Lib.hid (HB6.out.trans hb7)
      clear ho7 hg7 hat7 hb7 own3
      go_wp2
      go_roundg (N - (k + 1))
      case measure => omega
      case rel => exact ⟨k + 1, A + p, _, _, _, by omega, rfl, by first | rfl | simp [wp, wa], by first | rfl | simp, HST, HA9, HT7.out, HB7.out⟩
    · have e0 : k = N := by omega
      subst e0
      obtain ⟨z, y, hy, m1, m2, m3⟩ := HI.out.fin (by omega) (by have := HA.out; omega)
      have HL5 : Hid (S.length ≤ 5 ∧ K.length ≤ 5 ∧ W.length ≤ 5) := Lib.hid (by obtain ⟨l1, l2, l3, _⟩ := HI.out; omega)
      have lS : S.length ≤ 1048576 := by have := HL5.out; omega
      have lK : K.length ≤ 1048576 := by have := HL5.out; omega
      have lW : W.length ≤ 1048576 := by have := HL5.out; omega
      have HTT := Lib.hid HT
      have rows := fun w' (hb : Below wo.heap.size wo w') => (show RowV w' u7 S ∧ RowV w' u8 K ∧ RowV w' u9 W from
        ⟨(ow_of_own (HTT.out.below hb).o1 (Nat.le_refl _) lS).rd.1, (ow_of_own (HTT.out.below hb).o2 (Nat.le_refl _) lK).rd.1, (ow_of_own (HTT.out.below hb).o3 (Nat.le_refl _) lW).rd.1⟩)
      have RW := Lib.hid rows
      have J1 := iJoinSR S W wo u7 u9 (rows wo (Below.refl _ _)).1 (rows wo (Below.refl _ _)).2.2 lS lW
      have J2 := fun w' (hb : Below wo.heap.size wo w') => iJoinKR K W w' u8 u9 (RW.out w' hb).2.1 (RW.out w' hb).2.2 lK lW
      have J3 := fun w' => iseal A y w' (by have := HA.out; omega) hy
      rw [m1] at J1
      rw [m2] at J2
      rw [m3] at J3
      clear rows HT m1 m2 m3
      go_wp2_with fail
      refine J1.mono ?_
      intro e w2 hp
      obtain ⟨rfl, hb2⟩ := hp.out
      have J2' := J2 w2 hb2
      have HB2 := Lib.hid hb2
      clear J1 J2 hp hb2
      go_wp2_with fail
      refine J2'.mono ?_
      intro e w3 hp
      obtain ⟨rfl, hb3⟩ := hp.out
      have HB3 := Lib.hid (HB2.out.trans (hb3.mono HB2.out.size))
      clear J2' hp hb3
      go_wp2_with fail
      refine (J3 _).mono ?_
      rintro e w4 ⟨rfl, hb4⟩
      have HB4 := Lib.hid (HB3.out.trans (hb4.mono HB3.out.size))
      clear J3 hb4
      go_wp2
      go_ret
      exact ⟨by first | rfl | simp, hbw.trans (HB4.out.mono hbw.size)⟩
end Go.Proofs.Ytjfkkmfbgmejbab
