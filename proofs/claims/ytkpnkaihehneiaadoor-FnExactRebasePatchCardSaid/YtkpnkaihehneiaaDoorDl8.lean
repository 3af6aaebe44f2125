/- slices.DeleteFunc over edits, walked. -/
import Derived.Test.YtkpnkaihehneiaaDoorDl7
namespace Go.Proofs.YtkpnkaihehneiaaDoor
open Go.ChangeShapes Go.WideShapes Go.ChangeAt Go.RowKit Go.Deep
set_option linter.unusedSimpArgs false
set_option linter.unusedVariables false
theorem kset7 (w : World) (c o : Nat) (v : Value) : Kept w (w.setCell ⟨c, o, none⟩ v) (fun x => x = c) := Kept.set w ⟨c, o, none⟩ v (S := fun x => x = c) rfl
set_option maxHeartbeats 4000000 in
set_option maxRecDepth 100000 in
theorem del_any7 (P : Ed → Bool) (F : FuncId) (HF : ∀ args w, (callFunc F args).run Tryd.prog w = .ok (.enter F args) w) (caps : Array Value) (S : World → Prop)
    (HT : ∀ x w', S w' → Calls Tryd.prog F (#[vE x] ++ caps) w' fun e w'' => e = .returned (.bool (!P x)) ∧ Below w'.heap.size w' w'') (c cp N : Nat) (hSk : ∀ w w', S w → Kept w w' (fun x => x = c) → S w')
    (f : Nat → Value) (R : List Ed) (w : World) (hS : S w) (hl : R.length ≤ 1048576) (row : w.rowIs c 70 N f) (hN : R.length * 4 ≤ N) (hcp : R.length ≤ cp) (hv : ∀ j, j < R.length * 4 → f j = ec R j) :
    Calls Tryd.prog 61 #[.slice (some ⟨c, 0, none⟩) R.length cp, .func (.func F) #[] caps] w fun e w' => (∃ f', e = .returned (.slice (some ⟨c, 0, none⟩) (R.filter fun x => P x).length cp) ∧ w'.rowIs c 70 N f' ∧ ∀ j, j < (R.filter fun x => P x).length * 4 → f' j = ec (R.filter fun x => P x) j) ∧ Kept w w' (fun x => x = c) := by
  have hSb : ∀ w w', S w → Below w.heap.size w w' → S w' := fun w w' h hb => hSk w w' h (Kept.ofBel hb)
  have HI := idx_del7 P F HF caps S HT hSb c cp N f R w hS hl row hN hv
  have HV := Lib.hid hv
  have HTT := Lib.hid HT
  have HSK := Lib.hid hSk
  have HSS := Lib.hid hS
  have HSB := Lib.hid hSb
  have lc := row.lt
  clear hv HT hSk hS hSb
  go_enter Tryd.func61, Tryd.ntmps61
  go_wp2_with fail
  refine HI.mono ?_
  rintro e w1 ⟨⟨r, rfl, r1, r2, hidx⟩, hb1⟩
  have row1 := row.of_block (hb1.block c lc)
  have HS1 := Lib.hid (HSB.out _ _ HSS.out hb1)
  have HK1 : Hid (Kept w w1 (fun x => x = c)) := Lib.hid (Kept.ofBel hb1)
  rcases hidx with ⟨rfl, ha⟩ | ⟨k, hk, rfl, hs, ha⟩
  · have he : kpE P R R.length = R := by rw [kpE_all _ (Nat.le_refl _) ha, List.take_length]
    rw [kpE_end] at he
    have HE := Lib.hid he
    clear he ha HI row
    go_wp2
    go_ret
    rw [HE.out]
    exact ⟨⟨f, rfl, row1, HV.out⟩, HK1.out⟩
  · have hD : DelE P R N c w1 k (k + 1) f := by
      have e1 : kpE P R k = R.take k := kpE_all k (by omega) ha
      have e2 : kpE P R (k + 1) = R.take k := by rw [kpE_succ P R hk, if_neg (by rw [hs]; decide), e1]; simp
      refine ⟨row1, by omega, by omega, by rw [e2, List.length_take]; omega, fun t ht => ?_, fun t _ h => HV.out t h⟩
      rw [e2, HV.out t (by omega), ec_take ht (by omega)]
    have hk9 : ((k : Int) == -1) = false := by first | (simp; done) | (simp; omega)
    have wk1 : IntKind.i64.wrap ((k : Int) + 1) = ((k + 1 : Nat) : Int) := by rw [IntKind.wrap_i64]; omega
    clear ha hs row HI row1 hb1
    go_wp2
    go_loopg [5, 6, 7] (R.length - (k + 1)) (fun g vi vj _ wr => ∃ (i j : Nat) (f : Nat → Value), g = R.length - j ∧ vi = .int .i64 i ∧ vj = .int .i64 j ∧ i < j ∧ j ≤ R.length ∧ DelE P R N c wr i j f ∧ S wr ∧ Kept w wr (fun x => x = c))
    case atStart => exact ⟨k, k + 1, f, rfl, rfl, by simp, by omega, by omega, hD, HS1.out, HK1.out⟩
    case round =>
      clear hD
      obtain ⟨i, j, f, rfl, rfl, rfl, hij, hjl, hD, h, hkp⟩ := hrel
      by_cases hlt : j < R.length
      · obtain ⟨a1, a2, a3, a4⟩ := row_at hD.row hN hlt (fun t h1 h2 => hD.high t h1 (by omega))
        obtain ⟨q, hq⟩ : ∃ q, R.getD j e0 = q := ⟨_, rfl⟩
        rw [hq] at a1 a2 a3 a4
        have HQ := Lib.hid hq
        obtain ⟨n, y, sa, sb⟩ := q
        simp only at a1 a2 a3 a4
        have ba := (Below.refl wr.heap.size wr).alloc (Nat.le_refl _) (.cells #[.int .i64 n, .int .i64 y, .string sa, .string sb] 70)
        have hK := HTT.out (n, y, sa, sb) _ (HSB.out _ _ h ba)
        obtain ⟨z, hz⟩ : ∃ z, P (n, y, sa, sb) = z := ⟨_, rfl⟩
        rw [hz] at hK
        have HZ := Lib.hid hz
        unfold vE at hK
        simp only at hK
        have k0 : (wr.alloc (.cells #[.int .i64 n, .int .i64 y, .string sa, .string sb] 70)).cell? ⟨wr.heap.size, 0, none⟩ = some (.int .i64 n) := by go_simp
        have k1 : (wr.alloc (.cells #[.int .i64 n, .int .i64 y, .string sa, .string sb] 70)).cell? ⟨wr.heap.size, 1, none⟩ = some (.int .i64 y) := by go_simp
        have k2 : (wr.alloc (.cells #[.int .i64 n, .int .i64 y, .string sa, .string sb] 70)).cell? ⟨wr.heap.size, 2, none⟩ = some (.string sa) := by go_simp
        have k3 : (wr.alloc (.cells #[.int .i64 n, .int .i64 y, .string sa, .string sb] 70)).cell? ⟨wr.heap.size, 3, none⟩ = some (.string sb) := by go_simp
        have KK := Lib.hid (And.intro k0 (And.intro k1 (And.intro k2 k3)))
        have BA := Lib.hid ba
        have HD := Lib.hid hD
        have H := Lib.hid h
        have HKP := Lib.hid hkp
        have lcw := hD.row.lt
        clear hz hq hD h hkp ba k0 k1 k2 k3
        go_wp2_with fail
        refine hK.mono ?_
        rintro e w2 ⟨rfl, hb2⟩
        have hbx := BA.out.trans (hb2.mono BA.out.size)
        have HS2 := Lib.hid (HSB.out _ _ H.out hbx)
        have HK2 := Lib.hid (HKP.out.trans (Kept.ofBel hbx))
        have HD2 := Lib.hid (HD.out.below hbx)
        cases z with
        | false =>
          have HD3 := Lib.hid (HD2.out.skip hlt (by rw [HQ.out]; exact HZ.out))
          clear hb2 hbx hK
          go_wp2
          go_roundg (R.length - (j + 1))
          case measure => omega
          case rel => exact ⟨i, j + 1, f, rfl, rfl, by simp, by omega, by omega, HD3.out, HS2.out, HK2.out⟩
        | true =>
          have hsz : wr.heap.size < (wr.alloc (.cells #[.int .i64 n, .int .i64 y, .string sa, .string sb] 70)).heap.size := by simp
          have m0 := (hb2.cell (p := ⟨wr.heap.size, 0, none⟩) hsz).trans KK.out.1
          have m1 := (hb2.cell (p := ⟨wr.heap.size, 1, none⟩) hsz).trans KK.out.2.1
          have m2 := (hb2.cell (p := ⟨wr.heap.size, 2, none⟩) hsz).trans KK.out.2.2.1
          have m3 := (hb2.cell (p := ⟨wr.heap.size, 3, none⟩) hsz).trans KK.out.2.2.2
          have c0 : w2.cell? ⟨c, i * 4, none⟩ = some (f (i * 4)) := HD2.out.row.cell (by omega)
          have c1 : w2.cell? ⟨c, i * 4 + 1, none⟩ = some (f (i * 4 + 1)) := HD2.out.row.cell (by omega)
          have c2 : w2.cell? ⟨c, i * 4 + 2, none⟩ = some (f (i * 4 + 2)) := HD2.out.row.cell (by omega)
          have c3 : w2.cell? ⟨c, i * 4 + 3, none⟩ = some (f (i * 4 + 3)) := HD2.out.row.cell (by omega)
          have g0 : w2.frozen? ⟨c, i * 4, none⟩ = false := HD2.out.row.frozen _
          have g1 : w2.frozen? ⟨c, i * 4 + 1, none⟩ = false := HD2.out.row.frozen _
          have g2 : w2.frozen? ⟨c, i * 4 + 2, none⟩ = false := HD2.out.row.frozen _
          have g3 : w2.frozen? ⟨c, i * 4 + 3, none⟩ = false := HD2.out.row.frozen _
          have hD3 := HD2.out.keep hlt (by rw [HQ.out]; exact HZ.out)
          rw [HQ.out] at hD3
          simp only at hD3
          have HD3 := Lib.hid hD3
          clear hb2 hbx hK hD3 a1 a2 a3 a4
          go_wp2
          go_roundg (R.length - (j + 1))
          case measure => omega
          case rel =>
            have kk : Kept w2 ((((w2.setCell ⟨c, i * 4, none⟩ (.int .i64 n)).setCell ⟨c, i * 4 + 1, none⟩ (.int .i64 y)).setCell ⟨c, i * 4 + 2, none⟩ (.string sa)).setCell ⟨c, i * 4 + 3, none⟩ (.string sb)) (fun x => x = c) :=
              (((kset7 w2 c _ _).trans (kset7 _ c _ _)).trans (kset7 _ c _ _)).trans (kset7 _ c _ _)
            exact ⟨i + 1, j + 1, _, rfl, by simp, by simp, by omega, by omega, HD3.out, HSK.out _ _ HS2.out kk, HK2.out.trans kk⟩
      · have e : j = R.length := by omega
        subst e
        have hcl : ∀ ty, (Builtin.clear_ #[32] ty #[.slice (some ⟨c, i * 4, none⟩) (R.length - i) (cp - i)]).run Tryd.prog wr = .ok (.tuple #[]) (wr.setCells c (i * 4) (zE (R.length - i))) := fun ty =>
          run_clear7 wr ty c (i * 4) (R.length - i) (cp - i) (by omega) (fun t ht => by rw [hD.row.cell (i := i * 4 + t) (by omega)]; rfl) (fun t ht => hD.row.frozen _)
        have hlen := hD.len
        have hlow := hD.low
        have hrow := Go.rowIs_setCells (zE (R.length - i)) (i * 4) wr f hD.row
        rw [kpE_end] at hlen hlow
        have HLW := Lib.hid hlow
        have HRW := Lib.hid hrow
        have hkp2 := hkp.trans (kept_setCells7 c (zE (R.length - i)) (i * 4) wr)
        clear hrow hD hlow
        go_wp2
        go_ret
        rw [hlen]
        refine ⟨⟨_, rfl, HRW.out, fun t ht => ?_⟩, hkp2⟩
        rw [if_neg (by omega)]
        exact HLW.out t ht
end Go.Proofs.YtkpnkaihehneiaaDoor
