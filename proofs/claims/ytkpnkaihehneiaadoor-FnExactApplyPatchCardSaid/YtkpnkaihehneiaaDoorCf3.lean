/- What two patches share: the program's sharedIds, for any condition. -/
import Derived.Test.YtkpnkaihehneiaaDoorCf2
namespace Go.Proofs.YtkpnkaihehneiaaDoor
open Go.ChangeShapes Go.WideShapes Go.ChangeAt Go.RowKit Go.Deep Go.Maps
set_option linter.unusedSimpArgs false
set_option linter.unusedVariables false
theorem shd_take {P Q : List Ed} (c : Ed → Ed → Bool) {k : Nat} (hk : k < Q.length) :
    shd P (Q.take (k + 1)) c = shd P (Q.take k) c ++ (if (match lst P (Q.getD k e0).2.1 with | some x => c x (Q.getD k e0) | none => false) then [(Q.getD k e0).2.1] else []) := by
  have e : Q.take (k + 1) = Q.take k ++ [Q.getD k e0] := by
    rw [List.take_add_one, List.getElem?_eq_getElem hk]
    simp [List.getD, hk]
  unfold shd
  rw [e, List.filter_append, List.map_append]
  congr 1
  generalize Q.getD k e0 = q
  cases hl : lst P q.2.1 with
  | none => simp [hl]
  | some x =>
    cases hc : c x q with
    | true => simp [hl, hc]
    | false => simp [hl, hc]
theorem shd_len (P Q : List Ed) (c : Ed → Ed → Bool) : (shd P Q c).length ≤ Q.length := by
  unfold shd
  rw [List.length_map]
  exact List.length_filter_le _ _
theorem snocL7 (l : List Int) (x : Int) : (l ++ [x]).length = l.length + 1 := by simp
theorem snocM7 (l : List Int) (x : Int) : (l ++ [x]).map (Value.int .i64) = l.map (Value.int .i64) ++ [.int .i64 x] := by simp
theorem own_below7 {w w' : World} {base size n : Nat} {e : TypeId} {v : Value} {xs : List Value} (h : w.ownsRow base e size v n xs) (hb : Below w.heap.size w w') : w'.ownsRow base e size v n xs := own_block7 h fun g _ hg => hb.block g hg
theorem take_snoc {L : List Ed} {k : Nat} (hk : k < L.length) : L.take (k + 1) = L.take k ++ [L.getD k e0] := by
  rw [List.take_add_one, List.getElem?_eq_getElem hk]
  simp [List.getD, hk]
set_option maxHeartbeats 4000000 in
set_option maxRecDepth 100000 in
theorem ishared (F : FuncId) (HF : ∀ args w, (callFunc F args).run Tryd.prog w = .ok (.enter F args) w) (c : Ed → Ed → Bool) (P Q : List Ed) (bp cp bq cq : Nat) (w : World) (hp : Es w bp P) (hq : Es w bq Q) (lp : P.length ≤ 1048576) (lq : Q.length ≤ 1048576)
    (wp : ∀ k, k < P.length → (Lit.int .i64 (P.getD k e0).2.1).wf = true) (wq : ∀ k, k < Q.length → (Lit.int .i64 (Q.getD k e0).2.1).wf = true)
    (HT : ∀ x y w', x ∈ P → y ∈ Q → Calls Tryd.prog F #[vE x, vE y] w' fun e w'' => e = .returned (.bool (c x y)) ∧ Below w'.heap.size w' w'') :
    Calls Tryd.prog 58 #[.slice (some ⟨bp, 0, none⟩) P.length cp, .slice (some ⟨bq, 0, none⟩) Q.length cq, .func (.func F) #[] #[]] w fun e w' => (∃ v, e = .returned v ∧ OwI w' w.heap.size w'.heap.size v (shd P Q c)) ∧ Below w.heap.size w w' := by
  obtain ⟨i0, hi, hz0, hz1, hz2⟩ := info_parts7 infoI
  have HP := Lib.hid hp
  have HQ := Lib.hid hq
  have WP := Lib.hid wp
  have WQ := Lib.hid wq
  have HTT := Lib.hid HT
  have lbp := hp.lt
  have lbq := hq.lt
  have hmm := @run_makeMap Tryd.prog
  have hb0 := (Below.refl w.heap.size w).alloc (Nat.le_refl _) (.map #[] 0)
  have hM0 := MapE.made w
  clear hp hq wp wq HT
  go_enter Tryd.func58, Tryd.ntmps58
  go_wp2
  go_loopg [9, 18] P.length (fun g _ i wr => ∃ k : Nat, k ≤ P.length ∧ g = P.length - k ∧ i = .int .i64 k ∧ Below w.heap.size w wr ∧ MapE wr w.heap.size k (P.take k))
  case atStart => exact ⟨0, Nat.zero_le _, rfl, rfl, hb0, by simpa using hM0⟩
  case round =>
    clear hmm hb0 hM0
    obtain ⟨k, hk, rfl, rfl, hb, hM⟩ := hrel
    by_cases hlt : k < P.length
    · obtain ⟨a1, a2, a3, a4⟩ := (HP.out.below hb).at hlt
      have hwf := WP.out k hlt
      have hts := take_snoc hlt
      obtain ⟨q, hq⟩ : ∃ q, P.getD k e0 = q := ⟨_, rfl⟩
      rw [hq] at a1 a2 a3 a4 hwf hts
      obtain ⟨n, y, sa, sb⟩ := q
      simp only at a1 a2 a3 a4 hwf
      have ba := (Below.refl wr.heap.size wr).alloc (Nat.le_refl _) (.cells #[.int .i64 n, .int .i64 y, .string sa, .string sb] 70)
      obtain ⟨w2, hst, hM2, hg2⟩ := (hM.below ba).store (by unfold maxLen; omega) (n, y, sa, sb) hwf
      have hb2 := (hb.trans (ba.mono hb.size)).grown hg2 (hb.trans (ba.mono hb.size)).size (fun j hj => by cases hj; exact Nat.le_refl _)
      rw [← hts] at hM2
      unfold vE at hst
      simp only at hst
      have lbs := hb.size
      clear hq hts hM hg2 ba
      go_wp2
      go_roundg (P.length - (k + 1))
      case measure => omega
      case rel => exact ⟨k + 1, by omega, rfl, by simp, hb2, hM2⟩
    · obtain rfl : k = P.length := by omega
      rw [List.take_length] at hM
      have HM := Lib.hid hM
      have HBB := Lib.hid hb
      have lmap := hM.lt
      clear hM
      go_wp2
      obtain ⟨W1, hW1⟩ : ∃ W1, W1 = wr := ⟨_, rfl⟩
      rw [← hW1] at HM HBB hb lmap ⊢
      clear hW1
      have hO0 : W1.ownsRow W1.heap.size 2 1 (.slice none 0 0) ([] : List Int).length (([] : List Int).map (Value.int .i64)) := World.ownsRow_nil _ _ _ _
      go_loopg [10, 12, 13, 14, 29] Q.length (fun g v _ _ _ i wr => ∃ (k : Nat) (l : List Int), k ≤ Q.length ∧ g = Q.length - k ∧ i = .int .i64 k ∧ Below W1.heap.size W1 wr ∧ l.length ≤ k ∧ Hid (l = shd P (Q.take k) c) ∧ wr.ownsRow W1.heap.size 2 1 v l.length (l.map (Value.int .i64)))
      case atStart => exact ⟨0, [], Nat.zero_le _, rfl, rfl, Below.refl _ _, Nat.le_refl _, rfl, hO0⟩
      case round =>
        clear hO0
        obtain ⟨k, l, hk, rfl, rfl, hb, hll, HL, hO⟩ := hrel
        have lbs := hb.size
        by_cases hlt : k < Q.length
        · obtain ⟨a1, a2, a3, a4⟩ := (HQ.out.below (HBB.out.trans (hb.mono HBB.out.size))).at hlt
          have hwf := WQ.out k hlt
          have hst := shd_take (P := P) c hlt
          have hmq : Q.getD k e0 ∈ Q := by simp [List.getD, hlt]
          obtain ⟨q, hq⟩ : ∃ q, Q.getD k e0 = q := ⟨_, rfl⟩
          rw [hq] at a1 a2 a3 a4 hwf hst hmq
          obtain ⟨n, y, sa, sb⟩ := q
          simp only at a1 a2 a3 a4 hwf hst
          have ba := (Below.refl wr.heap.size wr).alloc (Nat.le_refl _) (.cells #[.int .i64 n, .int .i64 y, .string sa, .string sb] 70)
          have hlook := ((HM.out.below hb).below ba).look y hwf
          have HST := Lib.hid hst
          have HMQ := Lib.hid hmq
          clear hq hst hmq
          cases hl : lst P y with
          | none =>
            rw [hl] at hlook HST
            have HE : Hid (l = shd P (Q.take (k + 1)) c) := by show l = _; rw [HST.out, ← HL.out]; simp
            unfold vE at hlook
            simp only [Option.getD_none, Option.isSome_none] at hlook
            have bx := ((Below.refl wr.heap.size wr).alloc (Nat.le_refl _) (.cells #[.int .i64 n, .int .i64 y, .string sa, .string sb] 70)).alloc (by simp) (.cells #[.int .i64 0, .int .i64 0, .string ⟨#[]⟩, .string ⟨#[]⟩] 70)
            have hO2 := own_below7 hO bx
            have hb2 := hb.trans (bx.mono hb.size)
            clear hl hO bx
            go_wp2
            go_roundg (Q.length - (k + 1))
            case measure => omega
            case rel => exact ⟨k + 1, l, by omega, rfl, by simp, hb2, by omega, HE, hO2⟩
          | some x =>
            rw [hl] at hlook HST
            obtain ⟨hxm, -⟩ := lst_some hl
            obtain ⟨n', y', sa', sb'⟩ := x
            have HC := fun w' => HTT.out (n', y', sa', sb') (n, y, sa, sb) w' hxm HMQ.out
            obtain ⟨z, hz⟩ : ∃ z, c (n', y', sa', sb') (n, y, sa, sb) = z := ⟨_, rfl⟩
            rw [hz] at HC
            have hst2 : shd P (Q.take (k + 1)) c = l ++ (if z then [y] else []) := by
              have := HST.out
              simp only [hz] at this
              rw [this, ← HL.out]
            have HST2 := Lib.hid hst2
            unfold vE at hlook HC
            simp only [Option.getD_some, Option.isSome_some] at hlook HC
            have bx := ((Below.refl wr.heap.size wr).alloc (Nat.le_refl _) (.cells #[.int .i64 n, .int .i64 y, .string sa, .string sb] 70)).alloc (by simp) (.cells #[.int .i64 n', .int .i64 y', .string sa', .string sb'] 70)
            have k1 : ((wr.alloc (.cells #[.int .i64 n, .int .i64 y, .string sa, .string sb] 70)).alloc (.cells #[.int .i64 n', .int .i64 y', .string sa', .string sb'] 70)).cell? ⟨wr.heap.size, 1, none⟩ = some (.int .i64 y) := by go_simp
            have K1 := Lib.hid k1
            have BX := Lib.hid bx
            clear hl hxm hz hst2 HST bx k1
            go_wp2_with fail
            refine (HC _).mono ?_
            rintro e w2 ⟨rfl, hb2⟩
            have hbx := BX.out.trans (hb2.mono BX.out.size)
            have e1 := (hb2.cell (p := ⟨wr.heap.size, 1, none⟩) (by simp; omega)).trans K1.out
            have hO2 := own_below7 hO hbx
            have hb3 := hb.trans (hbx.mono hb.size)
            have hs2 := hb3.size
            have lw2 := hbx.size
            clear hO hbx hb2 HC hlook
            cases z with
            | false =>
              have HE : Hid (l = shd P (Q.take (k + 1)) c) := by show l = _; rw [HST2.out]; simp
              go_wp2
              go_roundg (Q.length - (k + 1))
              case measure => omega
              case rel => exact ⟨k + 1, l, by omega, rfl, by simp, hb3, by omega, HE, hO2⟩
            | true =>
              have HE : Hid (l ++ [y] = shd P (Q.take (k + 1)) c) := by show l ++ [y] = _; rw [HST2.out]; simp
              go_wp2_with (first
                | (at_builtin; refine wpList_append_own _ rfl _ _ 39 rfl W1.heap.size 2 i0 (.int .i64 0) 1 8 Tryd.underlying39 hi hz0 hz1 hz2 rfl (by decide) _ _ _ rfl (hO2.alloc _) ⟨w2.heap.size, 0, none⟩ 1 1 [.int .i64 y] rfl rfl ?c1 ?c2 ?c3 ?c4 ?c5 ?_))
              case c1 => exact World.news_of_block (cs := #[.int .i64 y]) (t := 2) (fr := (0, 0)) (heap_alloc_new w2 _)
              case c2 => simp [Value.oneCell']
              case c3 => unfold maxLen; omega
              case c4 => omega
              case c5 => simp; omega
              intro v' w3 hown3 hgrow _
              have hb4 := (hb3.alloc hs2 (.cells #[.int .i64 y] 2)).grown hgrow (by simp; omega) (fun x e => (hO2.lt x e).1)
              have HO : Hid (w3.ownsRow W1.heap.size 2 1 v' (l ++ [y]).length ((l ++ [y]).map (Value.int .i64))) := by rw [snocL7, snocM7]; exact hown3
              have HLN := Lib.hid (snocL7 l y)
              clear hown3 hgrow
              go_wp2
              go_roundg (Q.length - (k + 1))
              case measure => omega
              case rel => exact ⟨k + 1, l ++ [y], by omega, rfl, by simp, hb4, by rw [HLN.out]; omega, HE, HO.out⟩
        · obtain rfl : k = Q.length := by omega
          have hl := HL.out
          rw [List.take_length] at hl
          have hbw := HBB.out.trans (hb.mono HBB.out.size)
          have hOW := (ow_of_own hO (Nat.le_refl _) (by omega)).mono (e1 := HBB.out.size) (e2 := Nat.le_refl _)
          rw [hl] at hOW
          have HOW := Lib.hid hOW
          clear hO hl hOW
          go_wp2
          go_ret
          exact ⟨⟨_, rfl, HOW.out⟩, hbw⟩
end Go.Proofs.YtkpnkaihehneiaaDoor
