/- DropOption: the program's. -/
import Derived.Test.YtnpolmanebmmcaaDr1
import Derived.Test.YtnpolmanebmmcaaDl1
namespace Go.Proofs.Ytnpolmanebmmcaa
open Go.ChangeShapes Go.WideShapes Go.ChangeAt Go.RowKit Go.Deep
set_option linter.unusedSimpArgs false
set_option linter.unusedVariables false
theorem idel (q : Nat) (o0 x : Int) (w : World) (hq : w.cell? ⟨q, 0, none⟩ = some (.int .i64 o0)) :
    Calls Try.prog 58 (#[.int .i64 x] ++ #[.pointer (some ⟨q, 0, none⟩)]) w fun e w' => e = .returned (.bool (!decide (x ≠ o0))) ∧ w = w' := by
  show Calls Try.prog 58 #[.int .i64 x, .pointer (some ⟨q, 0, none⟩)] w _
  by_cases e : x = o0
  · subst e
    go_enter Try.func58, Try.ntmps58
    go_wp2
    go_ret
    exact ⟨by simp, rfl⟩
  · go_enter Try.func58, Try.ntmps58
    go_wp2
    go_ret
    exact ⟨by simp [e], rfl⟩
set_option maxHeartbeats 2000000 in
set_option maxRecDepth 100000 in
theorem idr1 (l : List Int) (o0 : Int) (g cap q : Nat) (w0 w : World) (hb : Below w0.heap.size w0 w) (h : OwI w w0.heap.size w.heap.size (.slice (some ⟨g, 0, none⟩) l.length cap) l) (hcap : l.length ≤ cap) (hq : w0.cell? ⟨q, 0, none⟩ = some (.int .i64 o0)) (hn : l.length ≤ 6) (hx : ∀ x ∈ l, 0 ≤ x ∧ x < 6) :
    Calls Try.prog 56 (#[.slice (some ⟨g, 0, none⟩) l.length cap] ++ #[.pointer (some ⟨q, 0, none⟩)]) w fun e w' => ∃ v', e = .returned v' ∧ OwI w' w0.heap.size w'.heap.size v' (drl o0 l) ∧ Below w0.heap.size w0 w' := by
  show Calls Try.prog 56 #[.slice (some ⟨g, 0, none⟩) l.length cap, .pointer (some ⟨q, 0, none⟩)] w _
  have hql := World.block_lt_of_cell? _ _ hq
  obtain ⟨⟨e0, -⟩ | ⟨g', cap', N, f, e0, h1, h2, h3, h4, h5⟩, hl⟩ := h
  · cases e0
  · simp only [Value.slice.injEq, Option.some.injEq, Addr.mk.injEq, and_true, true_and] at e0
    obtain ⟨rfl, rfl⟩ := e0
    have hqg : q ≠ g := by have : q < w0.heap.size := hql; omega
    have HD := del_any (fun x => decide (x ≠ o0)) 58 (fun _ _ => rfl) #[.pointer (some ⟨q, 0, none⟩)] (fun W => W.cell? ⟨q, 0, none⟩ = some (.int .i64 o0)) (fun x w' hS => idel q o0 x w' hS) g cap N
      (fun w w' hS hk => (hk.cell (p := ⟨q, 0, none⟩) (World.block_lt_of_cell? _ _ hS) hqg).trans hS) f l w ((hb.cell (p := ⟨q, 0, none⟩) hql).trans hq) hl h4 h3 hcap h5
    have hfl : (l.filter fun x => decide (x ≠ o0)).length ≤ l.length := List.length_filter_le _ _
    have hxx : ∀ a, a < (l.filter fun x => decide (x ≠ o0)).length → 0 ≤ (l.filter fun x => decide (x ≠ o0)).getD a 0 ∧ (l.filter fun x => decide (x ≠ o0)).getD a 0 < 6 := fun a ha => by
      have h9 := hx _ (List.mem_filter.1 (List.getElem_mem ha)).1
      have h8 : (l.filter fun x => decide (x ≠ o0)).getD a 0 = (l.filter fun x => decide (x ≠ o0))[a] := by rw [List.getD, List.getElem?_eq_getElem ha]; rfl
      rw [h8]; exact h9
    have hdr : drl o0 l = (l.filter fun x => decide (x ≠ o0)).map (dec o0) := rfl
    rw [hdr]
    obtain ⟨l1, hl1⟩ : ∃ l1, (l.filter fun x => decide (x ≠ o0)) = l1 := ⟨_, rfl⟩
    rw [hl1] at hfl
    rw [hl1] at hxx
    have HXX : Hid (∀ a, a < l1.length → 0 ≤ l1.getD a 0 ∧ l1.getD a 0 < 6) := Lib.hid hxx
    simp only [hl1] at HD ⊢
    have HQ := Lib.hid (And.intro h1 (And.intro h2 (And.intro h3 hb)))
    have hq2 : w.cell? ⟨q, 0, none⟩ = some (.int .i64 o0) := (hb.cell (p := ⟨q, 0, none⟩) hql).trans hq
    clear h1 h2 h4 h5 hb hdr hl1 hx hxx
    go_enter Try.func56, Try.ntmps56
    go_wp2_with fail
    refine HD.mono ?_
    rintro e w1 ⟨⟨f', rfl, hr, hv⟩, hk⟩
    have hq3 : w1.cell? ⟨q, 0, none⟩ = some (.int .i64 o0) := (hk.cell (p := ⟨q, 0, none⟩) (World.block_lt_of_cell? _ _ hq2) hqg).trans hq2
    have hr0 : w1.rowIs g 2 N (fun a => if a < l1.length then .int .i64 (if a < 0 then dec o0 (l1.getD a 0) else l1.getD a 0) else f' a) := hr.congr fun a _ => by
      by_cases z : a < l1.length
      · rw [if_pos z, hv a z, if_neg (Nat.not_lt_zero _)]
      · rw [if_neg z]
    obtain ⟨z1, z2, z3, z4⟩ := HQ.out
    have hb1 : Below w0.heap.size w0 w1 := z4.trans (hk.below z4.size (fun x hx => by omega))
    have hs1 : w.heap.size ≤ w1.heap.size := hk.size
    have HB1 := Lib.hid (And.intro hb1 hr0)
    clear hr hv hr0 hb1 hk HD hq2
    go_wp2
    go_loopg [11] l1.length (fun gg i wr => ∃ k : Nat, k ≤ l1.length ∧ gg = l1.length - k ∧ i = .int .i64 k ∧ Below w0.heap.size w0 wr ∧ w1.heap.size ≤ wr.heap.size ∧ wr.cell? ⟨q, 0, none⟩ = some (.int .i64 o0) ∧ wr.rowIs g 2 N (fun a => if a < l1.length then .int .i64 (if a < k then dec o0 (l1.getD a 0) else l1.getD a 0) else f' a))
    case atStart => exact ⟨0, Nat.zero_le _, rfl, rfl, HB1.out.1, Nat.le_refl _, hq3, HB1.out.2⟩
    case round =>
      clear HB1 hq3
      obtain ⟨k, hk, rfl, rfl, hb, hsz, hq3, hr⟩ := hrel
      by_cases hlt : k < l1.length
      · have c1 := hr.cell (i := k) (by omega)
        have f1 := hr.frozen k
        simp only [hlt, if_true, Nat.lt_irrefl, if_false] at c1
        have hxb := HXX.out k hlt
        obtain ⟨x, hx⟩ : ∃ x, l1.getD k 0 = x := ⟨_, rfl⟩
        rw [hx] at c1 hxb
        have HX := Lib.hid hx
        by_cases e2 : o0 < x
        · have wq : IntKind.i64.wrap (x - 1) = x - 1 := by rw [IntKind.wrap_i64]; omega
          have hR := (hr.set k (.int .i64 (x - 1))).congr (g := fun a => if a < l1.length then .int .i64 (if a < k + 1 then dec o0 (l1.getD a 0) else l1.getD a 0) else f' a) (fun a _ => by
            by_cases z : a = k
            · subst z
              rw [if_pos rfl, if_pos hlt, if_pos (by omega), hx]
              unfold dec; rw [if_pos e2]
            · rw [if_neg z]
              by_cases z2 : a < l1.length
              · rw [if_pos z2, if_pos z2]
                by_cases z3 : a < k
                · rw [if_pos z3, if_pos (by omega)]
                · rw [if_neg z3, if_neg (by omega)]
              · rw [if_neg z2, if_neg z2])
          have hb2 := hb.setCell (p := ⟨g, k, none⟩) z1 (.int .i64 (x - 1))
          have hq4 : (wr.setCell ⟨g, k, none⟩ (.int .i64 (x - 1))).cell? ⟨q, 0, none⟩ = some (.int .i64 o0) := (World.cell?_of_block (a := ⟨q, 0, none⟩) (heap_setCell_other _ _ _ _ (show q ≠ g from hqg))).trans hq3
          have HF := Lib.hid (And.intro hR (And.intro hb2 hq4))
          have hgq : ¬ g = q := fun e => hqg e.symm
          clear hR hb2 hq4 hr hx
          go_wp2
          go_roundg (l1.length - (k + 1))
          case measure => omega
          case rel => exact ⟨k + 1, by omega, rfl, by simp, HF.out.2.1, by simp [World.setCell]; exact hsz, HF.out.2.2, HF.out.1⟩
        · have hR := hr.congr (g := fun a => if a < l1.length then .int .i64 (if a < k + 1 then dec o0 (l1.getD a 0) else l1.getD a 0) else f' a) (fun a _ => by
            by_cases z2 : a < l1.length
            · rw [if_pos z2, if_pos z2]
              by_cases z3 : a < k
              · rw [if_pos z3, if_pos (by omega)]
              · rw [if_neg z3]
                by_cases z : a = k
                · subst z
                  rw [if_pos (by omega), hx]
                  unfold dec; rw [if_neg e2]
                · rw [if_neg (by omega)]
            · rw [if_neg z2, if_neg z2])
          have HF := Lib.hid hR
          clear hR hr hx
          go_wp2
          go_roundg (l1.length - (k + 1))
          case measure => omega
          case rel => exact ⟨k + 1, by omega, rfl, by simp, hb, hsz, hq3, HF.out⟩
      · obtain rfl : k = l1.length := by omega
        have HR := Lib.hid hr
        clear hr
        go_wp2
        go_ret
        refine ⟨_, rfl, ⟨.inr ⟨g, cap, N, _, by simp, z1, by omega, by simp; omega, HR.out, fun i hi => ?_⟩, by simp; omega⟩, hb⟩
        rw [List.length_map] at hi
        rw [if_pos hi, if_pos hi]
        simp [List.getD, hi]
end Go.Proofs.Ytnpolmanebmmcaa
