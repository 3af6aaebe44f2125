/- slices.Concat of one number and a list of few; whom a member can trust. -/
import Derived.Test.YtkaakomiimcbmaaVo8
import Derived.Test.YtkaakomiimcbmaaShelfH
import Derived.Lib.SliceRun
namespace Go.Proofs.Ytkaakomiimcbmaa
open Go.ChangeShapes Go.WideShapes Go.ChangeAt Go.RowKit Go.Deep
set_option linter.unusedSimpArgs false
set_option linter.unusedVariables false
theorem info_px {P : Program} {t : TypeId} {z : Value} {s b : Nat} (h : (P.info? t).map (fun i => (i.zero, i.size, i.bytes)) = some (some z, s, b)) : ∃ i, P.info? t = some i ∧ i.zero = some z ∧ i.size = s ∧ i.bytes = b := by
  obtain ⟨i, hi, hzz⟩ := Option.map_eq_some_iff.1 h
  simp only [Prod.mk.injEq] at hzz
  exact ⟨i, hi, hzz.1, hzz.2.1, hzz.2.2⟩
theorem rowx_of_own {w : World} {base : Nat} {v : Value} {l : List Int} (h : w.ownsRow base 2 1 v l.length (l.map (Value.int .i64))) : RowV w v l := by
  obtain ⟨_, h⟩ := h
  rcases h with ⟨rfl, h0⟩ | ⟨g, cap, cur, rfl, hb, hg, hn, hcap, hs, ht⟩
  · exact .inl ⟨rfl, List.eq_nil_of_length_eq_zero h0⟩
  · refine .inr ⟨_, cap, rfl, fun _ => (Array.getElem?_eq_some_iff.1 hg).1, fun i hi => ?_⟩
    have h1 : (cur.toList.take (l.length * 1))[i]? = (l.map (Value.int .i64))[i]? := by rw [ht]
    rw [Nat.mul_one, List.getElem?_take_of_lt hi, Array.getElem?_toList] at h1
    have hr : w.rowIs g 2 cur.size (fun i => (cur[i]?).getD (.bool false)) := ⟨cur, hg, rfl, fun i hi => by simp [hi]⟩
    have hi' : i < cur.size := by
      have : (l.map (Value.int .i64))[i]? = some (.int .i64 (l.getD i 0)) := by simp [List.getD, hi]
      rw [this] at h1
      exact (Array.getElem?_eq_some_iff.1 h1).1
    rw [Addr.add_lit, Nat.zero_add, hr.cell hi']
    simp [h1, List.getD, hi]
theorem growx (n : Nat) (w : World) (hn : n ≤ 4000000) (h0 : 0 < n) : Calls Try.prog 54 #[.slice none 0 0, .int .i64 (n : Int)] w fun e w' => (∃ v, e = .returned v ∧ w'.ownsRow w.heap.size 2 1 v 0 (([] : List Int).map (Value.int .i64))) ∧ Below w.heap.size w w' := by
  obtain ⟨i0, hi, hz0, hz1, hz2⟩ := info_px infoI
  have h := Any8.slices_Grow_grow Try.laysGrowI i0 (.int .i64 0) hi hz0 (by rw [hz1]; omega) none 0 0 n [] w (Nat.le_refl _) (by omega) (by rw [hz2]; omega) (by omega) (by simp) (fun _ => rfl) (fun a ha => by cases ha)
  refine h.mono fun e w' ⟨he, hw⟩ => ⟨⟨_, he, ?_⟩, ?_⟩
  · rw [hw]
    have hG1 := grownCap_ge w (0 + n) 0 (Try.laysGrowI_ren.t 25)
    have hG2 := grownCap_le_maxLen w (0 + n) 0 (Try.laysGrowI_ren.t 25) (by unfold maxLen; omega)
    refine World.ownsRow_made w.drew _ _ (Nat.le_refl _) hG2 ?_
    simp only [Nat.zero_add] at hG1 ⊢
    have hz : (Value.int .i64 0).cells.size = 1 := rfl
    simp only [Array.size_append, size_zeroCells, hz]
    simp
    omega
  · rw [hw]
    exact (Below.refl _ _).drew.alloc (Nat.le_refl _) _
/-- The lists that are joined, and what has been joined of them. -/
def lsx (s : Int) (l : List Int) (k : Nat) : List Int := if k = 0 then [s] else l
def ctx (s : Int) (l : List Int) (k : Nat) : List Int := if k = 0 then [] else if k = 1 then [s] else s :: l
theorem ctx_step (s : Int) (l : List Int) {k : Nat} (h : k < 2) : ctx s l (k + 1) = ctx s l k ++ lsx s l k := by
  match k, h with
  | 0, _ => rfl
  | 1, _ => rfl
theorem lsx_len (s : Int) (l : List Int) (k : Nat) (h : l.length ≤ 1000000) : (lsx s l k).length ≤ 1000000 := by
  unfold lsx; split
  · simp
  · exact h
theorem ctx_len (s : Int) (l : List Int) (k : Nat) (h : l.length ≤ 1000000) : (ctx s l k).length ≤ 1000001 := by
  unfold ctx; split
  · simp
  · split
    · simp
    · simp; omega
theorem map_appx (l m : List Int) : (l ++ m).map (Value.int .i64) = l.map (Value.int .i64) ++ m.map (Value.int .i64) := by simp
set_option maxHeartbeats 2000000 in
set_option maxRecDepth 100000 in
theorem concatx (ba : Nat) (X : Nat → Addr) (ck : Nat → Nat) (s : Int) (l : List Int) (w : World) (hl : l.length ≤ 1000000) (hba : ba < w.heap.size) (hbk : ∀ k, k < 2 → 0 < (lsx s l k).length → (X k).block < w.heap.size) (hcell : ∀ k, k < 2 → w.cell? ⟨ba, k, none⟩ = some (.slice (some (X k)) (lsx s l k).length (ck k)))
    (hrow : ∀ k, k < 2 → ∀ j, j < (lsx s l k).length → w.cell? ((X k).add j) = some (.int .i64 ((lsx s l k).getD j 0))) :
    Calls Try.prog 53 #[.slice (some ⟨ba, 0, none⟩) 2 2] w fun e w' => (∃ v, e = .returned v ∧ RowV w' v (s :: l)) ∧ Below w.heap.size w w' := by
  obtain ⟨i0, hi, hz0, hz1, hz2⟩ := info_px infoI
  have HC := Lib.hid hcell
  have HR := Lib.hid hrow
  have HB := Lib.hid hbk
  have HL := Lib.hid hl
  clear hcell hrow hbk
  go_enter Try.func53, Try.ntmps53
  go_wp2
  go_loopg [3, 5, 11] 2 (fun g z _ i wr => ∃ k : Nat, k ≤ 2 ∧ g = 2 - k ∧ z = .int .i64 ((ctx s l k).length : Int) ∧ i = .int .i64 k ∧ w = wr)
  case atStart => exact ⟨0, by omega, rfl, rfl, rfl, rfl⟩
  case round =>
    obtain ⟨k, hk, rfl, rfl, rfl, rfl⟩ := hrel
    have hck := ctx_len s l k HL.out
    by_cases hlt : k < 2
    · have c1 := HC.out k hlt
      have hs : (ctx s l (k + 1)).length = (ctx s l k).length + (lsx s l k).length := by rw [ctx_step s l hlt, List.length_append]
      have hn := lsx_len s l k HL.out
      have HS := Lib.hid hs
      clear hs hl
      obtain ⟨n, hnn⟩ : ∃ n, (lsx s l k).length = n := ⟨_, rfl⟩
      obtain ⟨m, hmm⟩ : ∃ m, (ctx s l k).length = m := ⟨_, rfl⟩
      rw [hnn] at c1 hn HS
      rw [hmm] at hck HS
      simp only [hmm]
      clear hnn hmm
      go_wp2
      go_roundg (2 - (k + 1))
      case measure => omega
      case rel => exact ⟨k + 1, by omega, rfl, by rw [HS.out]; simp, by simp, rfl⟩
    · obtain rfl : k = 2 := by omega
      obtain ⟨m, hmm⟩ : ∃ m, l.length + 1 = m := ⟨_, rfl⟩
      have HG := growx m w (by omega) (by omega)
      have hl' : (ctx s l 2).length = m := by rw [← hmm]; rfl
      simp only [hl']
      have hm1 : m ≤ 1000001 := by omega
      have HM := Lib.hid hmm
      clear hl' hck hl hmm
      go_wp2_with fail
      refine HG.mono ?_
      rintro e w1 ⟨⟨v1, rfl, hown0⟩, hb1⟩
      have hO0 := Lib.hid hown0
      clear HG hown0
      go_wp2
      go_loopg [6, 8, 27] 2 (fun g v _ i wr => ∃ k : Nat, k ≤ 2 ∧ g = 2 - k ∧ i = .int .i64 k ∧ Hid (wr.ownsRow w.heap.size 2 1 v (ctx s l k).length ((ctx s l k).map (Value.int .i64))) ∧ Below w.heap.size w wr)
      case atStart => exact ⟨0, by omega, rfl, rfl, hO0, hb1⟩
      case round =>
        clear hb1
        obtain ⟨k, hk, rfl, rfl, HO, hb⟩ := hrel
        have hsx := hb.size
        have hck := ctx_len s l k HL.out
        by_cases hlt : k < 2
        · have c1 := (hb.cell (p := ⟨ba, k, none⟩) hba).trans (HC.out k hlt)
          have hnews : ∀ j u, ((lsx s l k).map (Value.int .i64))[j]? = some u → wr.cell? ((X k).add j) = some u := fun j u hu => by
            rw [List.getElem?_map] at hu
            obtain ⟨x, hx, rfl⟩ := Option.map_eq_some_iff.1 hu
            have hj : j < (lsx s l k).length := (List.getElem?_eq_some_iff.1 hx).1
            refine ((hb.cell (p := (X k).add j) (by rw [block_add]; exact HB.out k hlt (by omega))).trans (HR.out k hlt j hj)).trans ?_
            simp [List.getD, hx]
          have hstep := ctx_step s l hlt
          have hl1 := lsx_len s l k HL.out
          have HST := Lib.hid hstep
          obtain ⟨n, hnn⟩ : ∃ n, (lsx s l k).length = n := ⟨_, rfl⟩
          rw [hnn] at c1 hl1
          have HN := Lib.hid hnn
          have HNW := Lib.hid hnews
          obtain ⟨y, hy⟩ : ∃ y, X k = y := ⟨_, rfl⟩
          rw [hy] at c1 HNW
          have how := HO.out
          clear hstep hnn hnews hy
          go_wp2_with (first
            | (at_builtin; refine wpList_append_own _ rfl _ _ 22 rfl w.heap.size 2 i0 (.int .i64 0) 1 8 Try.underlying22 hi hz0 hz1 hz2 rfl (by decide) _ _ _ rfl how y n (ck k) ((lsx s l k).map (Value.int .i64)) rfl (by rw [List.length_map, HN.out, Nat.mul_one]) ?c1 ?c2 ?c3 ?c4 ?c5 ?_))
          case c1 => exact HNW.out
          case c2 => intro u hu; obtain ⟨x, -, rfl⟩ := List.mem_map.1 hu; rfl
          case c3 => unfold maxLen; omega
          case c4 => omega
          case c5 => exact hsx
          intro v' w3 hown3 hgrow _
          have hb3 := hb.grown hgrow hsx (fun x e => (how.lt x e).1)
          have HO3 : Hid (w3.ownsRow w.heap.size 2 1 v' (ctx s l (k + 1)).length ((ctx s l (k + 1)).map (Value.int .i64))) := by
            show w3.ownsRow w.heap.size 2 1 v' (ctx s l (k + 1)).length ((ctx s l (k + 1)).map (Value.int .i64))
            rw [HST.out, map_appx, List.length_append, HN.out]; exact hown3
          clear hown3 hgrow how
          go_wp2
          go_roundg (2 - (k + 1))
          case measure => omega
          case rel => exact ⟨k + 1, by omega, rfl, by simp, HO3, hb3⟩
        · obtain rfl : k = 2 := by omega
          have hb' := Lib.hid hb
          go_wp2
          go_ret
          exact ⟨⟨_, rfl, rowx_of_own (l := s :: l) HO.out⟩, hb'.out⟩
theorem allDiff_cons {n : Nat} {m : Int} {t : List Int} : allDiff n (m :: t) ↔ (0 ≤ m ∧ m < (n : Int)) ∧ ¬ m ∈ t ∧ allDiff n t := by
  constructor
  · intro h
    have h0 := h 0 (by simp)
    refine ⟨⟨h0.1, h0.2.1⟩, fun hm => ?_, fun j hj => ?_⟩
    · obtain ⟨j, hj, e⟩ := List.mem_iff_getElem.1 hm
      have := (h (j + 1) (by simp; omega)).2.2
      simp [List.getD, hj, e] at this
    · have := h (j + 1) (by simp; omega)
      simp only [List.getD_cons_succ, List.take_succ_cons, List.mem_cons, not_or] at this
      exact ⟨this.1, this.2.1, this.2.2.2⟩
  · rintro ⟨⟨h1, h2⟩, h3, h4⟩ j hj
    cases j with
    | zero => exact ⟨h1, h2, by simp⟩
    | succ j =>
      have hj' : j < t.length := by simpa using hj
      obtain ⟨a, b, c⟩ := h4 j hj'
      simp only [List.getD_cons_succ, List.take_succ_cons, List.mem_cons, not_or]
      refine ⟨a, b, fun e => h3 ?_, c⟩
      rw [← e]
      simp [List.getD, hj']
/-- Whether a member of n can trust those of l. -/
noncomputable def trB (n : Nat) (m : Int) (l : List Int) : Bool := decide (l.length ≤ 4) && allDiffB n (m :: l)
end Go.Proofs.Ytkaakomiimcbmaa
