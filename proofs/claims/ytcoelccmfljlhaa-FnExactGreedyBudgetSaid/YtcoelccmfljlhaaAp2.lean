/- How many projects of a set each voter approves: the program's list. -/
import Derived.Test.YtcoelccmfljlhaaAp1
namespace Go.Proofs.Ytcoelccmfljlhaa
open Go.ChangeShapes Go.WideShapes Go.ChangeAt Go.RowKit Go.Deep
set_option linter.unusedSimpArgs false
set_option linter.unusedVariables false
theorem ElAt.set {w : World} {p : Nat} {m : Int} {c a : Value} (h : ElAt w p m c a) (x : Addr) (v : Value) (hx : x.block ≠ p) : ElAt (w.setCell x v) p m c a :=
  h.kept (Kept.set w x v (S := fun b => b = x.block) rfl) (fun b h1 h2 h3 => by omega)
/-- What voter j's count is behind k projects and m supporters of the next one. -/
def apv (A : List (List Int)) (t : List Int) (S : List Int) (k m j : Nat) : Int := (cnk (A.getD j []) t k : Int) + if (j : Int) ∈ S.take m then 1 else 0
theorem apv_zero (A : List (List Int)) (t S : List Int) (k j : Nat) : apv A t S k 0 j = (cnk (A.getD j []) t k : Int) := by simp [apv]
theorem apv_full (A : List (List Int)) (t : List Int) (k j : Nat) (hk : k < t.length) (hj : j < A.length) : apv A t (supL A (t.getD k 0)) k (supL A (t.getD k 0)).length j = (cnk (A.getD j []) t (k + 1) : Int) := by
  unfold apv
  rw [List.take_length, cnk_succ _ _ _ hk]
  have : (j : Int) ∈ supL A (t.getD k 0) ↔ t.getD k 0 ∈ A.getD j [] := by
    unfold supL
    rw [mem_selN]
    constructor
    · rintro ⟨i, h1, h2, h3⟩
      obtain rfl : j = i := by omega
      unfold appr at h2; exact of_decide_eq_true h2
    · intro h; exact ⟨j, hj, by unfold appr; exact decide_eq_true h, rfl⟩
  by_cases h : t.getD k 0 ∈ A.getD j []
  · rw [if_pos (this.2 h), if_pos h]; simp
  · rw [if_neg (fun q => h (this.1 q)), if_neg h]; simp
theorem apv_bd (A : List (List Int)) (t S : List Int) (k m j : Nat) : 0 ≤ apv A t S k m j ∧ apv A t S k m j ≤ (k : Int) + 1 := by
  unfold apv
  have := cnk_le (A.getD j []) t k
  split <;> omega
theorem apv_step {A : List (List Int)} {t S : List Int} {k m : Nat} (hm : m < S.length) {i : Nat} (hi : S.getD m 0 = (i : Int)) (hn : ¬ (i : Int) ∈ S.take m) (j : Nat) :
    apv A t S k (m + 1) j = if j = i then apv A t S k m i + 1 else apv A t S k m j := by
  unfold apv
  have h1 := mem_take_succ hm (j : Int)
  rw [hi] at h1
  by_cases e : j = i
  · subst e
    rw [if_pos rfl, if_pos (h1.2 (.inr rfl)), if_neg hn]; omega
  · rw [if_neg e]
    by_cases h : (j : Int) ∈ S.take m
    · rw [if_pos h, if_pos (h1.2 (.inl h))]
    · rw [if_neg h, if_neg (fun q => (h1.1 q).elim h (fun q => e (by omega)))]
set_option maxHeartbeats 2000000 in
set_option maxRecDepth 100000 in
theorem iapp (X : El) (c b hi : Nat) (t : List Int) (tv : Value) (w : World) (h : ElR w c b hi X) (ht : RowV w tv t) (htl : t.length ≤ 1048576) :
    Calls Try.prog 52 #[.agg #[.int .i64 X.1, .slice (some ⟨c, 0, none⟩) X.2.1.length X.2.1.length, .slice (some ⟨b, 0, none⟩) X.2.2.length X.2.2.length], tv] w fun e w' => (∃ v, e = .returned v ∧ OwI w' w.heap.size w'.heap.size v (apL X.2.2 t X.2.2.length)) ∧ Below w.heap.size w w' := by
  have hfa := h.fits.2.1.1
  have hmk := fun w => run_make_row' (P := Try.prog) 22 2 (.int .i64 0) 8 Try.underlying22 infoI rfl .i64 .i64 X.2.2.length (by omega) (by omega) w
  obtain ⟨W1, hW1⟩ : ∃ W1, W1 = w.alloc (.cells #[.int .i64 X.1, .slice (some ⟨c, 0, none⟩) X.2.1.length X.2.1.length, .slice (some ⟨b, 0, none⟩) X.2.2.length X.2.2.length] 28) := ⟨_, rfl⟩
  have b1 : Below w.heap.size w W1 := by rw [hW1]; exact (Below.refl w.heap.size w).alloc (Nat.le_refl _) _
  have he : ElAt W1 w.heap.size X.1 (.slice (some ⟨c, 0, none⟩) X.2.1.length X.2.1.length) (.slice (some ⟨b, 0, none⟩) X.2.2.length X.2.2.length) := by rw [hW1]; exact el_at w _ _ _
  have s1 : W1.heap.size = w.heap.size + 1 := by rw [hW1]; simp
  have b2 := (Below.refl W1.heap.size W1).alloc (Nat.le_refl _) (.cells (madeCells #[.int .i64 0] X.2.2.length) 2)
  have he2 := he.below b2
  have hbb := b1.trans (b2.mono b1.size)
  have hr0 : (W1.alloc (.cells (madeCells #[.int .i64 0] X.2.2.length) 2)).rowIs (w.heap.size + 1) 2 X.2.2.length (fun j => .int .i64 (cnk (X.2.2.getD j []) t 0 : Int)) := by
    rw [← s1]
    exact (World.rowIs_made W1 _ _ _).congr (fun j _ => by simp [cnk])
  have HU := fun (q : Int) w' (hw : Below w.heap.size w w') => isup X c b hi q w' (h.below hw)
  obtain ⟨M, C, A⟩ := X
  simp only at hfa hmk hW1 he2 hr0 HU ⊢
  rw [hW1] at he2 hr0 hbb
  have HR := Lib.hid hr0
  have HE := Lib.hid he2
  have B := Lib.hid hbb
  obtain ⟨ta, tc, rfl⟩ := ht.shape
  have HT := Lib.hid ht
  clear hW1 b1 he s1 b2 he2 hbb hr0 h ht
  go_enter Try.func52, Try.ntmps52
  go_wp2
  go_loopg [16] t.length (fun g i wr => ∃ k : Nat, k ≤ t.length ∧ g = t.length - k ∧ i = .int .i64 k ∧ Below w.heap.size w wr ∧ ElAt wr w.heap.size M (.slice (some ⟨c, 0, none⟩) C.length C.length) (.slice (some ⟨b, 0, none⟩) A.length A.length) ∧ wr.rowIs (w.heap.size + 1) 2 A.length (fun j => .int .i64 (cnk (A.getD j []) t k : Int)))
  case atStart => exact ⟨0, Nat.zero_le _, rfl, rfl, B.out, HE.out, HR.out⟩
  case round =>
    clear hmk HR HE B
    obtain ⟨k, hk, rfl, rfl, hb, hel, hro⟩ := hrel
    by_cases hlt : k < t.length
    · obtain ⟨x, cp, hx0, hx, hc⟩ := (HT.out.below hb).cons (by intro h; subst h; simp at hlt)
      obtain ⟨rfl, rfl⟩ : ta = some x ∧ tc = cp := by simpa [eq_comm] using hx0
      have c1 := hc k hlt
      obtain ⟨y, hy⟩ : ∃ y, t.getD k 0 = y := ⟨_, rfl⟩
      rw [hy] at c1
      have HY := Lib.hid hy
      have hel' := hel
      obtain ⟨p0, p1, p2, pl⟩ := hel'
      have HUU := HU y wr hb
      obtain ⟨S, hS⟩ : ∃ S, supL A y = S := ⟨_, rfl⟩
      rw [hS] at HUU
      have HS := Lib.hid hS
      clear hx0 hc hy hS
      go_wp2_with fail
      refine HUU.mono ?_
      rintro e w2 ⟨⟨v, rfl, hv⟩, hb2⟩
      have hel2 := hel.below hb2
      have hro2 := World.rowIs.of_block hro (hb2.block _ hro.lt)
      have hbw2 := hb.trans (hb2.mono hb.size)
      have hlo : w.heap.size + 1 < wr.heap.size := hro.lt
      obtain ⟨lo, hlo'⟩ : ∃ lo, wr.heap.size = lo := ⟨_, rfl⟩
      obtain ⟨hh, hhh⟩ : ∃ hh, w2.heap.size = hh := ⟨_, rfl⟩
      rw [hlo', hhh] at hv
      rw [hlo'] at hlo
      obtain ⟨sa, sc, rfl⟩ := hv.shape
      have hsl := hv.2
      have hro3 : w2.rowIs (w.heap.size + 1) 2 A.length (fun j => .int .i64 (apv A t S k 0 j)) := hro2.congr (fun j _ => by rw [apv_zero])
      clear hro hro2 hb2 hel p0 p1 p2 pl hb c1 hlo' hhh
      go_wp2
      go_loopg [24] S.length (fun g i wi => ∃ m : Nat, m ≤ S.length ∧ g = S.length - m ∧ i = .int .i64 m ∧ Below w.heap.size w wi ∧ ElAt wi w.heap.size M (.slice (some ⟨c, 0, none⟩) C.length C.length) (.slice (some ⟨b, 0, none⟩) A.length A.length) ∧ wi.rowIs (w.heap.size + 1) 2 A.length (fun j => .int .i64 (apv A t S k m j)) ∧ OwI wi lo hh (.slice sa S.length sc) S)
      case atStart => exact ⟨0, Nat.zero_le _, rfl, rfl, hbw2, hel2, hro3, hv⟩
      case round =>
        clear hbw2 hel2 hro3 hv
        obtain ⟨m, hm, rfl, rfl, hb, hel, hro, hv⟩ := hrel
        by_cases hml : m < S.length
        · obtain ⟨x', cp', hx0, hx', hc⟩ := (hv.rd.1).cons (by intro h; subst h; simp at hml)
          obtain ⟨rfl, rfl⟩ : sa = some x' ∧ sc = cp' := by simpa [eq_comm] using hx0
          have c1 := hc m hml
          obtain ⟨i, q1, q2, q3, q4⟩ : ∃ i : Nat, S.getD m 0 = (i : Int) ∧ i < A.length ∧ appr A y i = true ∧ ¬ (i : Int) ∈ S.take m := by
            have := HS.out
            subst this
            exact selN_at hml
          rw [q1] at c1
          have hst := fun j => apv_step (A := A) (t := t) (k := k) hml q1 q4 j
          have HST := Lib.hid hst
          have hcell := hro.cell (i := i) q2
          have hfr := hro.frozen i
          have hbd := apv_bd A t S k m i
          (try simp only at hcell)
          obtain ⟨z, hz⟩ : ∃ z, apv A t S k m i = z := ⟨_, rfl⟩
          rw [hz] at hcell hbd
          have HZ := Lib.hid hz
          have wz : IntKind.i64.wrap (z + 1) = z + 1 := by rw [IntKind.wrap_i64]; omega
          clear hx0 hc q1 q3 q4 hst hz
          go_wp2
          go_roundg (S.length - (m + 1))
          case measure => omega
          case rel =>
            refine ⟨m + 1, by omega, rfl, by simp, hb.setCell (by show _ ≤ _ + _; omega) _, hel.set _ _ (by show _ + _ ≠ _; omega), (hro.set i _).congr (fun j _ => ?_), hv.kept (Kept.set _ _ _ (S := fun b => b = w.heap.size + 1) rfl) (fun b h1 h2 h3 => by omega)⟩
            rw [HST.out j, HZ.out]
            by_cases e : j = i
            · rw [if_pos e, if_pos e]
            · rw [if_neg e, if_neg e]
        · have e : m = S.length := by omega
          subst e
          go_wp2
          go_roundg (t.length - (k + 1))
          case measure => omega
          case rel =>
            refine ⟨k + 1, by omega, rfl, by simp, hb, hel, hro.congr (fun j hj => ?_)⟩
            have := apv_full A t k j hlt hj
            rw [HY.out, HS.out] at this
            rw [this]
    · have e : k = t.length := by omega
      subst e
      go_wp2
      go_ret
      refine ⟨⟨_, rfl, ?_⟩, hb⟩
      have hl : (apL A t A.length).length = A.length := apL_len _ _ _
      refine ⟨.inr ⟨w.heap.size + 1, A.length, A.length, _, by rw [hl]; rfl, by omega, hro.lt, by rw [hl]; exact Nat.le_refl _, hro, fun i hi => ?_⟩, by rw [hl]; exact hfa⟩
      rw [hl] at hi
      have : (apL A t A.length).getD i 0 = (cnk (A.getD i []) t t.length : Int) := by unfold apL; simp [List.getD, hi]
      rw [this]
end Go.Proofs.Ytcoelccmfljlhaa
