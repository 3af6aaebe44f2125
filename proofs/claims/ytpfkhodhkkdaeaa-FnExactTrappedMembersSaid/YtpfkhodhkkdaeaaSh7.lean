/- KeptParts on both sides. -/
import Derived.Test.YtpfkhodhkkdaeaaSh6
import Derived.Deep.AppendLies
namespace Go.Proofs.Ytpfkhodhkkdaeaa
open Go.ChangeShapes Go.WideShapes Go.ChangeAt Go.RowKit Go.Deep
set_option linter.unusedSimpArgs false
set_option linter.unusedVariables false
/-- What each member keeps. -/
def keptL (L : List (List Sq)) : List Int := L.map fun t => 12 - sumP t t.length
theorem keptL_len (L : List (List Sq)) : (keptL L).length = L.length := by simp [keptL]
theorem keptL_at (L : List (List Sq)) {k : Nat} (h : k < L.length) : (keptL L).getD k 0 = 12 - sumP (L.getD k []) (L.getD k []).length := by simp [keptL, List.getD, h]
noncomputable def mKept (L : List (List Sq)) : List Int × Bool := if okSB L = true then (keptL L, true) else ([], false)
theorem take_snocI (l : List Int) (k : Nat) (x : Int) (hk : k < l.length) (hx : l.getD k 0 = x) : (l.take k).map (Value.int .i64) ++ [Value.int .i64 x] = (l.take (k + 1)).map (Value.int .i64) := by
  rw [List.take_add_one]
  simp [List.getD, hk] at hx
  simp [hk, hx]
theorem rowS_bd {n i : Nat} {t : List Sq} (h : rowS n i t) {m : Nat} (hm : m ≤ t.length) : 0 ≤ sumP t m ∧ sumP t m ≤ 12 := by
  have h1 := sumP_bd (k := m) (fun j hj => h.1 j (by omega)) hm
  refine ⟨h1.1, ?_⟩
  have key : ∀ d, m + d ≤ t.length → sumP t m ≤ sumP t (m + d) := by
    intro d
    induction d with
    | zero => intro _; exact Int.le_refl _
    | succ d ih =>
      intro hd
      have h2 := ih (by omega)
      have h3 := sumP_succ t (m + d) (by omega)
      have h4 := (h.1 (m + d) (by omega)).2.2.2.1
      have e : m + (d + 1) = m + d + 1 := by omega
      rw [e]
      omega
  have h5 := key (t.length - m) (by omega)
  have e : m + (t.length - m) = t.length := by omega
  rw [e] at h5
  have := h.2
  omega
set_option maxHeartbeats 1000000 in
set_option maxRecDepth 100000 in
theorem skept (L : List (List Sq)) (B b cap : Nat) (w : World) (h : SS w B b L) (hf : FitsS L) (hok : okS L) :
    Calls Try.prog 69 #[.slice (some ⟨b, 0, none⟩) L.length cap] w fun e w' => (∃ v, e = .returned v ∧ w'.ownsRow w.heap.size 2 1 v L.length ((keptL L).map (Value.int .i64))) ∧ Below w.heap.size w w' := by
  obtain ⟨i0, hi, hz0, hz1, hz2⟩ := info_parts infoI
  obtain ⟨hf1, hf2⟩ := hf
  have n1 := hok.2.1
  have HOK := Lib.hid hok
  clear hok
  have hown0 : (w.alloc (.cells #[] 2)).ownsRow w.heap.size 2 1 (.slice (some ⟨w.heap.size, 0, none⟩) 0 0) 0 (((keptL L).take 0).map (Value.int .i64)) := World.ownsRow_lit w #[] 0 (Nat.le_refl _) (by unfold maxLen; omega) rfl
  have hb0 : Below w.heap.size w (w.alloc (.cells #[] 2)) := (Below.refl _ _).alloc (Nat.le_refl _) _
  go_enter Try.func69, Try.ntmps69
  go_wp2
  go_loopg [3, 4] L.length (fun g v i wr => ∃ k : Nat, k ≤ L.length ∧ g = L.length - k ∧ i = .int .i64 k ∧ wr.ownsRow w.heap.size 2 1 v k (((keptL L).take k).map (Value.int .i64)) ∧ Below w.heap.size w wr)
  case atStart => exact ⟨0, Nat.zero_le _, rfl, rfl, hown0, hb0⟩
  case round =>
    clear hown0 hb0
    obtain ⟨k, hk, rfl, rfl, hown, hb⟩ := hrel
    by_cases hlt : k < L.length
    · obtain ⟨c, a2, a3⟩ := (h.below hb).at hlt
      have hlen := hf2 k hlt
      have hrow := HOK.out.2.2 k hlt
      have hkl := keptL_at L hlt
      obtain ⟨t, hq⟩ : ∃ q, L.getD k [] = q := ⟨_, rfl⟩
      rw [hq] at a2 a3 hlen hrow hkl
      have HT := Lib.hid (take_snocI (keptL L) k _ (by rw [keptL_len]; exact hlt) hkl)
      have HR := Lib.hid hrow
      clear hq hrow hkl
      go_wp2
      go_loopg [5, 6] t.length (fun g s j wi => ∃ m : Nat, m ≤ t.length ∧ g = t.length - m ∧ s = .int .i64 (12 - sumP t m) ∧ j = .int .i64 m ∧ wr = wi)
      case atStart => exact ⟨0, Nat.zero_le _, rfl, by simp [sumP], rfl, rfl⟩
      case round =>
        obtain ⟨m, hm, rfl, rfl, rfl, rfl⟩ := hrel
        by_cases hml : m < t.length
        · obtain ⟨c1, c2⟩ := Shs.at a3 hml
          have hsum := sumP_succ t m hml
          have bd := rowS_bd HR.out (m := m) (by omega)
          have bd' := rowS_bd HR.out (m := m + 1) (by omega)
          obtain ⟨⟨y, p⟩, hy⟩ : ∃ y, t.getD m (0, 0) = y := ⟨_, rfl⟩
          rw [hy] at c1 c2 hsum
          simp only at c1 c2 hsum
          obtain ⟨bd1, bd2⟩ := bd
          obtain ⟨bd3, bd4⟩ := bd'
          have hp1 : sumP t m + p ≤ 12 := by omega
          have hp2 : 0 ≤ sumP t m + p := by omega
          have HS := Lib.hid hsum
          clear hy hsum bd3 bd4
          generalize sumP t m = sg at bd1 bd2 hp1 hp2 HS ⊢
          go_wp2
          go_roundg (t.length - (m + 1))
          case measure => omega
          case rel => exact ⟨m + 1, by omega, rfl, by rw [HS.out]; congr 1; omega, by simp, rfl⟩
        · have e : m = t.length := by omega
          subst e
          have hkm : k ≤ 6 := by omega
          go_wp2_with (first
            | (at_builtin; refine wpList_append_own _ rfl _ _ 29 rfl w.heap.size 2 i0 (.int .i64 0) 1 8 Try.underlying29 hi hz0 hz1 hz2 rfl (by decide) _ _ _ rfl (hown.alloc _) ⟨wr.heap.size, 0, none⟩ 1 1 [.int .i64 (12 - sumP t t.length)] rfl rfl ?c1 ?c2 ?c3 ?c4 ?c5 ?_))
          case c1 => exact World.news_of_block (cs := #[.int .i64 (12 - sumP t t.length)]) (t := 2) (fr := (0, 0)) (heap_alloc_new wr _)
          case c2 => simp [Value.oneCell']
          case c3 => unfold maxLen; omega
          case c4 => omega
          case c5 => have := hb.size; simp; omega
          intro v' w1 hown1 hgrow _
          first | rw [HT.out] at hown1 | rw [← List.map_take, HT.out] at hown1
          have hb1 := (hb.alloc hb.size _).grown hgrow (by have := hb.size; simp; omega) (fun x e => (hown.lt x e).1)
          clear hgrow
          go_wp2
          go_roundg (L.length - (k + 1))
          case measure => omega
          case rel => exact ⟨k + 1, by omega, rfl, by simp, hown1, hb1⟩
    · have e : k = L.length := by omega
      subst e
      go_wp2
      go_ret
      have e1 : (keptL L).take L.length = keptL L := List.take_of_length_le (by rw [keptL_len]; exact Nat.le_refl _)
      rw [e1] at hown
      exact ⟨⟨_, rfl, hown⟩, hb⟩
/-- Cell j of the row of what members keep, when m shares of member k have been taken off. -/
def kf (L : List (List Sq)) (k : Nat) (x : Int) : Nat → Value := fun j => if j < k then .int .i64 ((keptL L).getD j 0) else if j = k then .int .i64 x else .int .i64 0
theorem kf_at (L : List (List Sq)) (k : Nat) (x : Int) : kf L k x k = .int .i64 x := by simp [kf]
set_option maxHeartbeats 1000000 in
set_option maxRecDepth 100000 in
theorem ikept (L : List (List Sq)) (B b cap : Nat) (w : World) (h : SS w B b L) (hf : FitsS L) (hok : okS L) :
    Calls Try.prog 70 #[.slice (some ⟨b, 0, none⟩) L.length cap] w fun e w' => e = .returned (.slice (some ⟨w.heap.size, 0, none⟩) L.length L.length) ∧ w'.rowIs w.heap.size 2 L.length (fun j => .int .i64 ((keptL L).getD j 0)) ∧ Below w.heap.size w w' := by
  have hmk := run_make_row' (P := Try.prog) 29 2 (.int .i64 0) 8 Try.underlying29 infoI rfl .i64 .i64 L.length (by have := hf.1; omega) (by have := hf.1; omega)
  obtain ⟨hf1, hf2⟩ := hf
  have n1 := hok.2.1
  have HOK := Lib.hid hok
  clear hok
  have lb := h.lt
  go_enter Try.func70, Try.ntmps70
  go_wp2
  go_loopg [13] L.length (fun g i wr => ∃ k : Nat, k ≤ L.length ∧ g = L.length - k ∧ i = .int .i64 k ∧ wr.rowIs w.heap.size 2 L.length (fillI (keptL L) k) ∧ Below w.heap.size w wr)
  case atStart => exact ⟨0, Nat.zero_le _, rfl, rfl, (World.rowIs_made w _ _ _).congr (fun j _ => by simp [fillI]), (Below.refl _ _).alloc (Nat.le_refl _) _⟩
  case round =>
    clear hmk
    obtain ⟨k, hk, rfl, rfl, hr, hb⟩ := hrel
    by_cases hlt : k < L.length
    · obtain ⟨c, a2, a3⟩ := (h.below hb).at hlt
      have a4 := h.at hlt
      have hlen := hf2 k hlt
      have hrow := HOK.out.2.2 k hlt
      have hkl := keptL_at L hlt
      obtain ⟨c', a5, a6⟩ := a4
      obtain rfl : c = c' := by
        have := (hb.cell (p := ⟨b, k, none⟩) lb).symm.trans a2
        rw [a5] at this
        simpa using this.symm
      have lc : c < w.heap.size := World.rowIs.lt a6
      obtain ⟨t, hq⟩ : ∃ q, L.getD k [] = q := ⟨_, rfl⟩
      rw [hq] at a2 a3 a6 hlen hrow hkl
      have HR := Lib.hid hrow
      have HKL := Lib.hid hkl
      clear hq hrow hkl a5 a3
      have c0 : wr.cell? ⟨w.heap.size, k, none⟩ = some (fillI (keptL L) k k) := hr.cell hlt
      have f0 : wr.frozen? ⟨w.heap.size, k, none⟩ = false := hr.frozen k
      go_wp2
      go_loopg [23] t.length (fun g j wi => ∃ m : Nat, m ≤ t.length ∧ g = t.length - m ∧ j = .int .i64 m ∧ wi.rowIs w.heap.size 2 L.length (kf L k (12 - sumP t m)) ∧ Below w.heap.size w wi)
      case atStart =>
        refine ⟨0, Nat.zero_le _, rfl, rfl, (hr.set k _).congr (fun j hj => ?_), hb.setCell (Nat.le_refl _) _⟩
        unfold kf fillI
        by_cases e : j = k
        · subst e; simp [sumP]
        · rw [if_neg e, if_neg e]
      case round =>
        clear a2 c0 f0 hr
        obtain ⟨m, hm, rfl, rfl, hri, hbi⟩ := hrel
        by_cases hml : m < t.length
        · obtain ⟨c1, c2⟩ := Shs.at (Shs.below a6 hbi) hml
          have hsum := sumP_succ t m hml
          have bd := rowS_bd HR.out (m := m) (by omega)
          have bd' := rowS_bd HR.out (m := m + 1) (by omega)
          obtain ⟨⟨y, p⟩, hy⟩ : ∃ y, t.getD m (0, 0) = y := ⟨_, rfl⟩
          rw [hy] at c1 c2 hsum
          simp only at c1 c2 hsum
          obtain ⟨bd1, bd2⟩ := bd
          obtain ⟨bd3, bd4⟩ := bd'
          have hp1 : sumP t m + p ≤ 12 := by omega
          have hp2 : 0 ≤ sumP t m + p := by omega
          have c3 := hri.cell hlt
          rw [kf_at] at c3
          have f3 := hri.frozen k
          have lw := hri.lt
          have HS := Lib.hid hsum
          clear hy hsum bd3 bd4
          generalize sumP t m = sg at bd1 bd2 hp1 hp2 HS c3 ⊢
          go_wp2
          go_region
          all_goals go_wp2
          all_goals go_roundg (t.length - (m + 1))
          case measure => omega
          case rel =>
            refine ⟨m + 1, by omega, rfl, by simp, (((hri.set k _).alloc _).drew).congr (fun j hj => ?_), ((hbi.setCell (Nat.le_refl _) _).alloc (by have := hbi.size; simp [World.setCell]; omega) _).drew⟩
            unfold kf
            by_cases e : j = k
            · subst e; simp; rw [HS.out]; omega
            · rw [if_neg e]
              by_cases hjk : j < k
              · rw [if_pos hjk, if_pos hjk]
              · rw [if_neg hjk, if_neg hjk, if_neg e, if_neg e]
        · have e : m = t.length := by omega
          subst e
          go_wp2
          go_roundg (L.length - (k + 1))
          case measure => omega
          case rel =>
            refine ⟨k + 1, by omega, rfl, by simp, hri.congr (fun j hj => ?_), hbi⟩
            unfold kf fillI
            by_cases e : j = k
            · subst e; simp; rw [← HKL.out]; simp [List.getD]
            · by_cases hjk : j < k
              · rw [if_pos hjk, if_pos (by omega)]
              · rw [if_neg hjk, if_neg e, if_neg (by omega)]
    · have e : k = L.length := by omega
      subst e
      go_wp2
      go_ret
      exact ⟨rfl, hr.congr fun j hj => by simp [fillI, hj], hb⟩
theorem mKept_yes {L : List (List Sq)} (h : okSB L = true) : mKept L = (keptL L, true) := by unfold mKept; rw [if_pos h]
theorem mKept_no {L : List (List Sq)} (h : okSB L = false) : mKept L = ([], false) := by unfold mKept; rw [if_neg (by rw [h]; decide)]
theorem sKeptParts (L : List (List Sq)) (w : World) (lo hi : Nat) (u : Value) (h : CpS w lo hi u L) : Calls Try.prog 39 #[u] w (PIb (mKept L) w) := by
  obtain ⟨rfl, h1, -, hf⟩ := h
  have HV := sis_any L lo lo L.length w h1 hf
  cases hz : okSB L with
  | false =>
    rw [mKept_no hz]
    rw [hz] at HV
    clear hz
    go_enter Try.func39, Try.ntmps39
    go_wp2_with fail
    refine HV.mono ?_
    rintro e w1 ⟨rfl, hb1⟩
    go_wp2
    go_ret2
    exact ⟨_, rfl, RdI.nil _ _ _, hb1⟩
  | true =>
    rw [mKept_yes hz]
    rw [hz] at HV
    have HK := fun w' (hw : Below w.heap.size w w') => skept L lo lo L.length w' (h1.below hw) hf (okSB_of hz)
    clear hz
    have hl : (keptL L).length ≤ 1048576 := by rw [keptL_len]; exact hf.1
    have HL := Lib.hid (keptL_len L)
    go_enter Try.func39, Try.ntmps39
    go_wp2_with fail
    refine HV.mono ?_
    rintro e w1 ⟨rfl, hb1⟩
    go_wp2_with fail
    refine (HK _ hb1).mono ?_
    rintro e w2 ⟨⟨v, rfl, hv⟩, hb2⟩
    have s1 := hb1.size
    go_wp2
    go_ret2
    refine ⟨_, rfl, ?_, hb1.trans (hb2.mono s1)⟩
    rw [← HL.out] at hv
    exact (ow_of_own hv (Nat.le_refl _) hl).rd.mono s1 (Nat.le_refl _)
theorem iKeptParts (L : List (List Sq)) (w : World) (lo hi : Nat) (u : Value) (h : CpS w lo hi u L) : Calls Try.prog 40 #[u] w (QIb (mKept L) w) := by
  obtain ⟨rfl, h1, -, hf⟩ := h
  have HV := iis_any L lo lo L.length w h1 hf
  cases hz : okSB L with
  | false =>
    rw [mKept_no hz]
    rw [hz] at HV
    clear hz
    go_enter Try.func40, Try.ntmps40
    go_wp2_with fail
    refine HV.mono ?_
    rintro e w1 ⟨rfl, hb1⟩
    go_wp2
    go_ret2
    exact ⟨_, rfl, OwI.nil _ _ _, hb1⟩
  | true =>
    rw [mKept_yes hz]
    rw [hz] at HV
    have HK := fun w' (hw : Below w.heap.size w w') => ikept L lo lo L.length w' (h1.below hw) hf (okSB_of hz)
    clear hz
    have hl : (keptL L).length ≤ 1048576 := by rw [keptL_len]; exact hf.1
    have HL := Lib.hid (keptL_len L)
    go_enter Try.func40, Try.ntmps40
    go_wp2_with fail
    refine HV.mono ?_
    rintro e w1 ⟨rfl, hb1⟩
    go_wp2_with fail
    refine (HK _ hb1).mono ?_
    rintro e w2 ⟨rfl, hv, hb2⟩
    have s1 := hb1.size
    have s2 := hv.lt
    go_wp2
    go_ret2
    refine ⟨_, rfl, ?_, hb1.trans (hb2.mono s1)⟩
    have ho : OwnI w2 w1.heap.size (keptL L) := by unfold OwnI; rw [HL.out]; exact hv
    have q := ho.ow L.length w.heap.size w2.heap.size s1 s2 hl
    rw [HL.out] at q
    exact q
end Go.Proofs.Ytpfkhodhkkdaeaa
