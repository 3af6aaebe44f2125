/- Several of this claim's texts in one: In3, St1, St2, K10, K11, Ds1, Ds2, Ap1, Ap2, Ap3. -/
import Derived.Test.YtkaakomiimcbmaaDoorIn2
import Derived.Test.YtkaakomiimcbmaaDoorK7
import Derived.Test.YtkaakomiimcbmaaDoorK9
import Derived.Deep.RegionHeld3
import Derived.Test.YtkaakomiimcbmaaDoorCma
/- The inverse of a patch: the program's; both answers. -/
namespace Go.Proofs.YtkaakomiimcbmaaDoor
open Go.ChangeShapes Go.WideShapes Go.ChangeAt Go.RowKit Go.Deep
set_option linter.unusedSimpArgs false
set_option linter.unusedVariables false
noncomputable def mInv (L : List Ed) : List Ed × Bool := if patB L then (invs L, true) else ([], false)
end Go.Proofs.YtkaakomiimcbmaaDoor
/- Statutes: whether a list of articles is one: the specification's look. -/
namespace Go.Proofs.YtkaakomiimcbmaaDoor
open Go.ChangeShapes Go.WideShapes Go.ChangeAt Go.RowKit Go.Deep
set_option linter.unusedSimpArgs false
set_option linter.unusedVariables false
def sta1 (L : List Ar) (k : Nat) : Prop := (1 ≤ (L.getD k a0).1 ∧ (L.getD k a0).1 ≤ 99) ∧ senF (L.getD k a0).2 ∧ (0 < k → (L.getD (k - 1) a0).1 < (L.getD k a0).1)
def staF (L : List Ar) : Prop := L.length ≤ 8 ∧ ∀ k, k < L.length → sta1 L k
noncomputable def staB (L : List Ar) : Bool := @decide (staF L) (Classical.propDecidable _)
theorem staB_iff {L : List Ar} : staB L = true ↔ staF L := by simp [staB]
theorem staB_yes {L : List Ar} (h : staF L) : staB L = true := by simp [staB, h]
theorem staB_no {L : List Ar} (h : ¬ staF L) : staB L = false := by simp [staB, h]
set_option maxHeartbeats 4000000 in
set_option maxRecDepth 100000 in
theorem sstat (L : List Ar) (b cap : Nat) (w : World) (h : As w b L) (hf : FitsA L) :
    Calls Tryd.prog 60 #[.slice (some ⟨b, 0, none⟩) L.length cap] w fun e w' => e = .returned (.bool (staB L)) ∧ Drw w w' := by
  obtain ⟨hf1, hf2⟩ := hf
  have HF := Lib.hid hf2
  have HX := Lib.hid h
  clear h hf2
  go_enter Tryd.func60, Tryd.ntmps60
  go_wp2
  go_loopg [3] L.length (fun g i wr => ∃ k : Nat, k ≤ L.length ∧ g = L.length - k ∧ i = .int .i64 k ∧ Drw w wr ∧ Hid (∀ j, j < k → sta1 L j))
  case atStart => exact ⟨0, Nat.zero_le _, rfl, rfl, Drw.refl _, fun j hj => absurd hj (Nat.not_lt_zero _)⟩
  case round =>
    obtain ⟨k, hk, rfl, rfl, hd, H⟩ := hrel
    have hb := hd.below
    by_cases hlt : k < L.length
    · have ha := (HX.out.below hb).at hlt
      have l1 := HF.out k hlt
      have hno : ¬ sta1 L k → staB L = false := fun hn => staB_no (fun ho => hn (ho.2 k hlt))
      have HN := Lib.hid hno
      obtain ⟨q, hq⟩ : ∃ q, L.getD k a0 = q := ⟨_, rfl⟩
      rw [hq] at ha l1
      obtain ⟨y, t⟩ := q
      have HQ := Lib.hid hq
      obtain ⟨a1, a2⟩ := ha
      simp only at a1 a2 l1
      obtain ⟨z, hz⟩ : ∃ z, senB t = z := ⟨_, rfl⟩
      have HS2 := fun n => ssenN t wr n z (by omega) hz
      have HZ := Lib.hid hz
      clear hno hq hz
      by_cases hin : 1 ≤ y ∧ y ≤ 99
      · have i2 := inB_yes hin.1 hin.2
        have HIN := Lib.hid hin
        cases z with
        | false =>
          go_wp2_with fail
          go_quiet ((first | (go_at_call 46; exact quiet_left (in_val _ _ _ _)) | (go_at_call 72; exact quiet_left (HS2 _))))
          go_wp2
          go_ret
          refine ⟨?_, hd.drewN _⟩
          rw [HN.out (fun ho => by have h2 := senB_yes ho.2.1; simp only [HQ.out, HZ.out] at h2; cases h2)]; rfl
        | true =>
          by_cases hk0 : k = 0
          · have hk1 : ¬ 0 < k := by omega
            clear hk0
            go_wp2_with fail
            go_quiet ((first | (go_at_call 46; exact quiet_left (in_val _ _ _ _)) | (go_at_call 72; exact quiet_left (HS2 _))))
            go_wp2
            go_roundg (L.length - (k + 1))
            case measure => omega
            case rel =>
              refine ⟨k + 1, by omega, rfl, by simp, hd.drewN _, fun j hj => ?_⟩
              by_cases ej : j = k
              · subst ej
                unfold sta1
                rw [HQ.out]
                exact ⟨HIN.out, senB_iff.1 HZ.out, fun h => absurd h hk1⟩
              · exact H.out j (by omega)
          · obtain ⟨k', hkk'⟩ : ∃ k', k = k' + 1 := ⟨k - 1, by omega⟩
            have c2 := ((HX.out.below hb).at (k := k') (by omega)).1
            obtain ⟨y', hy'⟩ : ∃ y, (L.getD k' a0).1 = y := ⟨_, rfl⟩
            rw [hy'] at c2
            have HY2 := Lib.hid hy'
            have hlk : k' < L.length := by omega
            have wk1 : IntKind.i64.wrap ((k : Int) - 1) = k' := by rw [IntKind.wrap_i64]; omega
            have wk2 : (k : Int) - 1 = k' := by omega
            have wk3 : IntKind.i64.wrap (k' : Int) = k' := by rw [IntKind.wrap_i64]; omega
            have hpk : 0 < k := by omega
            have HKK := Lib.hid hkk'
            clear hy' hk0 hkk'
            by_cases hle : y ≤ y'
            · have HLE := Lib.hid hle
              go_wp2_with fail
              go_quiet ((first | (go_at_call 46; exact quiet_left (in_val _ _ _ _)) | (go_at_call 72; exact quiet_left (HS2 _))))
              go_wp2
              go_ret
              refine ⟨?_, hd.drewN _⟩
              rw [HN.out (fun ho => by
                have h3 := ho.2.2 hpk
                have e1 : k - 1 = k' := by have := HKK.out; omega
                rw [e1, HQ.out, HY2.out] at h3
                have := HLE.out
                simp only at h3
                omega)]; rfl
            · have HLE := Lib.hid hle
              go_wp2_with fail
              go_quiet ((first | (go_at_call 46; exact quiet_left (in_val _ _ _ _)) | (go_at_call 72; exact quiet_left (HS2 _))))
              go_wp2
              go_roundg (L.length - (k + 1))
              case measure => omega
              case rel =>
                refine ⟨k + 1, by omega, rfl, by simp, hd.drewN _, fun j hj => ?_⟩
                by_cases ej : j = k
                · subst ej
                  unfold sta1
                  have e1 : j - 1 = k' := by have := HKK.out; omega
                  rw [e1, HQ.out, HY2.out]
                  exact ⟨HIN.out, senB_iff.1 HZ.out, fun _ => by have := HLE.out; show y' < y; omega⟩
                · exact H.out j (by omega)
      · have i2 := inB_no hin
        have HIN := Lib.hid hin
        clear hin HS2
        go_wp2_with fail
        go_quiet ((first | (go_at_call 46; exact quiet_left (in_val _ _ _ _))))
        go_wp2
        go_ret
        refine ⟨?_, hd.drewN _⟩
        rw [HN.out (fun ho => HIN.out (by have := ho.1; rw [HQ.out] at this; exact this))]; rfl
    · obtain rfl : k = L.length := by omega
      by_cases h8 : L.length ≤ 8
      · have HYY := Lib.hid (staB_yes (L := L) ⟨h8, H.out⟩)
        go_wp2
        go_ret
        refine ⟨?_, hd⟩
        rw [HYY.out]
        exact ret_bool (by simp; omega)
      · have HNN := Lib.hid (staB_no (L := L) (fun h => h8 h.1))
        go_wp2
        go_ret
        refine ⟨?_, hd⟩
        rw [HNN.out]
        exact ret_bool (by simp; omega)
/-- The edits that make a statute of an empty one. -/
def adds (L : List Ar) : List Ed := L.map fun a => (1, a.1, ⟨#[]⟩, a.2)
theorem adds_len (L : List Ar) : (adds L).length = L.length := by simp [adds]
theorem adds_get (L : List Ar) {k : Nat} (hk : k < L.length) : (adds L).getD k e0 = (1, (L.getD k a0).1, ⟨#[]⟩, (L.getD k a0).2) := by
  simp [adds, List.getD, hk]
theorem edF_add (i : Int) (t : ByteArray) : edF (1, i, ⟨#[]⟩, t) ↔ senF t := by
  unfold edF
  simp only
  constructor
  · rintro (h | h | h)
    · exact h.2.2
    · exact absurd h.1 (by omega)
    · exact absurd h.1 (by omega)
  · intro h
    exact .inl (by simpa using h)
theorem pat_adds (L : List Ar) {k : Nat} (hk : k < L.length) : pat1 (adds L) k ↔ sta1 L k := by
  unfold pat1 sta1
  rw [adds_get L hk]
  by_cases h0 : 0 < k
  · rw [adds_get L (k := k - 1) (by omega)]
    simp only [edF_add]
  · simp only [edF_add]
    constructor
    · rintro ⟨h1, h2, h3⟩; exact ⟨h1, h2, fun h => absurd h h0⟩
    · rintro ⟨h1, h2, h3⟩; exact ⟨h1, h2, fun h => absurd h h0⟩
theorem sta_adds (L : List Ar) : staF L ↔ L.length ≤ 8 ∧ patF (adds L) := by
  unfold staF patF
  rw [adds_len]
  constructor
  · rintro ⟨h1, h2⟩
    exact ⟨h1, by omega, fun k hk => (pat_adds L hk).2 (h2 k hk)⟩
  · rintro ⟨h1, h2, h3⟩
    exact ⟨h1, fun k hk => (pat_adds L hk).1 (h3 k hk)⟩
end Go.Proofs.YtkaakomiimcbmaaDoor
/- Statutes: the edits that make one of an empty one; whether a list of articles is one: the program's look. -/
namespace Go.Proofs.YtkaakomiimcbmaaDoor
open Go.ChangeShapes Go.WideShapes Go.ChangeAt Go.RowKit Go.Deep
set_option linter.unusedSimpArgs false
set_option linter.unusedVariables false
set_option maxHeartbeats 4000000 in
set_option maxRecDepth 100000 in
theorem iaddx (L : List Ar) (a : Option Addr) (cap : Nat) (w : World) (h : Ax w a L) (hn : L.length ≤ 1048576) :
    Calls Tryd.prog 70 #[.slice a L.length cap] w fun e w' => e = .returned (.slice (some ⟨w.heap.size, 0, none⟩) L.length L.length) ∧ Es w' w.heap.size (adds L) ∧ Below w.heap.size w w' := by
  have hmk := run_make4 (P := Tryd.prog) 49 93 _ _ _ _ 48 Tryd.underlying49 infoE rfl .i64 .i64 L.length (by omega) (by omega)
  have HX := Lib.hid h
  have HE : Hid (∀ (i : Int) (c : ByteArray) w', Calls Tryd.prog 77 #[.int .i64 i, .string ⟨#[]⟩, .string c] w' fun e w'' => e = .returned (.agg #[.int .i64 1, .int .i64 i, .string ⟨#[]⟩, .string c]) ∧ Below w'.heap.size w' w'') := fun i c w' => by
    have := iefrom i ⟨#[]⟩ c w'
    rwa [kindE_1] at this
  clear h
  go_enter Tryd.func70, Tryd.ntmps70
  go_wp2
  go_loopg [4, 5, 11] L.length (fun g _ _ i wr => ∃ k : Nat, k ≤ L.length ∧ g = L.length - k ∧ i = .int .i64 k ∧ Below w.heap.size w wr ∧ w.heap.size < wr.heap.size ∧ wr.rowIs w.heap.size 93 (L.length * 4) (ef (adds L) k))
  case atStart => exact ⟨0, Nat.zero_le _, rfl, rfl, (Below.refl _ _).alloc (Nat.le_refl _) _, by simp, (rowIs_made4 _ _ _ _ _ _ _).congr (fun j _ => by simp [ef])⟩
  case round =>
    obtain ⟨k, hk, rfl, rfl, hb, hsz, hC⟩ := hrel
    clear hmk
    by_cases hlt : k < L.length
    · obtain ⟨b, rfl, lb, hat⟩ := (HX.out.below hb) (by omega)
      have ha := hat k hlt
      clear hat
      have hga := adds_get L hlt
      obtain ⟨q, hq⟩ : ∃ q, L.getD k a0 = q := ⟨_, rfl⟩
      rw [hq] at ha hga
      obtain ⟨n, t⟩ := q
      obtain ⟨a1, a2⟩ := ha
      simp only at a1 a2 hga
      have s1 : wr.cell? ⟨w.heap.size, k * 4, none⟩ = some (ef (adds L) k (k * 4)) := hC.cell (by omega)
      have s2 : wr.cell? ⟨w.heap.size, k * 4 + 1, none⟩ = some (ef (adds L) k (k * 4 + 1)) := hC.cell (by omega)
      have s3 : wr.cell? ⟨w.heap.size, k * 4 + 2, none⟩ = some (ef (adds L) k (k * 4 + 2)) := hC.cell (by omega)
      have s4 : wr.cell? ⟨w.heap.size, k * 4 + 3, none⟩ = some (ef (adds L) k (k * 4 + 3)) := hC.cell (by omega)
      have f1 : wr.frozen? ⟨w.heap.size, k * 4, none⟩ = false := hC.frozen _
      have f2 : wr.frozen? ⟨w.heap.size, k * 4 + 1, none⟩ = false := hC.frozen _
      have f3 : wr.frozen? ⟨w.heap.size, k * 4 + 2, none⟩ = false := hC.frozen _
      have f4 : wr.frozen? ⟨w.heap.size, k * 4 + 3, none⟩ = false := hC.frozen _
      have HG := Lib.hid hga
      have ba := (Below.refl wr.heap.size wr).alloc (Nat.le_refl _) (.cells #[.int .i64 n, .string t] 72)
      have BA := Lib.hid ba
      clear hq hga ba
      go_wp2_with fail
      refine (HE.out n t _).mono ?_
      rintro e w1 ⟨rfl, hb1'⟩
      have hb1 := BA.out.trans (hb1'.mono BA.out.size)
      obtain ⟨hc1, hf1⟩ := bcell hb1
      rw [← hc1 _ _ hsz] at s1 s2 s3 s4
      rw [← hf1 _ _ hsz] at f1 f2 f3 f4
      clear hc1 hf1 a1 a2 hb1'
      go_wp2
      go_roundg (L.length - (k + 1))
      case measure => omega
      case rel =>
        refine ⟨k + 1, by omega, rfl, by simp, ((((hb.trans (hb1.mono (by omega))).setCell (Nat.le_refl _) _).setCell (Nat.le_refl _) _).setCell (Nat.le_refl _) _).setCell (Nat.le_refl _) _, by have := hb1.size; simp [World.setCell]; omega, ?_⟩
        refine (((((hC.of_block (hb1.block _ hsz)).set (k * 4) _).set (k * 4 + 1) _).set (k * 4 + 2) _).set (k * 4 + 3) _).congr (fun j _ => ?_)
        rw [← ef_step (adds L) k j, HG.out]
    · have e : k = L.length := by omega
      subst e
      go_wp2
      go_ret
      refine ⟨rfl, ?_, hb⟩
      unfold Es
      rw [adds_len]
      exact hC
theorem iadd (L : List Ar) (b cap : Nat) (w : World) (h : As w b L) (hn : L.length ≤ 1048576) :
    Calls Tryd.prog 70 #[.slice (some ⟨b, 0, none⟩) L.length cap] w fun e w' => e = .returned (.slice (some ⟨w.heap.size, 0, none⟩) L.length L.length) ∧ Es w' w.heap.size (adds L) ∧ Below w.heap.size w w' := iaddx L _ cap w h.ax hn
set_option maxHeartbeats 1000000 in
theorem istatx (L : List Ar) (a : Option Addr) (cap : Nat) (w : World) (h : Ax w a L) (hf : FitsA L) :
    Calls Tryd.prog 56 #[.slice a L.length cap] w fun e w' => e = .returned (.bool (staB L)) ∧ Below w.heap.size w w' := by
  obtain ⟨hf1, hf2⟩ := hf
  by_cases h8 : L.length ≤ 8
  · have HA := iaddx L a cap w h hf1
    have HP : Hid (∀ w', Es w' w.heap.size (adds L) → Calls Tryd.prog 50 #[.slice (some ⟨w.heap.size, 0, none⟩) L.length L.length] w' fun e w'' => e = .returned (.bool (staB L)) ∧ Below w'.heap.size w' w'') := fun w' hw => by
      have := ipatch (adds L) w.heap.size L.length w' hw (fun k hk => by
        rw [adds_len] at hk
        rw [adds_get L hk]
        exact ⟨by simp [ByteArray.size], hf2 k hk⟩) (by rw [adds_len]; exact hf1)
      rw [adds_len] at this
      have e : patB (adds L) = staB L := by
        by_cases q : staF L
        · rw [staB_yes q, patB_yes ((sta_adds L).1 q).2]
        · rw [staB_no q, patB_no (fun hp => q ((sta_adds L).2 ⟨h8, hp⟩))]
      rwa [e] at this
    obtain ⟨z, hz⟩ : ∃ z, staB L = z := ⟨_, rfl⟩
    rw [hz] at HP ⊢
    clear h hf2 hz
    have h8' : (L.length : Int) ≤ 8 := by omega
    go_enter Tryd.func56, Tryd.ntmps56
    go_wp2_with fail
    refine HA.mono ?_
    rintro e w1 ⟨rfl, hE, hb1⟩
    have HP1 := HP.out w1 hE
    clear HA HP hE
    go_wp2_with fail
    refine HP1.mono ?_
    rintro e w2 ⟨rfl, hb2⟩
    go_wp2
    go_ret
    exact ⟨by simp, hb1.trans (hb2.mono hb1.size)⟩
  · have HNN := Lib.hid (staB_no (L := L) (fun h => h8 h.1))
    clear h hf2
    go_enter Tryd.func56, Tryd.ntmps56
    go_wp2
    go_ret
    exact ⟨by rw [HNN.out]; exact ret_bool (by first | (simp; done) | (simp; omega)), Below.refl _ _⟩
theorem istat (L : List Ar) (b cap : Nat) (w : World) (h : As w b L) (hf : FitsA L) :
    Calls Tryd.prog 56 #[.slice (some ⟨b, 0, none⟩) L.length cap] w fun e w' => e = .returned (.bool (staB L)) ∧ Below w.heap.size w w' := istatx L _ cap w h.ax hf
theorem iVS (L : List Ar) (w : World) (lo hi : Nat) (u : Value) (h : CpA w lo hi u L) : Calls Tryd.prog 56 #[u] w (Pb (staB L) w) := by
  obtain ⟨rfl, h1, -, hf⟩ := h
  exact istat L lo L.length w h1 hf
end Go.Proofs.YtkaakomiimcbmaaDoor
/- Lists of articles: their marks. -/
namespace Go.Proofs.YtkaakomiimcbmaaDoor
open Go.ChangeShapes Go.WideShapes Go.ChangeAt Go.RowKit Go.Deep
set_option linter.unusedSimpArgs false
set_option linter.unusedVariables false
/-- What cell j holds that the marks from k on have come to. -/
def mka (k : Int) (j : Nat) : Value := if j % 2 = 0 then .int .i64 (k + 2 * (j / 2 : Nat)) else .string (mtx (k + 2 * (j / 2 : Nat) + 1))
def mkA (f : Nat → Value) (k : Int) (m : Nat) : Nat → Value := fun j => if j / 2 < m then mka k j else f j
theorem mkA_step (f : Nat → Value) (k : Int) (m j : Nat) :
    (if j = m * 2 + 1 then Value.string (mtx (k + 2 * m + 1)) else if j = m * 2 then .int .i64 (k + 2 * m) else mkA f k m j) = mkA f k (m + 1) j := by
  unfold mkA mka
  by_cases q1 : j = m * 2 + 1
  · subst q1
    have h1 : (m * 2 + 1) / 2 = m := by omega
    have h2 : (m * 2 + 1) % 2 = 1 := by omega
    simp [h1, h2]
  by_cases q0 : j = m * 2
  · subst q0
    have h1 : (m * 2) / 2 = m := by omega
    have h2 : (m * 2) % 2 = 0 := by omega
    simp [h1, h2]
  rw [if_neg q1, if_neg q0]
  by_cases h : j / 2 < m
  · rw [if_pos h, if_pos (show j / 2 < m + 1 by omega)]
  · rw [if_neg h, if_neg (show ¬ j / 2 < m + 1 by omega)]
set_option maxHeartbeats 2000000 in
set_option maxRecDepth 100000 in
theorem markA (c n cap N : Nat) (k : Int) (w : World) (f : Nat → Value) (h : w.rowIs c 72 N f) (hN : n * 2 ≤ N) (hn : n ≤ 1048576) (h1 : 0 ≤ k) (h2 : k ≤ 4000000000000) :
    Calls Tryd.prog 22 #[.slice (some ⟨c, 0, none⟩) n cap, .int .i64 k] w fun e w' => e = .returned (.int .i64 (k + 2 * n)) ∧ w'.rowIs c 72 N (mkA f k n) ∧ Kept w w' (fun b => b = c) := by
  go_enter Tryd.func22, Tryd.ntmps22
  go_wp2
  go_loopg [1, 5] n (fun g kk i wr => ∃ m : Nat, m ≤ n ∧ g = n - m ∧ kk = .int .i64 (k + 2 * m) ∧ i = .int .i64 m ∧ wr.rowIs c 72 N (mkA f k m) ∧ Kept w wr (fun b => b = c))
  case atStart => exact ⟨0, Nat.zero_le _, rfl, by simp, rfl, h.congr (fun i _ => by simp [mkA]), Kept.refl _ _⟩
  case round =>
    obtain ⟨m, hm, rfl, rfl, rfl, hr, hk⟩ := hrel
    by_cases hlt : m < n
    · have c1 : wr.cell? ⟨c, m * 2, none⟩ = some (mkA f k m (m * 2)) := hr.cell (by omega)
      have c2 : wr.cell? ⟨c, m * 2 + 1, none⟩ = some (mkA f k m (m * 2 + 1)) := hr.cell (by omega)
      have f1 : wr.frozen? ⟨c, m * 2, none⟩ = false := hr.frozen _
      have f2 : wr.frozen? ⟨c, m * 2 + 1, none⟩ = false := hr.frozen _
      have hlc := hr.lt
      have HR := Lib.hid hr
      have HK := Lib.hid hk
      clear hr hk h
      obtain ⟨K, hK⟩ : ∃ K : Int, k + 2 * (m : Int) = K := ⟨_, rfl⟩
      have k0 : 0 ≤ K := by omega
      have k9 : K ≤ 5000000000000 := by omega
      simp only [hK]
      have HKK := Lib.hid hK
      have wk1 : IntKind.i64.wrap (K + 1) = K + 1 := by rw [IntKind.wrap_i64]; omega
      have wk2 : IntKind.i64.wrap (K + 1 + 1) = K + 2 := by rw [IntKind.wrap_i64]; omega
      have M2 := fun w' => mtext (K + 1) w' (by omega)
      clear hK
      go_wp2_with fail
      refine (M2 _).mono ?_
      rintro e w1 ⟨rfl, hb1⟩
      obtain ⟨hc1, hf1⟩ := bcell hb1
      have lc1 : c < (wr.setCell ⟨c, m * 2, none⟩ (.int .i64 K)).heap.size := by simp [World.setCell]; exact hlc
      have d3 : w1.cell? ⟨c, m * 2 + 1, none⟩ = some (mkA f k m (m * 2 + 1)) := by rw [hc1 _ _ lc1]; first | (go_simp; done) | (go_simp; exact c2)
      have g3 : w1.frozen? ⟨c, m * 2 + 1, none⟩ = false := by rw [hf1 _ _ lc1]; first | (go_simp; done) | (go_simp; exact f2)
      have HR1 := Lib.hid ((HR.out.set (m * 2) (.int .i64 K)).of_block (hb1.block c lc1))
      have HK1 : Hid (Kept w w1 (fun b => b = c)) := Lib.hid ((HK.out.trans (Kept.set _ _ _ rfl)).trans (Kept.ofBel hb1))
      have lc1' : c < w1.heap.size := Nat.lt_of_lt_of_le lc1 hb1.size
      clear hc1 hf1 c1 c2 f1 f2 hb1 lc1 hlc M2
      go_wp2
      go_roundg (n - (m + 1))
      case measure => omega
      case rel =>
        refine ⟨m + 1, by omega, rfl, by congr 1; have := HKK.out; omega, by simp, ?_, HK1.out.trans (Kept.set _ _ _ rfl)⟩
        refine (HR1.out.set (m * 2 + 1) (.string (mtx (K + 1)))).congr (fun j _ => ?_)
        rw [← mkA_step f k m j]
        simp only [HKK.out]
    · have e : m = n := by omega
      subst e
      go_wp2
      go_ret
      exact ⟨rfl, hr, hk⟩
theorem markCpA {v : Value} {l : List Ar} {w : World} {lo hi : Nat} (k : Int) (h : CpA w lo hi v l) (h1 : 0 ≤ k) (h2 : k ≤ 4000000000000) :
    Calls Tryd.prog 22 #[v, .int .i64 k] w fun e w' => (∃ r, e = .returned (.int .i64 r) ∧ 0 ≤ r ∧ r ≤ k + 4194304) ∧ Kept w w' (fun b => lo ≤ b ∧ b < hi) := by
  obtain ⟨rfl, q1, q2, q3⟩ := h
  have hl := q3.1
  exact (markA lo l.length l.length _ k w _ q1 (Nat.le_refl _) hl h1 h2).mono fun e w' ⟨he, hr, hk⟩ => ⟨⟨_, he, by omega, by omega⟩, hk.mono (fun b e => by subst e; exact ⟨Nat.le_refl _, q2⟩)⟩
end Go.Proofs.YtkaakomiimcbmaaDoor
/- Lists of articles that a call answers: read, compared, their marks held. -/
namespace Go.Proofs.YtkaakomiimcbmaaDoor
open Go.ChangeShapes Go.WideShapes Go.ChangeAt Go.RowKit Go.Deep
set_option linter.unusedSimpArgs false
set_option linter.unusedVariables false
theorem ListA.cons {w : World} {v : Value} {l : List Ar} (h : ListA w v l) (hl : l ≠ []) : ∃ x cap, v = .slice (some x) l.length cap ∧ x.block < w.heap.size ∧ ArgA w x l := by
  rcases h with ⟨_, h⟩ | h
  · exact absurd h hl
  · obtain ⟨x, cap, e, hx, hc⟩ := h
    exact ⟨x, cap, e, hx (List.length_pos_iff.2 hl), hc⟩
set_option maxRecDepth 100000 in
theorem eqLA (v v' : Value) (L : List Ar) (w : World) (h : ListA w v L) (h' : ListA w v' L) (hf : L.length ≤ 1048576) :
    Calls Tryd.prog 21 #[v, v'] w fun e w' => e = .returned (.bool true) ∧ Below w.heap.size w w' := by
  by_cases e : L = []
  · subst e
    obtain ⟨a, cap, rfl⟩ := h.shape
    obtain ⟨a', cap', rfl⟩ := h'.shape
    clear h h'
    go_enter Tryd.func21, Tryd.ntmps21
    go_wp2
    go_loopg [5] 0 (fun g i wr => i = .int .i64 0 ∧ w = wr)
    case atStart => exact ⟨rfl, rfl⟩
    case round =>
      obtain ⟨rfl, rfl⟩ := hrel
      go_wp2
      go_ret
      exact ⟨rfl, Below.refl _ _⟩
  · obtain ⟨x, cap, rfl, hx, hc⟩ := h.cons e
    obtain ⟨x', cap', rfl, hx', hc'⟩ := h'.cons e
    clear h h'
    go_enter Tryd.func21, Tryd.ntmps21
    go_wp2
    go_loopg [5] L.length (fun g i wr => ∃ k : Nat, k ≤ L.length ∧ g = L.length - k ∧ i = .int .i64 k ∧ Below w.heap.size w wr)
    case atStart => exact ⟨0, Nat.zero_le _, rfl, rfl, Below.refl _ _⟩
    case round =>
      obtain ⟨k, hk, rfl, rfl, hb⟩ := hrel
      by_cases hlt : k < L.length
      · obtain ⟨a1, a2⟩ := (hc.below (fun _ => hx) hb) k hlt
        obtain ⟨d1, d2⟩ := (hc'.below (fun _ => hx') hb) k hlt
        have bd : Below wr.heap.size wr wr.drew := (Below.refl _ _).drew
        generalize L.getD k a0 = q at a1 a2 d1 d2
        obtain ⟨n, sa⟩ := q
        simp only at a1 a2 d1 d2
        have HE := eqAr n sa wr.drew
        clear hc hc'
        go_wp2_with fail
        go_still_tail 8, (by kernel_rfl)
        change wpList _ _ _ _ _ wr.drew
        go_wp2_with fail
        refine HE.mono ?_
        rintro e w1 ⟨rfl, hb1⟩
        go_wp2
        go_roundg (L.length - (k + 1))
        case measure => omega
        case rel => exact ⟨k + 1, by omega, rfl, by simp, hb.trans (bd.trans hb1 |>.mono hb.size)⟩
      · have e : k = L.length := by omega
        subst e
        go_wp2
        go_ret
        exact ⟨rfl, hb⟩
/-- v, read in w, is the list L; its memory lies in blocks from lo to below hi. -/
def RdA (w : World) (lo hi : Nat) (v : Value) (L : List Ar) : Prop := ListA w v L ∧ InB v lo hi ∧ L.length ≤ 1048576
theorem RdA.below {w w' : World} {lo hi : Nat} {v : Value} {l : List Ar} (h : RdA w lo hi v l) (hb : Below w.heap.size w w') : RdA w' lo hi v l := ⟨h.1.below hb, h.2.1, h.2.2⟩
theorem RdA.kept {w w' : World} {lo hi : Nat} {v : Value} {l : List Ar} {S : Nat → Prop} (h : RdA w lo hi v l) (hk : Kept w w' S) (hs : ∀ b, lo ≤ b → b < hi → ¬ S b) : RdA w' lo hi v l := by
  obtain ⟨h1, h2, h3⟩ := h
  refine ⟨?_, h2, h3⟩
  rcases h1 with h | ⟨x, cap, rfl, hx, hc⟩
  · exact .inl h
  · by_cases e : 0 < l.length
    · have hb := hx e
      obtain ⟨c1, _⟩ := hc 0 e
      have hsp : x.spot = none := by
        unfold World.cell? at c1
        rw [show x.add (0 * 2) = x by simp [Addr.add]] at c1
        split at c1
        · split at c1
          · cases c1
          · rename_i q; simpa using q
        · cases c1
      have hn := hs x.block (h2 x.block (by simp [Value.ownBlock])).1 (h2 x.block (by simp [Value.ownBlock])).2
      have q : ∀ {p : Addr} {v : Value}, p.block = x.block → w.cell? p = some v → w'.cell? p = some v := fun {p v} hp hc => by
        rw [← hc]; exact hk.cell (by rw [hp]; exact hb) (by rw [hp]; exact hn)
      exact .inr ⟨x, cap, rfl, fun h => Nat.lt_of_lt_of_le (hx h) hk.size, fun k hk' => by
        obtain ⟨c1, c2⟩ := hc k hk'
        exact ⟨q (by rw [block_add]) c1, q (by show (x.add _).block = _; rw [block_add]) c2⟩⟩
    · exact .inr ⟨x, cap, rfl, fun h => absurd h e, fun k hk' => absurd hk' (by omega)⟩
theorem RdA.nil (w : World) (lo hi : Nat) : RdA w lo hi (.slice none 0 0) [] := ⟨.inl ⟨rfl, rfl⟩, (fun k e => by cases e), by simp⟩
theorem eqRdA {v v' : Value} {l : List Ar} {w : World} {lo hi lo' hi' : Nat} (h : RdA w lo hi v l) (h' : RdA w lo' hi' v' l) :
    Calls Tryd.prog 21 #[v, v'] w fun e w' => e = .returned (.bool true) ∧ Below w.heap.size w w' := eqLA v v' l w h.1 h'.1 h.2.2
/-- The cell j of a row of articles. -/
def ac2 (L : List Ar) (j : Nat) : Value := if j % 2 = 0 then .int .i64 (L.getD (j / 2) a0).1 else .string (L.getD (j / 2) a0).2
/-- v is the list L in memory of the call's own, a row in one block from lo to below hi. -/
def OwA (w : World) (lo hi : Nat) (v : Value) (L : List Ar) : Prop :=
  ((v = .slice none 0 0 ∧ L = []) ∨ ∃ (c cap N : Nat) (f : Nat → Value), v = .slice (some ⟨c, 0, none⟩) L.length cap ∧ lo ≤ c ∧ c < hi ∧ L.length * 2 ≤ N ∧ w.rowIs c 72 N f ∧ ∀ j, j < L.length * 2 → f j = ac2 L j) ∧ L.length ≤ 1048576
theorem OwA.rd {w : World} {lo hi : Nat} {v : Value} {l : List Ar} (h : OwA w lo hi v l) : RdA w lo hi v l := by
  obtain ⟨h | ⟨c, cap, N, f, rfl, h1, h2, h3, h4, h5⟩, hl⟩ := h
  · exact ⟨.inl h, (fun k e => by obtain ⟨rfl, -⟩ := h; cases e), hl⟩
  · refine ⟨.inr ⟨_, cap, rfl, fun _ => h4.lt, fun k hk => ?_⟩, fun k e => ?_, hl⟩
    · rw [Addr.add_lit, Nat.zero_add]
      refine ⟨?_, ?_⟩
      · rw [h4.cell (i := k * 2) (by omega), h5 _ (by omega)]
        have e1 : k * 2 / 2 = k := by omega
        have e2 : k * 2 % 2 = 0 := by omega
        simp [ac2, e1, e2]
      · show w.cell? ⟨c, k * 2 + 1, none⟩ = _
        rw [h4.cell (i := k * 2 + 1) (by omega), h5 _ (by omega)]
        have e1 : (k * 2 + 1) / 2 = k := by omega
        have e2 : (k * 2 + 1) % 2 = 1 := by omega
        simp [ac2, e1, e2]
    · have e : c = k := by simpa [Value.ownBlock] using e
      omega
theorem OwA.below {w w' : World} {lo hi : Nat} {v : Value} {l : List Ar} (h : OwA w lo hi v l) (hb : Below w.heap.size w w') : OwA w' lo hi v l := by
  obtain ⟨h | ⟨c, cap, N, f, rfl, h1, h2, h3, h4, h5⟩, hl⟩ := h
  · exact ⟨.inl h, hl⟩
  · exact ⟨.inr ⟨c, cap, N, f, rfl, h1, h2, h3, h4.of_block (hb.block c h4.lt), h5⟩, hl⟩
theorem OwA.kept {w w' : World} {lo hi : Nat} {v : Value} {l : List Ar} {S : Nat → Prop} (h : OwA w lo hi v l) (hk : Kept w w' S) (hs : ∀ b, lo ≤ b → b < hi → ¬ S b) : OwA w' lo hi v l := by
  obtain ⟨h | ⟨c, cap, N, f, rfl, h1, h2, h3, h4, h5⟩, hl⟩ := h
  · exact ⟨.inl h, hl⟩
  · exact ⟨.inr ⟨c, cap, N, f, rfl, h1, h2, h3, hk.row h4 (hs c h1 h2), h5⟩, hl⟩
theorem OwA.mono {w : World} {lo hi lo' hi' : Nat} {v : Value} {l : List Ar} (h : OwA w lo hi v l) (e1 : lo' ≤ lo) (e2 : hi ≤ hi') : OwA w lo' hi' v l := by
  obtain ⟨h | ⟨c, cap, N, f, rfl, h1, h2, h3, h4, h5⟩, hl⟩ := h
  · exact ⟨.inl h, hl⟩
  · exact ⟨.inr ⟨c, cap, N, f, rfl, by omega, by omega, h3, h4, h5⟩, hl⟩
theorem OwA.nil (w : World) (lo hi : Nat) : OwA w lo hi (.slice none 0 0) [] := ⟨.inl ⟨rfl, rfl⟩, by simp⟩
/-- Marks from k to below r lie in the list at v. -/
def MkA (w : World) (lo hi : Nat) (v : Value) (k r : Int) : Prop :=
  (∃ a cap, v = .slice a 0 cap ∧ r = k) ∨ ∃ (c n cap N : Nat) (f : Nat → Value), v = .slice (some ⟨c, 0, none⟩) n cap ∧ lo ≤ c ∧ c < hi ∧ n * 2 ≤ N ∧ n ≤ 1048576 ∧ w.rowIs c 72 N f ∧ (∀ j, j < n * 2 → f j = mka k j) ∧ r = k + 2 * n
theorem MkA.below {w w' : World} {lo hi : Nat} {v : Value} {k r : Int} (h : MkA w lo hi v k r) (hb : Below w.heap.size w w') : MkA w' lo hi v k r := by
  rcases h with h | ⟨c, n, cap, N, f, rfl, h1, h2, h3, h0, h4, h5, h6⟩
  · exact .inl h
  · exact .inr ⟨c, n, cap, N, f, rfl, h1, h2, h3, h0, h4.of_block (hb.block c h4.lt), h5, h6⟩
theorem MkA.kept {w w' : World} {lo hi : Nat} {v : Value} {k r : Int} {S : Nat → Prop} (h : MkA w lo hi v k r) (hk : Kept w w' S) (hs : ∀ b, lo ≤ b → b < hi → ¬ S b) : MkA w' lo hi v k r := by
  rcases h with h | ⟨c, n, cap, N, f, rfl, h1, h2, h3, h0, h4, h5, h6⟩
  · exact .inl h
  · exact .inr ⟨c, n, cap, N, f, rfl, h1, h2, h3, h0, hk.row h4 (hs c h1 h2), h5, h6⟩
theorem markA_nil (a : Option Addr) (cap : Nat) (k : Int) (w : World) :
    Calls Tryd.prog 22 #[.slice a 0 cap, .int .i64 k] w fun e w' => e = .returned (.int .i64 k) ∧ w = w' := by
  go_enter Tryd.func22, Tryd.ntmps22
  go_wp2
  go_loopg [1, 5] 0 (fun g kk i wr => kk = .int .i64 k ∧ i = .int .i64 0 ∧ w = wr)
  case atStart => exact ⟨rfl, rfl, rfl⟩
  case round =>
    obtain ⟨rfl, rfl, rfl⟩ := hrel
    go_wp2
    go_ret
    exact ⟨rfl, rfl⟩
theorem heldA_nil (a : Option Addr) (cap : Nat) (k : Int) (w : World) :
    Calls Tryd.prog 23 #[.slice a 0 cap, .int .i64 k] w fun e w' => e = .returned (.int .i64 k) ∧ w = w' := by
  go_enter Tryd.func23, Tryd.ntmps23
  go_wp2
  go_loopg [1, 5] 0 (fun g kk i wr => kk = .int .i64 k ∧ i = .int .i64 0 ∧ w = wr)
  case atStart => exact ⟨rfl, rfl, rfl⟩
  case round =>
    obtain ⟨rfl, rfl, rfl⟩ := hrel
    go_wp2
    go_ret
    exact ⟨rfl, rfl⟩
theorem markOwA {v : Value} {l : List Ar} {w : World} {lo hi : Nat} (k : Int) (h : OwA w lo hi v l) (h1 : 0 ≤ k) (h2 : k ≤ 4000000000000) :
    Calls Tryd.prog 22 #[v, .int .i64 k] w fun e w' => (∃ r, e = .returned (.int .i64 r) ∧ k ≤ r ∧ r ≤ k + 4194304 ∧ MkA w' lo hi v k r) ∧ Kept w w' (fun b => lo ≤ b ∧ b < hi) := by
  obtain ⟨⟨rfl, rfl⟩ | ⟨c, cap, N, f, rfl, q1, q2, q3, q4, q5⟩, hl⟩ := h
  · exact (markA_nil none 0 k w).mono fun e w' ⟨he, hw⟩ => ⟨⟨k, he, by omega, by omega, .inl ⟨none, 0, rfl, rfl⟩⟩, hw ▸ Kept.refl _ _⟩
  · exact (markA c l.length cap N k w f q4 q3 hl h1 h2).mono fun e w' ⟨he, hr, hk⟩ => ⟨⟨_, he, by omega, by omega, .inr ⟨c, l.length, cap, N, _, rfl, q1, q2, q3, hl, hr, fun j hj => by rw [mkA, if_pos (by omega)], rfl⟩⟩, hk.mono (fun b e => by subst e; exact ⟨q1, q2⟩)⟩
set_option maxHeartbeats 2000000 in
set_option maxRecDepth 100000 in
theorem heldA (c n cap N : Nat) (k : Int) (w : World) (f : Nat → Value) (h : w.rowIs c 72 N f) (hN : n * 2 ≤ N) (hf : ∀ j, j < n * 2 → f j = mka k j) (hn : n ≤ 1048576) (h1 : 0 ≤ k) (h2 : k ≤ 4000000000000) :
    Calls Tryd.prog 23 #[.slice (some ⟨c, 0, none⟩) n cap, .int .i64 k] w fun e w' => e = .returned (.int .i64 (k + 2 * n)) ∧ Below w.heap.size w w' := by
  have HF := Lib.hid hf
  have HH := Lib.hid h
  clear hf h
  go_enter Tryd.func23, Tryd.ntmps23
  go_wp2
  go_loopg [1, 5] n (fun g kk i wr => ∃ m : Nat, m ≤ n ∧ g = n - m ∧ kk = .int .i64 (k + 2 * m) ∧ i = .int .i64 m ∧ Below w.heap.size w wr)
  case atStart => exact ⟨0, Nat.zero_le _, rfl, by simp, rfl, Below.refl _ _⟩
  case round =>
    obtain ⟨m, hm, rfl, rfl, rfl, hb⟩ := hrel
    by_cases hlt : m < n
    · have hr := HH.out.of_block (hb.block c HH.out.lt)
      have c1 : wr.cell? ⟨c, m * 2, none⟩ = some (.int .i64 (k + 2 * m)) := by
        have e1 : m * 2 / 2 = m := by omega
        have e2 : m * 2 % 2 = 0 := by omega
        rw [hr.cell (by omega), HF.out _ (by omega)]; simp [mka, e1, e2]
      have c2 : wr.cell? ⟨c, m * 2 + 1, none⟩ = some (.string (mtx (k + 2 * m + 1))) := by
        have e1 : (m * 2 + 1) / 2 = m := by omega
        have e2 : (m * 2 + 1) % 2 = 1 := by omega
        rw [hr.cell (by omega), HF.out _ (by omega)]; simp [mka, e1, e2]
      have hlc := hr.lt
      clear hr
      obtain ⟨K, hK⟩ : ∃ K : Int, k + 2 * (m : Int) = K := ⟨_, rfl⟩
      have k0 : 0 ≤ K := by omega
      have k9 : K ≤ 5000000000000 := by omega
      simp only [hK] at c1 c2 ⊢
      have HKK := Lib.hid hK
      have wk1 : IntKind.i64.wrap (K + 1) = K + 1 := by rw [IntKind.wrap_i64]; omega
      have wk2 : IntKind.i64.wrap (K + 1 + 1) = K + 2 := by rw [IntKind.wrap_i64]; omega
      have M2 : Hid (∀ w', Calls Tryd.prog 44 #[.int .i64 (K + 1)] w' fun e w'' => e = .returned (.string (mtx (K + 1))) ∧ Below w'.heap.size w' w'') := Lib.hid fun w' => mtext (K + 1) w' (by omega)
      obtain ⟨s2, hs2⟩ : ∃ s, mtx (K + 1) = s := ⟨_, rfl⟩
      rw [hs2] at c2 M2
      clear hK hs2
      have B2 : Bm wr c (m * 2 + 1) s2 wr := ⟨c2, Lib.hid (Below.refl _ _)⟩
      have HB := Lib.hid hb
      clear hb c2
      go_wp2_with fail
      go_region_held3 (fun w' => w'.cell? ⟨c, m * 2 + 1, none⟩ = some (.string s2) ∧ Hid (Below wr.heap.size wr w'))
        (first | exact B2.drew | exact Bm.below (w0 := wr) (by assumption) (by assumption))
        (first
          | (go_at_call 44; refine (M2.out _).mono ?_; rintro e w2 ⟨rfl, hb9⟩))
      have hb2 : Below wr.heap.size wr w2 := ((Below.refl _ _).drew).trans hb9
      have HB2 := Lib.hid (HB.out.trans (hb2.mono HB.out.size))
      clear hb2 hb9 c1 B2 M2 HB
      go_wp2
      go_roundg (n - (m + 1))
      case measure => omega
      case rel => exact ⟨m + 1, by omega, rfl, by congr 1; have := HKK.out; omega, by simp, HB2.out⟩
    · have e : m = n := by omega
      subst e
      go_wp2
      go_ret
      exact ⟨rfl, hb⟩
theorem heldMkA {v : Value} {w : World} {lo hi : Nat} {k r : Int} (h : MkA w lo hi v k r) (h1 : 0 ≤ k) (h2 : k ≤ 4000000000000) :
    Calls Tryd.prog 23 #[v, .int .i64 k] w fun e w' => e = .returned (.int .i64 r) ∧ Below w.heap.size w w' := by
  rcases h with ⟨a, cap, rfl, rfl⟩ | ⟨c, n, cap, N, f, rfl, q1, q2, q3, q0, q4, q5, rfl⟩
  · exact (heldA_nil a cap r w).mono fun e w' ⟨he, hw⟩ => ⟨he, hw ▸ Below.refl _ _⟩
  · exact heldA c n cap N k w f q4 q3 q5 q0 h1 h2
/-- A list of articles to be read, and a bool. -/
def PAb (m : List Ar × Bool) (w : World) (e : Ending) (w' : World) : Prop := ∃ v, e = .returned (.tuple #[v, .bool m.2]) ∧ RdA w' w.heap.size w'.heap.size v m.1 ∧ Below w.heap.size w w'
theorem PAb.out {l : List Ar} {z : Bool} {w w' : World} {e : Ending} (h : PAb (l, z) w e w') : ∃ v, e = .returned (.tuple #[v, .bool z]) ∧ RdA w' w.heap.size w'.heap.size v l ∧ Below w.heap.size w w' := h
/-- A list of articles in memory of the call's own, and a bool. -/
def QAb (m : List Ar × Bool) (w : World) (e : Ending) (w' : World) : Prop := ∃ v, e = .returned (.tuple #[v, .bool m.2]) ∧ OwA w' w.heap.size w'.heap.size v m.1 ∧ Below w.heap.size w w'
theorem QAb.out {l : List Ar} {z : Bool} {w w' : World} {e : Ending} (h : QAb (l, z) w e w') : ∃ v, e = .returned (.tuple #[v, .bool z]) ∧ OwA w' w.heap.size w'.heap.size v l ∧ Below w.heap.size w w' := h
end Go.Proofs.YtkaakomiimcbmaaDoor
/- From a statute to another one: both answers of DiffStatutes. -/
namespace Go.Proofs.YtkaakomiimcbmaaDoor
open Go.ChangeShapes Go.WideShapes Go.ChangeAt Go.RowKit Go.Deep
set_option linter.unusedSimpArgs false
set_option linter.unusedVariables false
def fa (L : List Ar) (i : Int) : Option Ar := L.find? fun a => a.1 == i
def tx (L : List Ar) (i : Int) : ByteArray := match fa L i with | some a => a.2 | none => ⟨#[]⟩
theorem fa_some {L : List Ar} {i : Int} {a : Ar} (h : fa L i = some a) : a ∈ L ∧ a.1 = i := by
  unfold fa at h
  have h1 := List.find?_some h
  exact ⟨List.mem_of_find?_eq_some h, by simpa using h1⟩
theorem fa_sta {L : List Ar} (hL : staF L) {i : Int} {a : Ar} (h : fa L i = some a) : a.1 = i ∧ 1 ≤ i ∧ i ≤ 99 ∧ senF a.2 := by
  obtain ⟨h1, h2⟩ := fa_some h
  obtain ⟨k, hk, rfl⟩ := List.mem_iff_getElem.1 h1
  have h3 := hL.2 k hk
  have : L.getD k a0 = L[k] := by simp [List.getD, hk]
  unfold sta1 at h3
  rw [this] at h3
  exact ⟨h2, by omega, by omega, h3.2.1⟩
theorem fnd_adds (L : List Ar) (i : Int) : fnd (adds L) i = (fa L i).map fun a => (1, a.1, ⟨#[]⟩, a.2) := by
  unfold fnd adds fa
  rw [List.find?_map]
  rfl
theorem fnd_invs (L : List Ar) (i : Int) : fnd (invs (adds L)) i = (fa L i).map fun a => invE (1, a.1, ⟨#[]⟩, a.2) := by
  unfold fnd invs adds fa
  rw [List.find?_map, List.find?_map]
  cases h : List.find? (((fun e : Ed => e.2.1 == i) ∘ invE) ∘ fun a : Ar => (1, a.1, (⟨#[]⟩ : ByteArray), a.2)) L with
  | none =>
    have h' : List.find? (fun a : Ar => a.1 == i) L = none := h
    rw [h']
    rfl
  | some a =>
    have h' : List.find? (fun a : Ar => a.1 == i) L = some a := h
    rw [h']
    rfl
theorem incs_invs {L : List Ed} (h : incs L) : incs (invs L) := by
  unfold incs invs
  rw [List.map_map]
  exact h
theorem adds_incs {L : List Ar} (h : staF L) : incs (adds L) := pat_incs ((sta_adds L).1 h).2.2
/-- What leads from a statute to another one at an Id. -/
noncomputable def df (A B : List Ar) (i : Int) : Option Ed := @ite _ (tx A i = tx B i) (Classical.propDecidable _) none (some (kindE (tx A i) (tx B i), i, tx A i, tx B i))
theorem df_same {A B : List Ar} {i : Int} (h : tx A i = tx B i) : df A B i = none := by unfold df; rw [if_pos h]
theorem df_ne {A B : List Ar} {i : Int} (h : tx A i ≠ tx B i) : df A B i = some (kindE (tx A i) (tx B i), i, tx A i, tx B i) := by unfold df; rw [if_neg h]
theorem df_ok {A B : List Ar} (hA : staF A) (hB : staF B) : ∀ i e, df A B i = some e → e.2.1 = i ∧ 1 ≤ i ∧ i ≤ 99 := by
  intro i e h
  by_cases q : tx A i = tx B i
  · rw [df_same q] at h; cases h
  · rw [df_ne q] at h
    injection h with h; subst h
    refine ⟨rfl, ?_⟩
    cases ha : fa A i with
    | some a => have := fa_sta hA ha; exact ⟨this.2.1, this.2.2.1⟩
    | none =>
      cases hb : fa B i with
      | some b => have := fa_sta hB hb; exact ⟨this.2.1, this.2.2.1⟩
      | none => exact absurd (by unfold tx; rw [ha, hb]) q
theorem difE_iff {e : Ed} : difE e = true ↔ e.2.2.1 ≠ e.2.2.2 := by simp [difE]
theorem df_eq {A B : List Ar} (hA : staF A) (hB : staF B) (i : Int) : (mid joinE (fnd (invs (adds A)) i) (fnd (adds B) i)).filter (fun e => difE e) = df A B i := by
  rw [fnd_adds, fnd_invs]
  cases ha : fa A i with
  | none =>
    have ta : tx A i = ⟨#[]⟩ := by unfold tx; rw [ha]
    cases hb : fa B i with
    | none =>
      have tb : tx B i = ⟨#[]⟩ := by unfold tx; rw [hb]
      rw [df_same (by rw [ta, tb])]; rfl
    | some b =>
      have kb := fa_sta hB hb
      have tb : tx B i = b.2 := by unfold tx; rw [hb]
      have nb := senF_ne kb.2.2.2
      rw [df_ne (by rw [ta, tb]; exact fun q => nb q.symm), ta, tb, kindE_1, ← kb.1]
      have hd : difE (1, b.1, ⟨#[]⟩, b.2) = true := difE_yes fun q => nb q.symm
      simp [mid, Option.filter, hd]
  | some a =>
    have ka := fa_sta hA ha
    have ta : tx A i = a.2 := by unfold tx; rw [ha]
    have na := senF_ne ka.2.2.2
    cases hb : fa B i with
    | none =>
      have tb : tx B i = ⟨#[]⟩ := by unfold tx; rw [hb]
      rw [df_ne (by rw [ta, tb]; exact na), ta, tb, ← ka.1]
      have hd : difE (kindE a.2 ⟨#[]⟩, a.1, a.2, ⟨#[]⟩) = true := difE_yes na
      simp [mid, Option.filter, invE, hd]
    | some b =>
      have kb := fa_sta hB hb
      have tb : tx B i = b.2 := by unfold tx; rw [hb]
      by_cases q : a.2 = b.2
      · rw [df_same (by rw [ta, tb, q])]
        have hd : difE (kindE a.2 b.2, a.1, a.2, b.2) = false := difE_no q
        simp [mid, joinE, Option.filter, invE, hd]
      · rw [df_ne (by rw [ta, tb]; exact q), ta, tb, ← ka.1]
        have hd : difE (kindE a.2 b.2, a.1, a.2, b.2) = true := difE_yes q
        simp [mid, joinE, Option.filter, invE, hd]
theorem df_cps {A B : List Ar} (hA : staF A) (hB : staF B) : upTo (df A B) 99 = cps (invs (adds A)) (adds B) := by
  obtain ⟨h1, h2⟩ := mrg_incs joinE (fun _ _ => rfl) _ (invs (adds A)) (adds B) (Nat.le_refl _) (incs_invs (adds_incs hA)) (adds_incs hB)
  rw [upTo_all]
  exact idsOf_eq (df_ok hA hB) (incs_filter h1 _) fun i => by rw [← df_eq hA hB]; unfold cps; rw [fnd_filter h1, h2]
theorem df_shd {A B : List Ar} (hA : staF A) : shd (invs (adds A)) (adds B) neO = [] := by
  apply List.eq_nil_iff_forall_not_mem.2
  intro i hi
  obtain ⟨y, hy, rfl, x, hx, hc⟩ := shd_mem.1 hi
  rw [lst_fnd (incs_invs (adds_incs hA))] at hx
  have hxm := (fnd_some hx).1
  unfold adds at hy
  obtain ⟨b, -, rfl⟩ := List.mem_map.1 hy
  unfold invs adds at hxm
  obtain ⟨e, he, rfl⟩ := List.mem_map.1 hxm
  obtain ⟨a, -, rfl⟩ := List.mem_map.1 he
  rw [neO_no rfl] at hc
  cases hc
noncomputable def mDif (A B : List Ar) : List Ed × Bool := if staB A && staB B then (cps (invs (adds A)) (adds B), true) else ([], false)
theorem mDif_no {A B : List Ar} (h : ¬ (staB A && staB B) = true) : mDif A B = ([], false) := by unfold mDif; rw [if_neg h]
theorem mDif_yes {A B : List Ar} (h : (staB A && staB B) = true) : mDif A B = (cps (invs (adds A)) (adds B), true) := by unfold mDif; rw [if_pos h]
theorem adds_wf {L : List Ar} (h : staF L) : ∀ k, k < (adds L).length → (Lit.int .i64 ((adds L).getD k e0).2.1).wf = true := pat_wf ((sta_adds L).1 h).2
theorem invs_wf {L : List Ed} (h : ∀ k, k < L.length → (Lit.int .i64 (L.getD k e0).2.1).wf = true) : ∀ k, k < (invs L).length → (Lit.int .i64 ((invs L).getD k e0).2.1).wf = true := fun k hk => by
  rw [invs_len] at hk
  rw [invs_get L hk]
  exact h k hk
end Go.Proofs.YtkaakomiimcbmaaDoor
/- From a statute to another one: the specification's answer. -/
namespace Go.Proofs.YtkaakomiimcbmaaDoor
open Go.ChangeShapes Go.WideShapes Go.ChangeAt Go.RowKit Go.Deep
set_option linter.unusedSimpArgs false
set_option linter.unusedVariables false
theorem dstart (w : World) : BldD (w.alloc (.cells #[] 93)) w.heap.size (.slice (some ⟨w.heap.size, 0, none⟩) 0 0) [] := World.ownsRow_lit w #[] 0 (Nat.le_refl _) (by unfold maxLen; omega) rfl
theorem kind_nz (a b : ByteArray) : (kindE a b == 0) = false := by
  unfold kindE
  split
  · rfl
  · split <;> rfl
set_option maxHeartbeats 1000000 in
theorem sfindx (L : List Ar) (a : Option Addr) (cap : Nat) (y : Int) (w : World) (h : Ax w a L) (hl : L.length ≤ 1048576) :
    Calls Tryd.prog 73 #[.slice a L.length cap, .int .i64 y] w fun e w' => e = .returned (.string (tx L y)) ∧ w = w' := by
  have HX := Lib.hid h
  clear h
  go_enter Tryd.func73, Tryd.ntmps73
  go_wp2
  go_loopg [5] L.length (fun g i wr => ∃ k : Nat, k ≤ L.length ∧ g = L.length - k ∧ i = .int .i64 k ∧ w = wr ∧ Hid (∀ j, j < k → (L.getD j a0).1 ≠ y))
  case atStart => exact ⟨0, Nat.zero_le _, rfl, rfl, rfl, fun j hj => absurd hj (Nat.not_lt_zero _)⟩
  case round =>
    obtain ⟨k, hk, rfl, rfl, rfl, H⟩ := hrel
    by_cases hlt : k < L.length
    · obtain ⟨b, rfl, lb, hat⟩ := HX.out (by omega)
      obtain ⟨a1, a2⟩ := hat k hlt
      clear hat
      obtain ⟨q, hq⟩ : ∃ q, L.getD k a0 = q := ⟨_, rfl⟩
      rw [hq] at a1 a2
      obtain ⟨i, t⟩ := q
      have HQ := Lib.hid hq
      simp only at a1 a2
      clear hq
      by_cases hy : i = y
      · subst hy
        have HF : Hid (tx L i = t) := by
          have e : L[k] = (i, t) := by rw [← HQ.out]; simp [List.getD, hlt]
          have hf : fa L i = some (i, t) := by
            refine List.find?_eq_some_iff_getElem.2 ⟨by simp, k, hlt, e, fun j hj => ?_⟩
            have := H.out j hj
            have hjl : j < L.length := by omega
            simpa [List.getD, hjl] using this
          show tx L i = t
          unfold tx; rw [hf]
        go_wp2
        go_ret
        exact ⟨by rw [HF.out]; rfl, rfl⟩
      · have hyb : (i == y) = false := by simpa using hy
        have HY := Lib.hid hy
        clear hy
        go_wp2
        go_roundg (L.length - (k + 1))
        case measure => omega
        case rel =>
          refine ⟨k + 1, by omega, rfl, by simp, rfl, fun j hj => ?_⟩
          by_cases e : j = k
          · subst e; rw [HQ.out]; exact HY.out
          · exact H.out j (by omega)
    · obtain rfl : k = L.length := by omega
      have HF : Hid (tx L y = ⟨#[]⟩) := by
        have hf : fa L y = none := by
          refine List.find?_eq_none.2 fun a ha => ?_
          obtain ⟨j, hj, rfl⟩ := List.mem_iff_getElem.1 ha
          have := H.out j hj
          simpa [List.getD, hj] using this
        show tx L y = _
        unfold tx; rw [hf]
      go_wp2
      go_ret
      exact ⟨by rw [HF.out]; rfl, rfl⟩
theorem sfind (L : List Ar) (b cap : Nat) (y : Int) (w : World) (h : As w b L) (hl : L.length ≤ 1048576) :
    Calls Tryd.prog 73 #[.slice (some ⟨b, 0, none⟩) L.length cap, .int .i64 y] w fun e w' => e = .returned (.string (tx L y)) ∧ w = w' := sfindx L _ cap y w h.ax hl
end Go.Proofs.YtkaakomiimcbmaaDoor
/- A statute after a patch: the program's answer. -/
namespace Go.Proofs.YtkaakomiimcbmaaDoor
open Go.ChangeShapes Go.WideShapes Go.ChangeAt Go.RowKit Go.Deep
set_option linter.unusedSimpArgs false
set_option linter.unusedVariables false
def conv (e : Ed) : Ar := (e.2.1, e.2.2.2)
theorem conv_get {E : List Ed} {k : Nat} (hk : k < E.length) : (E.map conv).getD k a0 = ((E.getD k e0).2.1, (E.getD k e0).2.2.2) := by
  simp [List.getD, hk, conv]
/-- All of them add an article. -/
def allAdd (E : List Ed) : Prop := ∀ k, k < E.length → (E.getD k e0).1 = 1
noncomputable def mAp (S : List Ar) (P : List Ed) : List Ar × Bool := @ite _ (shd (adds S) P neO = [] ∧ (cps (adds S) P).length ≤ 8 ∧ allAdd (cps (adds S) P)) (Classical.propDecidable _) ((cps (adds S) P).map conv, true) ([], false)
theorem mAp_yes {S : List Ar} {P : List Ed} (h : shd (adds S) P neO = [] ∧ (cps (adds S) P).length ≤ 8 ∧ allAdd (cps (adds S) P)) : mAp S P = ((cps (adds S) P).map conv, true) := by unfold mAp; rw [if_pos h]
theorem mAp_no {S : List Ar} {P : List Ed} (h : ¬ (shd (adds S) P neO = [] ∧ (cps (adds S) P).length ≤ 8 ∧ allAdd (cps (adds S) P))) : mAp S P = ([], false) := by unfold mAp; rw [if_neg h]
/-- What the loop of applied says of the edits. -/
noncomputable def mE (E : List Ed) : List Ar × Bool := @ite _ (E.length ≤ 8 ∧ allAdd E) (Classical.propDecidable _) (E.map conv, true) ([], false)
theorem mE_yes {E : List Ed} (h1 : E.length ≤ 8) (h2 : allAdd E) : mE E = (E.map conv, true) := by unfold mE; rw [if_pos ⟨h1, h2⟩]
theorem mE_long {E : List Ed} (h1 : ¬ E.length ≤ 8) : mE E = ([], false) := by unfold mE; rw [if_neg (fun h => h1 h.1)]
theorem mE_no {E : List Ed} {k : Nat} (hk : k < E.length) (h : (E.getD k e0).1 ≠ 1) : mE E = ([], false) := by unfold mE; rw [if_neg (fun q => h (q.2 k hk))]
theorem mAp_E {S : List Ar} {P : List Ed} (h : shd (adds S) P neO = []) : mAp S P = mE (cps (adds S) P) := by
  unfold mAp mE
  by_cases q : (cps (adds S) P).length ≤ 8 ∧ allAdd (cps (adds S) P)
  · rw [if_pos ⟨h, q⟩, if_pos q]
  · rw [if_neg (fun k => q k.2), if_neg q]
set_option maxHeartbeats 4000000 in
set_option maxRecDepth 100000 in
theorem iapplx (S : List Ar) (P : List Ed) (av : Option Addr) (cs bp : Nat) (w : World) (hs : Ax w av S) (hp : Es w bp P) (oS : staF S) (oP : patF P) :
    Calls Tryd.prog 63 #[.slice av S.length cs, .slice (some ⟨bp, 0, none⟩) P.length P.length] w (QAb (mAp S P) w) := by
  have ls := oS.1
  have lp := oP.1
  have HA := iaddx S av cs w hs (by omega)
  have hle := cps_len (adds S) P
  rw [adds_len] at hle
  have HC := Lib.hid (fun b w' (hw : Below w.heap.size w w') (h : Es w' b (adds S)) => icompd (adds S) P b S.length bp P.length w' h (hp.below hw) (by rw [adds_len]; omega) (by omega) (by rw [adds_len]; exact Nat.le_refl _) (Nat.le_refl _) (by omega) (by omega) (pat_wf ((sta_adds S).1 oS).2) (pat_wf oP))
  rw [adds_len] at HC
  unfold QAb
  by_cases hc : shd (adds S) P neO = []
  · have hm : cmpd (adds S) P = (cps (adds S) P, true) := by unfold cmpd; rw [hc]; rfl
    rw [mAp_E hc]
    rw [hm] at HC
    obtain ⟨E, hE⟩ : ∃ E, cps (adds S) P = E := ⟨_, rfl⟩
    rw [hE] at HC hle ⊢
    have hmk := run_make2 (P := Tryd.prog) 38 72 _ _ 24 Tryd.underlying38 infoAr rfl rfl .i64 .i64 E.length (by omega) (by omega)
    clear hs hp hc hm hE oS oP
    go_enter Tryd.func63, Tryd.ntmps63
    go_wp2_with fail
    refine HA.mono ?_
    rintro e w1 ⟨rfl, hE1, hb1⟩
    have hs1 := hb1.size
    have HC1 := HC.out _ w1 hb1 hE1
    clear HA hE1 HC
    go_wp2_with fail
    refine HC1.mono ?_
    intro e w3 hpo
    obtain ⟨v, rfl, hO, hb3⟩ := hpo
    have hbw := hb1.trans (hb3.mono hs1)
    have hs3 := hbw.size
    have HLE : ListE w3 v E := hO.rd.1
    obtain ⟨va, vc, hv⟩ := HLE.shape
    subst hv
    clear HC1 hO hb1 hb3
    by_cases hn : E.length ≤ 8
    · have hni : ¬ (8 : Int) < (E.length : Int) := by omega
      have HL := Lib.hid HLE
      have HY := Lib.hid (@mE_yes E hn)
      have HB := Lib.hid hbw
      clear HLE
      go_wp2
      go_loopg [9, 10, 30] E.length (fun g _ _ i wr => ∃ k : Nat, k ≤ E.length ∧ g = E.length - k ∧ i = .int .i64 k ∧ Below w3.heap.size w3 wr ∧ w3.heap.size < wr.heap.size ∧ wr.rowIs w3.heap.size 72 (E.length * 2) (af (E.map conv) k) ∧ Hid (∀ j, j < k → (E.getD j e0).1 = 1))
      case atStart => exact ⟨0, Nat.zero_le _, rfl, rfl, (Below.refl _ _).alloc (Nat.le_refl _) _, by simp, (rowIs_made2 _ _ _ _ _).congr (fun j _ => by simp [af]), fun j hj => absurd hj (Nat.not_lt_zero _)⟩
      case round =>
        obtain ⟨k, hk, rfl, rfl, hb, hsz, hC, HK⟩ := hrel
        clear hmk
        by_cases hlt : k < E.length
        · have hx := HL.out.below hb
          obtain ⟨x, cap, hve, hxb, hc⟩ := hx.cons (by intro q; rw [q] at hlt; simp at hlt)
          have hsp := hc.spot (by omega)
          obtain ⟨a1, a2, a3, a4⟩ := hc k hlt
          injection hve with q1 q2 q3
          subst q1
          obtain ⟨xb, xo, xs⟩ := x
          simp only at hsp hxb
          subst hsp
          simp only [Addr.add_lit] at a1 a2 a3 a4
          have s1 : wr.cell? ⟨w3.heap.size, k * 2, none⟩ = some (af (E.map conv) k (k * 2)) := hC.cell (by omega)
          have s2 : wr.cell? ⟨w3.heap.size, k * 2 + 1, none⟩ = some (af (E.map conv) k (k * 2 + 1)) := hC.cell (by omega)
          have f1 : wr.frozen? ⟨w3.heap.size, k * 2, none⟩ = false := hC.frozen _
          have f2 : wr.frozen? ⟨w3.heap.size, k * 2 + 1, none⟩ = false := hC.frozen _
          have hcg := conv_get hlt
          have hno := @mE_no E k hlt
          obtain ⟨q, hq⟩ : ∃ q, E.getD k e0 = q := ⟨_, rfl⟩
          rw [hq] at a1 a2 a3 a4 hcg hno
          obtain ⟨n, y, sa, sb⟩ := q
          have HQ := Lib.hid hq
          have HG := Lib.hid hcg
          have HNO := Lib.hid hno
          simp only at a1 a2 a3 a4
          clear hq hcg hno hc hx q2 q3
          by_cases hk1 : n = 1
          · subst hk1
            have HK' : Hid (∀ j, j < k + 1 → (E.getD j e0).1 = 1) := fun j hj => by
              by_cases ej : j = k
              · subst ej; rw [HQ.out]
              · exact HK.out j (by omega)
            have HBA := Lib.hid hb
            have HCC := Lib.hid hC
            clear hb hC HNO
            go_wp2
            go_roundg (E.length - (k + 1))
            case measure => omega
            case rel =>
              refine ⟨k + 1, by omega, rfl, by simp, ((HBA.out.setCell (Nat.le_refl _) _).setCell (Nat.le_refl _) _).alloc (by simp [World.setCell]; omega) _, by simp [World.setCell]; omega, ?_, HK'⟩
              refine (((HCC.out.set (k * 2) (.int .i64 y)).set (k * 2 + 1) (.string sb)).of_block (((Below.refl _ _).alloc (Nat.le_refl _) _).block _ (by simp [World.setCell]; omega))).congr (fun j _ => ?_)
              rw [← af_step (E.map conv) k j, HG.out]
          · have hk2 : (n == 1) = false := by simpa using hk1
            have hk3 : (n != 1) = true := by simp [bne, hk2]
            have HM := Lib.hid (HNO.out hk1)
            have hbX := HB.out.trans (hb.mono hs3)
            have hbY := hbX.alloc hbX.size (.cells #[.int .i64 n, .int .i64 y, .string sa, .string sb] 93)
            clear hbX hb hC HNO
            go_wp2
            go_ret2
            rw [HM.out]
            exact ⟨_, rfl, OwA.nil _ _ _, hbY⟩
        · obtain rfl : k = E.length := by omega
          have HM := Lib.hid (HY.out HK.out)
          have hbX := HB.out.trans (hb.mono hs3)
          have hOA : OwA wr w.heap.size wr.heap.size (.slice (some ⟨w3.heap.size, 0, none⟩) E.length E.length) (E.map conv) := by
            refine ⟨.inr ⟨w3.heap.size, E.length, E.length * 2, _, by simp, hs3, hsz, by simp, hC, fun j hj => ?_⟩, by simp; omega⟩
            simp only [List.length_map] at hj
            have : j / 2 < E.length := by omega
            simp [af, ac2, this]
          have HOA := Lib.hid hOA
          clear hOA hC hb
          go_wp2
          go_ret2
          rw [HM.out]
          exact ⟨_, rfl, HOA.out, hbX⟩
    · have hni : (8 : Int) < (E.length : Int) := by omega
      have HM := Lib.hid (mE_long hn)
      clear HLE hmk hn
      go_wp2
      go_ret2
      rw [HM.out]
      exact ⟨_, rfl, OwA.nil _ _ _, hbw⟩
  · have hm : cmpd (adds S) P = ([], false) := by
      unfold cmpd
      rw [if_neg]
      intro h
      exact hc (by simpa using h)
    rw [mAp_no (fun h => hc h.1)]
    rw [hm] at HC
    clear hs hp hc hm oS oP
    go_enter Tryd.func63, Tryd.ntmps63
    go_wp2_with fail
    refine HA.mono ?_
    rintro e w1 ⟨rfl, hE1, hb1⟩
    have hs1 := hb1.size
    have HC1 := HC.out _ w1 hb1 hE1
    clear HA hE1 HC
    go_wp2_with fail
    refine HC1.mono ?_
    intro e w3 hpo
    obtain ⟨v, rfl, hO, hb3⟩ := hpo
    have hbw := hb1.trans (hb3.mono hs1)
    have HLE : ListE w3 v [] := hO.rd.1
    obtain ⟨va, vc, hv⟩ := HLE.shape
    subst hv
    clear HC1 hO hb1 hb3 HLE
    go_wp2
    go_ret2
    exact ⟨_, rfl, OwA.nil _ _ _, hbw⟩
theorem iappl (S : List Ar) (P : List Ed) (bs bp : Nat) (w : World) (hs : As w bs S) (hp : Es w bp P) (oS : staF S) (oP : patF P) :
    Calls Tryd.prog 63 #[.slice (some ⟨bs, 0, none⟩) S.length S.length, .slice (some ⟨bp, 0, none⟩) P.length P.length] w (QAb (mAp S P) w) := iapplx S P _ _ bp w hs.ax hp oS oP
end Go.Proofs.YtkaakomiimcbmaaDoor
/- A statute after a patch: the specification's answer. -/
namespace Go.Proofs.YtkaakomiimcbmaaDoor
open Go.ChangeShapes Go.WideShapes Go.ChangeAt Go.RowKit Go.Deep
set_option linter.unusedSimpArgs false
set_option linter.unusedVariables false
/-- The text that an article has behind the patch. -/
def tp (S : List Ar) (P : List Ed) (i : Int) : ByteArray := match fnd P i with | some e => e.2.2.2 | none => tx S i
noncomputable def ap (S : List Ar) (P : List Ed) (i : Int) : Option Ar := @ite _ (tp S P i = ⟨#[]⟩) (Classical.propDecidable _) none (some (i, tp S P i))
theorem ap_no {S : List Ar} {P : List Ed} {i : Int} (h : tp S P i = ⟨#[]⟩) : ap S P i = none := by unfold ap; rw [if_pos h]
theorem ap_yes {S : List Ar} {P : List Ed} {i : Int} (h : tp S P i ≠ ⟨#[]⟩) : ap S P i = some (i, tp S P i) := by unfold ap; rw [if_neg h]
def upA (f : Int → Option Ar) (k : Nat) : List Ar := (List.range k).filterMap fun k : Nat => f ((k : Int) + 1)
theorem upA_succ (f : Int → Option Ar) (k : Nat) : upA f (k + 1) = upA f k ++ (match f ((k : Int) + 1) with | some e => [e] | none => []) := by
  unfold upA
  rw [List.range_succ, List.filterMap_append]
  congr 1
  cases h : f ((k : Int) + 1) <;> simp [h]
theorem fa_adds {S : List Ar} {i : Int} {a : Ar} (h : fa S i = some a) : fnd (adds S) i = some (1, a.1, ⟨#[]⟩, a.2) := by rw [fnd_adds, h]; rfl
theorem fa_none {S : List Ar} {i : Int} (h : fa S i = none) : fnd (adds S) i = none := by rw [fnd_adds, h]; rfl
theorem cf_ap {S : List Ar} {P : List Ed} (oS : staF S) (oP : patF P) {i : Int} (h : ∀ e, fnd P i = some e → tx S i = e.2.2.1) : cf (adds S) P i = (ap S P i).map fun a => (1, a.1, ⟨#[]⟩, a.2) := by
  cases ha : fa S i with
  | none =>
    have ht : tx S i = ⟨#[]⟩ := by unfold tx; rw [ha]
    cases hp : fnd P i with
    | none =>
      have e : tp S P i = ⟨#[]⟩ := by unfold tp; rw [hp]; exact ht
      rw [cf_nn (fa_none ha) hp, ap_no e]; rfl
    | some e =>
      have k := fnd_pat oP i e hp
      have ho : e.2.2.1 = ⟨#[]⟩ := by rw [← h e hp]; exact ht
      have q := (edF_alt e).1 k.2.2.2
      have hn : e.2.2.2 ≠ ⟨#[]⟩ := fun z => q.2.2.1 (by rw [ho, z])
      have hk : e.1 = 1 := by rw [q.2.2.2, ho]; exact kindE_1
      have et : tp S P i = e.2.2.2 := by unfold tp; rw [hp]
      rw [cf_ns (fa_none ha) hp k.2.2.2, ap_yes (by rw [et]; exact hn), et]
      obtain ⟨n, j, a, b⟩ := e
      simp only at hk ho
      have := k.1
      simp only at this
      subst hk ho this
      rfl
  | some a =>
    have ka := fa_sta oS ha
    have ht : tx S i = a.2 := by unfold tx; rw [ha]
    have na := senF_ne ka.2.2.2
    cases hp : fnd P i with
    | none =>
      have et : tp S P i = a.2 := by unfold tp; rw [hp]; exact ht
      rw [cf_sn (fa_adds ha) hp ((edF_add a.1 a.2).2 ka.2.2.2), ap_yes (by rw [et]; exact na), et, ← ka.1]
      rfl
    | some e =>
      have et : tp S P i = e.2.2.2 := by unfold tp; rw [hp]
      rw [cf_ss (fa_adds ha) hp]
      have hj : joinE (1, a.1, ⟨#[]⟩, a.2) e = (1, i, ⟨#[]⟩, e.2.2.2) := by unfold joinE; simp only [kindE_1, ka.1]
      rw [hj]
      by_cases z : e.2.2.2 = ⟨#[]⟩
      · rw [difE_no (by exact z.symm), ap_no (by rw [et]; exact z)]; rfl
      · rw [difE_yes (by exact fun q => z q.symm), ap_yes (by rw [et]; exact z), et]; rfl
theorem tp_all {S : List Ar} {P : List Ed} (oS : staF S) (oP : patF P) (h : ∀ i : Int, 1 ≤ i → i ≤ 99 → ∀ e, fnd P i = some e → tx S i = e.2.2.1) : shd (adds S) P neO = [] ∧ allAdd (cps (adds S) P) ∧ (cps (adds S) P).map conv = upA (ap S P) 99 := by
  have h' : ∀ i e, fnd P i = some e → tx S i = e.2.2.1 := fun i e he => h i (fnd_pat oP i e he).2.1 (fnd_pat oP i e he).2.2.1 e he
  have oA := ((sta_adds S).1 oS).2
  refine ⟨shd_none oA oP fun i h1 h2 x y hx hy => ?_, ?_, ?_⟩
  · cases ha : fa S i with
    | none => rw [fa_none ha] at hx; cases hx
    | some a =>
      rw [fa_adds ha] at hx
      injection hx with hx
      subst hx
      rw [← h' i y hy]
      show tx S i = a.2
      unfold tx; rw [ha]
  · intro k hk
    have hm : (cps (adds S) P).getD k e0 ∈ cps (adds S) P := by
      simp [List.getD, hk]
    obtain ⟨e, he⟩ : ∃ e, (cps (adds S) P).getD k e0 = e := ⟨_, rfl⟩
    rw [he] at hm ⊢
    have hm2 := (idsOf_mem (cf_ok oA oP) (e := e)).1 (by rw [← upTo_all, cf_cps oA oP]; exact hm)
    rw [cf_ap oS oP (h' _)] at hm2
    cases hq : ap S P e.2.1 with
    | none => rw [hq] at hm2; cases hm2
    | some a =>
      rw [hq] at hm2
      injection hm2 with hm2
      rw [← hm2]
  · rw [← cf_cps oA oP]
    unfold upTo upA
    rw [List.map_filterMap]
    congr 1
    funext k
    rw [cf_ap oS oP (h' _)]
    cases ap S P ((k : Int) + 1) <;> rfl
theorem tp_bad {S : List Ar} {P : List Ed} (oS : staF S) (oP : patF P) {i : Int} {e : Ed} (he : fnd P i = some e) (h : tx S i ≠ e.2.2.1) : mAp S P = ([], false) := by
  have oA := ((sta_adds S).1 oS).2
  refine mAp_no fun ⟨h1, h2, h3⟩ => ?_
  cases ha : fa S i with
  | some a =>
    refine shd_some oA (fa_adds ha) he (fun q => h ?_) h1
    rw [q]
    show tx S i = a.2
    unfold tx; rw [ha]
  | none =>
    have k := fnd_pat oP i e he
    have ht : tx S i = ⟨#[]⟩ := by unfold tx; rw [ha]
    have ho : e.2.2.1 ≠ ⟨#[]⟩ := fun q => h (by rw [ht, q])
    have hc := cf_ns (fa_none ha) he k.2.2.2
    have hm : e ∈ cps (adds S) P := by
      rw [← cf_cps oA oP, upTo_all, idsOf_mem (cf_ok oA oP), k.1]
      exact hc
    obtain ⟨j, hj, hje⟩ := List.mem_iff_getElem.1 hm
    have h4 := h3 j hj
    have : (cps (adds S) P).getD j e0 = e := by rw [← hje]; simp [List.getD, hj]
    rw [this, ((edF_alt e).1 k.2.2.2).2.2.2] at h4
    by_cases z : e.2.2.2 = ⟨#[]⟩
    · rw [z, kindE_2 ho] at h4; cases h4
    · rw [kindE_3 ho z] at h4; cases h4
/-- The cells of a list of articles. -/
def flA (L : List Ar) : List Value := (List.range (L.length * 2)).map (ac2 L)
theorem flA_snoc (L : List Ar) (e : Ar) : flA (L ++ [e]) = flA L ++ [.int .i64 e.1, .string e.2] := by
  have hl : (L ++ [e]).length * 2 = L.length * 2 + 1 + 1 := by simp; omega
  have hg : (L ++ [e]).getD L.length a0 = e := by simp [List.getD]
  unfold flA
  rw [hl, List.range_succ, List.range_succ]
  simp only [List.map_append, List.map_cons, List.map_nil, List.append_assoc]
  congr 1
  · refine List.map_congr_left fun j hj => ?_
    have hj : j < L.length * 2 := by simpa using hj
    have : (L ++ [e]).getD (j / 2) a0 = L.getD (j / 2) a0 := by
      simp [List.getD, List.getElem?_append_left (show j / 2 < L.length by omega)]
    unfold ac2
    rw [this]
  · have a0' : L.length * 2 / 2 = L.length := by omega
    have a1' : (L.length * 2 + 1) / 2 = L.length := by omega
    have m0 : L.length * 2 % 2 = 0 := by omega
    have m1 : (L.length * 2 + 1) % 2 = 1 := by omega
    unfold ac2
    rw [a0', a1', m0, m1, hg]
    rfl
/-- v has been built by append and is the list L. -/
def BldA (w : World) (base : Nat) (v : Value) (L : List Ar) : Prop := w.ownsRow base 72 2 v L.length (flA L)
theorem BldA.below {w w' : World} {base : Nat} {v : Value} {L : List Ar} (h : BldA w base v L) (hb : Below w.heap.size w w') : BldA w' base v L := by
  obtain ⟨h0, h | ⟨g, cap, cur, rfl, h1, h2, h3⟩⟩ := h
  · exact ⟨h0, .inl h⟩
  · exact ⟨h0, .inr ⟨g, cap, cur, rfl, h1, (hb.block g (Array.getElem?_eq_some_iff.1 h2).1).trans h2, h3⟩⟩
theorem BldA.done {w : World} {base hi : Nat} {v : Value} {L : List Ar} (h : BldA w base v L) (hh : w.heap.size ≤ hi) (hl : L.length ≤ 1048576) : OwA w base hi v L := by
  obtain ⟨_, h⟩ := h
  rcases h with ⟨rfl, h0⟩ | ⟨g, cap, cur, rfl, hb, hg, hn, hcap, hs, ht⟩
  · exact ⟨.inl ⟨rfl, List.eq_nil_of_length_eq_zero h0⟩, hl⟩
  · have hlt : g < w.heap.size := (Array.getElem?_eq_some_iff.1 hg).1
    refine ⟨.inr ⟨g, cap, cur.size, fun i => (cur[i]?).getD (.bool false), rfl, hb, by omega, by omega, ⟨cur, hg, rfl, fun i hi => by simp [hi]⟩, fun j hj => ?_⟩, hl⟩
    have h1 : (cur.toList.take (L.length * 2))[j]? = (flA L)[j]? := by rw [ht]
    rw [List.getElem?_take_of_lt hj, Array.getElem?_toList] at h1
    show (cur[j]?).getD (.bool false) = _
    rw [h1]
    simp [flA, hj]
theorem BldA.snoc {w : World} {base : Nat} {v : Value} {L : List Ar} {e : Ar} (h : w.ownsRow base 72 2 v (L.length + 1) (flA L ++ [.int .i64 e.1, .string e.2])) : BldA w base v (L ++ [e]) := by
  have hl : (L ++ [e]).length = L.length + 1 := by simp
  unfold BldA
  rw [hl, flA_snoc]
  exact h
theorem BldA.start (w : World) : BldA (w.alloc (.cells #[] 72)) w.heap.size (.slice (some ⟨w.heap.size, 0, none⟩) 0 0) [] := World.ownsRow_lit w #[] 0 (Nat.le_refl _) (by unfold maxLen; omega) rfl
noncomputable def mApp (S : List Ar) (P : List Ed) : List Ar × Bool := if staB S && patB P then mAp S P else ([], false)
theorem mApp_no {S : List Ar} {P : List Ed} (h : ¬ (staB S && patB P) = true) : mApp S P = ([], false) := by unfold mApp; rw [if_neg h]
theorem mApp_yes {S : List Ar} {P : List Ed} (h : (staB S && patB P) = true) : mApp S P = mAp S P := by unfold mApp; rw [if_pos h]
end Go.Proofs.YtkaakomiimcbmaaDoor
/- A statute after a patch: both answers. -/
namespace Go.Proofs.YtkaakomiimcbmaaDoor
open Go.ChangeShapes Go.WideShapes Go.ChangeAt Go.RowKit Go.Deep
set_option linter.unusedSimpArgs false
set_option linter.unusedVariables false
def PAp (S : List Ar) (P : List Ed) (w : World) (e : Ending) (w' : World) : Prop := ∃ v r z, e = .returned (.tuple #[v, .bool z]) ∧ OwA w' w.heap.size w'.heap.size v r ∧ Below w.heap.size w w' ∧ mAp S P = (if z = true then r else [], z)
set_option maxHeartbeats 8000000 in
set_option maxRecDepth 100000 in
theorem sappx (S : List Ar) (P : List Ed) (av : Option Addr) (cs bp cp : Nat) (w : World) (hs : Ax w av S) (hp : Es w bp P) (oS : staF S) (oP : patF P) :
    Calls Tryd.prog 61 #[.slice av S.length cs, .slice (some ⟨bp, 0, none⟩) P.length cp] w (PAp S P w) := by
  obtain ⟨i0, hi, hz0, hz1, hz2⟩ := info_parts7 infoAr
  have ls := oS.1
  have lp := oP.1
  have HA := Lib.hid (fun y w' (hw : Below w.heap.size w w') => sfindx S av cs y w' (hs.below hw) (by omega))
  have HP := Lib.hid (fun y w' (hw : Below w.heap.size w w') => sedof P bp cp y w' (hp.below hw) (by omega))
  have OKP := Lib.hid (pat_ok oP)
  have HALL := Lib.hid (tp_all oS oP)
  have HBAD := Lib.hid (fun (i : Int) (e : Ed) (he : fnd P i = some e) (h : tx S i ≠ e.2.2.1) => tp_bad oS oP he h)
  have hB0 := BldA.start w
  have hbb0 := (Below.refl w.heap.size w).alloc (Nat.le_refl _) (.cells #[] 72)
  clear hs hp oS oP
  go_enter Tryd.func61, Tryd.ntmps61
  go_wp2
  go_loopg [6, 7] 99 (fun g v i wr => ∃ (k : Nat) (l : List Ar), k ≤ 99 ∧ g = 99 - k ∧ i = .int .i64 ((k : Int) + 1) ∧ Below w.heap.size w wr ∧ l.length ≤ k ∧ Hid (l = upA (ap S P) k) ∧ BldA wr w.heap.size v l ∧ Hid (∀ i : Int, 1 ≤ i → i ≤ k → ∀ e, fnd P i = some e → tx S i = e.2.2.1))
  case atStart => exact ⟨0, [], Nat.zero_le _, rfl, by simp, hbb0, Nat.le_refl _, rfl, hB0, fun i h1 h2 => absurd h2 (by simp; omega)⟩
  case round =>
    clear hB0 hbb0
    obtain ⟨k, l, hk, rfl, rfl, hb, hll, HL, hO, HF⟩ := hrel
    have lbs := hb.size
    by_cases hlt : k < 99
    · have hst := upA_succ (ap S P) k
      have hff : ∀ y : Int, (k : Int) + 1 = y → (∀ e, fnd P y = some e → tx S y = e.2.2.1) → Hid (∀ i : Int, 1 ≤ i → i ≤ ((k + 1 : Nat) : Int) → ∀ e, fnd P i = some e → tx S i = e.2.2.1) := fun y hy h i h1 h2 e he => by
        by_cases q : i = y
        · subst q; exact h e he
        · exact HF.out i h1 (by omega) e he
      obtain ⟨y, hy⟩ : ∃ y : Int, (k : Int) + 1 = y := ⟨_, rfl⟩
      have HFF := Lib.hid (hff y hy)
      rw [hy] at hst
      simp only [hy]
      have y1 : 1 ≤ y := by omega
      have y2 : y ≤ 99 := by omega
      have HE := HP.out y wr hb
      have HA1 := HA.out y wr hb
      have HYK := Lib.hid hy
      clear hy hff HF
      cases hf : fnd P y with
      | none =>
        have het : tp S P y = tx S y := by unfold tp; rw [hf]
        have HFN := HFF.out (fun e he => by rw [hf] at he; cases he)
        simp only [hf] at HE
        unfold vE e0 at HE
        simp only [Option.getD_none] at HE
        clear hf HFF
        by_cases ht : tx S y = ⟨#[]⟩
        · rw [ap_no (by rw [het]; exact ht)] at hst
          rw [ht] at HA1
          have HEE : Hid (l = upA (ap S P) (k + 1)) := by show l = _; rw [hst, ← HL.out, List.append_nil]
          clear hst het ht
          go_wp2_with fail
          refine HA1.mono ?_
          rintro e w1 ⟨rfl, rfl⟩
          go_wp2_with fail
          refine HE.mono ?_
          rintro e w4 ⟨rfl, hb4⟩
          have hown : w4.ownsRow w.heap.size 72 2 u6 l.length (flA l) := hO.below hb4
          have hb5 := hb.trans (hb4.mono lbs)
          have hs5 := hb5.size
          clear hO hb4 HE HA1
          have hb6 := hb5.alloc hs5 (.cells #[.int .i64 0, .int .i64 0, .string ⟨#[]⟩, .string ⟨#[]⟩] 93)
          have hO6 : BldA (w4.alloc (.cells #[.int .i64 0, .int .i64 0, .string ⟨#[]⟩, .string ⟨#[]⟩] 93)) w.heap.size u6 l := World.ownsRow.alloc hown _
          go_wp2
          go_roundg (99 - (k + 1))
          case measure => omega
          case rel => exact ⟨k + 1, l, by omega, rfl, by rw [← HYK.out]; simp, hb6, by omega, HEE, hO6, HFN⟩
        · rw [ap_yes (by rw [het]; exact ht), het] at hst
          have hte := str_em ht
          obtain ⟨t, hte2⟩ : ∃ t, tx S y = t := ⟨_, rfl⟩
          rw [hte2] at HA1 hst hte
          have HEE : Hid (l ++ [(y, t)] = upA (ap S P) (k + 1)) := by show l ++ _ = _; rw [hst, ← HL.out]
          clear hst het ht hte2
          go_wp2_with fail
          refine HA1.mono ?_
          rintro e w1 ⟨rfl, rfl⟩
          go_wp2_with fail
          refine HE.mono ?_
          rintro e w4 ⟨rfl, hb4⟩
          have hown : w4.ownsRow w.heap.size 72 2 u6 l.length (flA l) := hO.below hb4
          have hb5 := hb.trans (hb4.mono lbs)
          have hs5 := hb5.size
          clear hO hb4 HE HA1
          go_wp2_with (first
            | (at_builtin; refine wpList_append_own _ rfl _ _ 38 rfl w.heap.size 72 i0 _ 2 24 Tryd.underlying38 hi hz0 hz1 hz2 rfl (by decide) _ _ _ rfl ((hown.alloc _).alloc _) ⟨w4.heap.size + 1, 0, none⟩ 1 1 [.int .i64 y, .string t] rfl rfl ?c1 ?c2 ?c3 ?c4 ?c5 ?_))
          case c1 => exact World.news_of_block (cs := #[.int .i64 y, .string t]) (t := 72) (fr := (0, 0)) (by simpa using heap_alloc_new (w4.alloc (.cells #[.int .i64 0, .int .i64 0, .string ⟨#[]⟩, .string ⟨#[]⟩] 93)) _)
          case c2 => simp [Value.oneCell']
          case c3 => unfold maxLen; omega
          case c4 => omega
          case c5 => simp; omega
          intro v' w9 hown9 hgrow _
          have hb9 := ((hb5.alloc hs5 (.cells #[.int .i64 0, .int .i64 0, .string ⟨#[]⟩, .string ⟨#[]⟩] 93)).alloc (by simp; omega) (.cells #[.int .i64 y, .string t] 72)).grown hgrow (by simp; omega) (fun x e => (hown.lt x e).1)
          have HO : Hid (BldA w9 w.heap.size v' (l ++ [(y, t)])) := Lib.hid (BldA.snoc (e := (y, t)) hown9)
          have HLN : Hid ((l ++ [(y, t)]).length = l.length + 1) := Lib.hid (by simp)
          clear hown9 hgrow hown
          go_wp2
          go_roundg (99 - (k + 1))
          case measure => omega
          case rel => exact ⟨k + 1, l ++ [(y, t)], by omega, rfl, by rw [← HYK.out]; simp, hb9, by rw [HLN.out]; omega, HEE, HO.out, HFN⟩
      | some e =>
        have het : tp S P y = e.2.2.2 := by unfold tp; rw [hf]
        obtain ⟨em, ei⟩ := fnd_some hf
        have hkd := edF_kind (OKP.out e em)
        simp only [hf] at HE
        have HBD := Lib.hid (HBAD.out y e hf)
        have hfn : tx S y = e.2.2.1 → Hid (∀ i : Int, 1 ≤ i → i ≤ ((k + 1 : Nat) : Int) → ∀ e, fnd P i = some e → tx S i = e.2.2.1) := fun h => HFF.out (fun e' he' => by
          rw [hf] at he'
          injection he' with he'
          subst he'
          exact h)
        clear hf em ei HFF
        obtain ⟨n', y', sa, sb⟩ := e
        unfold vE at HE
        simp only [Option.getD_some] at HE
        simp only at hkd het hfn HBD
        have hkd2 : (n' != 0) = true := by simp [bne, hkd]
        have hkd3 : ¬ n' = 0 := by simpa using hkd
        by_cases hm : tx S y = sa
        · have HFN := hfn hm
          rw [hm] at HA1
          clear hfn HBD
          by_cases ht : sb = ⟨#[]⟩
          · subst ht
            rw [ap_no het] at hst
            have HEE : Hid (l = upA (ap S P) (k + 1)) := by show l = _; rw [hst, ← HL.out, List.append_nil]
            clear hst het hm
            go_wp2_with fail
            refine HA1.mono ?_
            rintro e w1 ⟨rfl, rfl⟩
            go_wp2_with fail
            refine HE.mono ?_
            rintro e w4 ⟨rfl, hb4⟩
            have hown : w4.ownsRow w.heap.size 72 2 u6 l.length (flA l) := hO.below hb4
            have hb5 := hb.trans (hb4.mono lbs)
            have hs5 := hb5.size
            clear hO hb4 HE HA1
            have hb6 := hb5.alloc hs5 (.cells #[.int .i64 n', .int .i64 y', .string sa, .string ⟨#[]⟩] 93)
            have hO6 : BldA (w4.alloc (.cells #[.int .i64 n', .int .i64 y', .string sa, .string ⟨#[]⟩] 93)) w.heap.size u6 l := World.ownsRow.alloc hown _
            go_wp2
            go_roundg (99 - (k + 1))
            case measure => omega
            case rel => exact ⟨k + 1, l, by omega, rfl, by rw [← HYK.out]; simp, hb6, by omega, HEE, hO6, HFN⟩
          · rw [ap_yes (by rw [het]; exact ht), het] at hst
            have hte := str_em ht
            have HEE : Hid (l ++ [(y, sb)] = upA (ap S P) (k + 1)) := by show l ++ _ = _; rw [hst, ← HL.out]
            clear hst het ht hm
            go_wp2_with fail
            refine HA1.mono ?_
            rintro e w1 ⟨rfl, rfl⟩
            go_wp2_with fail
            refine HE.mono ?_
            rintro e w4 ⟨rfl, hb4⟩
            have hown : w4.ownsRow w.heap.size 72 2 u6 l.length (flA l) := hO.below hb4
            have hb5 := hb.trans (hb4.mono lbs)
            have hs5 := hb5.size
            clear hO hb4 HE HA1
            go_wp2_with (first
              | (at_builtin; refine wpList_append_own _ rfl _ _ 38 rfl w.heap.size 72 i0 _ 2 24 Tryd.underlying38 hi hz0 hz1 hz2 rfl (by decide) _ _ _ rfl ((hown.alloc _).alloc _) ⟨w4.heap.size + 1, 0, none⟩ 1 1 [.int .i64 y, .string sb] rfl rfl ?c1 ?c2 ?c3 ?c4 ?c5 ?_))
            case c1 => exact World.news_of_block (cs := #[.int .i64 y, .string sb]) (t := 72) (fr := (0, 0)) (by simpa using heap_alloc_new (w4.alloc (.cells #[.int .i64 n', .int .i64 y', .string sa, .string sb] 93)) _)
            case c2 => simp [Value.oneCell']
            case c3 => unfold maxLen; omega
            case c4 => omega
            case c5 => simp; omega
            intro v' w9 hown9 hgrow _
            have hb9 := ((hb5.alloc hs5 (.cells #[.int .i64 n', .int .i64 y', .string sa, .string sb] 93)).alloc (by simp; omega) (.cells #[.int .i64 y, .string sb] 72)).grown hgrow (by simp; omega) (fun x e => (hown.lt x e).1)
            have HO : Hid (BldA w9 w.heap.size v' (l ++ [(y, sb)])) := Lib.hid (BldA.snoc (e := (y, sb)) hown9)
            have HLN : Hid ((l ++ [(y, sb)]).length = l.length + 1) := Lib.hid (by simp)
            clear hown9 hgrow hown
            go_wp2
            go_roundg (99 - (k + 1))
            case measure => omega
            case rel => exact ⟨k + 1, l ++ [(y, sb)], by omega, rfl, by rw [← HYK.out]; simp, hb9, by rw [HLN.out]; omega, HEE, HO.out, HFN⟩
        · have HCF := Lib.hid (HBD.out hm)
          have hne := str_ne hm
          obtain ⟨t, hte2⟩ : ∃ t, tx S y = t := ⟨_, rfl⟩
          rw [hte2] at HA1 hne
          clear hst het hfn HBD hm hte2
          go_wp2_with fail
          refine HA1.mono ?_
          rintro e w1 ⟨rfl, rfl⟩
          go_wp2_with fail
          refine HE.mono ?_
          rintro e w4 ⟨rfl, hb4⟩
          have hown : w4.ownsRow w.heap.size 72 2 u6 l.length (flA l) := hO.below hb4
          have hb5 := hb.trans (hb4.mono lbs)
          have hs5 := hb5.size
          clear hO hb4 HE HA1
          have hb6 := hb5.alloc hs5 (.cells #[.int .i64 n', .int .i64 y', .string sa, .string sb] 93)
          clear hown
          go_wp2
          go_ret2
          exact ⟨_, [], false, rfl, OwA.nil _ _ _, hb6, by rw [HCF.out]; rfl⟩
    · obtain rfl : k = 99 := by omega
      have hall := HALL.out (fun i h1 h2 => HF.out i h1 (by simpa using h2))
      have hl := HL.out
      have hlen : l.length ≤ 99 := hll
      have hll2 : (cps (adds S) P).length = l.length := by rw [hl, ← hall.2.2, List.length_map]
      have hOW := hO.done (Nat.le_refl _) (by omega)
      obtain ⟨va', vc', hv'⟩ := hOW.rd.1.shape
      subst hv'
      have HOW := Lib.hid hOW
      have hcase : ((l.length : Int) ≤ 8 ∧ mAp S P = (l, true)) ∨ (¬ (l.length : Int) ≤ 8 ∧ mAp S P = ([], false)) := by
        by_cases hn : l.length ≤ 8
        · exact .inl ⟨by omega, by rw [mAp_yes ⟨hall.1, by omega, hall.2.1⟩, hall.2.2, hl]⟩
        · exact .inr ⟨by omega, mAp_no (fun h => hn (by have := h.2.1; omega))⟩
      clear hO hl hOW hall hll2 HALL HBAD
      rcases hcase with ⟨hni, hm⟩ | ⟨hni, hm⟩
      · have HM := Lib.hid hm
        clear hm
        go_wp2
        go_ret2
        exact ⟨_, l, true, rfl, HOW.out, hb, by rw [HM.out]; rfl⟩
      · have HM := Lib.hid hm
        clear hm
        go_wp2
        go_ret2
        exact ⟨_, l, false, rfl, HOW.out, hb, by rw [HM.out]; rfl⟩
theorem sapp (S : List Ar) (P : List Ed) (bs cs bp cp : Nat) (w : World) (hs : As w bs S) (hp : Es w bp P) (oS : staF S) (oP : patF P) :
    Calls Tryd.prog 61 #[.slice (some ⟨bs, 0, none⟩) S.length cs, .slice (some ⟨bp, 0, none⟩) P.length cp] w (PAp S P w) := sappx S P _ cs bp cp w hs.ax hp oS oP
end Go.Proofs.YtkaakomiimcbmaaDoor
