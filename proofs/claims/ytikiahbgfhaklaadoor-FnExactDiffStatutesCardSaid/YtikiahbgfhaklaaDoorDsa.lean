/- Several of this claim's texts in one: In3, St1, St2, K10, Ds1, Ds2. -/
import Derived.Test.YtikiahbgfhaklaaDoorIn2
import Derived.Test.YtikiahbgfhaklaaDoorK7
import Derived.Test.YtikiahbgfhaklaaDoorK9
import Derived.Test.YtikiahbgfhaklaaDoorCma
/- The inverse of a patch: the program's; both answers. -/
namespace Go.Proofs.YtikiahbgfhaklaaDoor
open Go.ChangeShapes Go.WideShapes Go.ChangeAt Go.RowKit Go.Deep
set_option linter.unusedSimpArgs false
set_option linter.unusedVariables false
set_option maxHeartbeats 4000000 in
set_option maxRecDepth 100000 in
theorem iinv (L : List Ed) (b cap : Nat) (w : World) (h : Es w b L) (hn : L.length ≤ 1048576) :
    Calls Tryd.prog 70 #[.slice (some ⟨b, 0, none⟩) L.length cap] w fun e w' => e = .returned (.slice (some ⟨w.heap.size, 0, none⟩) L.length L.length) ∧ Es w' w.heap.size (invs L) ∧ Below w.heap.size w w' := by
  have hmk := run_make4 (P := Tryd.prog) 33 74 _ _ _ _ 48 Tryd.underlying33 infoE rfl .i64 .i64 L.length (by omega) (by omega)
  have HX := Lib.hid h
  have HE := Lib.hid (fun (i : Int) (a c : ByteArray) w' => iefrom i a c w')
  clear h
  go_enter Tryd.func70, Tryd.ntmps70
  go_wp2
  go_loopg [4, 5, 11] L.length (fun g _ _ i wr => ∃ k : Nat, k ≤ L.length ∧ g = L.length - k ∧ i = .int .i64 k ∧ Below w.heap.size w wr ∧ w.heap.size < wr.heap.size ∧ wr.rowIs w.heap.size 74 (L.length * 4) (ef (invs L) k))
  case atStart => exact ⟨0, Nat.zero_le _, rfl, rfl, (Below.refl _ _).alloc (Nat.le_refl _) _, by simp, (rowIs_made4 _ _ _ _ _ _ _).congr (fun j _ => by simp [ef])⟩
  case round =>
    obtain ⟨k, hk, rfl, rfl, hb, hsz, hC⟩ := hrel
    clear hmk
    by_cases hlt : k < L.length
    · have ha := (HX.out.below hb).at hlt
      have lb := (HX.out.below hb).lt
      have hga := invs_get L hlt
      obtain ⟨q, hq⟩ : ∃ q, L.getD k e0 = q := ⟨_, rfl⟩
      rw [hq] at ha hga
      obtain ⟨m, n, sa, sb⟩ := q
      obtain ⟨a1, a2, a3, a4⟩ := ha
      unfold invE at hga
      simp only at a1 a2 a3 a4 hga
      obtain ⟨kk, hkk⟩ : ∃ kk, kindE sb sa = kk := ⟨_, rfl⟩
      rw [hkk] at hga
      have HE1 := fun w' => HE.out n sb sa w'
      rw [hkk] at HE1
      have s1 : wr.cell? ⟨w.heap.size, k * 4, none⟩ = some (ef (invs L) k (k * 4)) := hC.cell (by omega)
      have s2 : wr.cell? ⟨w.heap.size, k * 4 + 1, none⟩ = some (ef (invs L) k (k * 4 + 1)) := hC.cell (by omega)
      have s3 : wr.cell? ⟨w.heap.size, k * 4 + 2, none⟩ = some (ef (invs L) k (k * 4 + 2)) := hC.cell (by omega)
      have s4 : wr.cell? ⟨w.heap.size, k * 4 + 3, none⟩ = some (ef (invs L) k (k * 4 + 3)) := hC.cell (by omega)
      have f1 : wr.frozen? ⟨w.heap.size, k * 4, none⟩ = false := hC.frozen _
      have f2 : wr.frozen? ⟨w.heap.size, k * 4 + 1, none⟩ = false := hC.frozen _
      have f3 : wr.frozen? ⟨w.heap.size, k * 4 + 2, none⟩ = false := hC.frozen _
      have f4 : wr.frozen? ⟨w.heap.size, k * 4 + 3, none⟩ = false := hC.frozen _
      have HG := Lib.hid hga
      have ba := (Below.refl wr.heap.size wr).alloc (Nat.le_refl _) (.cells #[.int .i64 m, .int .i64 n, .string sa, .string sb] 74)
      have BA := Lib.hid ba
      clear hq hga ba hkk
      go_wp2_with fail
      refine (HE1 _).mono ?_
      rintro e w1 ⟨rfl, hb1'⟩
      have hb1 := BA.out.trans (hb1'.mono BA.out.size)
      obtain ⟨hc1, hf1⟩ := bcell hb1
      rw [← hc1 _ _ hsz] at s1 s2 s3 s4
      rw [← hf1 _ _ hsz] at f1 f2 f3 f4
      clear hc1 hf1 a1 a2 a3 a4 hb1' HE1
      go_wp2
      go_roundg (L.length - (k + 1))
      case measure => omega
      case rel =>
        refine ⟨k + 1, by omega, rfl, by simp, ((((hb.trans (hb1.mono (by omega))).setCell (Nat.le_refl _) _).setCell (Nat.le_refl _) _).setCell (Nat.le_refl _) _).setCell (Nat.le_refl _) _, by have := hb1.size; simp [World.setCell]; omega, ?_⟩
        refine (((((hC.of_block (hb1.block _ hsz)).set (k * 4) _).set (k * 4 + 1) _).set (k * 4 + 2) _).set (k * 4 + 3) _).congr (fun j _ => ?_)
        rw [← ef_step (invs L) k j, HG.out]
    · have e : k = L.length := by omega
      subst e
      go_wp2
      go_ret
      refine ⟨rfl, ?_, hb⟩
      unfold Es
      rw [invs_len]
      exact hC
noncomputable def mInv (L : List Ed) : List Ed × Bool := if patB L then (invs L, true) else ([], false)
end Go.Proofs.YtikiahbgfhaklaaDoor
/- Statutes: whether a list of articles is one: the specification's look. -/
namespace Go.Proofs.YtikiahbgfhaklaaDoor
open Go.ChangeShapes Go.WideShapes Go.ChangeAt Go.RowKit Go.Deep
set_option linter.unusedSimpArgs false
set_option linter.unusedVariables false
def sta1 (L : List Ar) (k : Nat) : Prop := (1 ≤ (L.getD k a0).1 ∧ (L.getD k a0).1 ≤ 99) ∧ senF (L.getD k a0).2 ∧ (0 < k → (L.getD (k - 1) a0).1 < (L.getD k a0).1)
def staF (L : List Ar) : Prop := L.length ≤ 8 ∧ ∀ k, k < L.length → sta1 L k
noncomputable def staB (L : List Ar) : Bool := @decide (staF L) (Classical.propDecidable _)
theorem staB_iff {L : List Ar} : staB L = true ↔ staF L := by simp [staB]
theorem staB_yes {L : List Ar} (h : staF L) : staB L = true := by simp [staB, h]
theorem staB_no {L : List Ar} (h : ¬ staF L) : staB L = false := by simp [staB, h]
set_option maxHeartbeats 4000000 in
set_option maxRecDepth 100000 in
theorem sstat (L : List Ar) (b cap : Nat) (w : World) (h : As w b L) (hf : FitsA L) :
    Calls Tryd.prog 41 #[.slice (some ⟨b, 0, none⟩) L.length cap] w fun e w' => e = .returned (.bool (staB L)) ∧ Drw w w' := by
  obtain ⟨hf1, hf2⟩ := hf
  have HF := Lib.hid hf2
  have HX := Lib.hid h
  clear h hf2
  go_enter Tryd.func41, Tryd.ntmps41
  go_wp2
  go_loopg [3] L.length (fun g i wr => ∃ k : Nat, k ≤ L.length ∧ g = L.length - k ∧ i = .int .i64 k ∧ Drw w wr ∧ Hid (∀ j, j < k → sta1 L j))
  case atStart => exact ⟨0, Nat.zero_le _, rfl, rfl, Drw.refl _, fun j hj => absurd hj (Nat.not_lt_zero _)⟩
  case round =>
    obtain ⟨k, hk, rfl, rfl, hd, H⟩ := hrel
    have hb := hd.below
    by_cases hlt : k < L.length
    · have ha := (HX.out.below hb).at hlt
      have l1 := HF.out k hlt
      have hno : ¬ sta1 L k → staB L = false := fun hn => staB_no (fun ho => hn (ho.2 k hlt))
      have HN := Lib.hid hno
      obtain ⟨q, hq⟩ : ∃ q, L.getD k a0 = q := ⟨_, rfl⟩
      rw [hq] at ha l1
      obtain ⟨y, t⟩ := q
      have HQ := Lib.hid hq
      obtain ⟨a1, a2⟩ := ha
      simp only at a1 a2 l1
      obtain ⟨z, hz⟩ : ∃ z, senB t = z := ⟨_, rfl⟩
      have HS2 := fun n => ssenN t wr n z (by omega) hz
      have HZ := Lib.hid hz
      clear hno hq hz
      by_cases hin : 1 ≤ y ∧ y ≤ 99
      · have i2 := inB_yes hin.1 hin.2
        have HIN := Lib.hid hin
        cases z with
        | false =>
          go_wp2_with fail
          go_quiet ((first | (go_at_call 86; exact quiet_left (in_val _ _ _ _)) | (go_at_call 87; exact quiet_left (HS2 _))))
          go_wp2
          go_ret
          refine ⟨?_, hd.drewN _⟩
          rw [HN.out (fun ho => by have h2 := senB_yes ho.2.1; simp only [HQ.out, HZ.out] at h2; cases h2)]; rfl
        | true =>
          by_cases hk0 : k = 0
          · have hk1 : ¬ 0 < k := by omega
            clear hk0
            go_wp2_with fail
            go_quiet ((first | (go_at_call 86; exact quiet_left (in_val _ _ _ _)) | (go_at_call 87; exact quiet_left (HS2 _))))
            go_wp2
            go_roundg (L.length - (k + 1))
            case measure => omega
            case rel =>
              refine ⟨k + 1, by omega, rfl, by simp, hd.drewN _, fun j hj => ?_⟩
              by_cases ej : j = k
              · subst ej
                unfold sta1
                rw [HQ.out]
                exact ⟨HIN.out, senB_iff.1 HZ.out, fun h => absurd h hk1⟩
              · exact H.out j (by omega)
          · obtain ⟨k', hkk'⟩ : ∃ k', k = k' + 1 := ⟨k - 1, by omega⟩
            have c2 := ((HX.out.below hb).at (k := k') (by omega)).1
            obtain ⟨y', hy'⟩ : ∃ y, (L.getD k' a0).1 = y := ⟨_, rfl⟩
            rw [hy'] at c2
            have HY2 := Lib.hid hy'
            have hlk : k' < L.length := by omega
            have wk1 : IntKind.i64.wrap ((k : Int) - 1) = k' := by rw [IntKind.wrap_i64]; omega
            have wk2 : (k : Int) - 1 = k' := by omega
            have wk3 : IntKind.i64.wrap (k' : Int) = k' := by rw [IntKind.wrap_i64]; omega
            have hpk : 0 < k := by omega
            have HKK := Lib.hid hkk'
            clear hy' hk0 hkk'
            by_cases hle : y ≤ y'
            · have HLE := Lib.hid hle
              go_wp2_with fail
              go_quiet ((first | (go_at_call 86; exact quiet_left (in_val _ _ _ _)) | (go_at_call 87; exact quiet_left (HS2 _))))
              go_wp2
              go_ret
              refine ⟨?_, hd.drewN _⟩
              rw [HN.out (fun ho => by
                have h3 := ho.2.2 hpk
                have e1 : k - 1 = k' := by have := HKK.out; omega
                rw [e1, HQ.out, HY2.out] at h3
                have := HLE.out
                simp only at h3
                omega)]; rfl
            · have HLE := Lib.hid hle
              go_wp2_with fail
              go_quiet ((first | (go_at_call 86; exact quiet_left (in_val _ _ _ _)) | (go_at_call 87; exact quiet_left (HS2 _))))
              go_wp2
              go_roundg (L.length - (k + 1))
              case measure => omega
              case rel =>
                refine ⟨k + 1, by omega, rfl, by simp, hd.drewN _, fun j hj => ?_⟩
                by_cases ej : j = k
                · subst ej
                  unfold sta1
                  have e1 : j - 1 = k' := by have := HKK.out; omega
                  rw [e1, HQ.out, HY2.out]
                  exact ⟨HIN.out, senB_iff.1 HZ.out, fun _ => by have := HLE.out; show y' < y; omega⟩
                · exact H.out j (by omega)
      · have i2 := inB_no hin
        have HIN := Lib.hid hin
        clear hin HS2
        go_wp2_with fail
        go_quiet ((first | (go_at_call 86; exact quiet_left (in_val _ _ _ _))))
        go_wp2
        go_ret
        refine ⟨?_, hd.drewN _⟩
        rw [HN.out (fun ho => HIN.out (by have := ho.1; rw [HQ.out] at this; exact this))]; rfl
    · obtain rfl : k = L.length := by omega
      by_cases h8 : L.length ≤ 8
      · have HYY := Lib.hid (staB_yes (L := L) ⟨h8, H.out⟩)
        go_wp2
        go_ret
        refine ⟨?_, hd⟩
        rw [HYY.out]
        exact ret_bool (by simp; omega)
      · have HNN := Lib.hid (staB_no (L := L) (fun h => h8 h.1))
        go_wp2
        go_ret
        refine ⟨?_, hd⟩
        rw [HNN.out]
        exact ret_bool (by simp; omega)
/-- The edits that make a statute of an empty one. -/
def adds (L : List Ar) : List Ed := L.map fun a => (1, a.1, ⟨#[]⟩, a.2)
theorem adds_len (L : List Ar) : (adds L).length = L.length := by simp [adds]
theorem adds_get (L : List Ar) {k : Nat} (hk : k < L.length) : (adds L).getD k e0 = (1, (L.getD k a0).1, ⟨#[]⟩, (L.getD k a0).2) := by
  simp [adds, List.getD, hk]
theorem edF_add (i : Int) (t : ByteArray) : edF (1, i, ⟨#[]⟩, t) ↔ senF t := by
  unfold edF
  simp only
  constructor
  · rintro (h | h | h)
    · exact h.2.2
    · exact absurd h.1 (by omega)
    · exact absurd h.1 (by omega)
  · intro h
    exact .inl (by simpa using h)
theorem pat_adds (L : List Ar) {k : Nat} (hk : k < L.length) : pat1 (adds L) k ↔ sta1 L k := by
  unfold pat1 sta1
  rw [adds_get L hk]
  by_cases h0 : 0 < k
  · rw [adds_get L (k := k - 1) (by omega)]
    simp only [edF_add]
  · simp only [edF_add]
    constructor
    · rintro ⟨h1, h2, h3⟩; exact ⟨h1, h2, fun h => absurd h h0⟩
    · rintro ⟨h1, h2, h3⟩; exact ⟨h1, h2, fun h => absurd h h0⟩
theorem sta_adds (L : List Ar) : staF L ↔ L.length ≤ 8 ∧ patF (adds L) := by
  unfold staF patF
  rw [adds_len]
  constructor
  · rintro ⟨h1, h2⟩
    exact ⟨h1, by omega, fun k hk => (pat_adds L hk).2 (h2 k hk)⟩
  · rintro ⟨h1, h2, h3⟩
    exact ⟨h1, fun k hk => (pat_adds L hk).1 (h3 k hk)⟩
end Go.Proofs.YtikiahbgfhaklaaDoor
/- Statutes: the edits that make one of an empty one; whether a list of articles is one: the program's look. -/
namespace Go.Proofs.YtikiahbgfhaklaaDoor
open Go.ChangeShapes Go.WideShapes Go.ChangeAt Go.RowKit Go.Deep
set_option linter.unusedSimpArgs false
set_option linter.unusedVariables false
set_option maxHeartbeats 4000000 in
set_option maxRecDepth 100000 in
theorem iadd (L : List Ar) (b cap : Nat) (w : World) (h : As w b L) (hn : L.length ≤ 1048576) :
    Calls Tryd.prog 71 #[.slice (some ⟨b, 0, none⟩) L.length cap] w fun e w' => e = .returned (.slice (some ⟨w.heap.size, 0, none⟩) L.length L.length) ∧ Es w' w.heap.size (adds L) ∧ Below w.heap.size w w' := by
  have hmk := run_make4 (P := Tryd.prog) 33 74 _ _ _ _ 48 Tryd.underlying33 infoE rfl .i64 .i64 L.length (by omega) (by omega)
  have HX := Lib.hid h
  have HE : Hid (∀ (i : Int) (c : ByteArray) w', Calls Tryd.prog 106 #[.int .i64 i, .string ⟨#[]⟩, .string c] w' fun e w'' => e = .returned (.agg #[.int .i64 1, .int .i64 i, .string ⟨#[]⟩, .string c]) ∧ Below w'.heap.size w' w'') := fun i c w' => by
    have := iefrom i ⟨#[]⟩ c w'
    rwa [kindE_1] at this
  clear h
  go_enter Tryd.func71, Tryd.ntmps71
  go_wp2
  go_loopg [4, 5, 11] L.length (fun g _ _ i wr => ∃ k : Nat, k ≤ L.length ∧ g = L.length - k ∧ i = .int .i64 k ∧ Below w.heap.size w wr ∧ w.heap.size < wr.heap.size ∧ wr.rowIs w.heap.size 74 (L.length * 4) (ef (adds L) k))
  case atStart => exact ⟨0, Nat.zero_le _, rfl, rfl, (Below.refl _ _).alloc (Nat.le_refl _) _, by simp, (rowIs_made4 _ _ _ _ _ _ _).congr (fun j _ => by simp [ef])⟩
  case round =>
    obtain ⟨k, hk, rfl, rfl, hb, hsz, hC⟩ := hrel
    clear hmk
    by_cases hlt : k < L.length
    · have ha := (HX.out.below hb).at hlt
      have lb := (HX.out.below hb).lt
      have hga := adds_get L hlt
      obtain ⟨q, hq⟩ : ∃ q, L.getD k a0 = q := ⟨_, rfl⟩
      rw [hq] at ha hga
      obtain ⟨n, t⟩ := q
      obtain ⟨a1, a2⟩ := ha
      simp only at a1 a2 hga
      have s1 : wr.cell? ⟨w.heap.size, k * 4, none⟩ = some (ef (adds L) k (k * 4)) := hC.cell (by omega)
      have s2 : wr.cell? ⟨w.heap.size, k * 4 + 1, none⟩ = some (ef (adds L) k (k * 4 + 1)) := hC.cell (by omega)
      have s3 : wr.cell? ⟨w.heap.size, k * 4 + 2, none⟩ = some (ef (adds L) k (k * 4 + 2)) := hC.cell (by omega)
      have s4 : wr.cell? ⟨w.heap.size, k * 4 + 3, none⟩ = some (ef (adds L) k (k * 4 + 3)) := hC.cell (by omega)
      have f1 : wr.frozen? ⟨w.heap.size, k * 4, none⟩ = false := hC.frozen _
      have f2 : wr.frozen? ⟨w.heap.size, k * 4 + 1, none⟩ = false := hC.frozen _
      have f3 : wr.frozen? ⟨w.heap.size, k * 4 + 2, none⟩ = false := hC.frozen _
      have f4 : wr.frozen? ⟨w.heap.size, k * 4 + 3, none⟩ = false := hC.frozen _
      have HG := Lib.hid hga
      have ba := (Below.refl wr.heap.size wr).alloc (Nat.le_refl _) (.cells #[.int .i64 n, .string t] 63)
      have BA := Lib.hid ba
      clear hq hga ba
      go_wp2_with fail
      refine (HE.out n t _).mono ?_
      rintro e w1 ⟨rfl, hb1'⟩
      have hb1 := BA.out.trans (hb1'.mono BA.out.size)
      obtain ⟨hc1, hf1⟩ := bcell hb1
      rw [← hc1 _ _ hsz] at s1 s2 s3 s4
      rw [← hf1 _ _ hsz] at f1 f2 f3 f4
      clear hc1 hf1 a1 a2 hb1'
      go_wp2
      go_roundg (L.length - (k + 1))
      case measure => omega
      case rel =>
        refine ⟨k + 1, by omega, rfl, by simp, ((((hb.trans (hb1.mono (by omega))).setCell (Nat.le_refl _) _).setCell (Nat.le_refl _) _).setCell (Nat.le_refl _) _).setCell (Nat.le_refl _) _, by have := hb1.size; simp [World.setCell]; omega, ?_⟩
        refine (((((hC.of_block (hb1.block _ hsz)).set (k * 4) _).set (k * 4 + 1) _).set (k * 4 + 2) _).set (k * 4 + 3) _).congr (fun j _ => ?_)
        rw [← ef_step (adds L) k j, HG.out]
    · have e : k = L.length := by omega
      subst e
      go_wp2
      go_ret
      refine ⟨rfl, ?_, hb⟩
      unfold Es
      rw [adds_len]
      exact hC
set_option maxHeartbeats 1000000 in
theorem istat (L : List Ar) (b cap : Nat) (w : World) (h : As w b L) (hf : FitsA L) :
    Calls Tryd.prog 44 #[.slice (some ⟨b, 0, none⟩) L.length cap] w fun e w' => e = .returned (.bool (staB L)) ∧ Below w.heap.size w w' := by
  obtain ⟨hf1, hf2⟩ := hf
  by_cases h8 : L.length ≤ 8
  · have HA := iadd L b cap w h hf1
    have HP : Hid (∀ w', Es w' w.heap.size (adds L) → Calls Tryd.prog 52 #[.slice (some ⟨w.heap.size, 0, none⟩) L.length L.length] w' fun e w'' => e = .returned (.bool (staB L)) ∧ Below w'.heap.size w' w'') := fun w' hw => by
      have := ipatch (adds L) w.heap.size L.length w' hw (fun k hk => by
        rw [adds_len] at hk
        rw [adds_get L hk]
        exact ⟨by simp [ByteArray.size], hf2 k hk⟩) (by rw [adds_len]; exact hf1)
      rw [adds_len] at this
      have e : patB (adds L) = staB L := by
        by_cases q : staF L
        · rw [staB_yes q, patB_yes ((sta_adds L).1 q).2]
        · rw [staB_no q, patB_no (fun hp => q ((sta_adds L).2 ⟨h8, hp⟩))]
      rwa [e] at this
    obtain ⟨z, hz⟩ : ∃ z, staB L = z := ⟨_, rfl⟩
    rw [hz] at HP ⊢
    clear h hf2 hz
    have h8' : (L.length : Int) ≤ 8 := by omega
    go_enter Tryd.func44, Tryd.ntmps44
    go_wp2_with fail
    refine HA.mono ?_
    rintro e w1 ⟨rfl, hE, hb1⟩
    have HP1 := HP.out w1 hE
    clear HA HP hE
    go_wp2_with fail
    refine HP1.mono ?_
    rintro e w2 ⟨rfl, hb2⟩
    go_wp2
    go_ret
    exact ⟨by simp, hb1.trans (hb2.mono hb1.size)⟩
  · have HNN := Lib.hid (staB_no (L := L) (fun h => h8 h.1))
    clear h hf2
    go_enter Tryd.func44, Tryd.ntmps44
    go_wp2
    go_ret
    exact ⟨by rw [HNN.out]; exact ret_bool (by first | (simp; done) | (simp; omega)), Below.refl _ _⟩
theorem iVS (L : List Ar) (w : World) (lo hi : Nat) (u : Value) (h : CpA w lo hi u L) : Calls Tryd.prog 44 #[u] w (Pb (staB L) w) := by
  obtain ⟨rfl, h1, -, hf⟩ := h
  exact istat L lo L.length w h1 hf
end Go.Proofs.YtikiahbgfhaklaaDoor
/- Lists of articles: their marks. -/
namespace Go.Proofs.YtikiahbgfhaklaaDoor
open Go.ChangeShapes Go.WideShapes Go.ChangeAt Go.RowKit Go.Deep
set_option linter.unusedSimpArgs false
set_option linter.unusedVariables false
/-- What cell j holds that the marks from k on have come to. -/
def mka (k : Int) (j : Nat) : Value := if j % 2 = 0 then .int .i64 (k + 2 * (j / 2 : Nat)) else .string (mtx (k + 2 * (j / 2 : Nat) + 1))
def mkA (f : Nat → Value) (k : Int) (m : Nat) : Nat → Value := fun j => if j / 2 < m then mka k j else f j
theorem mkA_step (f : Nat → Value) (k : Int) (m j : Nat) :
    (if j = m * 2 + 1 then Value.string (mtx (k + 2 * m + 1)) else if j = m * 2 then .int .i64 (k + 2 * m) else mkA f k m j) = mkA f k (m + 1) j := by
  unfold mkA mka
  by_cases q1 : j = m * 2 + 1
  · subst q1
    have h1 : (m * 2 + 1) / 2 = m := by omega
    have h2 : (m * 2 + 1) % 2 = 1 := by omega
    simp [h1, h2]
  by_cases q0 : j = m * 2
  · subst q0
    have h1 : (m * 2) / 2 = m := by omega
    have h2 : (m * 2) % 2 = 0 := by omega
    simp [h1, h2]
  rw [if_neg q1, if_neg q0]
  by_cases h : j / 2 < m
  · rw [if_pos h, if_pos (show j / 2 < m + 1 by omega)]
  · rw [if_neg h, if_neg (show ¬ j / 2 < m + 1 by omega)]
set_option maxHeartbeats 2000000 in
set_option maxRecDepth 100000 in
theorem markA (c n cap N : Nat) (k : Int) (w : World) (f : Nat → Value) (h : w.rowIs c 63 N f) (hN : n * 2 ≤ N) (hn : n ≤ 1048576) (h1 : 0 ≤ k) (h2 : k ≤ 4000000000000) :
    Calls Tryd.prog 28 #[.slice (some ⟨c, 0, none⟩) n cap, .int .i64 k] w fun e w' => e = .returned (.int .i64 (k + 2 * n)) ∧ w'.rowIs c 63 N (mkA f k n) ∧ Kept w w' (fun b => b = c) := by
  go_enter Tryd.func28, Tryd.ntmps28
  go_wp2
  go_loopg [1, 5] n (fun g kk i wr => ∃ m : Nat, m ≤ n ∧ g = n - m ∧ kk = .int .i64 (k + 2 * m) ∧ i = .int .i64 m ∧ wr.rowIs c 63 N (mkA f k m) ∧ Kept w wr (fun b => b = c))
  case atStart => exact ⟨0, Nat.zero_le _, rfl, by simp, rfl, h.congr (fun i _ => by simp [mkA]), Kept.refl _ _⟩
  case round =>
    obtain ⟨m, hm, rfl, rfl, rfl, hr, hk⟩ := hrel
    by_cases hlt : m < n
    · have c1 : wr.cell? ⟨c, m * 2, none⟩ = some (mkA f k m (m * 2)) := hr.cell (by omega)
      have c2 : wr.cell? ⟨c, m * 2 + 1, none⟩ = some (mkA f k m (m * 2 + 1)) := hr.cell (by omega)
      have f1 : wr.frozen? ⟨c, m * 2, none⟩ = false := hr.frozen _
      have f2 : wr.frozen? ⟨c, m * 2 + 1, none⟩ = false := hr.frozen _
      have hlc := hr.lt
      have HR := Lib.hid hr
      have HK := Lib.hid hk
      clear hr hk h
      obtain ⟨K, hK⟩ : ∃ K : Int, k + 2 * (m : Int) = K := ⟨_, rfl⟩
      have k0 : 0 ≤ K := by omega
      have k9 : K ≤ 5000000000000 := by omega
      simp only [hK]
      have HKK := Lib.hid hK
      have wk1 : IntKind.i64.wrap (K + 1) = K + 1 := by rw [IntKind.wrap_i64]; omega
      have wk2 : IntKind.i64.wrap (K + 1 + 1) = K + 2 := by rw [IntKind.wrap_i64]; omega
      have M2 := fun w' => mtext (K + 1) w' (by omega)
      clear hK
      go_wp2_with fail
      refine (M2 _).mono ?_
      rintro e w1 ⟨rfl, hb1⟩
      obtain ⟨hc1, hf1⟩ := bcell hb1
      have lc1 : c < (wr.setCell ⟨c, m * 2, none⟩ (.int .i64 K)).heap.size := by simp [World.setCell]; exact hlc
      have d3 : w1.cell? ⟨c, m * 2 + 1, none⟩ = some (mkA f k m (m * 2 + 1)) := by rw [hc1 _ _ lc1]; first | (go_simp; done) | (go_simp; exact c2)
      have g3 : w1.frozen? ⟨c, m * 2 + 1, none⟩ = false := by rw [hf1 _ _ lc1]; first | (go_simp; done) | (go_simp; exact f2)
      have HR1 := Lib.hid ((HR.out.set (m * 2) (.int .i64 K)).of_block (hb1.block c lc1))
      have HK1 : Hid (Kept w w1 (fun b => b = c)) := Lib.hid ((HK.out.trans (Kept.set _ _ _ rfl)).trans (Kept.ofBel hb1))
      have lc1' : c < w1.heap.size := Nat.lt_of_lt_of_le lc1 hb1.size
      clear hc1 hf1 c1 c2 f1 f2 hb1 lc1 hlc M2
      go_wp2
      go_roundg (n - (m + 1))
      case measure => omega
      case rel =>
        refine ⟨m + 1, by omega, rfl, by congr 1; have := HKK.out; omega, by simp, ?_, HK1.out.trans (Kept.set _ _ _ rfl)⟩
        refine (HR1.out.set (m * 2 + 1) (.string (mtx (K + 1)))).congr (fun j _ => ?_)
        rw [← mkA_step f k m j]
        simp only [HKK.out]
    · have e : m = n := by omega
      subst e
      go_wp2
      go_ret
      exact ⟨rfl, hr, hk⟩
theorem markCpA {v : Value} {l : List Ar} {w : World} {lo hi : Nat} (k : Int) (h : CpA w lo hi v l) (h1 : 0 ≤ k) (h2 : k ≤ 4000000000000) :
    Calls Tryd.prog 28 #[v, .int .i64 k] w fun e w' => (∃ r, e = .returned (.int .i64 r) ∧ 0 ≤ r ∧ r ≤ k + 4194304) ∧ Kept w w' (fun b => lo ≤ b ∧ b < hi) := by
  obtain ⟨rfl, q1, q2, q3⟩ := h
  have hl := q3.1
  exact (markA lo l.length l.length _ k w _ q1 (Nat.le_refl _) hl h1 h2).mono fun e w' ⟨he, hr, hk⟩ => ⟨⟨_, he, by omega, by omega⟩, hk.mono (fun b e => by subst e; exact ⟨Nat.le_refl _, q2⟩)⟩
end Go.Proofs.YtikiahbgfhaklaaDoor
/- From a statute to another one: both answers of DiffStatutes. -/
namespace Go.Proofs.YtikiahbgfhaklaaDoor
open Go.ChangeShapes Go.WideShapes Go.ChangeAt Go.RowKit Go.Deep
set_option linter.unusedSimpArgs false
set_option linter.unusedVariables false
def fa (L : List Ar) (i : Int) : Option Ar := L.find? fun a => a.1 == i
def tx (L : List Ar) (i : Int) : ByteArray := match fa L i with | some a => a.2 | none => ⟨#[]⟩
theorem fa_some {L : List Ar} {i : Int} {a : Ar} (h : fa L i = some a) : a ∈ L ∧ a.1 = i := by
  unfold fa at h
  have h1 := List.find?_some h
  exact ⟨List.mem_of_find?_eq_some h, by simpa using h1⟩
theorem fa_sta {L : List Ar} (hL : staF L) {i : Int} {a : Ar} (h : fa L i = some a) : a.1 = i ∧ 1 ≤ i ∧ i ≤ 99 ∧ senF a.2 := by
  obtain ⟨h1, h2⟩ := fa_some h
  obtain ⟨k, hk, rfl⟩ := List.mem_iff_getElem.1 h1
  have h3 := hL.2 k hk
  have : L.getD k a0 = L[k] := by simp [List.getD, hk]
  unfold sta1 at h3
  rw [this] at h3
  exact ⟨h2, by omega, by omega, h3.2.1⟩
theorem fnd_adds (L : List Ar) (i : Int) : fnd (adds L) i = (fa L i).map fun a => (1, a.1, ⟨#[]⟩, a.2) := by
  unfold fnd adds fa
  rw [List.find?_map]
  rfl
theorem fnd_invs (L : List Ar) (i : Int) : fnd (invs (adds L)) i = (fa L i).map fun a => invE (1, a.1, ⟨#[]⟩, a.2) := by
  unfold fnd invs adds fa
  rw [List.find?_map, List.find?_map]
  cases h : List.find? (((fun e : Ed => e.2.1 == i) ∘ invE) ∘ fun a : Ar => (1, a.1, (⟨#[]⟩ : ByteArray), a.2)) L with
  | none =>
    have h' : List.find? (fun a : Ar => a.1 == i) L = none := h
    rw [h']
    rfl
  | some a =>
    have h' : List.find? (fun a : Ar => a.1 == i) L = some a := h
    rw [h']
    rfl
theorem incs_invs {L : List Ed} (h : incs L) : incs (invs L) := by
  unfold incs invs
  rw [List.map_map]
  exact h
theorem adds_incs {L : List Ar} (h : staF L) : incs (adds L) := pat_incs ((sta_adds L).1 h).2.2
/-- What leads from a statute to another one at an Id. -/
noncomputable def df (A B : List Ar) (i : Int) : Option Ed := @ite _ (tx A i = tx B i) (Classical.propDecidable _) none (some (kindE (tx A i) (tx B i), i, tx A i, tx B i))
theorem df_same {A B : List Ar} {i : Int} (h : tx A i = tx B i) : df A B i = none := by unfold df; rw [if_pos h]
theorem df_ne {A B : List Ar} {i : Int} (h : tx A i ≠ tx B i) : df A B i = some (kindE (tx A i) (tx B i), i, tx A i, tx B i) := by unfold df; rw [if_neg h]
theorem df_ok {A B : List Ar} (hA : staF A) (hB : staF B) : ∀ i e, df A B i = some e → e.2.1 = i ∧ 1 ≤ i ∧ i ≤ 99 := by
  intro i e h
  by_cases q : tx A i = tx B i
  · rw [df_same q] at h; cases h
  · rw [df_ne q] at h
    injection h with h; subst h
    refine ⟨rfl, ?_⟩
    cases ha : fa A i with
    | some a => have := fa_sta hA ha; exact ⟨this.2.1, this.2.2.1⟩
    | none =>
      cases hb : fa B i with
      | some b => have := fa_sta hB hb; exact ⟨this.2.1, this.2.2.1⟩
      | none => exact absurd (by unfold tx; rw [ha, hb]) q
theorem difE_iff {e : Ed} : difE e = true ↔ e.2.2.1 ≠ e.2.2.2 := by simp [difE]
theorem df_eq {A B : List Ar} (hA : staF A) (hB : staF B) (i : Int) : (mid joinE (fnd (invs (adds A)) i) (fnd (adds B) i)).filter (fun e => difE e) = df A B i := by
  rw [fnd_adds, fnd_invs]
  cases ha : fa A i with
  | none =>
    have ta : tx A i = ⟨#[]⟩ := by unfold tx; rw [ha]
    cases hb : fa B i with
    | none =>
      have tb : tx B i = ⟨#[]⟩ := by unfold tx; rw [hb]
      rw [df_same (by rw [ta, tb])]; rfl
    | some b =>
      have kb := fa_sta hB hb
      have tb : tx B i = b.2 := by unfold tx; rw [hb]
      have nb := senF_ne kb.2.2.2
      rw [df_ne (by rw [ta, tb]; exact fun q => nb q.symm), ta, tb, kindE_1, ← kb.1]
      have hd : difE (1, b.1, ⟨#[]⟩, b.2) = true := difE_yes fun q => nb q.symm
      simp [mid, Option.filter, hd]
  | some a =>
    have ka := fa_sta hA ha
    have ta : tx A i = a.2 := by unfold tx; rw [ha]
    have na := senF_ne ka.2.2.2
    cases hb : fa B i with
    | none =>
      have tb : tx B i = ⟨#[]⟩ := by unfold tx; rw [hb]
      rw [df_ne (by rw [ta, tb]; exact na), ta, tb, ← ka.1]
      have hd : difE (kindE a.2 ⟨#[]⟩, a.1, a.2, ⟨#[]⟩) = true := difE_yes na
      simp [mid, Option.filter, invE, hd]
    | some b =>
      have kb := fa_sta hB hb
      have tb : tx B i = b.2 := by unfold tx; rw [hb]
      by_cases q : a.2 = b.2
      · rw [df_same (by rw [ta, tb, q])]
        have hd : difE (kindE a.2 b.2, a.1, a.2, b.2) = false := difE_no q
        simp [mid, joinE, Option.filter, invE, hd]
      · rw [df_ne (by rw [ta, tb]; exact q), ta, tb, ← ka.1]
        have hd : difE (kindE a.2 b.2, a.1, a.2, b.2) = true := difE_yes q
        simp [mid, joinE, Option.filter, invE, hd]
theorem df_cps {A B : List Ar} (hA : staF A) (hB : staF B) : upTo (df A B) 99 = cps (invs (adds A)) (adds B) := by
  obtain ⟨h1, h2⟩ := mrg_incs joinE (fun _ _ => rfl) _ (invs (adds A)) (adds B) (Nat.le_refl _) (incs_invs (adds_incs hA)) (adds_incs hB)
  rw [upTo_all]
  exact idsOf_eq (df_ok hA hB) (incs_filter h1 _) fun i => by rw [← df_eq hA hB]; unfold cps; rw [fnd_filter h1, h2]
theorem df_shd {A B : List Ar} (hA : staF A) : shd (invs (adds A)) (adds B) neO = [] := by
  apply List.eq_nil_iff_forall_not_mem.2
  intro i hi
  obtain ⟨y, hy, rfl, x, hx, hc⟩ := shd_mem.1 hi
  rw [lst_fnd (incs_invs (adds_incs hA))] at hx
  have hxm := (fnd_some hx).1
  unfold adds at hy
  obtain ⟨b, -, rfl⟩ := List.mem_map.1 hy
  unfold invs adds at hxm
  obtain ⟨e, he, rfl⟩ := List.mem_map.1 hxm
  obtain ⟨a, -, rfl⟩ := List.mem_map.1 he
  rw [neO_no rfl] at hc
  cases hc
noncomputable def mDif (A B : List Ar) : List Ed × Bool := if staB A && staB B then (cps (invs (adds A)) (adds B), true) else ([], false)
theorem mDif_no {A B : List Ar} (h : ¬ (staB A && staB B) = true) : mDif A B = ([], false) := by unfold mDif; rw [if_neg h]
theorem mDif_yes {A B : List Ar} (h : (staB A && staB B) = true) : mDif A B = (cps (invs (adds A)) (adds B), true) := by unfold mDif; rw [if_pos h]
theorem adds_wf {L : List Ar} (h : staF L) : ∀ k, k < (adds L).length → (Lit.int .i64 ((adds L).getD k e0).2.1).wf = true := pat_wf ((sta_adds L).1 h).2
theorem invs_wf {L : List Ed} (h : ∀ k, k < L.length → (Lit.int .i64 (L.getD k e0).2.1).wf = true) : ∀ k, k < (invs L).length → (Lit.int .i64 ((invs L).getD k e0).2.1).wf = true := fun k hk => by
  rw [invs_len] at hk
  rw [invs_get L hk]
  exact h k hk
set_option maxHeartbeats 2000000 in
set_option maxRecDepth 100000 in
theorem iDS (P Q : List Ar) (w : World) (lo0 hi0 : Nat) (u0 : Value) (h0 : CpA w lo0 hi0 u0 P) (lo1 hi1 : Nat) (u1 : Value) (h1 : CpA w lo1 hi1 u1 Q) : Calls Tryd.prog 27 #[u0, u1] w (QDb (mDif P Q) w) := by
  obtain ⟨rfl, hp, -, fp⟩ := h0
  obtain ⟨rfl, hq, -, fq⟩ := h1
  have HP := istat P lo0 P.length w hp fp
  have HQ := Lib.hid (fun w' (hw : Below w.heap.size w w') => istat Q lo1 Q.length w' (hq.below hw) fq)
  unfold QDb
  cases ep : staB P with
  | false =>
    rw [ep] at HP
    rw [mDif_no (by rw [ep]; simp)]
    clear ep hp hq HQ
    go_enter Tryd.func27, Tryd.ntmps27
    go_wp2_with fail
    refine HP.mono ?_
    rintro e w1 ⟨rfl, hb⟩
    go_wp2
    go_ret2
    exact ⟨_, rfl, OwD.nil _ _ _, hb⟩
  | true =>
    rw [ep] at HP
    cases eq : staB Q with
    | false =>
      rw [eq] at HQ
      rw [mDif_no (by rw [eq]; simp)]
      clear ep eq hp hq
      go_enter Tryd.func27, Tryd.ntmps27
      go_wp2_with fail
      refine HP.mono ?_
      rintro e w1 ⟨rfl, hb⟩
      have HQ1 := HQ.out w1 hb
      go_wp2_with fail
      refine HQ1.mono ?_
      rintro e w2 ⟨rfl, hd2⟩
      have hb2 := hb.trans (hd2.mono hb.size)
      go_wp2
      go_ret2
      exact ⟨_, rfl, OwD.nil _ _ _, hb2⟩
    | true =>
      rw [eq] at HQ
      have oP := staB_iff.1 ep
      have oQ := staB_iff.1 eq
      have lp := oP.1
      have lq := oQ.1
      rw [mDif_yes (by rw [ep, eq]; rfl)]
      have HA := Lib.hid (fun w' (hw : Below w.heap.size w w') => iadd P lo0 P.length w' (hp.below hw) fp.1)
      have HB := Lib.hid (fun w' (hw : Below w.heap.size w w') => iadd Q lo1 Q.length w' (hq.below hw) fq.1)
      have HI := Lib.hid (fun b w' (h : Es w' b (adds P)) => iinv (adds P) b P.length w' h (by rw [adds_len]; omega))
      have hcm : cmpd (invs (adds P)) (adds Q) = (cps (invs (adds P)) (adds Q), true) := by unfold cmpd; rw [df_shd oP]; rfl
      have HC := Lib.hid (fun b b' w' (h : Es w' b (invs (adds P))) (h' : Es w' b' (adds Q)) => icompd (invs (adds P)) (adds Q) b P.length b' Q.length w' h h' (by rw [invs_len, adds_len]; omega) (by rw [adds_len]; omega) (by rw [invs_len, adds_len]; exact Nat.le_refl _) (by rw [adds_len]; exact Nat.le_refl _) (by omega) (by omega) (invs_wf (adds_wf oP)) (adds_wf oQ))
      rw [hcm] at HC
      rw [adds_len] at HI
      rw [invs_len, adds_len, adds_len] at HC
      obtain ⟨L, hL⟩ : ∃ L, cps (invs (adds P)) (adds Q) = L := ⟨_, rfl⟩
      rw [hL] at HC ⊢
      clear ep eq hp hq oP oQ hcm hL
      go_enter Tryd.func27, Tryd.ntmps27
      go_wp2_with fail
      refine HP.mono ?_
      rintro e w1 ⟨rfl, hb⟩
      have HQ1 := HQ.out w1 hb
      clear HP
      go_wp2_with fail
      refine HQ1.mono ?_
      rintro e w2 ⟨rfl, hd2⟩
      have hb2 := hb.trans (hd2.mono hb.size)
      have hs2 := hb2.size
      have HA2 := HA.out w2 hb2
      clear HQ1 hd2 hb
      go_wp2_with fail
      refine HA2.mono ?_
      rintro e w3 ⟨rfl, hE3, hb3⟩
      have hbw3 := hb2.trans (hb3.mono hs2)
      have hs3 := hbw3.size
      have HI3 := HI.out _ w3 hE3
      clear HA2 hE3
      go_wp2_with fail
      refine HI3.mono ?_
      rintro e w4 ⟨rfl, hE4, hb4⟩
      have hbw4 := hbw3.trans (hb4.mono hs3)
      have hs4 := hbw4.size
      have HB4 := HB.out w4 hbw4
      clear HI3
      go_wp2_with fail
      refine HB4.mono ?_
      rintro e w5 ⟨rfl, hE5, hb5⟩
      have hbw5 := hbw4.trans (hb5.mono hs4)
      have hs5 := hbw5.size
      have HC5 := HC.out _ _ w5 (hE4.below hb5) hE5
      clear HB4 hE4 hE5
      go_wp2_with fail
      refine HC5.mono ?_
      intro e w6 hpo
      obtain ⟨v, rfl, hO, hb6⟩ := hpo
      obtain ⟨va, vc, rfl⟩ := hO.rd.1.shape
      have hbw6 := hbw5.trans (hb6.mono hs5)
      have HO := Lib.hid (hO.mono hs5 (Nat.le_refl _))
      clear hO hb6 HC5
      go_wp2
      go_ret2
      exact ⟨_, rfl, HO.out, hbw6⟩
end Go.Proofs.YtikiahbgfhaklaaDoor
/- From a statute to another one: the specification's answer. -/
namespace Go.Proofs.YtikiahbgfhaklaaDoor
open Go.ChangeShapes Go.WideShapes Go.ChangeAt Go.RowKit Go.Deep
set_option linter.unusedSimpArgs false
set_option linter.unusedVariables false
theorem dstart (w : World) : BldD (w.alloc (.cells #[] 74)) w.heap.size (.slice (some ⟨w.heap.size, 0, none⟩) 0 0) [] := World.ownsRow_lit w #[] 0 (Nat.le_refl _) (by unfold maxLen; omega) rfl
theorem kind_nz (a b : ByteArray) : (kindE a b == 0) = false := by
  unfold kindE
  split
  · rfl
  · split <;> rfl
set_option maxHeartbeats 1000000 in
theorem sfind (L : List Ar) (b cap : Nat) (y : Int) (w : World) (h : As w b L) (hl : L.length ≤ 1048576) :
    Calls Tryd.prog 102 #[.slice (some ⟨b, 0, none⟩) L.length cap, .int .i64 y] w fun e w' => e = .returned (.string (tx L y)) ∧ w = w' := by
  have HX := Lib.hid h
  clear h
  go_enter Tryd.func102, Tryd.ntmps102
  go_wp2
  go_loopg [5] L.length (fun g i wr => ∃ k : Nat, k ≤ L.length ∧ g = L.length - k ∧ i = .int .i64 k ∧ w = wr ∧ Hid (∀ j, j < k → (L.getD j a0).1 ≠ y))
  case atStart => exact ⟨0, Nat.zero_le _, rfl, rfl, rfl, fun j hj => absurd hj (Nat.not_lt_zero _)⟩
  case round =>
    obtain ⟨k, hk, rfl, rfl, rfl, H⟩ := hrel
    by_cases hlt : k < L.length
    · obtain ⟨a1, a2⟩ := HX.out.at hlt
      obtain ⟨q, hq⟩ : ∃ q, L.getD k a0 = q := ⟨_, rfl⟩
      rw [hq] at a1 a2
      obtain ⟨i, t⟩ := q
      have HQ := Lib.hid hq
      simp only at a1 a2
      clear hq
      by_cases hy : i = y
      · subst hy
        have HF : Hid (tx L i = t) := by
          have e : L[k] = (i, t) := by rw [← HQ.out]; simp [List.getD, hlt]
          have hf : fa L i = some (i, t) := by
            refine List.find?_eq_some_iff_getElem.2 ⟨by simp, k, hlt, e, fun j hj => ?_⟩
            have := H.out j hj
            have hjl : j < L.length := by omega
            simpa [List.getD, hjl] using this
          show tx L i = t
          unfold tx; rw [hf]
        go_wp2
        go_ret
        exact ⟨by rw [HF.out]; rfl, rfl⟩
      · have hyb : (i == y) = false := by simpa using hy
        have HY := Lib.hid hy
        clear hy
        go_wp2
        go_roundg (L.length - (k + 1))
        case measure => omega
        case rel =>
          refine ⟨k + 1, by omega, rfl, by simp, rfl, fun j hj => ?_⟩
          by_cases e : j = k
          · subst e; rw [HQ.out]; exact HY.out
          · exact H.out j (by omega)
    · obtain rfl : k = L.length := by omega
      have HF : Hid (tx L y = ⟨#[]⟩) := by
        have hf : fa L y = none := by
          refine List.find?_eq_none.2 fun a ha => ?_
          obtain ⟨j, hj, rfl⟩ := List.mem_iff_getElem.1 ha
          have := H.out j hj
          simpa [List.getD, hj] using this
        show tx L y = _
        unfold tx; rw [hf]
      go_wp2
      go_ret
      exact ⟨by rw [HF.out]; rfl, rfl⟩
set_option maxHeartbeats 4000000 in
set_option maxRecDepth 100000 in
theorem sdiff (A B : List Ar) (ba ca bb cb : Nat) (w : World) (ha : As w ba A) (hb : As w bb B) (la : A.length ≤ 1048576) (lb : B.length ≤ 1048576) :
    Calls Tryd.prog 68 #[.slice (some ⟨ba, 0, none⟩) A.length ca, .slice (some ⟨bb, 0, none⟩) B.length cb] w fun e w' => (∃ v, e = .returned v ∧ OwD w' w.heap.size w'.heap.size v (upTo (df A B) 99)) ∧ Below w.heap.size w w' := by
  obtain ⟨i0, hi, hz0, hz1, hz2⟩ := info_parts7 infoE
  have HA := Lib.hid (fun y w' (hw : Below w.heap.size w w') => sfind A ba ca y w' (ha.below hw) la)
  have HB := Lib.hid (fun y w' (hw : Below w.heap.size w w') => sfind B bb cb y w' (hb.below hw) lb)
  have hB0 := dstart w
  have hbb0 := (Below.refl w.heap.size w).alloc (Nat.le_refl _) (.cells #[] 74)
  clear ha hb
  go_enter Tryd.func68, Tryd.ntmps68
  go_wp2
  go_loopg [5, 6] 99 (fun g v i wr => ∃ (k : Nat) (l : List Ed), k ≤ 99 ∧ g = 99 - k ∧ i = .int .i64 ((k : Int) + 1) ∧ Below w.heap.size w wr ∧ l.length ≤ k ∧ Hid (l = upTo (df A B) k) ∧ BldD wr w.heap.size v l)
  case atStart => exact ⟨0, [], Nat.zero_le _, rfl, by simp, hbb0, Nat.le_refl _, rfl, hB0⟩
  case round =>
    clear hB0 hbb0
    obtain ⟨k, l, hk, rfl, rfl, hb, hll, HL, hO⟩ := hrel
    have lbs := hb.size
    by_cases hlt : k < 99
    · have hst := upTo_succ (df A B) k
      obtain ⟨y, hy⟩ : ∃ y : Int, (k : Int) + 1 = y := ⟨_, rfl⟩
      rw [hy] at hst
      simp only [hy]
      have y1 : 1 ≤ y := by omega
      have y2 : y ≤ 99 := by omega
      have HYK := Lib.hid hy
      have HA1 := HA.out y wr hb
      have HB1 := HB.out y wr hb
      have HS1 := sstep y (tx A y) (tx B y) wr
      clear hy
      by_cases hs : tx A y = tx B y
      · rw [df_same hs] at hst
        rw [hs] at HA1 HS1
        rw [stepE_eq] at HS1
        have HEE : Hid (l = upTo (df A B) (k + 1)) := by show l = _; rw [hst, ← HL.out, List.append_nil]
        obtain ⟨t, ht⟩ : ∃ t, tx B y = t := ⟨_, rfl⟩
        rw [ht] at HA1 HB1 HS1
        unfold vE e0 at HS1
        simp only at HS1
        clear hst hs ht
        go_wp2_with fail
        refine HA1.mono ?_
        rintro e w1 ⟨rfl, rfl⟩
        go_wp2_with fail
        refine HB1.mono ?_
        rintro e w1 ⟨rfl, rfl⟩
        go_wp2_with fail
        refine HS1.mono ?_
        rintro e w4 ⟨rfl, hb4⟩
        have hb5 := hb.trans (hb4.mono lbs)
        have hs5 := hb5.size
        have hb6 := hb5.alloc hs5 (.cells #[.int .i64 0, .int .i64 0, .string ⟨#[]⟩, .string ⟨#[]⟩] 74)
        have hO6 : BldD (w4.alloc (.cells #[.int .i64 0, .int .i64 0, .string ⟨#[]⟩, .string ⟨#[]⟩] 74)) w.heap.size u5 l := World.ownsRow.alloc (hO.below hb4) _
        clear hO hb4 HS1 HA1 HB1
        go_wp2
        go_roundg (99 - (k + 1))
        case measure => omega
        case rel => exact ⟨k + 1, l, by omega, rfl, by rw [← HYK.out]; simp, hb6, by omega, HEE, hO6⟩
      · rw [df_ne hs] at hst
        rw [stepE_ne hs] at HS1
        have hkz := kind_nz (tx A y) (tx B y)
        obtain ⟨kz, hkze⟩ : ∃ z, kindE (tx A y) (tx B y) = z := ⟨_, rfl⟩
        rw [hkze] at hkz HS1 hst
        obtain ⟨t, ht⟩ : ∃ t, tx A y = t := ⟨_, rfl⟩
        obtain ⟨t', ht'⟩ : ∃ t, tx B y = t := ⟨_, rfl⟩
        rw [ht] at HA1 HS1 hst
        rw [ht'] at HB1 HS1 hst
        have HEE : Hid (l ++ [(kz, y, t, t')] = upTo (df A B) (k + 1)) := by show l ++ _ = _; rw [hst, ← HL.out]
        have hkz2 : (kz != 0) = true := by simp [bne, hkz]
        have hkz3 : ¬ kz = 0 := by simpa using hkz
        unfold vE at HS1
        simp only at HS1
        clear hst hs ht ht' hkze
        go_wp2_with fail
        refine HA1.mono ?_
        rintro e w1 ⟨rfl, rfl⟩
        go_wp2_with fail
        refine HB1.mono ?_
        rintro e w1 ⟨rfl, rfl⟩
        go_wp2_with fail
        refine HS1.mono ?_
        rintro e w4 ⟨rfl, hb4⟩
        have hown : w4.ownsRow w.heap.size 74 4 u5 l.length (fl l) := hO.below hb4
        have hb5 := hb.trans (hb4.mono lbs)
        have hs5 := hb5.size
        clear hO hb4 HS1 HA1 HB1
        go_wp2_with (first
          | (at_builtin; refine wpList_append_own _ rfl _ _ 33 rfl w.heap.size 74 i0 _ 4 48 Tryd.underlying33 hi hz0 hz1 hz2 rfl (by decide) _ _ _ rfl ((hown.alloc _).alloc _) ⟨w4.heap.size + 1, 0, none⟩ 1 1 [.int .i64 kz, .int .i64 y, .string t, .string t'] rfl rfl ?c1 ?c2 ?c3 ?c4 ?c5 ?_))
        case c1 => exact World.news_of_block (cs := #[.int .i64 kz, .int .i64 y, .string t, .string t']) (t := 74) (fr := (0, 0)) (by simpa using heap_alloc_new (w4.alloc (.cells #[.int .i64 kz, .int .i64 y, .string t, .string t'] 74)) _)
        case c2 => simp [Value.oneCell']
        case c3 => unfold maxLen; omega
        case c4 => omega
        case c5 => simp; omega
        intro v' w9 hown9 hgrow _
        have hb9 := ((hb5.alloc hs5 (.cells #[.int .i64 kz, .int .i64 y, .string t, .string t'] 74)).alloc (by simp; omega) (.cells #[.int .i64 kz, .int .i64 y, .string t, .string t'] 74)).grown hgrow (by simp; omega) (fun x e => (hown.lt x e).1)
        have HO : Hid (BldD w9 w.heap.size v' (l ++ [(kz, y, t, t')])) := Lib.hid (bsnoc (e := (kz, y, t, t')) hown9)
        have HLN : Hid ((l ++ [(kz, y, t, t')]).length = l.length + 1) := Lib.hid (by simp)
        clear hown9 hgrow hown
        go_wp2
        go_roundg (99 - (k + 1))
        case measure => omega
        case rel => exact ⟨k + 1, l ++ [(kz, y, t, t')], by omega, rfl, by rw [← HYK.out]; simp, hb9, by rw [HLN.out]; omega, HEE, HO.out⟩
    · obtain rfl : k = 99 := by omega
      have hOW := hO.done (Nat.le_refl _) (by omega)
      rw [HL.out] at hOW
      have HOW := Lib.hid hOW
      clear hO hOW
      go_wp2
      go_ret
      exact ⟨⟨_, rfl, HOW.out⟩, hb⟩
set_option maxHeartbeats 1000000 in
theorem sDS (P Q : List Ar) (w : World) (lo0 hi0 : Nat) (u0 : Value) (h0 : CpA w lo0 hi0 u0 P) (lo1 hi1 : Nat) (u1 : Value) (h1 : CpA w lo1 hi1 u1 Q) : Calls Tryd.prog 26 #[u0, u1] w (PDb (mDif P Q) w) := by
  obtain ⟨rfl, hp, -, fp⟩ := h0
  obtain ⟨rfl, hq, -, fq⟩ := h1
  have HP := sstat P lo0 P.length w hp fp
  have HQ := Lib.hid (fun w' (hw : Below w.heap.size w w') => sstat Q lo1 Q.length w' (hq.below hw) fq)
  unfold PDb
  cases ep : staB P with
  | false =>
    rw [ep] at HP
    rw [mDif_no (by rw [ep]; simp)]
    clear ep hp hq HQ
    go_enter Tryd.func26, Tryd.ntmps26
    go_wp2_with fail
    refine HP.mono ?_
    rintro e w1 ⟨rfl, hd⟩
    have hb := hd.below
    go_wp2
    go_ret2
    exact ⟨_, rfl, RdD.nil _ _ _, hb⟩
  | true =>
    rw [ep] at HP
    cases eq : staB Q with
    | false =>
      rw [eq] at HQ
      rw [mDif_no (by rw [eq]; simp)]
      clear ep eq hp hq
      go_enter Tryd.func26, Tryd.ntmps26
      go_wp2_with fail
      refine HP.mono ?_
      rintro e w1 ⟨rfl, hd⟩
      have hb := hd.below
      have HQ1 := HQ.out w1 hb
      go_wp2_with fail
      refine HQ1.mono ?_
      rintro e w2 ⟨rfl, hd2⟩
      have hb2 := hb.trans (hd2.below.mono hb.size)
      go_wp2
      go_ret2
      exact ⟨_, rfl, RdD.nil _ _ _, hb2⟩
    | true =>
      rw [eq] at HQ
      have oP := staB_iff.1 ep
      have oQ := staB_iff.1 eq
      rw [mDif_yes (by rw [ep, eq]; rfl)]
      have HD := Lib.hid (fun w' (hw : Below w.heap.size w w') => sdiff P Q lo0 P.length lo1 Q.length w' (hp.below hw) (hq.below hw) fp.1 fq.1)
      rw [df_cps oP oQ] at HD
      obtain ⟨L, hL⟩ : ∃ L, cps (invs (adds P)) (adds Q) = L := ⟨_, rfl⟩
      rw [hL] at HD ⊢
      clear ep eq hp hq oP oQ hL
      go_enter Tryd.func26, Tryd.ntmps26
      go_wp2_with fail
      refine HP.mono ?_
      rintro e w1 ⟨rfl, hd⟩
      have hb := hd.below
      have HQ1 := HQ.out w1 hb
      clear HP
      go_wp2_with fail
      refine HQ1.mono ?_
      rintro e w2 ⟨rfl, hd2⟩
      have hb2 := hb.trans (hd2.below.mono hb.size)
      have hs2 := hb2.size
      have HD2 := HD.out w2 hb2
      clear HQ1 hd2 hb hd
      go_wp2_with fail
      refine HD2.mono ?_
      rintro e w3 ⟨⟨v, rfl, hO⟩, hb3⟩
      obtain ⟨va, vc, rfl⟩ := hO.rd.1.shape
      have hbw := hb2.trans (hb3.mono hs2)
      have HO := Lib.hid (hO.mono hs2 (Nat.le_refl _)).rd
      clear hO hb3 hb2 HD2
      go_wp2
      go_ret2
      exact ⟨_, rfl, HO.out, hbw⟩
end Go.Proofs.YtikiahbgfhaklaaDoor
