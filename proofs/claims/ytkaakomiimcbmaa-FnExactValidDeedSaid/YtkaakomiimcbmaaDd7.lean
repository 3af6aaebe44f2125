/- Patches that are only read; an act that a motion proposes: the program's look. -/
import Derived.Test.YtkaakomiimcbmaaDd6
import Derived.Test.YtkaakomiimcbmaaEd7
namespace Go.Proofs.Ytkaakomiimcbmaa
open Go.ChangeShapes Go.WideShapes Go.ChangeAt Go.RowKit Go.Deep
set_option linter.unusedSimpArgs false
set_option linter.unusedVariables false
/-- Edits that are read in block b. -/
def Ex (w : World) (b : Nat) (L : List Ed) : Prop := b < w.heap.size ∧ ∀ k, k < L.length → EdAt w b (k * 4) (L.getD k e0)
theorem Ex.lt {w : World} {b : Nat} {L : List Ed} (h : Ex w b L) : b < w.heap.size := h.1
theorem Ex.at {w : World} {b : Nat} {L : List Ed} (h : Ex w b L) {k : Nat} (hk : k < L.length) : EdAt w b (k * 4) (L.getD k e0) := h.2 k hk
theorem Ex.below {w w' : World} {b : Nat} {L : List Ed} (h : Ex w b L) (hb : Below w.heap.size w w') : Ex w' b L :=
  ⟨Nat.lt_of_lt_of_le h.1 hb.size, fun k hk => by
    obtain ⟨h1, h2, h3, h4⟩ := h.2 k hk
    exact ⟨(hb.cell (p := ⟨b, k * 4, none⟩) h.1).trans h1, (hb.cell (p := ⟨b, k * 4 + 1, none⟩) h.1).trans h2, (hb.cell (p := ⟨b, k * 4 + 2, none⟩) h.1).trans h3, (hb.cell (p := ⟨b, k * 4 + 3, none⟩) h.1).trans h4⟩⟩
theorem Ex.setOther {w : World} {b : Nat} {L : List Ed} (h : Ex w b L) {a : Addr} (ha : a.block ≠ b) (v : Value) : Ex (w.setCell a v) b L :=
  ⟨by have := h.1; simp [World.setCell]; exact this, fun k hk => by
    obtain ⟨h1, h2, h3, h4⟩ := h.2 k hk
    exact ⟨(World.cell?_setCell_far _ _ _ _ ha).trans h1, (World.cell?_setCell_far _ _ _ _ ha).trans h2, (World.cell?_setCell_far _ _ _ _ ha).trans h3, (World.cell?_setCell_far _ _ _ _ ha).trans h4⟩⟩
set_option maxHeartbeats 4000000 in
set_option maxRecDepth 100000 in
theorem ipatchx (L : List Ed) (b cap : Nat) (w : World) (h : Ex w b L) (hf : ∀ k, k < L.length → (L.getD k e0).2.2.1.size ≤ 1048576 ∧ (L.getD k e0).2.2.2.size ≤ 1048576) (hl : L.length ≤ 1048576) :
    Calls Try.prog 65 #[.slice (some ⟨b, 0, none⟩) L.length cap] w fun e w' => e = .returned (.bool (patB L)) ∧ Below w.heap.size w w' := by
  have HF := Lib.hid hf
  have HX := Lib.hid h
  clear h hf
  by_cases h16 : 16 < L.length
  · have HNN := Lib.hid (patB_no (L := L) (fun h => by have := h.1; omega))
    go_enter Try.func65, Try.ntmps65
    go_wp2
    go_ret
    exact ⟨by rw [HNN.out]; rfl, Below.refl _ _⟩
  go_enter Try.func65, Try.ntmps65
  go_wp2
  go_loopg [3, 5, 11] L.length (fun g y _ i wr => ∃ (k : Nat) (z : Int), k ≤ L.length ∧ g = L.length - k ∧ y = .int .i64 z ∧ i = .int .i64 k ∧ Below w.heap.size w wr ∧ 0 ≤ z ∧ Hid (k = 0 → z = 0) ∧ Hid (0 < k → z = (L.getD (k - 1) e0).2.1) ∧ Hid (∀ j, j < k → pat1 L j))
  case atStart => exact ⟨0, 0, Nat.zero_le _, rfl, rfl, rfl, Below.refl _ _, by omega, fun _ => rfl, fun h => absurd h (by omega), fun j hj => absurd hj (Nat.not_lt_zero _)⟩
  case round =>
    obtain ⟨k, z, hk, rfl, rfl, rfl, hb, hz0, HZ0, HZ, H⟩ := hrel
    by_cases hlt : k < L.length
    · obtain ⟨a1, a2, a3, a4⟩ := (HX.out.below hb).at hlt
      obtain ⟨l1, l2⟩ := HF.out k hlt
      have hno : ¬ pat1 L k → patB L = false := fun hn => patB_no (fun ho => hn (ho.2 k hlt))
      have HN := Lib.hid hno
      obtain ⟨q, hq⟩ : ∃ q, L.getD k e0 = q := ⟨_, rfl⟩
      rw [hq] at a1 a2 a3 a4 l1 l2
      have HQ := Lib.hid hq
      obtain ⟨n, y, sa, sb⟩ := q
      simp only at a1 a2 a3 a4 l1 l2
      have lb := (HX.out.below hb).lt
      have ba := (Below.refl wr.heap.size wr).alloc (Nat.le_refl _) (.cells #[.int .i64 n, .int .i64 y, .string sa, .string sb] 54)
      obtain ⟨v, hv⟩ : ∃ v, edB (n, y, sa, sb) = v := ⟨_, rfl⟩
      have HE := fun w' => iedit (n, y, sa, sb) w' l1 l2
      rw [hv] at HE
      simp only at HE
      have HV := Lib.hid hv
      have hbb := hb.trans (ba.mono hb.size)
      have HBB := Lib.hid hbb
      clear hq hno hv l1 l2
      by_cases h1 : y ≤ z
      · have H1 := Lib.hid h1
        clear HE
        go_wp2
        go_ret
        refine ⟨?_, HBB.out⟩
        rw [HN.out (fun ho => by
          obtain ⟨o1, o2, o3⟩ := ho
          have h1 := H1.out
          rw [HQ.out] at o1 o3
          simp only at o1 o3
          by_cases e : 0 < k
          · have e2 := HZ.out e; have := o3 e; omega
          · have hz := HZ0.out (by omega)
            have := o1.1
            omega)]; rfl
      · by_cases h2 : 99 < y
        · have H2 := Lib.hid h2
          clear HE
          go_wp2
          go_ret
          refine ⟨?_, HBB.out⟩
          rw [HN.out (fun ho => by
            have o1 := ho.1.2
            have h2 := H2.out
            rw [HQ.out] at o1
            simp only at o1
            omega)]; rfl
        · cases v with
          | false =>
            go_wp2_with fail
            refine (HE _).mono ?_
            rintro e w1 ⟨rfl, hb1⟩
            go_wp2
            go_ret
            refine ⟨?_, HBB.out.trans (hb1.mono HBB.out.size)⟩
            rw [HN.out (fun ho => by have o2 := edB_yes ho.2.1; rw [HQ.out, HV.out] at o2; cases o2)]; rfl
          | true =>
            have k0 : (wr.alloc (.cells #[.int .i64 n, .int .i64 y, .string sa, .string sb] 54)).cell? ⟨wr.heap.size, 1, none⟩ = some (.int .i64 y) := by go_simp
            have K0 := Lib.hid k0
            clear k0
            go_wp2_with fail
            refine (HE _).mono ?_
            rintro e w1 ⟨rfl, hb1⟩
            have k1 := (hb1.cell (p := ⟨wr.heap.size, 1, none⟩) (by simp)).trans K0.out
            have HB1 := Lib.hid (HBB.out.trans (hb1.mono HBB.out.size))
            clear hb1 HE
            go_wp2
            go_roundg (L.length - (k + 1))
            case measure => omega
            case rel =>
              refine ⟨k + 1, y, by omega, rfl, rfl, by simp, HB1.out, by omega, fun h => absurd h (by omega), fun _ => ?_, fun j hj => ?_⟩
              · rw [Nat.add_sub_cancel, HQ.out]
              · by_cases ej : j = k
                · subst ej
                  unfold pat1
                  rw [HQ.out]
                  refine ⟨⟨by show 1 ≤ y; omega, by show y ≤ 99; omega⟩, edB_iff.1 HV.out, fun h => ?_⟩
                  rw [← HZ.out h]
                  show z < y
                  omega
                · exact H.out j (by omega)
    · obtain rfl : k = L.length := by omega
      have HYY := Lib.hid (patB_yes (L := L) ⟨by omega, H.out⟩)
      go_wp2
      go_ret
      exact ⟨by rw [HYY.out]; rfl, hb⟩
def actFq (X : Int × Int × List Ed) : Prop := (0 ≤ X.1 ∧ X.1 < X.2.1 ∧ X.2.1 ≤ 1000) ∧ patF X.2.2
noncomputable def actBq (X : Int × Int × List Ed) : Bool := @decide (actFq X) (Classical.propDecidable _)
theorem actBq_iff {X : Int × Int × List Ed} : actBq X = true ↔ actFq X := by simp [actBq]
theorem actBq_no {X : Int × Int × List Ed} (h : ¬ actFq X) : actBq X = false := by simp [actBq, h]
theorem actBq_pat {X : Int × Int × List Ed} (h : 0 ≤ X.1 ∧ X.1 < X.2.1 ∧ X.2.1 ≤ 1000) : actBq X = patB X.2.2 := by
  by_cases hp : patF X.2.2
  · rw [patB_yes hp]; exact actBq_iff.2 ⟨h, hp⟩
  · rw [patB_no hp]; exact actBq_no (fun q => hp q.2)
theorem alldaysq (w : World) : Calls Try.prog 64 #[] w fun e w' => e = .returned (.agg #[.int .i64 0, .int .i64 1000]) ∧ Below w.heap.size w w' := by
  go_enter Try.func64, Try.ntmps64
  go_wp2
  refine bodyPost_ret (v := .agg #[.int .i64 0, .int .i64 1000]) (by simp [results, Try.results64, go_sem]) rfl ⟨rfl, ?_⟩
  first
    | exact (Below.refl _ _).alloc (Nat.le_refl _) _
    | exact (((Below.refl _ _).alloc (Nat.le_refl _) _).setCell (Nat.le_refl _) _).setCell (Nat.le_refl _) _
set_option maxHeartbeats 1000000 in
theorem iactx (m n : Int) (l : List Ed) (c cp : Nat) (w : World) (h : Ex w c l) (hf : FitsE l) :
    Calls Try.prog 62 #[.agg #[.int .i64 m, .int .i64 n, .slice (some ⟨c, 0, none⟩) l.length cp]] w fun e w' => e = .returned (.bool (actBq (m, n, l))) ∧ Below w.heap.size w w' := by
  have b1 := (Below.refl w.heap.size w).alloc (Nat.le_refl _) (.cells #[.int .i64 m, .int .i64 n, .slice (some ⟨c, 0, none⟩) l.length cp] 100)
  have c0 : (w.alloc (.cells #[.int .i64 m, .int .i64 n, .slice (some ⟨c, 0, none⟩) l.length cp] 100)).cell? ⟨w.heap.size, 0, none⟩ = some (.int .i64 m) := by go_simp
  have c1 : (w.alloc (.cells #[.int .i64 m, .int .i64 n, .slice (some ⟨c, 0, none⟩) l.length cp] 100)).cell? ⟨w.heap.size, 1, none⟩ = some (.int .i64 n) := by go_simp
  have c2 : (w.alloc (.cells #[.int .i64 m, .int .i64 n, .slice (some ⟨c, 0, none⟩) l.length cp] 100)).cell? ⟨w.heap.size, 2, none⟩ = some (.slice (some ⟨c, 0, none⟩) l.length cp) := by go_simp
  have s1 : w.heap.size < (w.alloc (.cells #[.int .i64 m, .int .i64 n, .slice (some ⟨c, 0, none⟩) l.length cp] 100)).heap.size := by simp
  have HA := alldaysq (w.alloc (.cells #[.int .i64 m, .int .i64 n, .slice (some ⟨c, 0, none⟩) l.length cp] 100))
  obtain ⟨w1, hw1⟩ : ∃ w1, (w.alloc (.cells #[.int .i64 m, .int .i64 n, .slice (some ⟨c, 0, none⟩) l.length cp] 100)) = w1 := ⟨_, rfl⟩
  rw [hw1] at b1 HA c0 c1 c2 s1
  have hE := h.below b1
  have HP := fun w' (hw : Below w1.heap.size w1 w') => ipatchx l c cp w' (hE.below hw) hf.2 hf.1
  have HY := Lib.hid (fun q => actBq_pat (X := (m, n, l)) q)
  have HN := Lib.hid (fun q => actBq_no (X := (m, n, l)) q)
  clear h hE hf
  by_cases q : 0 ≤ m ∧ m < n ∧ n ≤ 1000
  · rw [HY.out q]
    obtain ⟨z, hz⟩ : ∃ z, patB l = z := ⟨_, rfl⟩
    simp only
    rw [hz] at HP ⊢
    obtain ⟨q1, q2, q3⟩ := q
    clear hz HY HN
    go_enter Try.func62, Try.ntmps62
    go_wp2_with fail
    refine HA.mono ?_
    rintro e w2 ⟨rfl, hb2⟩
    have d0 := (hb2.cell (p := ⟨w.heap.size, 0, none⟩) s1).trans c0
    have d1 := (hb2.cell (p := ⟨w.heap.size, 1, none⟩) s1).trans c1
    have d2 := (hb2.cell (p := ⟨w.heap.size, 2, none⟩) s1).trans c2
    have s2 := hb2.size
    have n1 : w.heap.size < w2.heap.size := by omega
    have n2 : ¬ w.heap.size = w2.heap.size := by omega
    have n3 : ¬ w2.heap.size = w.heap.size := by omega
    have b3 := hb2.alloc s2 (.cells #[.int .i64 0, .int .i64 1000] 102)
    have HP3 := HP _ b3
    clear c0 c1 c2 HA
    go_wp2_with fail
    refine HP3.mono ?_
    rintro e w4 ⟨rfl, hb4⟩
    go_wp2
    go_ret
    exact ⟨rfl, (b1.trans (b3.mono b1.size)).trans (hb4.mono (Nat.le_trans b1.size b3.size))⟩
  · rw [HN.out (fun k => q k.1)]
    clear HP HY HN
    by_cases q1 : 0 ≤ m
    · by_cases q2 : m < n
      · have q3 : ¬ n ≤ 1000 := fun k => q ⟨q1, q2, k⟩
        go_enter Try.func62, Try.ntmps62
        go_wp2_with fail
        refine HA.mono ?_
        rintro e w2 ⟨rfl, hb2⟩
        have d0 := (hb2.cell (p := ⟨w.heap.size, 0, none⟩) s1).trans c0
        have d1 := (hb2.cell (p := ⟨w.heap.size, 1, none⟩) s1).trans c1
        have s2 := hb2.size
        have n1 : w.heap.size < w2.heap.size := by omega
        have n2 : ¬ w.heap.size = w2.heap.size := by omega
        have n3 : ¬ w2.heap.size = w.heap.size := by omega
        have b3 := hb2.alloc s2 (.cells #[.int .i64 0, .int .i64 1000] 102)
        clear c0 c1 c2 HA
        go_wp2
        go_ret
        exact ⟨rfl, b1.trans (b3.mono b1.size)⟩
      · go_enter Try.func62, Try.ntmps62
        go_wp2_with fail
        refine HA.mono ?_
        rintro e w2 ⟨rfl, hb2⟩
        have d0 := (hb2.cell (p := ⟨w.heap.size, 0, none⟩) s1).trans c0
        have d1 := (hb2.cell (p := ⟨w.heap.size, 1, none⟩) s1).trans c1
        have s2 := hb2.size
        have n1 : w.heap.size < w2.heap.size := by omega
        have n2 : ¬ w.heap.size = w2.heap.size := by omega
        have n3 : ¬ w2.heap.size = w.heap.size := by omega
        have b3 := hb2.alloc s2 (.cells #[.int .i64 0, .int .i64 1000] 102)
        clear c0 c1 c2 HA
        go_wp2
        go_ret
        exact ⟨rfl, b1.trans (b3.mono b1.size)⟩
    · go_enter Try.func62, Try.ntmps62
      go_wp2_with fail
      refine HA.mono ?_
      rintro e w2 ⟨rfl, hb2⟩
      have d0 := (hb2.cell (p := ⟨w.heap.size, 0, none⟩) s1).trans c0
      have d1 := (hb2.cell (p := ⟨w.heap.size, 1, none⟩) s1).trans c1
      have s2 := hb2.size
      have n1 : w.heap.size < w2.heap.size := by omega
      have n2 : ¬ w.heap.size = w2.heap.size := by omega
      have n3 : ¬ w2.heap.size = w.heap.size := by omega
      have b3 := hb2.alloc s2 (.cells #[.int .i64 0, .int .i64 1000] 102)
      clear c0 c1 c2 HA
      go_wp2
      go_ret
      exact ⟨rfl, b1.trans (b3.mono b1.size)⟩

/-- The cells of a list of edits. -/
def ecx (L : List Ed) (j : Nat) : Value := if j % 4 = 0 then .int .i64 (L.getD (j / 4) e0).1 else if j % 4 = 1 then .int .i64 (L.getD (j / 4) e0).2.1 else if j % 4 = 2 then .string (L.getD (j / 4) e0).2.2.1 else .string (L.getD (j / 4) e0).2.2.2
def flx (L : List Ed) : List Value := (List.range (L.length * 4)).map (ecx L)
theorem flx_len (L : List Ed) : (flx L).length = L.length * 4 := by simp [flx]
theorem ecx_one (L : List Ed) (j : Nat) : (ecx L j).oneCell' = true := by
  unfold ecx
  split
  · rfl
  · split
    · rfl
    · split <;> rfl
theorem Es.cellx {w : World} {b : Nat} {L : List Ed} (h : Es w b L) {j : Nat} (hj : j < L.length * 4) : w.cell? ⟨b, j, none⟩ = some (ecx L j) := by
  rw [World.rowIs.cell h hj]
  have : j / 4 < L.length := by omega
  simp [ef, ecx, this]
set_option maxHeartbeats 1000000 in
set_option maxRecDepth 100000 in
theorem cloneE (b cap : Nat) (L : List Ed) (w : World) (h : Es w b L) (hl : L.length ≤ 1048576) :
    Calls Try.prog 66 #[.slice (some ⟨b, 0, none⟩) L.length cap] w fun e w' => (∃ g cp, e = .returned (.slice (some ⟨g, 0, none⟩) L.length cp) ∧ w.heap.size ≤ g ∧ Ex w' g L) ∧ Below w.heap.size w w' := by
  have heq : ∀ w : World, Sem.run Try.prog (binOp BinOp.eql 28 (.slice (some ⟨b, 0, none⟩) L.length cap) (.slice none 0 0)) w = .ok (.bool false) w := fun w => by
    first | rfl | kernel_rfl | (unfold binOp; simp [Try.underlying28, go_sem]; done)
  obtain ⟨i0, hi, hz0, hz1, hz2⟩ := info_px infoE
  have hown0 : (w.alloc (.cells #[] 54)).ownsRow w.heap.size 54 4 (.slice (some ⟨w.heap.size, 0, none⟩) 0 0) 0 [] := World.ownsRow_lit w #[] 0 (Nat.le_refl _) (by unfold maxLen; omega) rfl
  have hb0 : Below w.heap.size w (w.alloc (.cells #[] 54)) := (Below.refl _ _).alloc (Nat.le_refl _) _
  have hnews : ∀ j u, (flx L)[j]? = some u → (w.alloc (.cells #[] 54)).cell? ((⟨b, 0, none⟩ : Addr).add j) = some u := by
    intro j u hj
    have hlen : j < L.length * 4 := by
      have := (List.getElem?_eq_some_iff.1 hj).1
      simpa [flx_len] using this
    rw [Addr.add_lit, Nat.zero_add, (h.below hb0).cellx hlen]
    simpa [flx, hlen] using hj
  have hone : ∀ u ∈ flx L, u.oneCell' = true := by
    intro u hu
    obtain ⟨j, _, rfl⟩ := List.mem_map.1 hu
    exact ecx_one L j
  have HN := Lib.hid hnews
  have HO := Lib.hid hone
  clear hnews hone h
  go_enter Try.func66, Try.ntmps66
  go_wp2_with (first
    | (at_builtin; refine wpList_append_own _ rfl _ _ 28 rfl w.heap.size 54 i0 _ 4 48 Try.underlying28 hi hz0 hz1 hz2 rfl (by decide) _ _ _ rfl hown0 ⟨b, 0, none⟩ L.length cap (flx L) rfl ?c1 HN.out HO.out ?c3 ?c4 ?c5 ?_)
    | go_in)
  case c1 => rw [flx_len]
  case c3 => unfold maxLen; omega
  case c4 => omega
  case c5 => simp
  · intro v' w2 hown' hgrow hnil
    have hb2 := hb0.grown hgrow (by simp) (fun k hk => by cases hk; exact Nat.le_refl _)
    have hC : ∃ (g cp : Nat), v' = .slice (some ⟨g, 0, none⟩) L.length cp ∧ w.heap.size ≤ g ∧ Ex w2 g L := by
      obtain ⟨_, h | ⟨g, cp, cur, e, hg, hc, hn, hcap, hs, ht⟩⟩ := hown'
      · exact absurd h.1 hnil
      · (try rw [Nat.zero_add] at e)
        (try rw [Nat.zero_add] at hn)
        (try rw [Nat.zero_add] at ht)
        (try rw [Nat.zero_add] at hcap)
        have hrow : w2.rowIs g 54 cur.size (fun i => (cur[i]?).getD (.bool false)) := ⟨cur, hc, rfl, fun i hi => by simp [hi]⟩
        have key : ∀ j, j < L.length * 4 → w2.cell? ⟨g, j, none⟩ = some (ecx L j) := fun j hj => by
          have h1 : (cur.toList.take (L.length * 4))[j]? = (flx L)[j]? := by rw [ht]; try rfl
          rw [List.getElem?_take_of_lt hj, Array.getElem?_toList] at h1
          have h2 : (flx L)[j]? = some (ecx L j) := by simp [flx, hj]
          rw [h2] at h1
          have hlt : j < cur.size := (Array.getElem?_eq_some_iff.1 h1).1
          rw [hrow.cell hlt, h1]; rfl
        refine ⟨g, cp, e, hg, (Array.getElem?_eq_some_iff.1 hc).1, fun k hk => ⟨?_, ?_, ?_, ?_⟩⟩
        · have e1 : k * 4 / 4 = k := by omega
          have e2 : k * 4 % 4 = 0 := by omega
          rw [key _ (by omega)]; simp [ecx, e1, e2]
        · have e1 : (k * 4 + 1) / 4 = k := by omega
          have e2 : (k * 4 + 1) % 4 = 1 := by omega
          rw [key _ (by omega)]; simp [ecx, e1, e2]
        · have e1 : (k * 4 + 2) / 4 = k := by omega
          have e2 : (k * 4 + 2) % 4 = 2 := by omega
          rw [key _ (by omega)]; simp [ecx, e1, e2]
        · have e1 : (k * 4 + 3) / 4 = k := by omega
          have e2 : (k * 4 + 3) % 4 = 3 := by omega
          rw [key _ (by omega)]; simp [ecx, e1, e2]
    clear hown' hgrow hnil hown0
    obtain ⟨g, cp, rfl, hC⟩ := hC
    have HC := Lib.hid hC
    clear hC
    go_wp2
    go_ret
    exact ⟨⟨g, cp, rfl, HC.out⟩, hb2⟩
end Go.Proofs.Ytkaakomiimcbmaa
