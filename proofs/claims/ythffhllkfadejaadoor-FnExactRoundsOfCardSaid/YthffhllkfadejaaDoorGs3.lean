/- The specification's graph of a frame: l08Of. -/
import Derived.Test.YthffhllkfadejaaDoorGzb
import Derived.Deep.DeepCutAuto
import Derived.BigRegion
namespace Go.Proofs.YthffhllkfadejaaDoor
open Go.ChangeShapes Go.WideShapes Go.ChangeAt Go.RowKit Go.Deep Go.Maps
set_option linter.unusedSimpArgs false
set_option linter.unusedVariables false
/-- The graph of the first k attacks under way. -/
structure SgTo (w0 w : World) (q h c n k : Nat) (L : List (List Int)) : Prop where
  c0 : w.cell? ⟨q, 0, none⟩ = some (.int .i64 (n : Int))
  c1 : w.cell? ⟨q, 1, none⟩ = some (.slice (some ⟨h, 0, none⟩) n n)
  c2 : w.cell? ⟨q, 2, none⟩ = some (.slice (some ⟨c, 0, none⟩) n n)
  hits : w.rowIs h 2 n (fun i => .int .i64 (hitF (L.take k) (i : Int) : Int))
  bys : w.rowIs c 2 n (fun i => .int .i64 (byF (L.take k) (i : Int) : Int))
  hq : w0.heap.size ≤ q
  hh : w0.heap.size ≤ h
  hc : w0.heap.size ≤ c
  qh : q ≠ h
  qc : q ≠ c
  hc' : h ≠ c
  bel : Below w0.heap.size w0 w
theorem sg_row0 (w' : World) (b N : Nat) (f : Nat → Value) (hf : ∀ i, f i = .int .i64 0) (h : w'.heap[b]? = some (.cells (madeCells #[.int .i64 0] N) 2)) : w'.rowIs b 2 N f := by
  obtain ⟨cs, h1, h2, h3⟩ := World.rowIs_made w' (.int .i64 0) N 2
  rw [heap_alloc_new] at h1
  cases h1
  exact ⟨_, h, h2, fun i hi => by rw [hf i]; exact h3 i hi⟩
abbrev sgO (x y : Nat) (N : Nat) : Obj := .cells #[.int .i64 (N : Int), .slice (some ⟨x, 0, none⟩) N N, .slice (some ⟨y, 0, none⟩) N N] 48
abbrev mkO (N : Nat) : Obj := .cells (madeCells #[.int .i64 0] N) 2
theorem sg_start (w : World) (x y N : Nat) (L : List (List Int)) (hxy : (x = w.heap.size ∧ y = w.heap.size + 1) ∨ (y = w.heap.size ∧ x = w.heap.size + 1)) :
    SgTo w ((((w.alloc (mkO N)).alloc (mkO N)).alloc (sgO x y N)).drew) (w.heap.size + 1 + 1) x y N 0 L := by
  have hx : x < w.heap.size + 2 := by omega
  have hy : y < w.heap.size + 2 := by omega
  have e1 : (w.alloc (mkO N)).heap.size = w.heap.size + 1 := World.size_alloc _ _
  have e2 : ((w.alloc (mkO N)).alloc (mkO N)).heap.size = w.heap.size + 2 := by rw [World.size_alloc, e1]
  have k1 : ((w.alloc (mkO N)).alloc (mkO N)).heap[w.heap.size]? = some (mkO N) := by
    rw [((Below.refl (w.alloc (mkO N)).heap.size (w.alloc (mkO N))).alloc (Nat.le_refl _) (mkO N)).block w.heap.size (by omega)]
    exact heap_alloc_new _ _
  have k2 : ((w.alloc (mkO N)).alloc (mkO N)).heap[w.heap.size + 1]? = some (mkO N) := by
    have := heap_alloc_new (w.alloc (mkO N)) (mkO N)
    rwa [e1] at this
  have key : ∀ b, b < w.heap.size + 2 → w.heap.size ≤ b → ((((w.alloc (mkO N)).alloc (mkO N)).alloc (sgO x y N)).drew).heap[b]? = some (mkO N) := by
    intro b h1 h2
    have hb := ((Below.refl ((w.alloc (mkO N)).alloc (mkO N)).heap.size ((w.alloc (mkO N)).alloc (mkO N))).alloc (Nat.le_refl _) (sgO x y N)).drew.block b (by omega)
    rw [hb]
    have : b = w.heap.size ∨ b = w.heap.size + 1 := by omega
    rcases this with rfl | rfl
    · exact k1
    · exact k2
  refine ⟨by go_simp, by go_simp, by go_simp, sg_row0 _ _ _ _ (fun i => rfl) (key x hx (by omega)), sg_row0 _ _ _ _ (fun i => rfl) (key y hy (by omega)), by omega, by omega, by omega, by omega, by omega, by omega, ?_⟩
  exact ((((Below.refl _ _).alloc (Nat.le_refl _) _).alloc (by simp) _).alloc (by simp; omega) _).drew
set_option maxHeartbeats 4000000 in
set_option maxRecDepth 100000 in
theorem sof_any (X : Fm) (b hi p : Nat) (w : World) (h : FmR w b hi X) (ok : fOk X) (hp : FmAt w p X.1 (.slice (some ⟨b, 0, none⟩) X.2.length X.2.length)) :
    Calls Tryd.prog 30 #[.pointer (some ⟨p, 0, none⟩)] w fun e w' => (∃ q h c, e = .returned (.pointer (some ⟨q, 0, none⟩)) ∧ SgIs w' q h c X.1.toNat X.2) ∧ Below w.heap.size w w' := by
  have hf := h.fits
  have hf1 := hf.1.1
  have hr := Lib.hid h.rows
  have HO := Lib.hid ok
  clear h hf
  obtain ⟨n, L⟩ := X
  simp only at hf1 hr hp ok
  obtain ⟨N, rfl⟩ : ∃ N : Nat, n = (N : Int) := ⟨n.toNat, by have := ok.1; simp only at this; omega⟩
  have hN : (N : Int) ≤ 10 := ok.2.1
  obtain ⟨p0, p1, pl⟩ := hp
  clear ok
  have hmk := fun W : World => run_make_row' (w := W) (P := Tryd.prog) 26 2 (.int .i64 0) 8 Tryd.underlying26 infoI rfl .i64 .i64 N (by omega) (by omega)
  go_enter Tryd.func30, Tryd.ntmps30
  go_wp2_with fail
  go_upto_region 1 with fail
  go_cut [3] (fun s3 wx => ∃ q h c, s3 = .pointer (some ⟨q, 0, none⟩) ∧ SgTo w wx q h c N 0 L)
  case first =>
    go_region_with (fail)
    all_goals
      go_wp2_with fail
      go_meet
      first
        | exact ⟨_, _, _, rfl, sg_start _ _ _ _ _ (.inl ⟨rfl, rfl⟩)⟩
        | exact ⟨_, _, _, rfl, sg_start _ _ _ _ _ (.inr ⟨rfl, rfl⟩)⟩
  case rest =>
    obtain ⟨q, h, c, rfl, HS⟩ := hcut
    have HS0 := Lib.hid HS
    clear HS hmk
    go_wp2
    go_loopg [4] L.length (fun g i wr => ∃ k : Nat, k ≤ L.length ∧ g = L.length - k ∧ i = .int .i64 (k : Int) ∧ Hid (SgTo w wr q h c N k L))
    case atStart => exact ⟨0, Nat.zero_le _, rfl, rfl, HS0⟩
    case round =>
      obtain ⟨k, hk, rfl, rfl, HS⟩ := hrel
      clear HS0
      have hb := HS.out.bel
      have c0 := HS.out.c0
      have c1 := HS.out.c1
      have c2 := HS.out.c2
      have z0 := (hb.cell (p := ⟨p, 0, none⟩) pl).trans p0
      have z1 := (hb.cell (p := ⟨p, 1, none⟩) pl).trans p1
      by_cases hlt : k < L.length
      · obtain ⟨cc, a1, a2⟩ := (hr.out.below hb).at hlt
        obtain ⟨l, hl⟩ : ∃ l, L.getD k [] = l := ⟨_, rfl⟩
        rw [hl] at a1 a2
        have o1 := (HO.out.2.2 k hlt).1
        simp only [hl] at o1
        obtain ⟨o2, o3, o4, o5, o6⟩ := o1
        have x1 : wr.cell? ⟨cc, 0, none⟩ = some (.int .i64 (l.getD 0 0)) := a2.cell (i := 0) (by omega)
        have x2 : wr.cell? ⟨cc, 1, none⟩ = some (.int .i64 (l.getD 1 0)) := a2.cell (i := 1) (by omega)
        have l0 : 0 < l.length := by omega
        have l1 : 1 < l.length := by omega
        obtain ⟨x, hx⟩ : ∃ x, l.getD 0 0 = x := ⟨_, rfl⟩
        obtain ⟨y, hy⟩ : ∃ y, l.getD 1 0 = y := ⟨_, rfl⟩
        rw [hx] at x1 o3 o4
        rw [hy] at x2 o5 o6
        obtain ⟨a, rfl⟩ : ∃ a : Nat, x = (a : Int) := ⟨x.toNat, by omega⟩
        obtain ⟨d, rfl⟩ : ∃ d : Nat, y = (d : Int) := ⟨y.toNat, by omega⟩
        have HX := Lib.hid hx
        have HY := Lib.hid hy
        have HL := Lib.hid hl
        have y1 := HS.out.hits.cell (i := a) (by omega)
        have y2 := HS.out.bys.cell (i := d) (by omega)
        have f1 : wr.frozen? ⟨h, a, none⟩ = false := HS.out.hits.frozen a
        have f2 : wr.frozen? ⟨c, d, none⟩ = false := HS.out.bys.frozen d
        have lh := HS.out.hits.lt
        have lc := HS.out.bys.lt
        have n1 := HS.out.qh
        have n2 := HS.out.qc
        have n3 := HS.out.hc'
        have hok : ∀ l' ∈ L.take k, atkOk (N : Int) l' := fun l' hl' => (fOk.mem HO.out) l' (List.mem_of_mem_take hl')
        obtain ⟨P, hP⟩ : ∃ P, hitF (L.take k) (a : Int) = P := ⟨_, rfl⟩
        obtain ⟨Q, hQ⟩ : ∃ Q, byF (L.take k) (d : Int) = Q := ⟨_, rfl⟩
        have lP : P < 65536 := by rw [← hP]; exact Nat.lt_of_lt_of_le (hitF_lt hok a) (Nat.le_trans (pow_10 (by omega)) (by decide))
        have lQ : Q < 65536 := by rw [← hQ]; exact Nat.lt_of_lt_of_le (byF_lt hok d) (Nat.le_trans (pow_10 (by omega)) (by decide))
        simp only [hP] at y1
        simp only [hQ] at y2
        have E1 := Lib.hid (or_shl' P d lP (by omega))
        have E2 := Lib.hid (or_shl' Q a lQ (by omega))
        have HP := Lib.hid hP
        have HQ := Lib.hid hQ
        clear hx hy hl hP hQ lP lQ hok o2
        go_wp2
        go_roundg (L.length - (k + 1))
        case measure => omega
        case rel =>
          have et : L.take (k + 1) = L.take k ++ [l] := by
            rw [List.take_succ_eq_append_getElem hlt]
            congr 2
            rw [← HL.out]; simp [List.getD, hlt]
          rw [E1.out, E2.out]
          refine ⟨k + 1, by omega, rfl, by simp, Lib.hid ⟨?_, ?_, ?_, ?_, ?_, HS.out.hq, HS.out.hh, HS.out.hc, n1, n2, n3, ?_⟩⟩
          · exact (World.cell?_setCell_other _ _ _ _ (by simp)).trans ((World.cell?_setCell_other _ _ _ _ (by simp)).trans c0)
          · exact (World.cell?_setCell_other _ _ _ _ (by simp)).trans ((World.cell?_setCell_other _ _ _ _ (by simp)).trans c1)
          · exact (World.cell?_setCell_other _ _ _ _ (by simp)).trans ((World.cell?_setCell_other _ _ _ _ (by simp)).trans c2)
          · refine ((HS.out.hits.set a _).setOther (by show h ≠ c; omega) _).congr (fun i _ => ?_)
            rw [et, hitF_snoc, HX.out, HY.out]
            by_cases e : i = a
            · subst e; simp [HP.out]
            · rw [if_neg e, if_neg (by omega)]
          · refine (World.rowIs.set (World.rowIs.setOther HS.out.bys (by show c ≠ h; omega) _) d _).congr (fun i _ => ?_)
            rw [et, byF_snoc, HX.out, HY.out]
            by_cases e : i = d
            · subst e; simp [HQ.out]
            · rw [if_neg e, if_neg (by omega)]
          · exact (hb.setCell HS.out.hh _).setCell HS.out.hc _
      · obtain rfl : k = L.length := by omega
        go_wp2
        go_ret
        refine ⟨⟨q, h, c, rfl, c0, c1, c2, ?_, ?_, ?_, ?_⟩, hb⟩
        · have := HS.out.hits; rw [List.take_length] at this; exact this
        · have := HS.out.bys; rw [List.take_length] at this; exact this
        · exact fOk.mem HO.out
        · show (N : Int).toNat ≤ 10; omega
end Go.Proofs.YthffhllkfadejaaDoor
