/- Texts of shares: the program's. -/
import Derived.Test.YtfjpjiieocdgeaaDoorTx3
import Derived.Test.YtfjpjiieocdgeaaDoorSh5
import Derived.Deep.RegionHeld3
namespace Go.Proofs.YtfjpjiieocdgeaaDoor
open Go.ChangeShapes Go.WideShapes Go.ChangeAt Go.RowKit Go.Deep
set_option linter.unusedSimpArgs false
set_option linter.unusedVariables false
/-- Shares that a valid list holds. -/
def smallR (l : List Sq) : Prop := l.length ≤ 12 ∧ ∀ x ∈ l, (-1000000000 ≤ x.1 ∧ x.1 ≤ 1000000000) ∧ (-1000000000 ≤ x.2 ∧ x.2 ≤ 1000000000)
def shtext (q : Sq) : List UInt8 := Lib.itoa q.1 ++ ([58] ++ Lib.itoa q.2)
def rtext (l : List Sq) : List UInt8 := Lib.join (l.map shtext) [44]
theorem shtext_len {q : Sq} (h1 : -1000000000 ≤ q.1 ∧ q.1 ≤ 1000000000) (h2 : -1000000000 ≤ q.2 ∧ q.2 ≤ 1000000000) : (shtext q).length ≤ 23 := by
  have l1 := itoa_len9 h1.1 h1.2
  have l2 := itoa_len9 h2.1 h2.2
  unfold shtext
  simp only [List.length_append, List.length_cons, List.length_nil]
  omega
theorem jnr_len {l : List Sq} (h : smallR l) (s : UInt8) (k : Nat) : (jn shtext l s k).length ≤ 288 := by
  have h1 := jn_len shtext l s k 23 (fun x hx => shtext_len (h.2 x hx).1 (h.2 x hx).2)
  have h2 := h.1
  omega
theorem rtext_len {l : List Sq} (h : smallR l) : (rtext l).length ≤ 288 := by
  have := jnr_len h 44 l.length
  rwa [jn_all] at this
theorem idecb (n : Int) (w : World) (h1 : -1000000000 ≤ n) (h2 : n ≤ 1000000000) (hp : PowT w) :
    Calls Tryd.prog 44 #[.int .i64 n] w fun e w' => e = .returned (.string (bytesOf (Lib.itoa n))) ∧ Below w.heap.size w w' := idec n w (by omega) (by omega) hp
/-- One box stays. -/
def B1 (w : World) (n d : Int) (w' : World) : Prop := w'.cell? ⟨w.heap.size, 0, none⟩ = some (.int .i64 n) ∧ w'.cell? ⟨w.heap.size, 1, none⟩ = some (.int .i64 d) ∧ Hid (w.heap.size < w'.heap.size ∧ Below w.heap.size w w')
theorem B1.below {w w1 w' : World} {n d : Int} (h : B1 w n d w1) (hb : Below w1.heap.size w1 w') : B1 w n d w' := by
  obtain ⟨h1, h2, h3, h4⟩ := h
  exact ⟨(hb.cell (by show w.heap.size < _; omega)).trans h1, (hb.cell (by show w.heap.size < _; omega)).trans h2, Nat.lt_of_lt_of_le h3 hb.size, h4.trans (hb.mono h4.size)⟩
theorem B1.start (w : World) (n d : Int) (t : TypeId) : B1 w n d (w.alloc (.cells #[.int .i64 n, .int .i64 d] t)) := ⟨by go_simp, by go_simp, by simp, (Below.refl _ _).alloc (Nat.le_refl _) _⟩
theorem B1.drew {w w' : World} {n d : Int} (h : B1 w n d w') : B1 w n d w'.drew := ⟨h.1, h.2.1, h.2.2.out.1, h.2.2.out.2.drew⟩
set_option maxHeartbeats 2000000 in
theorem ishtext (n d : Int) (w : World) (h1 : -1000000000 ≤ n ∧ n ≤ 1000000000) (h2 : -1000000000 ≤ d ∧ d ≤ 1000000000) (hp : PowT w) :
    Calls Tryd.prog 37 #[.agg #[.int .i64 n, .int .i64 d]] w fun e w' => e = .returned (.string (bytesOf (shtext (n, d)))) ∧ Below w.heap.size w w' := by
  have HN := Lib.hid (fun (x : Int) (h1 : -1000000000 ≤ x) (h2 : x ≤ 1000000000) w (hp : PowT w) => idecb x w h1 h2 hp)
  have HP := Lib.hid hp
  have L1 := itoa_len9 h1.1 h1.2
  have L2 := itoa_len9 h2.1 h2.2
  obtain ⟨n1, n2⟩ := h1
  obtain ⟨d1, d2⟩ := h2
  have A1 := add_b (Lib.itoa n) [58] ⟨#[58]⟩ rfl (by simp; omega)
  have A2 := add_b (Lib.itoa n ++ [58]) (Lib.itoa d) (bytesOf (Lib.itoa d)) rfl (by simp; omega)
  clear hp
  go_enter Tryd.func37, Tryd.ntmps37
  go_wp2
  go_region_held3 (fun w' => w'.cell? ⟨w.heap.size, 0, none⟩ = some (.int .i64 n) ∧ w'.cell? ⟨w.heap.size, 1, none⟩ = some (.int .i64 d) ∧ Hid (w.heap.size < w'.heap.size ∧ Below w.heap.size w w'))
    (first | exact (B1.start w n d _).drew | exact B1.below (by assumption) (by assumption))
    (first
      | (go_at_call 44; refine (HN.out _ (by omega) (by omega) _ ?_).mono ?_; (exact HP.out.below (show B1 w n d _ from by assumption).2.2.out.2); rintro e w2 ⟨rfl, hb⟩))
  all_goals
    go_wp2
    go_ret
    refine ⟨?_, (show B1 w n d _ from by assumption).2.2.out.2⟩
    first | rfl | (simp only [shtext, List.append_assoc]; rfl)
set_option maxHeartbeats 1000000 in
set_option maxRecDepth 100000 in
theorem toe_share (l : List Sq) (c cap : Nat) (w : World) (h : Shs w c l) (hs : smallR l) (hp : PowT w) :
    Calls Tryd.prog 36 #[.slice (some ⟨c, 0, none⟩) l.length cap, .string ⟨#[44]⟩, .func (.func 37) #[] #[]] w fun e w' => e = .returned (.string (bytesOf (rtext l))) ∧ Below w.heap.size w w' := by
  have hl := hs.1
  have hmk := run_make_row' (P := Tryd.prog) 88 9 (.string ⟨#[]⟩) 16 Tryd.underlying88 infoStr rfl .i64 .i64 l.length (by omega) (by omega)
  have HP := Lib.hid hp
  have hB : ∀ x ∈ l.map shtext, x.length ≤ 10000 := fun x hx => by
    obtain ⟨y, hy, rfl⟩ := List.mem_map.1 hx
    have := shtext_len (hs.2 y hy).1 (hs.2 y hy).2
    omega
  have HB := Lib.hid hB
  have HS := Lib.hid hs.2
  clear hp hB hs
  go_enter Tryd.func36, Tryd.ntmps36
  go_wp2
  go_loopg [15] l.length (fun g i wr => ∃ k : Nat, k ≤ l.length ∧ g = l.length - k ∧ i = .int .i64 k ∧ Below w.heap.size w wr ∧ w.heap.size < wr.heap.size ∧ wr.rowIs w.heap.size 9 l.length (wrd (fun j => (l.map shtext).getD j []) k))
  case atStart => exact ⟨0, Nat.zero_le _, rfl, rfl, (Below.refl _ _).alloc (Nat.le_refl _) _, by simp, (World.rowIs_made _ _ _ _).congr (fun j _ => by simp [wrd])⟩
  case round =>
    obtain ⟨k, hk, rfl, rfl, hb, hsz, hC⟩ := hrel
    clear hmk
    by_cases hlt : k < l.length
    · obtain ⟨a1, a2⟩ := (Shs.below h hb).at hlt
      have hgm := getD_mapT shtext l (0, 0) hlt
      have hqm : l.getD k (0, 0) ∈ l := by simp [List.getD, hlt]
      obtain ⟨q, hq⟩ : ∃ q, l.getD k (0, 0) = q := ⟨_, rfl⟩
      rw [hq] at a1 a2 hgm hqm
      obtain ⟨n, d⟩ := q
      simp only at a1 a2
      have lb := World.rowIs.lt (Shs.below h hb)
      have b1 := (Below.refl wr.heap.size wr).alloc (Nat.le_refl _) (.cells #[.int .i64 n, .int .i64 d] 69)
      have HD := ishtext n d _ (HS.out _ hqm).1 (HS.out _ hqm).2 ((HP.out.below hb).below b1)
      have s1 : (wr.alloc (.cells #[.int .i64 n, .int .i64 d] 69)).cell? ⟨w.heap.size, k, none⟩ = some (wrd (fun j => (l.map shtext).getD j []) k k) := ((b1.cell (p := ⟨w.heap.size, k, none⟩) hsz)).trans (hC.cell (by omega))
      have f1 : (wr.alloc (.cells #[.int .i64 n, .int .i64 d] 69)).frozen? ⟨w.heap.size, k, none⟩ = false := ((b1.frozen (p := ⟨w.heap.size, k, none⟩) hsz)).trans (hC.frozen _)
      have HG := Lib.hid hgm
      have BB := Lib.hid b1
      have S1 := Lib.hid s1
      have F1 := Lib.hid f1
      clear hq hgm hqm b1 s1 f1
      go_wp2_with fail
      refine HD.mono ?_
      rintro e w1 ⟨rfl, hb1⟩
      have hsz2 := Nat.lt_of_lt_of_le hsz BB.out.size
      obtain ⟨hc1, hf1⟩ := bcell hb1
      have s1 := S1.out
      have f1 := F1.out
      rw [← hc1 _ _ hsz2] at s1
      rw [← hf1 _ _ hsz2] at f1
      clear hc1 hf1 HD a1 a2
      go_wp2
      go_roundg (l.length - (k + 1))
      case measure => omega
      case rel =>
        have hb2 := BB.out.trans (hb1.mono BB.out.size)
        refine ⟨k + 1, by omega, rfl, by simp, (hb.trans (hb2.mono (by omega))).setCell (Nat.le_refl _) _, by have := hb2.size; simp [World.setCell]; omega, ?_⟩
        refine ((hC.of_block (hb2.block _ hsz)).set k _).congr (fun j _ => ?_)
        rw [← wrd_step (fun j => (l.map shtext).getD j []) k j]
        simp only [HG.out]
        rfl
    · have e : k = l.length := by omega
      subst e
      have hJ := joined w.heap.size l.length (l.map shtext) 44 l.length wr (by simpa using hC) (by simp) (by simp; omega) HB.out
      rw [List.length_map] at hJ
      go_wp2_with fail
      refine hJ.mono ?_
      rintro e w1 ⟨rfl, hb1⟩
      go_wp2
      go_ret
      exact ⟨rfl, hb.trans (hb1.mono (by omega))⟩
theorem irow (l : List Sq) (c : Nat) (w : World) (h : Shs w c l) (hs : smallR l) (hp : PowT w) :
    Calls Tryd.prog 35 #[.slice (some ⟨c, 0, none⟩) l.length l.length] w fun e w' => e = .returned (.string (bytesOf (rtext l))) ∧ Below w.heap.size w w' := by
  have HT := toe_share l c l.length w h hs hp
  clear h hp
  generalize bytesOf (rtext l) = s at HT ⊢
  go_enter Tryd.func35, Tryd.ntmps35
  go_wp2_with fail
  refine HT.mono ?_
  rintro e w1 ⟨rfl, hb1⟩
  go_wp2
  go_ret
  exact ⟨rfl, hb1⟩
set_option maxHeartbeats 1000000 in
set_option maxRecDepth 100000 in
theorem toe_rows (L : List (List Sq)) (B b cap : Nat) (w : World) (h : SS w B b L) (hl : L.length ≤ 12) (hs : ∀ k, k < L.length → smallR (L.getD k [])) (hp : PowT w) :
    Calls Tryd.prog 34 #[.slice (some ⟨b, 0, none⟩) L.length cap, .string ⟨#[59]⟩, .func (.func 35) #[] #[]] w fun e w' => e = .returned (.string (bytesOf (Lib.join (L.map rtext) [59]))) ∧ Below w.heap.size w w' := by
  have hmk := run_make_row' (P := Tryd.prog) 88 9 (.string ⟨#[]⟩) 16 Tryd.underlying88 infoStr rfl .i64 .i64 L.length (by omega) (by omega)
  have HP := Lib.hid hp
  have hB : ∀ x ∈ L.map rtext, x.length ≤ 10000 := fun x hx => by
    obtain ⟨y, hy, rfl⟩ := List.mem_map.1 hx
    obtain ⟨j, hj, rfl⟩ := List.mem_iff_getElem.1 hy
    have h1 := hs j hj
    have := rtext_len h1
    simp [List.getD, hj] at this
    omega
  have HB := Lib.hid hB
  have HS := Lib.hid hs
  clear hp hB hs
  go_enter Tryd.func34, Tryd.ntmps34
  go_wp2
  go_loopg [15] L.length (fun g i wr => ∃ k : Nat, k ≤ L.length ∧ g = L.length - k ∧ i = .int .i64 k ∧ Below w.heap.size w wr ∧ w.heap.size < wr.heap.size ∧ wr.rowIs w.heap.size 9 L.length (wrd (fun j => (L.map rtext).getD j []) k))
  case atStart => exact ⟨0, Nat.zero_le _, rfl, rfl, (Below.refl _ _).alloc (Nat.le_refl _) _, by simp, (World.rowIs_made _ _ _ _).congr (fun j _ => by simp [wrd])⟩
  case round =>
    obtain ⟨k, hk, rfl, rfl, hb, hsz, hC⟩ := hrel
    clear hmk
    by_cases hlt : k < L.length
    · obtain ⟨c, a1, a2⟩ := (h.below hb).at hlt
      have hsm := HS.out k hlt
      have hgm := getD_mapT rtext L [] hlt
      obtain ⟨q, hq⟩ : ∃ q, L.getD k [] = q := ⟨_, rfl⟩
      rw [hq] at a1 a2 hsm hgm
      have HD := irow q c wr a2 hsm (HP.out.below hb)
      have s1 : wr.cell? ⟨w.heap.size, k, none⟩ = some (wrd (fun j => (L.map rtext).getD j []) k k) := hC.cell (by omega)
      have f1 : wr.frozen? ⟨w.heap.size, k, none⟩ = false := hC.frozen _
      have HG := Lib.hid hgm
      clear hq hgm hsm a2
      go_wp2_with fail
      refine HD.mono ?_
      rintro e w1 ⟨rfl, hb1⟩
      obtain ⟨hc1, hf1⟩ := bcell hb1
      rw [← hc1 _ _ hsz] at s1
      rw [← hf1 _ _ hsz] at f1
      clear hc1 hf1 HD a1
      go_wp2
      go_roundg (L.length - (k + 1))
      case measure => omega
      case rel =>
        refine ⟨k + 1, by omega, rfl, by simp, (hb.trans (hb1.mono (by omega))).setCell (Nat.le_refl _) _, by have := hb1.size; simp [World.setCell]; omega, ?_⟩
        refine ((hC.of_block (hb1.block _ hsz)).set k _).congr (fun j _ => ?_)
        rw [← wrd_step (fun j => (L.map rtext).getD j []) k j]
        simp only [HG.out]
        rfl
    · have e : k = L.length := by omega
      subst e
      have hJ := joined w.heap.size L.length (L.map rtext) 59 L.length wr (by simpa using hC) (by simp) (by simp; omega) HB.out
      rw [List.length_map] at hJ
      go_wp2_with fail
      refine hJ.mono ?_
      rintro e w1 ⟨rfl, hb1⟩
      go_wp2
      go_ret
      exact ⟨rfl, hb.trans (hb1.mono (by omega))⟩
end Go.Proofs.YtfjpjiieocdgeaaDoor
