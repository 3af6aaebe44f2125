/- Whether a proof is one for a seal: the specification's look. -/
import Derived.Test.YtjfkkmfbgmejbaaBk3
import Derived.Test.YtjfkkmfbgmejbaaNt2
import Derived.Deep.RegionWith
namespace Go.Proofs.Ytjfkkmfbgmejbaa
open Go.ChangeShapes Go.WideShapes Go.ChangeAt Go.RowKit Go.Deep
set_option linter.unusedSimpArgs false
set_option linter.unusedVariables false
/-- The condition on the bit i. -/
def bit9 (s : Int) (X : Bq) (i : Nat) : Prop := pw 9 (X.2.2.getD i 0).toNat = X.1.getD i 0 * pw (wo9 s i) (X.2.1.getD i 0).toNat % 1000000007
/-- What a proof must be. -/
def bpOk (s : Int) (X : Bq) : Prop := isSl s = true ∧ (X.1.all isSl = true ∧ X.1.length = 2) ∧ (X.2.1.all isEx = true ∧ X.2.1.length = 2) ∧ (X.2.2.all isEx = true ∧ X.2.2.length = 2) ∧ (X.2.1.getD 0 0 + X.2.1.getD 1 0) % 500000003 = chn [s, X.1.getD 0 0, X.1.getD 1 0] 3 ∧ ∀ i, i < 2 → bit9 s X i
noncomputable def bpB (s : Int) (X : Bq) : Bool := @decide (bpOk s X) (Classical.propDecidable _)
theorem bpB_yes {s : Int} {X : Bq} (h : bpOk s X) : bpB s X = true := by simp [bpB, h]
theorem bpB_no {s : Int} {X : Bq} (h : ¬ bpOk s X) : bpB s X = false := by simp [bpB, h]
theorem swo (s : Int) (i : Nat) (w : World) (hs : sOk s) (hi : i ≤ 1) :
    Calls Try.prog 104 #[.int .i64 s, .int .i64 (i : Int)] w fun e w' => e = .returned (.int .i64 (wo9 s i)) ∧ w = w' := by
  by_cases h : i = 0
  · subst h
    have e : wo9 s 0 = s := by simp [wo9]
    rw [e]
    go_enter Try.func104, Try.ntmps104
    go_wp2
    go_ret
    exact ⟨rfl, rfl⟩
  · obtain rfl : i = 1 := by omega
    have e : wo9 s 1 = s * pw 4 500000002 % 1000000007 := by simp [wo9]
    rw [e]
    have P : ∀ w', Calls Try.prog 93 #[.int .i64 4, .int .i64 500000002] w' fun r w'' => r = .returned (.int .i64 (pw 4 500000002)) ∧ w' = w'' := fun w' => spow 4 500000002 w' four_ok (by omega)
    have T := fun w' => stimes s (pw 4 500000002) w' hs (pw_ok _ _)
    generalize s * pw 4 500000002 % 1000000007 = z at T ⊢
    generalize pw 4 500000002 = y at P T
    clear e h
    go_enter Try.func104, Try.ntmps104
    go_wp2_with fail
    refine (P _).mono ?_
    rintro e w1 ⟨rfl, rfl⟩
    go_wp2_with fail
    refine (T _).mono ?_
    rintro e w1 ⟨rfl, rfl⟩
    go_wp2
    go_ret
    exact ⟨rfl, rfl⟩
theorem row_three (w : World) (b : Nat) (x y z : Int) (hb : b < w.heap.size) (h0 : w.cell? ⟨b, 0, none⟩ = some (.int .i64 x)) (h1 : w.cell? ⟨b, 1, none⟩ = some (.int .i64 y)) (h2 : w.cell? ⟨b, 2, none⟩ = some (.int .i64 z)) (cap : Nat) :
    RowV w (.slice (some ⟨b, 0, none⟩) 3 cap) [x, y, z] := by
  refine .inr ⟨⟨b, 0, none⟩, cap, rfl, fun _ => hb, fun i hi => ?_⟩
  have : i < 3 := hi
  rw [Addr.add_lit, Nat.zero_add]
  match i, this with
  | 0, _ => exact h0
  | 1, _ => exact h1
  | 2, _ => exact h2
theorem isSl_cB {c : Int} (h : isSl c = true) : cB c = true := by
  simp [isSl] at h
  simp [cB]; omega
/-- What lies while a proof is looked at: its box, its rows. -/
def Vb9 (w0 : World) (p a b c : Nat) (m0 m1 c0 c1 : Int) (w' : World) : Prop :=
  w'.cell? ⟨p, 0, none⟩ = some (.slice (some ⟨a, 0, none⟩) 2 2) ∧ w'.cell? ⟨p, 1, none⟩ = some (.slice (some ⟨b, 0, none⟩) 2 2) ∧
  w'.cell? ⟨a, 0, none⟩ = some (.int .i64 m0) ∧ w'.cell? ⟨a, 1, none⟩ = some (.int .i64 m1) ∧ w'.cell? ⟨b, 0, none⟩ = some (.int .i64 c0) ∧ w'.cell? ⟨b, 1, none⟩ = some (.int .i64 c1) ∧ Hid (Below w0.heap.size w0 w')
theorem Vb9.bel {w0 w' : World} {p a b c : Nat} {m0 m1 c0 c1 : Int} (h : Vb9 w0 p a b c m0 m1 c0 c1 w') : Below w0.heap.size w0 w' := h.2.2.2.2.2.2.out
theorem Vb9.drew {w0 w' : World} {p a b c : Nat} {m0 m1 c0 c1 : Int} (h : Vb9 w0 p a b c m0 m1 c0 c1 w') : Vb9 w0 p a b c m0 m1 c0 c1 w'.drew := by
  obtain ⟨x1, x2, x3, x4, x5, x6, g⟩ := h
  exact ⟨x1, x2, x3, x4, x5, x6, Lib.hid g.out.drew⟩
theorem Vb9.below {w0 w' w'' : World} {p a b c : Nat} {m0 m1 c0 c1 : Int} (h : Vb9 w0 p a b c m0 m1 c0 c1 w') (hb : Below w'.heap.size w' w'') : Vb9 w0 p a b c m0 m1 c0 c1 w'' := by
  obtain ⟨x1, x2, x3, x4, x5, x6, g⟩ := h
  have k : ∀ {b : Nat} {o : Nat} {v : Value}, w'.cell? ⟨b, o, none⟩ = some v → w''.cell? ⟨b, o, none⟩ = some v := fun {b o v} hc => (hb.cell (p := ⟨b, o, none⟩) (World.block_lt_of_cell? _ _ hc)).trans hc
  exact ⟨k x1, k x2, k x3, k x4, k x5, k x6, Lib.hid (g.out.trans (hb.mono g.out.size))⟩
theorem Vb9.alloc {w0 w' : World} {p a b c : Nat} {m0 m1 c0 c1 : Int} (h : Vb9 w0 p a b c m0 m1 c0 c1 w') (o : Obj) : Vb9 w0 p a b c m0 m1 c0 c1 (w'.alloc o) := h.below ((Below.refl _ _).alloc (Nat.le_refl _) _)
theorem two_of {l : List Int} (h : l.length = 2) : ∃ x y, l = [x, y] := by
  match l, h with
  | [x, y], _ => exact ⟨x, y, rfl⟩
set_option maxHeartbeats 4000000 in
theorem sproof2 (s m0 m1 c0 c1 a0 a1 : Int) (p a b c : Nat) (w : World) (hs : isSl s = true) (h : BfR w a b c ([m0, m1], [c0, c1], [a0, a1]))
    (hp : BpAt w p (.slice (some ⟨a, 0, none⟩) 2 2) (.slice (some ⟨b, 0, none⟩) 2 2) (.slice (some ⟨c, 0, none⟩) 2 2))
    (hm : ([m0, m1] : List Int).all isSl = true) (hc : ([c0, c1] : List Int).all isEx = true) (ha : ([a0, a1] : List Int).all isEx = true) :
    Calls Try.prog 62 #[.int .i64 s, .pointer (some ⟨p, 0, none⟩)] w fun e w' => e = .returned (.bool (bpB s ([m0, m1], [c0, c1], [a0, a1]))) ∧ Below w.heap.size w w' := by
  have HS := fun w' => ssl_any s w'
  rw [hs] at HS
  have HM : ∀ w', Below w.heap.size w w' → Calls Try.prog 91 #[.slice (some ⟨a, 0, none⟩) 2 2, .int .i64 2] w' fun e w'' => e = .returned (.bool true) ∧ w' = w'' := fun w' hw => by
    have q := ssls (.slice (some ⟨a, 0, none⟩) 2 2) [m0, m1] 2 w' (h.rows.1.below hw) (by simp) (by omega)
    rw [hm] at q
    exact q
  have HC : ∀ w', Below w.heap.size w w' → Calls Try.prog 52 #[.slice (some ⟨b, 0, none⟩) 2 2, .int .i64 2] w' fun e w'' => e = .returned (.bool true) ∧ w' = w'' := fun w' hw => by
    have q := sexs (.slice (some ⟨b, 0, none⟩) 2 2) [c0, c1] 2 w' (h.rows.2.1.below hw) (by simp) (by omega)
    rw [hc] at q
    exact q
  have HA : ∀ w', Below w.heap.size w w' → Calls Try.prog 52 #[.slice (some ⟨c, 0, none⟩) 2 2, .int .i64 2] w' fun e w'' => e = .returned (.bool true) ∧ w' = w'' := fun w' hw => by
    have q := sexs (.slice (some ⟨c, 0, none⟩) 2 2) [a0, a1] 2 w' (h.rows.2.2.below hw) (by simp) (by omega)
    rw [ha] at q
    exact q
  have k0 : w.cell? ⟨a, 0, none⟩ = some (.int .i64 m0) := h.ra.cell (i := 0) (by simp)
  have k1 : w.cell? ⟨a, 1, none⟩ = some (.int .i64 m1) := h.ra.cell (i := 1) (by simp)
  have k2 : w.cell? ⟨b, 0, none⟩ = some (.int .i64 c0) := h.rb.cell (i := 0) (by simp)
  have k3 : w.cell? ⟨b, 1, none⟩ = some (.int .i64 c1) := h.rb.cell (i := 1) (by simp)
  obtain ⟨p0, p1, p2, pl⟩ := hp
  have VB := Lib.hid (show Vb9 w p a b c m0 m1 c0 c1 w from ⟨p0, p1, k0, k1, k2, k3, Lib.hid (Below.refl _ _)⟩)
  have e0 := isEx_ok (by simpa using (show isEx c0 = true by simp at hc; exact hc.1))
  have e1 := isEx_ok (by simpa using (show isEx c1 = true by simp at hc; exact hc.2))
  obtain ⟨e00, e01⟩ := e0
  obtain ⟨e10, e11⟩ := e1
  have wq : IntKind.i64.wrap (c0 + c1) = c0 + c1 := by rw [IntKind.wrap_i64]; omega
  have tq : (c0 + c1).tmod 500000003 = (c0 + c1) % 500000003 := Int.tmod_eq_emod_of_nonneg (by omega)
  obtain ⟨t, ht⟩ : ∃ t, (c0 + c1) % 500000003 = t := ⟨_, rfl⟩
  rw [ht] at tq
  have wt : IntKind.i64.wrap t = t := by rw [IntKind.wrap_i64]; omega
  obtain ⟨z, hz⟩ : ∃ z, chn [s, m0, m1] 3 = z := ⟨_, rfl⟩
  have HZ := Lib.hid hz
  have HTT := Lib.hid ht
  have HCH0 : ∀ (w' : World) (hr : RowV w' (.slice (some ⟨w.heap.size, 0, none⟩) 3 3) [s, m0, m1]), Calls Try.prog 105 #[.slice (some ⟨w.heap.size, 0, none⟩) 3 3] w' fun e w'' => e = .returned (.int .i64 (chn [s, m0, m1] 3)) ∧ w' = w'' := (fun (w' : World) (hr : RowV w' (.slice (some ⟨w.heap.size, 0, none⟩) 3 3) [s, m0, m1]) => schal (.slice (some ⟨w.heap.size, 0, none⟩) 3 3) [s, m0, m1] w' hr (by simp) (fun k hk => by
    have hk3 : k < 3 := hk
    have hm2 : isSl m0 = true ∧ isSl m1 = true := by simpa using hm
    match k, hk3 with
    | 0, _ => exact isSl_cB hs
    | 1, _ => exact isSl_cB hm2.1
    | 2, _ => exact isSl_cB hm2.2))
  rw [hz] at HCH0
  have HCH := Lib.hid HCH0
  have HBB : Hid (bpB s ([m0, m1], [c0, c1], [a0, a1]) = bpB s ([m0, m1], [c0, c1], [a0, a1])) := rfl
  have OKS : Hid (bpOk s ([m0, m1], [c0, c1], [a0, a1]) ↔ (t = z ∧ ∀ i, i < 2 → bit9 s ([m0, m1], [c0, c1], [a0, a1]) i)) := Lib.hid ⟨fun h => ⟨by rw [← ht, ← hz]; exact h.2.2.2.2.1, h.2.2.2.2.2⟩, fun h => ⟨hs, ⟨hm, rfl⟩, ⟨hc, rfl⟩, ⟨ha, rfl⟩, by show (c0 + c1) % 500000003 = chn [s, m0, m1] 3; rw [ht, hz]; exact h.1, h.2⟩⟩
  have HH := Lib.hid h
  have P2 := Lib.hid p2
  have b1 := (Below.refl w.heap.size w).alloc (Nat.le_refl _) (.cells #[.int .i64 s, .int .i64 m0, .int .i64 m1] 2)
  have SS := Lib.hid hs
  have MM : Hid (∀ k, k < 2 → sOk (([m0, m1] : List Int).getD k 0)) := fun k hk => isSl_ok (all_at hm (by simpa using hk))
  have CC : Hid (∀ k, k < 2 → isEx (([c0, c1] : List Int).getD k 0) = true) := fun k hk => all_at hc (by simpa using hk)
  have AA : Hid (∀ k, k < 2 → isEx (([a0, a1] : List Int).getD k 0) = true) := fun k hk => all_at ha (by simpa using hk)
  clear k0 k1 k2 k3 HCH0 hz ht
  go_enter Try.func62, Try.ntmps62
  go_wp2_with fail
  refine (HS _).mono ?_
  rintro e w1 ⟨rfl, rfl⟩
  go_wp2_with fail
  refine (HM _ (Below.refl _ _)).mono ?_
  rintro e w1 ⟨rfl, rfl⟩
  go_wp2_with fail
  refine (HC _ (Below.refl _ _)).mono ?_
  rintro e w1 ⟨rfl, rfl⟩
  go_wp2_with fail
  refine (HA _ (Below.refl _ _)).mono ?_
  rintro e w1 ⟨rfl, rfl⟩
  clear HS HM HC HA
  obtain ⟨k1, k2, k3, k4, k5, k6, -⟩ := VB.out
  go_wp2_with fail
  by_cases hne : t = z
  · have HNE := Lib.hid hne
    subst hne
    go_region_held3 (fun w' => w'.cell? ⟨p, 0, none⟩ = some (.slice (some ⟨a, 0, none⟩) 2 2) ∧ w'.cell? ⟨p, 1, none⟩ = some (.slice (some ⟨b, 0, none⟩) 2 2) ∧
        w'.cell? ⟨a, 0, none⟩ = some (.int .i64 m0) ∧ w'.cell? ⟨a, 1, none⟩ = some (.int .i64 m1) ∧ w'.cell? ⟨b, 0, none⟩ = some (.int .i64 c0) ∧ w'.cell? ⟨b, 1, none⟩ = some (.int .i64 c1) ∧ Hid (Below w.heap.size w w'))
      (first | exact (Hid.out VB).drew | exact ((Hid.out VB).alloc _).drew | exact Hid.out (by assumption) | exact Vb9.alloc (by assumption) _ | exact Vb9.alloc (Hid.out (by assumption)) _)
      (first
        | (go_at_call 105; have hcur : Vb9 w p a b c m0 m1 c0 c1 _ := (by assumption); have hB : Hid (Vb9 w p a b c m0 m1 c0 c1 _) := Lib.hid hcur; refine (HCH.out _ (row_three _ _ _ _ _ (by simp) (by go_simp) (by go_simp) (by go_simp) _)).mono ?_; rintro e wt ⟨rfl, rfl⟩))
    all_goals
      clear k1 k2 k3 k4 k5 k6 p0 p1 p2
      go_wp2
      go_loopg [5] 2 (fun g i wr => ∃ k : Nat, k ≤ 2 ∧ g = 2 - k ∧ i = .int .i64 (k : Int) ∧ Hid (Vb9 w p a b c m0 m1 c0 c1 wr) ∧ Hid (∀ j, j < k → bit9 s ([m0, m1], [c0, c1], [a0, a1]) j))
      case atStart => exact ⟨0, Nat.zero_le _, rfl, rfl, by first | assumption | exact Lib.hid (Hid.out hB).drew, fun j hj => absurd hj (Nat.not_lt_zero _)⟩
      case round =>
        obtain ⟨k, hk, rfl, rfl, HV, HK⟩ := hrel
        have hb := HV.out.bel
        have hbh := Lib.hid hb
        by_cases hlt : k < 2
        · have hd := HV.out
          obtain ⟨d0, d1, -, -, -, -, -⟩ := hd
          have d2 := (hb.cell (p := ⟨p, 2, none⟩) pl).trans P2.out
          have da : wr.cell? ⟨a, k, none⟩ = some (.int .i64 (([m0, m1] : List Int).getD k 0)) := (HH.out.below hb).ra.cell (i := k) (by simpa using hlt)
          have db : wr.cell? ⟨b, k, none⟩ = some (.int .i64 (([c0, c1] : List Int).getD k 0)) := (HH.out.below hb).rb.cell (i := k) (by simpa using hlt)
          have dc : wr.cell? ⟨c, k, none⟩ = some (.int .i64 (([a0, a1] : List Int).getD k 0)) := (HH.out.below hb).rc.cell (i := k) (by simpa using hlt)
          obtain ⟨n, hn, hn1, hn2⟩ := exof (CC.out k hlt)
          obtain ⟨q, hq, hq1, hq2⟩ := exof (AA.out k hlt)
          have mo := MM.out k hlt
          have hbit : bit9 s ([m0, m1], [c0, c1], [a0, a1]) k ↔ pw 9 q = ([m0, m1] : List Int).getD k 0 * pw (wo9 s k) n % 1000000007 := by
            show pw 9 (([a0, a1] : List Int).getD k 0).toNat = ([m0, m1] : List Int).getD k 0 * pw (wo9 s k) (([c0, c1] : List Int).getD k 0).toNat % 1000000007 ↔ _
            rw [hq2, hn2]
          rw [hn] at db
          rw [hq] at dc
          generalize ([m0, m1] : List Int).getD k 0 = m at da mo hbit
          have W1 := fun w' => swo s k w' (isSl_ok SS.out) (by omega)
          have W2 := fun w' => spow (wo9 s k) n w' (wo9_ok (isSl_ok SS.out) k) (by omega)
          have W3 := fun w' => stimes m (pw (wo9 s k) n) w' mo (pw_ok _ _)
          have W4 := fun w' => spow 9 q w' nine_ok (by omega)
          generalize m * pw (wo9 s k) n % 1000000007 = v at W3 hbit
          generalize pw (wo9 s k) n = u at W2 W3
          generalize wo9 s k = y at W1 W2
          generalize pw 9 q = r at W4 hbit
          have HBIT := Lib.hid hbit
          clear hbit hn hq hn2 hq2 hb mo
          by_cases hrv : r = v
          · have HRV := Lib.hid hrv
            subst hrv
            go_wp2_with fail
            go_quiet ((first | (go_at_call 104; exact quiet_left (W1 _)) | (go_at_call 93; exact quiet_left (W2 _)) | (go_at_call 92; exact quiet_left (W3 _))))
            go_wp2_with fail
            refine (W4 _).mono ?_
            rintro e w2 ⟨rfl, rfl⟩
            go_wp2
            go_roundg (2 - (k + 1))
            case measure => omega
            case rel =>
              refine ⟨k + 1, by omega, rfl, by simp, ?_, fun j hj => ?_⟩
              · exact Lib.hid (HV.out.below (below_drewN (Below.refl _ _) _))
              · by_cases ej : j = k
                · subst ej; exact HBIT.out.2 (by first | exact rfl | trivial)
                · exact HK.out j (by omega)
          · have HRV := Lib.hid hrv
            go_wp2_with fail
            go_quiet ((first | (go_at_call 104; exact quiet_left (W1 _)) | (go_at_call 93; exact quiet_left (W2 _)) | (go_at_call 92; exact quiet_left (W3 _))))
            go_wp2_with fail
            refine (W4 _).mono ?_
            rintro e w2 ⟨rfl, rfl⟩
            go_wp2
            go_ret
            refine ⟨?_, ?_⟩
            · rw [bpB_no (fun h => by
                have h1 := HBIT.out.1 ((OKS.out.1 h).2 k (by omega))
                have h2 := HRV.out
                first | exact h2 h1 | omega)]; rfl
            · exact below_drewN hbh.out _
        · have e' : k = 2 := by omega
          subst e'
          go_wp2
          go_ret
          exact ⟨by rw [bpB_yes (OKS.out.2 ⟨by first | exact rfl | trivial, HK.out⟩)]; rfl, hb⟩
  · have HNE := Lib.hid hne
    go_region_held3 (fun w' => w'.cell? ⟨p, 0, none⟩ = some (.slice (some ⟨a, 0, none⟩) 2 2) ∧ w'.cell? ⟨p, 1, none⟩ = some (.slice (some ⟨b, 0, none⟩) 2 2) ∧
        w'.cell? ⟨a, 0, none⟩ = some (.int .i64 m0) ∧ w'.cell? ⟨a, 1, none⟩ = some (.int .i64 m1) ∧ w'.cell? ⟨b, 0, none⟩ = some (.int .i64 c0) ∧ w'.cell? ⟨b, 1, none⟩ = some (.int .i64 c1) ∧ Hid (Below w.heap.size w w'))
      (first | exact (Hid.out VB).drew | exact ((Hid.out VB).alloc _).drew | exact Hid.out (by assumption) | exact Vb9.alloc (by assumption) _ | exact Vb9.alloc (Hid.out (by assumption)) _)
      (first
        | (go_at_call 105; have hcur : Vb9 w p a b c m0 m1 c0 c1 _ := (by assumption); have hB : Hid (Vb9 w p a b c m0 m1 c0 c1 _) := Lib.hid hcur; refine (HCH.out _ (row_three _ _ _ _ _ (by simp) (by go_simp) (by go_simp) (by go_simp) _)).mono ?_; rintro e wt ⟨rfl, rfl⟩))
    all_goals
      have hbb := (Hid.out hB).bel
      clear k1 k2 k3 k4 k5 k6 p0 p1 p2
      go_wp2
      go_ret
      refine ⟨by rw [bpB_no (fun h => by have h1 := (OKS.out.1 h).1; have h2 := HNE.out; first | exact h2 h1 | omega)]; rfl, ?_⟩
      first | exact hbb | exact hbb.drew | exact below_drewN hbb _
end Go.Proofs.Ytjfkkmfbgmejbaa
