/- The law on RanksOf, walked. -/
import Derived.Test.YtlpidgdlbannbaaVq3
namespace Go.Proofs.Ytlpidgdlbannbaa
open Go.ChangeShapes Go.WideShapes Go.ChangeAt Go.RowKit Go.Deep
set_option linter.unusedSimpArgs false
set_option linter.unusedVariables false
theorem Vs.shape {w : World} {lo : Nat} {L : List Vc} (h : Vs w lo lo L) : ∃ c, ShV w lo L.length c (fun j => (L.getD j (false, [])).2.length) ∧ ∀ j, j < L.length → lo ≤ c j ∧ c j < w.heap.size ∧ lo ≠ c j := by
  obtain ⟨c, h⟩ := h
  refine ⟨c, ⟨⟨_, h.row, fun j hj => ?_⟩, fun j hj => ⟨_, (h.own j hj).2⟩⟩, fun j hj => ⟨by have := (h.own j hj).1; omega, (h.own j hj).2.lt, by have := (h.own j hj).1; omega⟩⟩
  have e1 : (j * 2 + 1) / 2 = j := by omega
  have e2 : (j * 2 + 1) % 2 = 1 := by omega
  simp [vf, e1, e2, hj]
theorem markVs (L : List Vc) (lo hi cap : Nat) (w : World) (h : ∃ c, ShV w lo L.length c (fun j => (L.getD j (false, [])).2.length) ∧ ∀ j, j < L.length → lo ≤ c j ∧ c j < hi ∧ lo ≠ c j) (hf : Fits L) (hlt : lo < hi) :
    Calls Try.prog 24 #[.slice (some ⟨lo, 0, none⟩) L.length cap, .int .i64 1] w fun e w' => (∃ r, e = .returned (.int .i64 r) ∧ 0 ≤ r ∧ r ≤ 2000000000000) ∧ Kept w w' (fun x => lo ≤ x ∧ x < hi) := by
  obtain ⟨c, h1, h2⟩ := h
  exact (markVS lo L.length cap lo hi c _ w h1 hf.1 hf.2 ⟨Nat.le_refl _, hlt⟩ h2).mono fun e w' ⟨a, _, b⟩ => ⟨a, b⟩
theorem ShV.below {w w' : World} {b n : Nat} {c len : Nat → Nat} (h : ShV w b n c len) (hb : Below w.heap.size w w') : ShV w' b n c len := by
  obtain ⟨⟨f, h1, h2⟩, h3⟩ := h
  refine ⟨⟨f, h1.of_block (hb.block b h1.lt), h2⟩, fun j hj => ?_⟩
  obtain ⟨f', h4⟩ := h3 j hj
  exact ⟨f', h4.of_block (hb.block _ h4.lt)⟩
theorem sRanks' (L : List Vc) (B b cap bp : Nat) (p : List Int) (w : World) (l : List Int) (z : Bool) (hz : pB L p = z) (hlz : (if pB L p = true then rkL L p else []) = l) (h : Vs w B b L) (hf : Fits L) (hp : OwnI w bp p) (hl : p.length ≤ 1048576) :
    Calls Try.prog 22 #[.slice (some ⟨b, 0, none⟩) L.length cap, .slice (some ⟨bp, 0, none⟩) p.length p.length] w fun e w' => (∃ v, e = .returned (.tuple #[v, .bool z]) ∧ RowV w' v l ∧ InB v w.heap.size w'.heap.size) ∧ Below w.heap.size w w' := by
  have := sRanks L B b cap bp p w h hf hp hl
  rw [hlz, hz] at this
  exact this
theorem iRanksY (L : List Vc) (B b cap bp : Nat) (p : List Int) (w : World) (l : List Int) (m : Nat) (hm : p.length - 1 = m) (hz : pB L p = true) (hlz : rkL L p = l) (h : Vs w B b L) (hf : Fits L) (hp : OwnI w bp p) (hl : p.length ≤ 1048576) :
    Calls Try.prog 23 #[.slice (some ⟨b, 0, none⟩) L.length cap, .slice (some ⟨bp, 0, none⟩) p.length p.length] w fun e w' => (∃ c, w.heap.size ≤ c ∧ e = .returned (.tuple #[.slice (some ⟨c, 0, none⟩) m m, .bool true]) ∧ OwnI w' c l) ∧ Below w.heap.size w w' := by
  refine (iranks L B b cap bp p w h hf hp hl).mono ?_
  rintro e w' ⟨a, hb⟩
  rw [if_pos hz, hlz, hm] at a
  exact ⟨a, hb⟩
theorem iRanksN (L : List Vc) (B b cap bp : Nat) (p : List Int) (w : World) (hz : pB L p = false) (h : Vs w B b L) (hf : Fits L) (hp : OwnI w bp p) (hl : p.length ≤ 1048576) :
    Calls Try.prog 23 #[.slice (some ⟨b, 0, none⟩) L.length cap, .slice (some ⟨bp, 0, none⟩) p.length p.length] w fun e w' => e = .returned (.tuple #[.slice none 0 0, .bool false]) ∧ Below w.heap.size w w' := by
  refine (iranks L B b cap bp p w h hf hp hl).mono ?_
  rintro e w' ⟨a, hb⟩
  rw [if_neg (by rw [hz]; decide)] at a
  exact ⟨a, hb⟩
set_option maxHeartbeats 2000000 in
set_option maxRecDepth 100000 in
theorem lawRanksY (v : Value) (L : List Vc) (u : Value) (p : List Int) (w : World) (h : ListV w v L) (hr : Room L) (hp : RowV w u p) (l : List Int) (m : Nat) (hm : p.length - 1 = m) (hz : pB L p = true) (hlz : rkL L p = l) :
    Calls Try.prog 5 #[v, u] w fun e w' => e = .returned (.bool true) ∧ Below w.heap.size w w' := by
  obtain ⟨ua, ucap, hu⟩ := hp.shape
  by_cases hlong : 1048576 < p.length
  · subst hu
    clear hp h hr
    go_enter Try.func5, Try.ntmps5
    go_wp2
    go_ret
    exact ⟨rfl, Below.refl _ _⟩
  have hl : p.length ≤ 1048576 := by omega
  have HU := fun w' (hw : Below w.heap.size w w') => toIO u p w' (hp.below hw) hl
  subst hu
  clear hp
  have HZ := szVS v L w h hr
  go_enter Try.func5, Try.ntmps5
  go_wp2_with fail
  refine HZ.mono ?_
  rintro e w1 ⟨⟨r, rfl, r1, r2, r3⟩, b1⟩
  have R3 := Lib.hid r3
  clear r3
  by_cases hneg : r < 0
  · go_wp2
    go_ret
    exact ⟨rfl, b1⟩
  have hf := R3.out (by omega)
  clear HZ R3
  go_wp2_with fail
  refine (toVS_any v L _ (h.below b1) hf.1 hf.2).mono ?_
  rintro e w2 ⟨rfl, hV2, hb2⟩
  have b2 := b1.trans (hb2.mono b1.size)
  go_wp2_with fail
  refine (HU _ b2).mono ?_
  rintro e w3 ⟨rfl, hP3, hb3⟩
  have b3 := b2.trans (hb3.mono b2.size)
  go_wp2_with fail
  refine (sRanks' L _ _ _ _ p _ l true hz (by rw [if_pos hz]; exact hlz) (hV2.below hb3) hf hP3 hl).mono ?_
  rintro e w4 ⟨⟨v0, rfl, hv0, hin0⟩, hb4⟩
  have b4 := b3.trans (hb4.mono b3.size)
  clear hV2 hP3 hb2 hb3
  go_wp2_with fail
  refine (toVS_any v L _ (h.below b4) hf.1 hf.2).mono ?_
  rintro e w5 ⟨rfl, hV5, hb5⟩
  have b5 := b4.trans (hb5.mono b4.size)
  have hv5 := hv0.below hb5
  go_wp2_with fail
  refine (HU _ b5).mono ?_
  rintro e w6 ⟨rfl, hP6, hb6⟩
  have b6 := b5.trans (hb6.mono b5.size)
  have hv6 := hv5.below hb6
  go_wp2_with fail
  refine (iRanksY L _ _ _ _ p _ l m hm hz hlz (hV5.below hb6) hf hP6 hl).mono ?_
  rintro e w7 ⟨⟨c, hc, rfl, hG7⟩, hb7⟩
  have hm9 : m ≤ 1048576 := by omega
  have hlm0 : l.length = m := by rw [← hlz, rkL_len]; exact hm
  have hGr7 := hG7.row m
  rw [hlm0] at hGr7
  have b7 := b6.trans (hb7.mono b6.size)
  have hv7 := hv6.below hb7
  have hV7 := (hV5.below hb6).below hb7
  have s6b : w5.heap.size < w6.heap.size := hP6.lt
  have hP7 := hP6.below hb7
  go_wp2_with fail
  refine (eqI _ _ l _ hGr7 hv7 (by omega)).mono ?_
  rintro e w8 ⟨rfl, hb8⟩
  have b8 := b7.trans (hb8.mono b7.size)
  go_wp2_with fail
  refine (toVS_any v L _ (h.below b8) hf.1 hf.2).mono ?_
  rintro e w9 ⟨rfl, hV9, hb9⟩
  have b9 := b8.trans (hb9.mono b8.size)
  go_wp2_with fail
  refine (eqVS L _ _ _ _ _ _ _ ((hV7.below hb8).below hb9) hV9 hf).mono ?_
  rintro e w10 ⟨rfl, hb10⟩
  have b10 := b9.trans (hb10.mono b9.size)
  go_wp2_with fail
  refine (HU _ b10).mono ?_
  rintro e w11 ⟨rfl, hP11, hb11⟩
  have b11 := b10.trans (hb11.mono b10.size)
  have hP7' := (((hP7.below hb8).below hb9).below hb10).below hb11
  go_wp2_with fail
  refine (eqI _ _ p _ (hP7'.row _) (hP11.row _) (by omega)).mono ?_
  rintro e w12 ⟨rfl, hb12⟩
  have b12 := b11.trans (hb12.mono b11.size)
  have q7 : Below w7.heap.size w7 w12 := (((hb8.trans (hb9.mono hb8.size)).trans (hb10.mono (Nat.le_trans hb8.size hb9.size))).trans (hb11.mono (Nat.le_trans hb8.size (Nat.le_trans hb9.size hb10.size)))).trans (hb12.mono (Nat.le_trans hb8.size (Nat.le_trans hb9.size (Nat.le_trans hb10.size hb11.size))))
  have s5 : w4.heap.size < w5.heap.size := hV5.lt
  have hsh : ∃ c, ShV w12 w4.heap.size L.length c (fun j => (L.getD j (false, [])).2.length) ∧ ∀ j, j < L.length → w4.heap.size ≤ c j ∧ c j < w5.heap.size ∧ w4.heap.size ≠ c j := by
    obtain ⟨c, q1, q2⟩ := hV5.shape
    exact ⟨c, ((q1.below hb6).below hb7).below q7, q2⟩
  have hv12 := hv7.below q7
  have hP12 := hP7.below q7
  have s6 := hb5.size
  have s7 := hb6.size
  have s8 := hb7.size
  have s9 := q7.size
  have s10 := b4.size
  have sB := b12.size
  clear hV5 hV7 hV9 hP7' hP11 hb8 hb9 hb10 hb11 hb12
  go_wp2_with fail
  refine (markVs L w4.heap.size w5.heap.size _ _ hsh hf s5).mono ?_
  rintro e w13 ⟨⟨k, rfl, k1, k2⟩, hk13⟩
  have b13 := b12.trans (hk13.below sB (fun x hx => by omega))
  have hv13 := hv12.kept hk13 (fun x e => by have := (hin0 x e).2; omega)
  have hP13 : OwnI w13 w5.heap.size p := hk13.row hP12 (by omega)
  go_wp2_with fail
  refine (markI w5.heap.size p.length _ _ _ ⟨_, hP13⟩ hl k1 (by omega)).mono ?_
  rintro e w14 ⟨rfl, _, hk14⟩
  have s13 := hk13.size
  have b14 := b13.trans (hk14.below (by omega) (fun x hx => by subst hx; omega))
  have hv14 := hv13.kept hk14 (fun x e hx => by have := (hin0 x e).2; omega)
  have s14 := hk14.size
  have hG14 : OwnI w14 c l := hk14.row (hk13.row (hG7.below q7) (by omega)) (by show ¬ c = w5.heap.size; omega)
  have hGr14 := hG14.row m
  rw [hlm0] at hGr14
  have wk14 : IntKind.i64.wrap (k + (p.length : Int)) = k + p.length := by rw [IntKind.wrap_i64]; omega
  go_wp2_with fail
  refine (eqI _ _ l _ hGr14 hv14 (by omega)).mono ?_
  rintro e w15 ⟨rfl, hb15⟩
  have b15 := b14.trans (hb15.mono b14.size)
  have hv15 := hv14.below hb15
  have s15 := hb15.size
  have hG15 := hG14.below hb15
  have hlm : l.length = m := hlm0
  unfold OwnI at hG15
  rw [hlm] at hG15
  go_wp2_with fail
  refine (markI c m _ _ _ ⟨_, hG15⟩ hm9 (by omega) (by omega)).mono ?_
  rintro e w16 ⟨rfl, hr16, hk16⟩
  have b16 := b15.trans (hk16.below (by omega) (fun x hx => by subst hx; omega))
  have hv16 := hv15.kept hk16 (fun x e hx => by have := (hin0 x e).2; omega)
  have wm : IntKind.i64.wrap (1 + (m : Int)) = 1 + m := by rw [IntKind.wrap_i64]; omega
  go_wp2_with fail
  refine (heldI c m _ _ _ hr16 hm9 (by omega) (by omega)).mono ?_
  rintro e w17 ⟨rfl, rfl⟩
  go_wp2_with fail
  refine (toVS_any v L _ (h.below b16) hf.1 hf.2).mono ?_
  rintro e w18 ⟨rfl, hV18, hb18⟩
  have b18 := b16.trans (hb18.mono b16.size)
  go_wp2_with fail
  refine (HU _ b18).mono ?_
  rintro e w19 ⟨rfl, hP19, hb19⟩
  have b19 := b18.trans (hb19.mono b18.size)
  go_wp2_with fail
  refine (iRanksY L _ _ _ _ p _ l m hm hz hlz (hV18.below hb19) hf hP19 hl).mono ?_
  rintro e w20 ⟨⟨c2, hc2, rfl, hG20⟩, hb20⟩
  have b20 := b19.trans (hb20.mono b19.size)
  have hv20 := ((hv16.below hb18).below hb19).below hb20
  have hG20' := hG20.row m
  rw [hlm] at hG20'
  go_wp2_with fail
  refine (eqI _ _ l _ hG20' hv20 (by omega)).mono ?_
  rintro e w21 ⟨rfl, hb21⟩
  have b21 := b20.trans (hb21.mono b20.size)
  have hr21 := (((hr16.of_block (hb18.block _ hr16.lt)).of_block (hb19.block _ (Nat.lt_of_lt_of_le hr16.lt hb18.size))).of_block (hb20.block _ (Nat.lt_of_lt_of_le hr16.lt (Nat.le_trans hb18.size hb19.size)))).of_block (hb21.block _ (Nat.lt_of_lt_of_le hr16.lt (Nat.le_trans hb18.size (Nat.le_trans hb19.size hb20.size))))
  go_wp2_with fail
  refine (heldI c m _ _ _ hr21 hm9 (by omega) (by omega)).mono ?_
  rintro e w22 ⟨rfl, rfl⟩
  go_wp2
  go_ret
  exact ⟨rfl, b21⟩
set_option maxHeartbeats 2000000 in
set_option maxRecDepth 100000 in
theorem lawRanksN (v : Value) (L : List Vc) (u : Value) (p : List Int) (w : World) (h : ListV w v L) (hr : Room L) (hp : RowV w u p) (l : List Int) (hl0 : l = []) (hz : pB L p = false) :
    Calls Try.prog 5 #[v, u] w fun e w' => e = .returned (.bool true) ∧ Below w.heap.size w w' := by
  obtain ⟨ua, ucap, hu⟩ := hp.shape
  by_cases hlong : 1048576 < p.length
  · subst hu
    clear hp h hr
    go_enter Try.func5, Try.ntmps5
    go_wp2
    go_ret
    exact ⟨rfl, Below.refl _ _⟩
  have hl : p.length ≤ 1048576 := by omega
  have HU := fun w' (hw : Below w.heap.size w w') => toIO u p w' (hp.below hw) hl
  subst hu
  clear hp
  have HZ := szVS v L w h hr
  go_enter Try.func5, Try.ntmps5
  go_wp2_with fail
  refine HZ.mono ?_
  rintro e w1 ⟨⟨r, rfl, r1, r2, r3⟩, b1⟩
  have R3 := Lib.hid r3
  clear r3
  by_cases hneg : r < 0
  · go_wp2
    go_ret
    exact ⟨rfl, b1⟩
  have hf := R3.out (by omega)
  clear HZ R3
  go_wp2_with fail
  refine (toVS_any v L _ (h.below b1) hf.1 hf.2).mono ?_
  rintro e w2 ⟨rfl, hV2, hb2⟩
  have b2 := b1.trans (hb2.mono b1.size)
  go_wp2_with fail
  refine (HU _ b2).mono ?_
  rintro e w3 ⟨rfl, hP3, hb3⟩
  have b3 := b2.trans (hb3.mono b2.size)
  go_wp2_with fail
  refine (sRanks' L _ _ _ _ p _ l false hz (by rw [hz, hl0]; rfl) (hV2.below hb3) hf hP3 hl).mono ?_
  rintro e w4 ⟨⟨v0, rfl, hv0, hin0⟩, hb4⟩
  have b4 := b3.trans (hb4.mono b3.size)
  clear hV2 hP3 hb2 hb3
  go_wp2_with fail
  refine (toVS_any v L _ (h.below b4) hf.1 hf.2).mono ?_
  rintro e w5 ⟨rfl, hV5, hb5⟩
  have b5 := b4.trans (hb5.mono b4.size)
  have hv5 := hv0.below hb5
  go_wp2_with fail
  refine (HU _ b5).mono ?_
  rintro e w6 ⟨rfl, hP6, hb6⟩
  have b6 := b5.trans (hb6.mono b5.size)
  have hv6 := hv5.below hb6
  go_wp2_with fail
  refine (iRanksN L _ _ _ _ p _ hz (hV5.below hb6) hf hP6 hl).mono ?_
  rintro e w7 ⟨rfl, hb7⟩
  have b7 := b6.trans (hb7.mono b6.size)
  have hv7 := hv6.below hb7
  have hV7 := (hV5.below hb6).below hb7
  have s6b : w5.heap.size < w6.heap.size := hP6.lt
  have hP7 := hP6.below hb7
  go_wp2_with fail
  refine (eqI _ _ l _ (.inl ⟨rfl, hl0⟩) hv7 (by rw [hl0]; simp)).mono ?_
  rintro e w8 ⟨rfl, hb8⟩
  have b8 := b7.trans (hb8.mono b7.size)
  go_wp2_with fail
  refine (toVS_any v L _ (h.below b8) hf.1 hf.2).mono ?_
  rintro e w9 ⟨rfl, hV9, hb9⟩
  have b9 := b8.trans (hb9.mono b8.size)
  go_wp2_with fail
  refine (eqVS L _ _ _ _ _ _ _ ((hV7.below hb8).below hb9) hV9 hf).mono ?_
  rintro e w10 ⟨rfl, hb10⟩
  have b10 := b9.trans (hb10.mono b9.size)
  go_wp2_with fail
  refine (HU _ b10).mono ?_
  rintro e w11 ⟨rfl, hP11, hb11⟩
  have b11 := b10.trans (hb11.mono b10.size)
  have hP7' := (((hP7.below hb8).below hb9).below hb10).below hb11
  go_wp2_with fail
  refine (eqI _ _ p _ (hP7'.row _) (hP11.row _) (by omega)).mono ?_
  rintro e w12 ⟨rfl, hb12⟩
  have b12 := b11.trans (hb12.mono b11.size)
  have q7 : Below w7.heap.size w7 w12 := (((hb8.trans (hb9.mono hb8.size)).trans (hb10.mono (Nat.le_trans hb8.size hb9.size))).trans (hb11.mono (Nat.le_trans hb8.size (Nat.le_trans hb9.size hb10.size)))).trans (hb12.mono (Nat.le_trans hb8.size (Nat.le_trans hb9.size (Nat.le_trans hb10.size hb11.size))))
  have s5 : w4.heap.size < w5.heap.size := hV5.lt
  have hsh : ∃ c, ShV w12 w4.heap.size L.length c (fun j => (L.getD j (false, [])).2.length) ∧ ∀ j, j < L.length → w4.heap.size ≤ c j ∧ c j < w5.heap.size ∧ w4.heap.size ≠ c j := by
    obtain ⟨c, q1, q2⟩ := hV5.shape
    exact ⟨c, ((q1.below hb6).below hb7).below q7, q2⟩
  have hv12 := hv7.below q7
  have hP12 := hP7.below q7
  have s6 := hb5.size
  have s7 := hb6.size
  have s8 := hb7.size
  have s9 := q7.size
  have s10 := b4.size
  have sB := b12.size
  clear hV5 hV7 hV9 hP7' hP11 hb8 hb9 hb10 hb11 hb12
  go_wp2_with fail
  refine (markVs L w4.heap.size w5.heap.size _ _ hsh hf s5).mono ?_
  rintro e w13 ⟨⟨k, rfl, k1, k2⟩, hk13⟩
  have b13 := b12.trans (hk13.below sB (fun x hx => by omega))
  have hv13 := hv12.kept hk13 (fun x e => by have := (hin0 x e).2; omega)
  have hP13 : OwnI w13 w5.heap.size p := hk13.row hP12 (by omega)
  go_wp2_with fail
  refine (markI w5.heap.size p.length _ _ _ ⟨_, hP13⟩ hl k1 (by omega)).mono ?_
  rintro e w14 ⟨rfl, _, hk14⟩
  have s13 := hk13.size
  have b14 := b13.trans (hk14.below (by omega) (fun x hx => by subst hx; omega))
  have hv14 := hv13.kept hk14 (fun x e hx => by have := (hin0 x e).2; omega)
  have s14 := hk14.size

  have wk14 : IntKind.i64.wrap (k + (p.length : Int)) = k + p.length := by rw [IntKind.wrap_i64]; omega
  go_wp2_with fail
  refine (eqI _ _ l _ (.inl ⟨rfl, hl0⟩) hv14 (by rw [hl0]; simp)).mono ?_
  rintro e w15 ⟨rfl, hb15⟩
  have b15 := b14.trans (hb15.mono b14.size)
  have hv15 := hv14.below hb15
  have s15 := hb15.size
  go_wp2_with fail
  refine (markI_nil _ _ _ _).mono ?_
  rintro e w16 ⟨rfl, rfl⟩
  go_wp2_with fail
  refine (heldI_nil _ _ _ _).mono ?_
  rintro e w17 ⟨rfl, rfl⟩
  go_wp2_with fail
  refine (toVS_any v L _ (h.below b15) hf.1 hf.2).mono ?_
  rintro e w18 ⟨rfl, hV18, hb18⟩
  have b18 := b15.trans (hb18.mono b15.size)
  go_wp2_with fail
  refine (HU _ b18).mono ?_
  rintro e w19 ⟨rfl, hP19, hb19⟩
  have b19 := b18.trans (hb19.mono b18.size)
  go_wp2_with fail
  refine (iRanksN L _ _ _ _ p _ hz (hV18.below hb19) hf hP19 hl).mono ?_
  rintro e w20 ⟨rfl, hb20⟩
  have b20 := b19.trans (hb20.mono b19.size)
  have hv20 := ((hv15.below hb18).below hb19).below hb20
  go_wp2_with fail
  refine (eqI _ _ l _ (.inl ⟨rfl, hl0⟩) hv20 (by rw [hl0]; simp)).mono ?_
  rintro e w21 ⟨rfl, hb21⟩
  have b21 := b20.trans (hb21.mono b20.size)
  go_wp2_with fail
  refine (heldI_nil _ _ _ _).mono ?_
  rintro e w22 ⟨rfl, rfl⟩
  go_wp2
  go_ret
  exact ⟨rfl, b21⟩
theorem lawRanksOf (v : Value) (L : List Vc) (u : Value) (p : List Int) (w : World) (h : ListV w v L) (hr : Room L) (hp : RowV w u p) (hl0 : p.length ≤ 9223372036854775807) (_ : ∀ n ∈ p, (Lit.int .i64 n).wf = true) :
    Calls Try.prog 5 #[v, u] w fun e w' => e = .returned (.bool true) ∧ Below w.heap.size w w' := by
  cases hz : pB L p with
  | true => exact lawRanksY v L u p w h hr hp _ _ rfl hz rfl
  | false => exact lawRanksN v L u p w h hr hp _ rfl hz
end Go.Proofs.Ytlpidgdlbannbaa
