/- OpenCount and AdoptedBy: the program's. -/
import Derived.Test.YtgoocglcgkfgmaaCa2
import Derived.Test.YtgoocglcgkfgmaaAt3
import Derived.Test.YtgoocglcgkfgmaaAt4
namespace Go.Proofs.Ytgoocglcgkfgmaa
open Go.ChangeShapes Go.WideShapes Go.ChangeAt Go.RowKit Go.Deep
set_option linter.unusedSimpArgs false
set_option linter.unusedVariables false
theorem osL_ow {w : World} {lo hi c cap : Nat} {V W : List Int} (hc1 : lo ≤ c) (hc2 : c < hi) (h : w.rowIs c 2 3 (fun i => .int .i64 (os V W V.length (i : Int)))) :
    OwI w lo hi (.slice (some ⟨c, 0, none⟩) 3 cap) (osL V W) := by
  refine ⟨.inr ⟨c, cap, 3, _, rfl, hc1, hc2, Nat.le_refl _, h, fun i hi => ?_⟩, by simp [osL]⟩
  have hi3 : i < 3 := hi
  match i, hi3 with
  | 0, _ => rfl
  | 1, _ => rfl
  | 2, _ => rfl
set_option maxHeartbeats 1000000 in
theorem ioc1 (v u : Value) (V W : List Int) (p q : Nat) (w : World) (h : RowV w v V) (hu : RowV w u W) (hV : V.length ≤ 1048576) (hW : W.length ≤ 1048576)
    (hp : w.cell? ⟨p, 0, none⟩ = some v) (hq : w.cell? ⟨q, 0, none⟩ = some u) :
    Calls Try.prog 54 #[.pointer (some ⟨p, 0, none⟩), .pointer (some ⟨q, 0, none⟩)] w fun e w' => Below w.heap.size w w' ∧ ((vwOk V W ∧ ∃ x, e = .returned x ∧ OwI w' w.heap.size w'.heap.size x (osL V W)) ∨ (¬ vwOk V W ∧ Panics e)) := by
  have HC := icasts v u V W w h hu hV hW
  clear h hu
  go_enter Try.func54, Try.ntmps54
  go_wp2_with fail
  refine HC.mono ?_
  rintro e w1 ⟨hb, ⟨ok, rfl, hc⟩ | ⟨no, a, b, rfl⟩⟩
  · have HS := isums w.heap.size V.length V W w1 hc ok
    have OK := Lib.hid ok
    clear HC ok
    go_wp2_with fail
    refine HS.mono ?_
    rintro e w2 ⟨rfl, hr, hb2⟩
    have hb3 := hb.trans (hb2.mono hb.size)
    have hl := hr.lt
    have hs := hb.size
    go_wp2
    go_ret
    exact ⟨hb3, .inl ⟨OK.out, _, rfl, osL_ow hs hl hr⟩⟩
  · have NO := Lib.hid no
    clear HC no
    go_wp2
    exact ⟨rfl, hb, .inr ⟨NO.out, _, _, rfl⟩⟩
def adB (V W : List Int) : Bool := decide (os V W V.length 0 < os V W V.length 1)
set_option maxHeartbeats 1000000 in
theorem iadop (b cap : Nat) (V W : List Int) (w : World) (h : CsR w b V W) (ok : vwOk V W) :
    Calls Try.prog 60 #[.slice (some ⟨b, 0, none⟩) V.length cap] w fun e w' => e = .returned (.bool (adB V W)) ∧ Below w.heap.size w w' := by
  have HS := isums b cap V W w h ok
  unfold adB
  clear h ok
  go_enter Try.func60, Try.ntmps60
  go_wp2_with fail
  refine HS.mono ?_
  rintro e w1 ⟨rfl, hr, hb⟩
  have c0 : w1.cell? ⟨w.heap.size, 0, none⟩ = some (.int .i64 (os V W V.length 0)) := hr.cell (i := 0) (by omega)
  have c1 : w1.cell? ⟨w.heap.size, 1, none⟩ = some (.int .i64 (os V W V.length 1)) := hr.cell (i := 1) (by omega)
  obtain ⟨x, hx⟩ : ∃ x, os V W V.length 0 = x := ⟨_, rfl⟩
  obtain ⟨y, hy⟩ : ∃ y, os V W V.length 1 = y := ⟨_, rfl⟩
  rw [hx] at c0
  rw [hy] at c1
  have HX := Lib.hid hx
  have HY := Lib.hid hy
  clear hx hy
  clear hr HS
  go_wp2_with fail
  go_quiet (fail)
  go_wp2
  go_ret
  exact ⟨by rw [HX.out, HY.out]; rfl, below_drewN hb _⟩
set_option maxHeartbeats 1000000 in
theorem iab1 (v u : Value) (V W : List Int) (p q : Nat) (w : World) (h : RowV w v V) (hu : RowV w u W) (hV : V.length ≤ 1048576) (hW : W.length ≤ 1048576)
    (hp : w.cell? ⟨p, 0, none⟩ = some v) (hq : w.cell? ⟨q, 0, none⟩ = some u) :
    Calls Try.prog 59 #[.pointer (some ⟨p, 0, none⟩), .pointer (some ⟨q, 0, none⟩)] w fun e w' => Below w.heap.size w w' ∧ ((vwOk V W ∧ e = .returned (.bool (adB V W))) ∨ (¬ vwOk V W ∧ Panics e)) := by
  have HC := icasts v u V W w h hu hV hW
  clear h hu
  go_enter Try.func59, Try.ntmps59
  go_wp2_with fail
  refine HC.mono ?_
  rintro e w1 ⟨hb, ⟨ok, rfl, hc⟩ | ⟨no, a, b, rfl⟩⟩
  · have HS := iadop w.heap.size V.length V W w1 hc ok
    have OK := Lib.hid ok
    generalize hz : adB V W = z at HS ⊢
    clear HC ok
    go_wp2_with fail
    refine HS.mono ?_
    rintro e w2 ⟨rfl, hb2⟩
    have hb3 := hb.trans (hb2.mono hb.size)
    go_wp2
    go_ret
    exact ⟨hb3, .inl ⟨OK.out, by rw [hz]; rfl⟩⟩
  · have NO := Lib.hid no
    clear HC no
    go_wp2
    exact ⟨rfl, hb, .inr ⟨NO.out, _, _, rfl⟩⟩
noncomputable def mOpen (V W : List Int) : List Int × Bool := @ite _ (vwOk V W) (Classical.propDecidable _) (osL V W, true) ([], false)
theorem mOpen_yes {V W : List Int} (h : vwOk V W) : mOpen V W = (osL V W, true) := by unfold mOpen; rw [if_pos h]
theorem mOpen_no {V W : List Int} (h : ¬ vwOk V W) : mOpen V W = ([], false) := by unfold mOpen; rw [if_neg h]
noncomputable def mAdop (V W : List Int) : Bool × Bool := @ite _ (vwOk V W) (Classical.propDecidable _) (adB V W, true) (false, false)
theorem mAdop_yes {V W : List Int} (h : vwOk V W) : mAdop V W = (adB V W, true) := by unfold mAdop; rw [if_pos h]
theorem mAdop_no {V W : List Int} (h : ¬ vwOk V W) : mAdop V W = (false, false) := by unfold mAdop; rw [if_neg h]
set_option maxHeartbeats 1000000 in
theorem iOpen (V W : List Int) (w : World) (lo0 hi0 : Nat) (u0 : Value) (c0 : CpI w lo0 hi0 u0 V) (lo1 hi1 : Nat) (u1 : Value) (c1 : CpI w lo1 hi1 u1 W) :
    Calls Try.prog 28 #[u0, u1] w (QIb (mOpen V W) w) := by
  have h := c0.ow.rd.1
  have hu := c1.ow.rd.1
  have l0 := c0.2.2.2
  have l1 := c1.2.2.2
  clear c0 c1
  have b0 := ((Below.refl w.heap.size w).alloc (Nat.le_refl _) (.cells #[u0] 26)).alloc (by simp) (.cells #[u1] 26)
  have HC := ioc1 u0 u1 V W w.heap.size (w.heap.size + 1) ((w.alloc (.cells #[u0] 26)).alloc (.cells #[u1] 26)) (h.below b0) (hu.below b0) l0 l1 (by go_simp) (by go_simp)
  obtain ⟨a, cap, rfl⟩ := h.shape
  obtain ⟨a2, cap2, rfl⟩ := hu.shape
  clear h hu
  by_cases ok : vwOk V W
  · rw [mOpen_yes ok]
    have HV := att_yes_ints 54 (fun _ _ => rfl) #[.pointer (some ⟨w.heap.size, 0, none⟩), .pointer (some ⟨w.heap.size + 1, 0, none⟩)] _ (osL V W) (HC.mono fun e w' hp => by
      obtain ⟨hb, ⟨_, x, rfl, ho⟩ | ⟨no, _⟩⟩ := hp
      · exact ⟨⟨x, rfl, ho⟩, hb⟩
      · exact absurd ok no)
    generalize osL V W = z at HV ⊢
    clear HC ok
    go_enter Try.func28, Try.ntmps28
    go_wp2_with fail
    refine HV.mono ?_
    rintro e w1 ⟨⟨v, rfl, ho⟩, hb1⟩
    go_wp2
    go_ret2
    exact ⟨v, rfl, ho.mono b0.size (Nat.le_refl _), b0.trans (hb1.mono b0.size)⟩
  · rw [mOpen_no ok]
    have HV := att_no_ints 54 (fun _ _ => rfl) #[.pointer (some ⟨w.heap.size, 0, none⟩), .pointer (some ⟨w.heap.size + 1, 0, none⟩)] _ (HC.mono fun e w' hp => by
      obtain ⟨hb, ⟨y, _⟩ | ⟨_, hp⟩⟩ := hp
      · exact absurd y ok
      · exact ⟨hp, hb⟩)
    clear HC ok
    go_enter Try.func28, Try.ntmps28
    go_wp2_with fail
    refine HV.mono ?_
    rintro e w1 ⟨rfl, hb1⟩
    go_wp2
    go_ret2
    exact ⟨_, rfl, OwI.nil _ _ _, b0.trans (hb1.mono b0.size)⟩
def Pbb (m : Bool × Bool) (w : World) (e : Ending) (w' : World) : Prop := e = .returned (.tuple #[.bool m.1, .bool m.2]) ∧ Below w.heap.size w w'
theorem Pbb.out {n : Bool} {b : Bool} {w : World} {e : Ending} {w' : World} (h : Pbb (n, b) w e w') : e = .returned (.tuple #[.bool n, .bool b]) ∧ Below w.heap.size w w' := h
abbrev Qbb := Pbb
set_option maxHeartbeats 1000000 in
theorem iAdop (V W : List Int) (w : World) (lo0 hi0 : Nat) (u0 : Value) (c0 : CpI w lo0 hi0 u0 V) (lo1 hi1 : Nat) (u1 : Value) (c1 : CpI w lo1 hi1 u1 W) :
    Calls Try.prog 30 #[u0, u1] w (Pbb (mAdop V W) w) := by
  have h := c0.ow.rd.1
  have hu := c1.ow.rd.1
  have l0 := c0.2.2.2
  have l1 := c1.2.2.2
  clear c0 c1
  have b0 := ((Below.refl w.heap.size w).alloc (Nat.le_refl _) (.cells #[u0] 26)).alloc (by simp) (.cells #[u1] 26)
  have HC := iab1 u0 u1 V W w.heap.size (w.heap.size + 1) ((w.alloc (.cells #[u0] 26)).alloc (.cells #[u1] 26)) (h.below b0) (hu.below b0) l0 l1 (by go_simp) (by go_simp)
  obtain ⟨a, cap, rfl⟩ := h.shape
  obtain ⟨a2, cap2, rfl⟩ := hu.shape
  clear h hu
  by_cases ok : vwOk V W
  · rw [mAdop_yes ok]
    have HV := att_yes_bool 59 (fun _ _ => rfl) #[.pointer (some ⟨w.heap.size, 0, none⟩), .pointer (some ⟨w.heap.size + 1, 0, none⟩)] _ (adB V W) (HC.mono fun e w' hp => by
      obtain ⟨hb, ⟨_, he⟩ | ⟨no, _⟩⟩ := hp
      · exact ⟨he, hb⟩
      · exact absurd ok no)
    generalize adB V W = z at HV ⊢
    clear HC ok
    go_enter Try.func30, Try.ntmps30
    go_wp2_with fail
    refine HV.mono ?_
    rintro e w1 ⟨rfl, hb1⟩
    go_wp2
    go_ret2
    exact ⟨rfl, b0.trans (hb1.mono b0.size)⟩
  · rw [mAdop_no ok]
    have HV := att_no_bool 59 (fun _ _ => rfl) #[.pointer (some ⟨w.heap.size, 0, none⟩), .pointer (some ⟨w.heap.size + 1, 0, none⟩)] _ (HC.mono fun e w' hp => by
      obtain ⟨hb, ⟨y, _⟩ | ⟨_, hp⟩⟩ := hp
      · exact absurd y ok
      · exact ⟨hp, hb⟩)
    clear HC ok
    go_enter Try.func30, Try.ntmps30
    go_wp2_with fail
    refine HV.mono ?_
    rintro e w1 ⟨rfl, hb1⟩
    go_wp2
    go_ret2
    exact ⟨rfl, b0.trans (hb1.mono b0.size)⟩
end Go.Proofs.Ytgoocglcgkfgmaa
