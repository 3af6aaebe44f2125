/- Lists of voices that a call answers: read, compared, marked. -/
import Derived.Test.YtlpidgdlbannbaaK2v
import Derived.StillTailTactics
namespace Go.Proofs.Ytlpidgdlbannbaa
open Go.ChangeShapes Go.WideShapes Go.ChangeAt Go.RowKit Go.Deep
set_option linter.unusedSimpArgs false
set_option linter.unusedVariables false
theorem OwI.blockV {w w' : World} {lo hi : Nat} {v : Value} {t : List Int} (h : OwI w lo hi v t) (hb : ∀ c, v.ownBlock = some c → c < w.heap.size → w'.heap[c]? = w.heap[c]?) : OwI w' lo hi v t := by
  obtain ⟨h | ⟨c, cap, N, f, rfl, h1, h2, h3, h4, h5⟩, hl⟩ := h
  · exact ⟨.inl h, hl⟩
  · exact ⟨.inr ⟨c, cap, N, f, rfl, h1, h2, h3, h4.of_block (hb c rfl h4.lt), h5⟩, hl⟩
theorem OwI.inbV {w : World} {lo hi : Nat} {v : Value} {t : List Int} (h : OwI w lo hi v t) : InB v lo hi := h.rd.2.1
theorem MkI.blockV {w w' : World} {lo hi : Nat} {v : Value} {k r : Int} (h : MkI w lo hi v k r) (hb : ∀ c, v.ownBlock = some c → lo ≤ c → c < hi → c < w.heap.size → w'.heap[c]? = w.heap[c]?) : MkI w' lo hi v k r := by
  rcases h with h | ⟨c, n, cap, N, f, rfl, h1, h2, h3, h0, h4, h5, h6⟩
  · exact .inl h
  · exact .inr ⟨c, n, cap, N, f, rfl, h1, h2, h3, h0, h4.of_block (hb c rfl h1 h2 h4.lt), h5, h6⟩
theorem mark1V {v : Value} {t : List Int} {w : World} {lo hi : Nat} (k : Int) (h : OwI w lo hi v t) (h1 : 0 ≤ k) (h2 : k ≤ 4000000000000) :
    Calls Try.prog 25 #[v, .int .i64 k] w fun e w' => (∃ r, e = .returned (.int .i64 r) ∧ k ≤ r ∧ r ≤ k + 1048576 ∧ MkI w' lo hi v k r) ∧ Kept w w' (fun b => v.ownBlock = some b) := by
  obtain ⟨⟨rfl, rfl⟩ | ⟨c, cap, N, f, rfl, q1, q2, q3, q4, q5⟩, hl⟩ := h
  · exact (markI_nil none 0 k w).mono fun e w' ⟨he, hw⟩ => ⟨⟨k, he, by omega, by omega, .inl ⟨none, 0, rfl, rfl⟩⟩, hw ▸ Kept.refl _ _⟩
  · exact (markN c t.length cap N k w f q4 q3 hl h1 h2).mono fun e w' ⟨he, hr, hk⟩ => ⟨⟨_, he, by omega, by omega, .inr ⟨c, t.length, cap, N, _, rfl, q1, q2, q3, hl, hr, fun i hi => by simp [mkf, hi], rfl⟩⟩, hk.mono (fun b e => by subst e; rfl)⟩
theorem ListV.cons {w : World} {v : Value} {l : List Vc} (h : ListV w v l) (hl : l ≠ []) : ∃ x cap, v = .slice (some x) l.length cap ∧ x.block < w.heap.size ∧ ArgV w x l := by
  rcases h with ⟨_, h⟩ | h
  · exact absurd h hl
  · obtain ⟨x, cap, e, hx, hc⟩ := h
    exact ⟨x, cap, e, hx (List.length_pos_iff.2 hl), hc⟩
theorem ListV.shape {w : World} {v : Value} {L : List Vc} (h : ListV w v L) : ∃ a cap, v = .slice a L.length cap := by
  rcases h with ⟨rfl, rfl⟩ | ⟨x, cap, rfl, -, -⟩
  · exact ⟨none, 0, rfl⟩
  · exact ⟨_, cap, rfl⟩
set_option maxRecDepth 100000 in
theorem eqLV (v v' : Value) (L : List Vc) (w : World) (h : ListV w v L) (h' : ListV w v' L) (hf : Fits L) :
    Calls Try.prog 17 #[v, v'] w fun e w' => e = .returned (.bool true) ∧ Below w.heap.size w w' := by
  obtain ⟨hf1, hf2⟩ := hf
  by_cases e : L = []
  · subst e
    obtain ⟨a, cap, rfl⟩ := h.shape
    obtain ⟨a', cap', rfl⟩ := h'.shape
    clear h h'
    go_enter Try.func17, Try.ntmps17
    go_wp2
    go_loopg [5] 0 (fun g i wr => i = .int .i64 0 ∧ w = wr)
    case atStart => exact ⟨rfl, rfl⟩
    case round =>
      obtain ⟨rfl, rfl⟩ := hrel
      go_wp2
      go_ret
      exact ⟨rfl, Below.refl _ _⟩
  · obtain ⟨x, cap, rfl, hx, hc⟩ := h.cons e
    obtain ⟨x', cap', rfl, hx', hc'⟩ := h'.cons e
    clear h h'
    go_enter Try.func17, Try.ntmps17
    go_wp2
    go_loopg [5] L.length (fun g i wr => ∃ k : Nat, k ≤ L.length ∧ g = L.length - k ∧ i = .int .i64 k ∧ Below w.heap.size w wr)
    case atStart => exact ⟨0, Nat.zero_le _, rfl, rfl, Below.refl _ _⟩
    case round =>
      obtain ⟨k, hk, rfl, rfl, hb⟩ := hrel
      by_cases hlt : k < L.length
      · obtain ⟨u, a1, a2, a3⟩ := (hc.below (fun _ => hx) hb) k hlt
        obtain ⟨u', d1, d2, d3⟩ := (hc'.below (fun _ => hx') hb) k hlt
        have hlen := hf2 k hlt
        have bd : Below wr.heap.size wr wr.drew := (Below.refl _ _).drew
        generalize L.getD k (false, []) = q at a1 a3 d1 d3 hlen
        obtain ⟨s, l⟩ := q
        simp only at a1 a3 d1 d3 hlen
        have HE := eqV s _ _ l wr.drew (a3.below bd) (d3.below bd) (by omega)
        clear a3 d3 hlen hc hc'
        go_wp2_with fail
        go_still_tail 8, (by kernel_rfl)
        change wpList _ _ _ _ _ wr.drew
        go_wp2_with fail
        refine HE.mono ?_
        rintro e w1 ⟨rfl, hb1⟩
        go_wp2
        go_roundg (L.length - (k + 1))
        case measure => omega
        case rel => exact ⟨k + 1, by omega, rfl, by simp, hb.trans (bd.trans hb1 |>.mono hb.size)⟩
      · have e : k = L.length := by omega
        subst e
        go_wp2
        go_ret
        exact ⟨rfl, hb⟩
def RdV (w : World) (lo hi : Nat) (v : Value) (L : List Vc) : Prop :=
  ((v = .slice none 0 0 ∧ L = []) ∨ ∃ (b cap N : Nat) (f : Nat → Value), v = .slice (some ⟨b, 0, none⟩) L.length cap ∧ lo ≤ b ∧ b < hi ∧ L.length * 2 ≤ N ∧ w.rowIs b 64 N f ∧ ∀ i, i < L.length → f (i * 2) = .bool (L.getD i (false, [])).1 ∧ OwI w lo hi (f (i * 2 + 1)) (L.getD i (false, [])).2) ∧ Fits L
theorem RdV.at {w w' : World} {lo hi : Nat} {v : Value} {L : List Vc} (h : RdV w lo hi v L) (hb : ∀ c, lo ≤ c → c < hi → c < w.heap.size → w'.heap[c]? = w.heap[c]?) : RdV w' lo hi v L := by
  obtain ⟨h | ⟨b, cap, N, f, rfl, h1, h2, h3, h4, h5⟩, hf⟩ := h
  · exact ⟨.inl h, hf⟩
  · exact ⟨.inr ⟨b, cap, N, f, rfl, h1, h2, h3, h4.of_block (hb b h1 h2 h4.lt), fun i hi => ⟨(h5 i hi).1, (h5 i hi).2.blockV fun c e hc => hb c ((h5 i hi).2.inbV c e).1 ((h5 i hi).2.inbV c e).2 hc⟩⟩, hf⟩
theorem RdV.below {w w' : World} {lo hi : Nat} {v : Value} {L : List Vc} (h : RdV w lo hi v L) (hb : Below w.heap.size w w') : RdV w' lo hi v L := h.at fun c _ _ hc => hb.block c hc
theorem RdV.kept {w w' : World} {lo hi : Nat} {v : Value} {L : List Vc} {S : Nat → Prop} (h : RdV w lo hi v L) (hk : Kept w w' S) (hs : ∀ b, lo ≤ b → b < hi → ¬ S b) : RdV w' lo hi v L := h.at fun c h1 h2 hc => hk.block c hc (hs c h1 h2)
theorem RdV.mono {w : World} {lo hi lo' hi' : Nat} {v : Value} {L : List Vc} (h : RdV w lo hi v L) (e1 : lo' ≤ lo) (e2 : hi ≤ hi') : RdV w lo' hi' v L := by
  obtain ⟨h | ⟨b, cap, N, f, rfl, h1, h2, h3, h4, h5⟩, hf⟩ := h
  · exact ⟨.inl h, hf⟩
  · exact ⟨.inr ⟨b, cap, N, f, rfl, by omega, by omega, h3, h4, fun i hi => ⟨(h5 i hi).1, (h5 i hi).2.mono e1 e2⟩⟩, hf⟩
theorem Fits.nil : Fits [] := ⟨by simp, fun k hk => absurd hk (Nat.not_lt_zero _)⟩
theorem RdV.nil (w : World) (lo hi : Nat) : RdV w lo hi (.slice none 0 0) [] := ⟨.inl ⟨rfl, rfl⟩, Fits.nil⟩
theorem RdV.list {w : World} {lo hi : Nat} {v : Value} {L : List Vc} (h : RdV w lo hi v L) : ListV w v L := by
  obtain ⟨h | ⟨b, cap, N, f, rfl, h1, h2, h3, h4, h5⟩, hf⟩ := h
  · exact .inl h
  · refine .inr ⟨_, cap, rfl, fun _ => h4.lt, fun i hi => ⟨f (i * 2 + 1), ?_, ?_, (h5 i hi).2.rd.1⟩⟩
    · rw [Addr.add_lit, Nat.zero_add, h4.cell (i := i * 2) (by omega), (h5 i hi).1]
    · rw [Addr.add_lit, Nat.zero_add]
      show w.cell? ⟨b, i * 2 + 1, none⟩ = _
      rw [h4.cell (i := i * 2 + 1) (by omega)]
theorem eqRdV {v v' : Value} {L : List Vc} {w : World} {lo hi lo' hi' : Nat} (h : RdV w lo hi v L) (h' : RdV w lo' hi' v' L) :
    Calls Try.prog 17 #[v, v'] w fun e w' => e = .returned (.bool true) ∧ Below w.heap.size w w' := eqLV v v' L w h.list h'.list h.2
def OwV (w : World) (lo hi : Nat) (v : Value) (L : List Vc) : Prop :=
  ((v = .slice none 0 0 ∧ L = []) ∨ ∃ (b cap N : Nat) (f : Nat → Value), v = .slice (some ⟨b, 0, none⟩) L.length cap ∧ lo ≤ b ∧ b < hi ∧ L.length * 2 ≤ N ∧ w.rowIs b 64 N f ∧ (∀ i, i < L.length → f (i * 2) = .bool (L.getD i (false, [])).1 ∧ OwI w lo hi (f (i * 2 + 1)) (L.getD i (false, [])).2) ∧
    (∀ i, i < L.length → (f (i * 2 + 1)).ownBlock ≠ some b) ∧ ∀ i j c, i < j → j < L.length → (f (i * 2 + 1)).ownBlock = some c → (f (j * 2 + 1)).ownBlock ≠ some c) ∧ Fits L
theorem OwV.rd {w : World} {lo hi : Nat} {v : Value} {L : List Vc} (h : OwV w lo hi v L) : RdV w lo hi v L := by
  obtain ⟨h | ⟨b, cap, N, f, rfl, h1, h2, h3, h4, h5, _⟩, hf⟩ := h
  · exact ⟨.inl h, hf⟩
  · exact ⟨.inr ⟨b, cap, N, f, rfl, h1, h2, h3, h4, h5⟩, hf⟩
theorem OwV.at {w w' : World} {lo hi : Nat} {v : Value} {L : List Vc} (h : OwV w lo hi v L) (hb : ∀ c, lo ≤ c → c < hi → c < w.heap.size → w'.heap[c]? = w.heap[c]?) : OwV w' lo hi v L := by
  obtain ⟨h | ⟨b, cap, N, f, rfl, h1, h2, h3, h4, h5, h6⟩, hf⟩ := h
  · exact ⟨.inl h, hf⟩
  · exact ⟨.inr ⟨b, cap, N, f, rfl, h1, h2, h3, h4.of_block (hb b h1 h2 h4.lt), fun i hi => ⟨(h5 i hi).1, (h5 i hi).2.blockV fun c e hc => hb c ((h5 i hi).2.inbV c e).1 ((h5 i hi).2.inbV c e).2 hc⟩, h6⟩, hf⟩
theorem OwV.below {w w' : World} {lo hi : Nat} {v : Value} {L : List Vc} (h : OwV w lo hi v L) (hb : Below w.heap.size w w') : OwV w' lo hi v L := h.at fun c _ _ hc => hb.block c hc
theorem OwV.kept {w w' : World} {lo hi : Nat} {v : Value} {L : List Vc} {S : Nat → Prop} (h : OwV w lo hi v L) (hk : Kept w w' S) (hs : ∀ b, lo ≤ b → b < hi → ¬ S b) : OwV w' lo hi v L := h.at fun c h1 h2 hc => hk.block c hc (hs c h1 h2)
theorem OwV.nil (w : World) (lo hi : Nat) : OwV w lo hi (.slice none 0 0) [] := ⟨.inl ⟨rfl, rfl⟩, Fits.nil⟩
/-- The mark of a bool. -/
def mk3 (z : Int) : Bool := z % 3 == 0
/-- Marks from k to below r lie in the voices at v, one voice behind the other. -/
def MrV (w : World) (lo hi : Nat) (v : Value) (k r : Int) : Prop :=
  (∃ a cap, v = .slice a 0 cap ∧ r = k) ∨ ∃ (b n cap N : Nat) (f : Nat → Value) (K : Nat → Int), v = .slice (some ⟨b, 0, none⟩) n cap ∧ lo ≤ b ∧ b < hi ∧ n * 2 ≤ N ∧ n ≤ 1048576 ∧ w.rowIs b 64 N f ∧ (∀ i, i < n → f (i * 2) = .bool (mk3 (K i)) ∧ MkI w lo hi (f (i * 2 + 1)) (K i + 1) (K (i + 1)) ∧ K i + 1 ≤ K (i + 1) ∧ K (i + 1) ≤ K i + 2097152) ∧ K 0 = k ∧ r = K n
theorem MrV.at {w w' : World} {lo hi : Nat} {v : Value} {k r : Int} (h : MrV w lo hi v k r) (hb : ∀ c, lo ≤ c → c < hi → c < w.heap.size → w'.heap[c]? = w.heap[c]?) : MrV w' lo hi v k r := by
  rcases h with h | ⟨b, n, cap, N, f, K, rfl, h1, h2, h3, h0, h4, h5, h6⟩
  · exact .inl h
  · exact .inr ⟨b, n, cap, N, f, K, rfl, h1, h2, h3, h0, h4.of_block (hb b h1 h2 h4.lt), fun i hi => ⟨(h5 i hi).1, (h5 i hi).2.1.blockV fun c _ a1 a2 hc => hb c a1 a2 hc, (h5 i hi).2.2⟩, h6⟩
theorem MrV.below {w w' : World} {lo hi : Nat} {v : Value} {k r : Int} (h : MrV w lo hi v k r) (hb : Below w.heap.size w w') : MrV w' lo hi v k r := h.at fun c _ _ hc => hb.block c hc
theorem MrV.kept {w w' : World} {lo hi : Nat} {v : Value} {k r : Int} {S : Nat → Prop} (h : MrV w lo hi v k r) (hk : Kept w w' S) (hs : ∀ b, lo ≤ b → b < hi → ¬ S b) : MrV w' lo hi v k r := h.at fun c h1 h2 hc => hk.block c hc (hs c h1 h2)
/-- What holds when the first m voices are marked. -/
structure MkgV (w : World) (lo hi b n N : Nat) (f : Nat → Value) (L : List Vc) (k : Int) (m : Nat) (K : Nat → Int) : Prop where
  row : w.rowIs b 64 N f
  done : ∀ i, i < m → f (i * 2) = .bool (mk3 (K i)) ∧ MkI w lo hi (f (i * 2 + 1)) (K i + 1) (K (i + 1)) ∧ K i + 1 ≤ K (i + 1) ∧ K (i + 1) ≤ K i + 2097152
  open_ : ∀ i, m ≤ i → i < n → OwI w lo hi (f (i * 2 + 1)) (L.getD i (false, [])).2
  ne : ∀ i, i < n → (f (i * 2 + 1)).ownBlock ≠ some b
  inj : ∀ i j c, i < j → j < n → (f (i * 2 + 1)).ownBlock = some c → (f (j * 2 + 1)).ownBlock ≠ some c
  zero : K 0 = k
  bd : k ≤ K m ∧ K m ≤ k + 2097152 * m
theorem MkgV.step {w w' : World} {lo hi b n N : Nat} {f : Nat → Value} {L : List Vc} {k : Int} {m : Nat} {K : Nat → Int} (h : MkgV w lo hi b n N f L k m K) (hm : m < n)
    {z r : Int} (hz : z = K m) (h1 : z + 1 ≤ r) (h2 : r ≤ z + 2097152) (hr : MkI w' lo hi (f (m * 2 + 1)) (z + 1) r) (hk : Kept (w.setCell ⟨b, m * 2, none⟩ (.bool (mk3 z))) w' (fun c => (f (m * 2 + 1)).ownBlock = some c)) :
    ∃ K', MkgV w' lo hi b n N (fun j => if j = m * 2 then .bool (mk3 z) else f j) L k (m + 1) K' ∧ K' (m + 1) = r := by
  subst hz
  have hodd : ∀ i, (if i * 2 + 1 = m * 2 then Value.bool (mk3 (K m)) else f (i * 2 + 1)) = f (i * 2 + 1) := fun i => if_neg (by omega)
  have hkb : ∀ c, c < w.heap.size → c ≠ b → (f (m * 2 + 1)).ownBlock ≠ some c → w'.heap[c]? = w.heap[c]? := fun c hc hne hn =>
    (hk.block c (by simp [World.setCell]; exact hc) hn).trans (blk_setCell_other _ _ _ _ (fun e => hne e))
  refine ⟨fun i => if i ≤ m then K i else r, ⟨?_, fun i hi => ?_, fun i hi hn => ?_, fun i hi => ?_, fun i j c hij hj => ?_, by simpa using h.zero, ?_⟩, by simp only [if_neg (show ¬ m + 1 ≤ m by omega)]⟩
  · exact hk.row ((h.row.set (m * 2) _).congr fun j _ => rfl) (fun e => h.ne m hm e)
  · simp only [hodd]
    by_cases e : i = m
    · subst e
      simp only [Nat.le_refl, if_true, if_neg (show ¬ i + 1 ≤ i by omega)]
      exact ⟨trivial, hr, h1, h2⟩
    · have hi' : i < m := by omega
      simp only [if_pos (show i ≤ m by omega), if_pos (show i + 1 ≤ m by omega), if_neg (show ¬ i * 2 = m * 2 by omega)]
      obtain ⟨a, b', c'⟩ := h.done i hi'
      exact ⟨a, b'.blockV fun c e1 _ _ hc => hkb c hc (fun q => h.ne i (by omega) (q ▸ e1)) (fun e2 => h.inj i m c hi' hm e1 e2), c'⟩
  · simp only [hodd]
    exact (h.open_ i (by omega) hn).blockV fun c e1 hc => hkb c hc (fun q => h.ne i hn (q ▸ e1)) (fun e2 => h.inj m i c (by omega) hn e2 e1)
  · simp only [hodd]; exact h.ne i hi
  · simp only [hodd]; exact h.inj i j c hij hj
  · have := h.bd
    simp only [if_neg (show ¬ m + 1 ≤ m by omega)]
    constructor <;> omega
set_option maxHeartbeats 1000000 in
set_option maxRecDepth 100000 in
theorem markOwV {v : Value} {L : List Vc} {w : World} {lo hi : Nat} (k : Int) (h : OwV w lo hi v L) (h1 : 0 ≤ k) (h2 : k ≤ 400000000000) :
    Calls Try.prog 24 #[v, .int .i64 k] w fun e w' => (∃ r, e = .returned (.int .i64 r) ∧ k ≤ r ∧ r ≤ k + 3000000000000 ∧ MrV w' lo hi v k r) ∧ Kept w w' (fun b => lo ≤ b ∧ b < hi) := by
  obtain ⟨⟨rfl, rfl⟩ | ⟨b, cap, N, f, rfl, q1, q2, q3, q4, q5, q6, q7⟩, hf1, hf2⟩ := h
  · go_enter Try.func24, Try.ntmps24
    go_wp2
    go_loopg [1, 5] 0 (fun g kk i wr => kk = .int .i64 k ∧ i = .int .i64 0 ∧ w = wr)
    case atStart => exact ⟨rfl, rfl, rfl⟩
    case round =>
      obtain ⟨rfl, rfl, rfl⟩ := hrel
      go_wp2
      go_ret
      exact ⟨⟨k, rfl, by omega, by omega, .inl ⟨none, 0, rfl, rfl⟩⟩, Kept.refl _ _⟩
  · have hM : MkgV w lo hi b L.length N f L k 0 (fun _ => k) := ⟨q4, fun i hi => absurd hi (Nat.not_lt_zero _), fun i _ hi => (q5 i hi).2, q6, q7, rfl, by omega⟩
    clear q4 q5 q6 q7 hf2
    go_enter Try.func24, Try.ntmps24
    go_wp2
    go_loopg [1, 5] L.length (fun g kk i wr => ∃ (m : Nat) (K : Nat → Int) (z : Int) (f : Nat → Value), m ≤ L.length ∧ g = L.length - m ∧ kk = .int .i64 z ∧ i = .int .i64 m ∧ k ≤ z ∧ z ≤ k + 2097152 * m ∧ Hid (z = K m) ∧ MkgV wr lo hi b L.length N f L k m K ∧ Kept w wr (fun x => lo ≤ x ∧ x < hi))
    case atStart => exact ⟨0, fun _ => k, k, f, Nat.zero_le _, rfl, rfl, rfl, by omega, by omega, rfl, hM, Kept.refl _ _⟩
    case round =>
      clear hM
      obtain ⟨m, K, z, f, hm, rfl, rfl, rfl, z1, z2, HZ, hM, hk⟩ := hrel
      by_cases hlt : m < L.length
      · have c1 : wr.cell? ⟨b, m * 2, none⟩ = some (f (m * 2)) := hM.row.cell (by omega)
        have c2 : wr.cell? ⟨b, m * 2 + 1, none⟩ = some (f (m * 2 + 1)) := hM.row.cell (by omega)
        have f1 : wr.frozen? ⟨b, m * 2, none⟩ = false := hM.row.frozen _
        have hop := hM.open_ m (Nat.le_refl _) hlt
        have HIB := Lib.hid hop.inbV
        have hne := hM.ne m hlt
        have hop2 : OwI (wr.setCell ⟨b, m * 2, none⟩ (.bool (mk3 z))) lo hi (f (m * 2 + 1)) (L.getD m (false, [])).2 := hop.blockV fun c e _ => blk_setCell_other _ _ _ _ (fun q => hne (by rw [e]; exact congrArg some q))
        have HS := mark1V (z + 1) hop2 (by omega) (by omega)
        obtain ⟨fm, hfm⟩ : ∃ x, f (m * 2 + 1) = x := ⟨_, rfl⟩
        rw [hfm] at c2 HS
        have HFM := Lib.hid hfm
        have HM := Lib.hid hM
        have wk1 : IntKind.i64.wrap (z + 1) = z + 1 := by rw [IntKind.wrap_i64]; omega
        have hz0 : 0 ≤ z := by omega
        obtain ⟨f0, hf0⟩ : ∃ x, f (m * 2) = x := ⟨_, rfl⟩
        rw [hf0] at c1
        unfold mk3 at HS
        clear hfm hf0 hop hop2 hne hM
        go_wp2_with fail
        refine HS.mono ?_
        rintro e w1 ⟨⟨r, rfl, r1, r2, hr⟩, hk1⟩
        obtain ⟨K', hM', HK'⟩ := HM.out.step hlt HZ.out (r := r) (by omega) (by omega) (by rw [HFM.out]; exact hr) (by rw [HFM.out]; exact hk1)
        have HKR := Lib.hid HK'
        have hk2 := (hk.trans (Kept.set _ ⟨b, m * 2, none⟩ _ ⟨q1, q2⟩)).trans (hk1.mono (fun x e => HIB.out x (by rw [HFM.out]; exact e)))
        clear HK' hr hk1
        go_wp2
        go_roundg (L.length - (m + 1))
        case measure => omega
        case rel => exact ⟨m + 1, K', r, _, by omega, rfl, rfl, by simp, by omega, by omega, HKR.out.symm, hM', hk2⟩
      · have e : m = L.length := by omega
        subst e
        go_wp2
        go_ret
        exact ⟨⟨z, rfl, z1, by omega, .inr ⟨b, L.length, cap, N, f, K, rfl, q1, q2, q3, hf1, hM.row, hM.done, hM.zero, HZ.out⟩⟩, hk⟩
theorem monoKV {n : Nat} {K : Nat → Int} (h : ∀ i, i < n → K i + 1 ≤ K (i + 1) ∧ K (i + 1) ≤ K i + 2097152) (m : Nat) (hm : m ≤ n) : K 0 ≤ K m ∧ K m ≤ K 0 + 2097152 * m := by
  induction m with
  | zero => simp
  | succ m ih =>
    have a := ih (by omega)
    have b := h m (by omega)
    omega
set_option maxHeartbeats 1000000 in
set_option maxRecDepth 100000 in
theorem heldMkV {v : Value} {w : World} {lo hi : Nat} {k r : Int} (h : MrV w lo hi v k r) (h1 : 0 ≤ k) (h2 : k ≤ 400000000000) :
    Calls Try.prog 38 #[v, .int .i64 k] w fun e w' => e = .returned (.int .i64 r) ∧ w = w' := by
  rcases h with ⟨a, cap, rfl, rfl⟩ | ⟨b, n, cap, N, f, K, rfl, q1, q2, q3, q0, q4, q5, rfl, rfl⟩
  · go_enter Try.func38, Try.ntmps38
    go_wp2
    go_loopg [1, 5] 0 (fun g kk i wr => kk = .int .i64 r ∧ i = .int .i64 0 ∧ w = wr)
    case atStart => exact ⟨rfl, rfl, rfl⟩
    case round =>
      obtain ⟨rfl, rfl, rfl⟩ := hrel
      go_wp2
      go_ret
      exact ⟨rfl, rfl⟩
  · have HB := Lib.hid (fun i hi => (q5 i hi).2.2)
    have HM := Lib.hid (fun i hi => (q5 i hi).2.1)
    have HE := Lib.hid (fun i hi => (q5 i hi).1)
    clear q5
    go_enter Try.func38, Try.ntmps38
    go_wp2
    go_loopg [1, 5] n (fun g kk i wr => ∃ (m : Nat) (z : Int), m ≤ n ∧ g = n - m ∧ kk = .int .i64 z ∧ i = .int .i64 m ∧ Hid (z = K m) ∧ w = wr)
    case atStart => exact ⟨0, _, Nat.zero_le _, rfl, rfl, rfl, rfl, rfl⟩
    case round =>
      obtain ⟨m, z, hm, rfl, rfl, rfl, HZ, rfl⟩ := hrel
      obtain ⟨z1, z2⟩ := monoKV HB.out m hm
      rw [← HZ.out] at z1 z2
      by_cases hlt : m < n
      · have c1 : w.cell? ⟨b, m * 2, none⟩ = some (f (m * 2)) := q4.cell (by omega)
        rw [HE.out m hlt, ← HZ.out] at c1
        have c2 : w.cell? ⟨b, m * 2 + 1, none⟩ = some (f (m * 2 + 1)) := q4.cell (by omega)
        have HS := heldMkI (HM.out m hlt) (by have := HZ.out; omega) (by have := HZ.out; omega)
        rw [← HZ.out] at HS
        obtain ⟨z3, z4⟩ := monoKV HB.out (m + 1) (by omega)
        obtain ⟨fm, hfm⟩ : ∃ x, f (m * 2 + 1) = x := ⟨_, rfl⟩
        obtain ⟨z', hz'⟩ : ∃ x, K (m + 1) = x := ⟨_, rfl⟩
        rw [hfm] at c2 HS
        rw [hz'] at HS z3 z4
        have HZ' := Lib.hid hz'
        have hnn : ¬ z' < 0 := by omega
        have wk1 : IntKind.i64.wrap (z + 1) = z + 1 := by rw [IntKind.wrap_i64]; omega
        have hz0 : 0 ≤ z := by omega
        unfold mk3 at c1
        clear hfm hz'
        obtain ⟨bz, hbz⟩ : ∃ x, (z % 3 == 0) = x := ⟨_, rfl⟩
        rw [hbz] at c1
        go_wp2_with fail
        refine HS.mono ?_
        rintro e w1 ⟨rfl, rfl⟩
        go_wp2
        go_roundg (n - (m + 1))
        case measure => omega
        case rel => exact ⟨m + 1, z', by omega, rfl, rfl, by simp, HZ'.out.symm, rfl⟩
      · have e : m = n := by omega
        subst e
        go_wp2
        go_ret
        exact ⟨by rw [HZ.out]; rfl, rfl⟩
def PVb (m : List Vc × Bool) (w : World) (e : Ending) (w' : World) : Prop := ∃ v, e = .returned (.tuple #[v, .bool m.2]) ∧ RdV w' w.heap.size w'.heap.size v m.1 ∧ Below w.heap.size w w'
theorem PVb.out {l : List Vc} {z : Bool} {w w' : World} {e : Ending} (h : PVb (l, z) w e w') : ∃ v, e = .returned (.tuple #[v, .bool z]) ∧ RdV w' w.heap.size w'.heap.size v l ∧ Below w.heap.size w w' := h
def QVb (m : List Vc × Bool) (w : World) (e : Ending) (w' : World) : Prop := ∃ v, e = .returned (.tuple #[v, .bool m.2]) ∧ OwV w' w.heap.size w'.heap.size v m.1 ∧ Below w.heap.size w w'
theorem QVb.out {l : List Vc} {z : Bool} {w w' : World} {e : Ending} (h : QVb (l, z) w e w') : ∃ v, e = .returned (.tuple #[v, .bool z]) ∧ OwV w' w.heap.size w'.heap.size v l ∧ Below w.heap.size w w' := h
end Go.Proofs.Ytlpidgdlbannbaa
