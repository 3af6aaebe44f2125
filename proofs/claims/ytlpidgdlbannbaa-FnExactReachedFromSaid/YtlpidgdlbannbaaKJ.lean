/- Lists of lists of numbers that a call answers: read, compared, marked, built by append. -/
import Derived.Test.YtlpidgdlbannbaaK2v
import Derived.Laws.OwnMore
namespace Go.Proofs.Ytlpidgdlbannbaa
open Go.ChangeShapes Go.WideShapes Go.ChangeAt Go.RowKit Go.Deep
set_option linter.unusedSimpArgs false
set_option linter.unusedVariables false
set_option maxRecDepth 100000 in
theorem infoIS : (Try.prog.info? 29).map (fun i => (i.zero, i.size, i.bytes)) = some (some (.slice none 0 0), 1, 24) := by kernel_rfl
theorem OwI.block {w w' : World} {lo hi : Nat} {v : Value} {t : List Int} (h : OwI w lo hi v t) (hb : ∀ c, v.ownBlock = some c → c < w.heap.size → w'.heap[c]? = w.heap[c]?) : OwI w' lo hi v t := by
  obtain ⟨h | ⟨c, cap, N, f, rfl, h1, h2, h3, h4, h5⟩, hl⟩ := h
  · exact ⟨.inl h, hl⟩
  · exact ⟨.inr ⟨c, cap, N, f, rfl, h1, h2, h3, h4.of_block (hb c rfl h4.lt), h5⟩, hl⟩
theorem OwI.inb {w : World} {lo hi : Nat} {v : Value} {t : List Int} (h : OwI w lo hi v t) : InB v lo hi := h.rd.2.1
theorem OwI.shape {w : World} {lo hi : Nat} {v : Value} {t : List Int} (h : OwI w lo hi v t) : ∃ a cap, v = .slice a t.length cap := h.rd.1.shape
theorem MkI.block {w w' : World} {lo hi : Nat} {v : Value} {k r : Int} (h : MkI w lo hi v k r) (hb : ∀ c, v.ownBlock = some c → lo ≤ c → c < hi → c < w.heap.size → w'.heap[c]? = w.heap[c]?) : MkI w' lo hi v k r := by
  rcases h with h | ⟨c, n, cap, N, f, rfl, h1, h2, h3, h0, h4, h5, h6⟩
  · exact .inl h
  · exact .inr ⟨c, n, cap, N, f, rfl, h1, h2, h3, h0, h4.of_block (hb c rfl h1 h2 h4.lt), h5, h6⟩
theorem mark1I {v : Value} {t : List Int} {w : World} {lo hi : Nat} (k : Int) (h : OwI w lo hi v t) (h1 : 0 ≤ k) (h2 : k ≤ 4000000000000) :
    Calls Try.prog 25 #[v, .int .i64 k] w fun e w' => (∃ r, e = .returned (.int .i64 r) ∧ k ≤ r ∧ r ≤ k + 1048576 ∧ MkI w' lo hi v k r) ∧ Kept w w' (fun b => v.ownBlock = some b) := by
  obtain ⟨⟨rfl, rfl⟩ | ⟨c, cap, N, f, rfl, q1, q2, q3, q4, q5⟩, hl⟩ := h
  · exact (markI_nil none 0 k w).mono fun e w' ⟨he, hw⟩ => ⟨⟨k, he, by omega, by omega, .inl ⟨none, 0, rfl, rfl⟩⟩, hw ▸ Kept.refl _ _⟩
  · exact (markN c t.length cap N k w f q4 q3 hl h1 h2).mono fun e w' ⟨he, hr, hk⟩ => ⟨⟨_, he, by omega, by omega, .inr ⟨c, t.length, cap, N, _, rfl, q1, q2, q3, hl, hr, fun i hi => by simp [mkf, hi], rfl⟩⟩, hk.mono (fun b e => by subst e; rfl)⟩
/-- The lists that lie at x, one cell each. -/
def ArgJ (w : World) (x : Addr) (L : List (List Int)) : Prop := ∀ k, k < L.length → ∃ v, w.cell? (x.add k) = some v ∧ RowV w v (L.getD k [])
theorem ArgJ.below {w w' : World} {x : Addr} {L : List (List Int)} (h : ArgJ w x L) (hx : 0 < L.length → x.block < w.heap.size) (hb : Below w.heap.size w w') : ArgJ w' x L := fun k hk => by
  have hx := hx (by omega)
  obtain ⟨v, h1, h2⟩ := h k hk
  exact ⟨v, (hb.cell (by rw [block_add]; exact hx)).trans h1, h2.below hb⟩
def ListJ (w : World) (v : Value) (L : List (List Int)) : Prop := (v = .slice none 0 0 ∧ L = []) ∨ ∃ (x : Addr) (cap : Nat), v = .slice (some x) L.length cap ∧ (0 < L.length → x.block < w.heap.size) ∧ ArgJ w x L
theorem ListJ.cons {w : World} {v : Value} {l : List (List Int)} (h : ListJ w v l) (hl : l ≠ []) : ∃ x cap, v = .slice (some x) l.length cap ∧ x.block < w.heap.size ∧ ArgJ w x l := by
  rcases h with ⟨_, h⟩ | h
  · exact absurd h hl
  · obtain ⟨x, cap, e, hx, hc⟩ := h
    exact ⟨x, cap, e, hx (List.length_pos_iff.2 hl), hc⟩
theorem ListJ.shape {w : World} {v : Value} {L : List (List Int)} (h : ListJ w v L) : ∃ a cap, v = .slice a L.length cap := by
  rcases h with ⟨rfl, rfl⟩ | ⟨x, cap, rfl, -, -⟩
  · exact ⟨none, 0, rfl⟩
  · exact ⟨_, cap, rfl⟩
def FitsJ (L : List (List Int)) : Prop := L.length ≤ 1048576 ∧ ∀ k, k < L.length → (L.getD k []).length ≤ 1048576
theorem FitsJ.nil : FitsJ [] := ⟨by simp, fun k hk => absurd hk (Nat.not_lt_zero _)⟩
set_option maxRecDepth 100000 in
theorem eqJ (v v' : Value) (L : List (List Int)) (w : World) (h : ListJ w v L) (h' : ListJ w v' L) (hf : FitsJ L) :
    Calls Try.prog 31 #[v, v'] w fun e w' => e = .returned (.bool true) ∧ Below w.heap.size w w' := by
  obtain ⟨hf1, hf2⟩ := hf
  by_cases e : L = []
  · subst e
    obtain ⟨a, cap, rfl⟩ := h.shape
    obtain ⟨a', cap', rfl⟩ := h'.shape
    clear h h'
    go_enter Try.func31, Try.ntmps31
    go_wp2
    go_loopg [5] 0 (fun g i wr => i = .int .i64 0 ∧ w = wr)
    case atStart => exact ⟨rfl, rfl⟩
    case round =>
      obtain ⟨rfl, rfl⟩ := hrel
      go_wp2
      go_ret
      exact ⟨rfl, Below.refl _ _⟩
  · obtain ⟨x, cap, rfl, hx, hc⟩ := h.cons e
    obtain ⟨x', cap', rfl, hx', hc'⟩ := h'.cons e
    clear h h'
    go_enter Try.func31, Try.ntmps31
    go_wp2
    go_loopg [5] L.length (fun g i wr => ∃ k : Nat, k ≤ L.length ∧ g = L.length - k ∧ i = .int .i64 k ∧ Below w.heap.size w wr)
    case atStart => exact ⟨0, Nat.zero_le _, rfl, rfl, Below.refl _ _⟩
    case round =>
      obtain ⟨k, hk, rfl, rfl, hb⟩ := hrel
      by_cases hlt : k < L.length
      · obtain ⟨u, a1, a3⟩ := (hc.below (fun _ => hx) hb) k hlt
        obtain ⟨u', d1, d3⟩ := (hc'.below (fun _ => hx') hb) k hlt
        have hlen := hf2 k hlt
        have bd : Below wr.heap.size wr wr.drew := (Below.refl _ _).drew
        generalize L.getD k [] = q at a3 d3 hlen
        have HE := eqI _ _ q wr.drew (a3.below bd) (d3.below bd) (by omega)
        clear a3 d3 hlen hc hc'
        go_wp2_with fail
        go_still_tail 8, (by kernel_rfl)
        change wpList _ _ _ _ _ wr.drew
        go_wp2_with fail
        refine HE.mono ?_
        rintro e w1 ⟨rfl, hb1⟩
        go_wp2
        go_roundg (L.length - (k + 1))
        case measure => omega
        case rel => exact ⟨k + 1, by omega, rfl, by simp, hb.trans (bd.trans hb1 |>.mono hb.size)⟩
      · have e : k = L.length := by omega
        subst e
        go_wp2
        go_ret
        exact ⟨rfl, hb⟩
def RdJ (w : World) (lo hi : Nat) (v : Value) (L : List (List Int)) : Prop :=
  ((v = .slice none 0 0 ∧ L = []) ∨ ∃ (b cap N : Nat) (f : Nat → Value), v = .slice (some ⟨b, 0, none⟩) L.length cap ∧ lo ≤ b ∧ b < hi ∧ L.length ≤ N ∧ w.rowIs b 29 N f ∧ ∀ i, i < L.length → OwI w lo hi (f i) (L.getD i [])) ∧ FitsJ L
theorem RdJ.at {w w' : World} {lo hi : Nat} {v : Value} {L : List (List Int)} (h : RdJ w lo hi v L) (hb : ∀ c, lo ≤ c → c < hi → c < w.heap.size → w'.heap[c]? = w.heap[c]?) : RdJ w' lo hi v L := by
  obtain ⟨h | ⟨b, cap, N, f, rfl, h1, h2, h3, h4, h5⟩, hf⟩ := h
  · exact ⟨.inl h, hf⟩
  · exact ⟨.inr ⟨b, cap, N, f, rfl, h1, h2, h3, h4.of_block (hb b h1 h2 h4.lt), fun i hi => (h5 i hi).block fun c e hc => hb c ((h5 i hi).inb c e).1 ((h5 i hi).inb c e).2 hc⟩, hf⟩
theorem RdJ.below {w w' : World} {lo hi : Nat} {v : Value} {L : List (List Int)} (h : RdJ w lo hi v L) (hb : Below w.heap.size w w') : RdJ w' lo hi v L := h.at fun c _ _ hc => hb.block c hc
theorem RdJ.kept {w w' : World} {lo hi : Nat} {v : Value} {L : List (List Int)} {S : Nat → Prop} (h : RdJ w lo hi v L) (hk : Kept w w' S) (hs : ∀ b, lo ≤ b → b < hi → ¬ S b) : RdJ w' lo hi v L := h.at fun c h1 h2 hc => hk.block c hc (hs c h1 h2)
theorem RdJ.mono {w : World} {lo hi lo' hi' : Nat} {v : Value} {L : List (List Int)} (h : RdJ w lo hi v L) (e1 : lo' ≤ lo) (e2 : hi ≤ hi') : RdJ w lo' hi' v L := by
  obtain ⟨h | ⟨b, cap, N, f, rfl, h1, h2, h3, h4, h5⟩, hf⟩ := h
  · exact ⟨.inl h, hf⟩
  · exact ⟨.inr ⟨b, cap, N, f, rfl, by omega, by omega, h3, h4, fun i hi => (h5 i hi).mono e1 e2⟩, hf⟩
theorem RdJ.nil (w : World) (lo hi : Nat) : RdJ w lo hi (.slice none 0 0) [] := ⟨.inl ⟨rfl, rfl⟩, FitsJ.nil⟩
theorem RdJ.list {w : World} {lo hi : Nat} {v : Value} {L : List (List Int)} (h : RdJ w lo hi v L) : ListJ w v L := by
  obtain ⟨h | ⟨b, cap, N, f, rfl, h1, h2, h3, h4, h5⟩, hf⟩ := h
  · exact .inl h
  · refine .inr ⟨_, cap, rfl, fun _ => h4.lt, fun i hi => ⟨f i, ?_, (h5 i hi).rd.1⟩⟩
    rw [Addr.add_lit, Nat.zero_add, h4.cell (i := i) (by omega)]
theorem eqRdJ {v v' : Value} {L : List (List Int)} {w : World} {lo hi lo' hi' : Nat} (h : RdJ w lo hi v L) (h' : RdJ w lo' hi' v' L) :
    Calls Try.prog 31 #[v, v'] w fun e w' => e = .returned (.bool true) ∧ Below w.heap.size w w' := eqJ v v' L w h.list h'.list h.2
def OwJ (w : World) (lo hi : Nat) (v : Value) (L : List (List Int)) : Prop :=
  ((v = .slice none 0 0 ∧ L = []) ∨ ∃ (b cap N : Nat) (f : Nat → Value), v = .slice (some ⟨b, 0, none⟩) L.length cap ∧ lo ≤ b ∧ b < hi ∧ L.length ≤ N ∧ w.rowIs b 29 N f ∧ (∀ i, i < L.length → OwI w lo hi (f i) (L.getD i [])) ∧
    (∀ i, i < L.length → (f i).ownBlock ≠ some b) ∧ ∀ i j c, i < j → j < L.length → (f i).ownBlock = some c → (f j).ownBlock ≠ some c) ∧ FitsJ L
theorem OwJ.rd {w : World} {lo hi : Nat} {v : Value} {L : List (List Int)} (h : OwJ w lo hi v L) : RdJ w lo hi v L := by
  obtain ⟨h | ⟨b, cap, N, f, rfl, h1, h2, h3, h4, h5, _⟩, hf⟩ := h
  · exact ⟨.inl h, hf⟩
  · exact ⟨.inr ⟨b, cap, N, f, rfl, h1, h2, h3, h4, h5⟩, hf⟩
theorem OwJ.at {w w' : World} {lo hi : Nat} {v : Value} {L : List (List Int)} (h : OwJ w lo hi v L) (hb : ∀ c, lo ≤ c → c < hi → c < w.heap.size → w'.heap[c]? = w.heap[c]?) : OwJ w' lo hi v L := by
  obtain ⟨h | ⟨b, cap, N, f, rfl, h1, h2, h3, h4, h5, h6⟩, hf⟩ := h
  · exact ⟨.inl h, hf⟩
  · exact ⟨.inr ⟨b, cap, N, f, rfl, h1, h2, h3, h4.of_block (hb b h1 h2 h4.lt), fun i hi => (h5 i hi).block fun c e hc => hb c ((h5 i hi).inb c e).1 ((h5 i hi).inb c e).2 hc, h6⟩, hf⟩
theorem OwJ.below {w w' : World} {lo hi : Nat} {v : Value} {L : List (List Int)} (h : OwJ w lo hi v L) (hb : Below w.heap.size w w') : OwJ w' lo hi v L := h.at fun c _ _ hc => hb.block c hc
theorem OwJ.kept {w w' : World} {lo hi : Nat} {v : Value} {L : List (List Int)} {S : Nat → Prop} (h : OwJ w lo hi v L) (hk : Kept w w' S) (hs : ∀ b, lo ≤ b → b < hi → ¬ S b) : OwJ w' lo hi v L := h.at fun c h1 h2 hc => hk.block c hc (hs c h1 h2)
theorem OwJ.mono {w : World} {lo hi lo' hi' : Nat} {v : Value} {L : List (List Int)} (h : OwJ w lo hi v L) (e1 : lo' ≤ lo) (e2 : hi ≤ hi') : OwJ w lo' hi' v L := by
  obtain ⟨h | ⟨b, cap, N, f, rfl, h1, h2, h3, h4, h5, h6⟩, hf⟩ := h
  · exact ⟨.inl h, hf⟩
  · exact ⟨.inr ⟨b, cap, N, f, rfl, by omega, by omega, h3, h4, fun i hi => (h5 i hi).mono e1 e2, h6⟩, hf⟩
theorem OwJ.nil (w : World) (lo hi : Nat) : OwJ w lo hi (.slice none 0 0) [] := ⟨.inl ⟨rfl, rfl⟩, FitsJ.nil⟩
/-- Marks from k to below r lie in the lists at v, one list behind the other. -/
def MrJ (w : World) (lo hi : Nat) (v : Value) (k r : Int) : Prop :=
  (∃ a cap, v = .slice a 0 cap ∧ r = k) ∨ ∃ (b n cap N : Nat) (f : Nat → Value) (K : Nat → Int), v = .slice (some ⟨b, 0, none⟩) n cap ∧ lo ≤ b ∧ b < hi ∧ n ≤ N ∧ n ≤ 1048576 ∧ w.rowIs b 29 N f ∧ (∀ i, i < n → MkI w lo hi (f i) (K i) (K (i + 1)) ∧ K i ≤ K (i + 1) ∧ K (i + 1) ≤ K i + 2097152) ∧ K 0 = k ∧ r = K n
theorem MrJ.at {w w' : World} {lo hi : Nat} {v : Value} {k r : Int} (h : MrJ w lo hi v k r) (hb : ∀ c, lo ≤ c → c < hi → c < w.heap.size → w'.heap[c]? = w.heap[c]?) : MrJ w' lo hi v k r := by
  rcases h with h | ⟨b, n, cap, N, f, K, rfl, h1, h2, h3, h0, h4, h5, h6⟩
  · exact .inl h
  · exact .inr ⟨b, n, cap, N, f, K, rfl, h1, h2, h3, h0, h4.of_block (hb b h1 h2 h4.lt), fun i hi => ⟨(h5 i hi).1.block fun c _ a1 a2 hc => hb c a1 a2 hc, (h5 i hi).2⟩, h6⟩
theorem MrJ.below {w w' : World} {lo hi : Nat} {v : Value} {k r : Int} (h : MrJ w lo hi v k r) (hb : Below w.heap.size w w') : MrJ w' lo hi v k r := h.at fun c _ _ hc => hb.block c hc
theorem MrJ.kept {w w' : World} {lo hi : Nat} {v : Value} {k r : Int} {S : Nat → Prop} (h : MrJ w lo hi v k r) (hk : Kept w w' S) (hs : ∀ b, lo ≤ b → b < hi → ¬ S b) : MrJ w' lo hi v k r := h.at fun c h1 h2 hc => hk.block c hc (hs c h1 h2)
/-- What holds when the first m lists are marked. -/
structure MkgJ (w : World) (lo hi b n N : Nat) (f : Nat → Value) (L : List (List Int)) (k : Int) (m : Nat) (K : Nat → Int) : Prop where
  row : w.rowIs b 29 N f
  done : ∀ i, i < m → MkI w lo hi (f i) (K i) (K (i + 1)) ∧ K i ≤ K (i + 1) ∧ K (i + 1) ≤ K i + 2097152
  open_ : ∀ i, m ≤ i → i < n → OwI w lo hi (f i) (L.getD i [])
  zero : K 0 = k
  bd : k ≤ K m ∧ K m ≤ k + 2097152 * m
theorem MkgJ.step {w w' : World} {lo hi b n N : Nat} {f : Nat → Value} {L : List (List Int)} {k : Int} {m : Nat} {K : Nat → Int} (h : MkgJ w lo hi b n N f L k m K) (hm : m < n)
    (hne : ∀ i, i < n → (f i).ownBlock ≠ some b) (hinj : ∀ i j c, i < j → j < n → (f i).ownBlock = some c → (f j).ownBlock ≠ some c)
    {r : Int} (h1 : K m ≤ r) (h2 : r ≤ K m + 2097152) (hr : MkI w' lo hi (f m) (K m) r) (hk : Kept w w' (fun c => (f m).ownBlock = some c)) : ∃ K', MkgJ w' lo hi b n N f L k (m + 1) K' ∧ K' (m + 1) = r := by
  refine ⟨fun i => if i ≤ m then K i else r, ⟨hk.row h.row (fun e => hne m hm e), fun i hi => ?_, fun i hi hn => ?_, by simpa using h.zero, ?_⟩, by simp only [if_neg (show ¬ m + 1 ≤ m by omega)]⟩
  · by_cases e : i = m
    · subst e
      simp only [Nat.le_refl, if_true, if_neg (show ¬ i + 1 ≤ i by omega)]
      exact ⟨hr, h1, h2⟩
    · have hi' : i < m := by omega
      simp only [if_pos (show i ≤ m by omega), if_pos (show i + 1 ≤ m by omega)]
      obtain ⟨a, b⟩ := h.done i hi'
      exact ⟨a.block fun c e1 _ _ hc => hk.block c hc (fun e2 => hinj i m c hi' hm e1 e2), b⟩
  · exact (h.open_ i (by omega) hn).block fun c e1 hc => hk.block c hc (fun e2 => hinj m i c (by omega) hn e2 e1)
  · have := h.bd
    simp only [if_neg (show ¬ m + 1 ≤ m by omega)]
    constructor <;> omega
set_option maxHeartbeats 1000000 in
set_option maxRecDepth 100000 in
theorem markOwJ {v : Value} {L : List (List Int)} {w : World} {lo hi : Nat} (k : Int) (h : OwJ w lo hi v L) (h1 : 0 ≤ k) (h2 : k ≤ 400000000000) :
    Calls Try.prog 32 #[v, .int .i64 k] w fun e w' => (∃ r, e = .returned (.int .i64 r) ∧ k ≤ r ∧ r ≤ k + 3000000000000 ∧ MrJ w' lo hi v k r) ∧ Kept w w' (fun b => lo ≤ b ∧ b < hi) := by
  obtain ⟨⟨rfl, rfl⟩ | ⟨b, cap, N, f, rfl, q1, q2, q3, q4, q5, q6, q7⟩, hf1, hf2⟩ := h
  · go_enter Try.func32, Try.ntmps32
    go_wp2
    go_loopg [1, 5] 0 (fun g kk i wr => kk = .int .i64 k ∧ i = .int .i64 0 ∧ w = wr)
    case atStart => exact ⟨rfl, rfl, rfl⟩
    case round =>
      obtain ⟨rfl, rfl, rfl⟩ := hrel
      go_wp2
      go_ret
      exact ⟨⟨k, rfl, by omega, by omega, .inl ⟨none, 0, rfl, rfl⟩⟩, Kept.refl _ _⟩
  · have HQ6 := Lib.hid q6
    have HQ7 := Lib.hid q7
    have hinb := fun i hi => (q5 i hi).inb
    have HINB := Lib.hid hinb
    have hM : MkgJ w lo hi b L.length N f L k 0 (fun _ => k) := ⟨q4, fun i hi => absurd hi (Nat.not_lt_zero _), fun i _ hi => q5 i hi, rfl, by omega⟩
    clear q4 q5 q6 q7 hf2 hinb
    go_enter Try.func32, Try.ntmps32
    go_wp2
    go_loopg [1, 5] L.length (fun g kk i wr => ∃ (m : Nat) (K : Nat → Int) (z : Int), m ≤ L.length ∧ g = L.length - m ∧ kk = .int .i64 z ∧ i = .int .i64 m ∧ k ≤ z ∧ z ≤ k + 2097152 * m ∧ Hid (z = K m) ∧ MkgJ wr lo hi b L.length N f L k m K ∧ Kept w wr (fun x => lo ≤ x ∧ x < hi))
    case atStart => exact ⟨0, fun _ => k, k, Nat.zero_le _, rfl, rfl, rfl, by omega, by omega, rfl, hM, Kept.refl _ _⟩
    case round =>
      clear hM
      obtain ⟨m, K, z, hm, rfl, rfl, rfl, z1, z2, HZ, hM, hk⟩ := hrel
      by_cases hlt : m < L.length
      · have c2 : wr.cell? ⟨b, m, none⟩ = some (f m) := hM.row.cell (by omega)
        have HS := mark1I z (hM.open_ m (Nat.le_refl _) hlt) (by omega) (by omega)
        have hib := HINB.out m hlt
        have HIB := Lib.hid hib
        clear hib
        obtain ⟨fm, hfm⟩ : ∃ x, f m = x := ⟨_, rfl⟩
        rw [hfm] at c2 HS
        have HFM := Lib.hid hfm
        clear hfm
        go_wp2_with fail
        refine HS.mono ?_
        rintro e w1 ⟨⟨r, rfl, r1, r2, hr⟩, hk1⟩
        obtain ⟨K', hM', HK'⟩ := hM.step hlt HQ6.out HQ7.out (r := r) (by have := HZ.out; omega) (by have := HZ.out; omega) (by have := HZ.out; have e := HFM.out; rw [← this, e]; exact hr) (by rw [HFM.out]; exact hk1)
        have HKR := Lib.hid HK'
        have hk2 := hk.trans (hk1.mono (fun x e => HIB.out x (by rw [HFM.out]; exact e)))
        clear HK' hr hk1
        go_wp2
        go_roundg (L.length - (m + 1))
        case measure => omega
        case rel => exact ⟨m + 1, K', r, by omega, rfl, rfl, by simp, by omega, by omega, HKR.out.symm, hM', hk2⟩
      · have e : m = L.length := by omega
        subst e
        go_wp2
        go_ret
        exact ⟨⟨z, rfl, z1, by omega, .inr ⟨b, L.length, cap, N, f, K, rfl, q1, q2, q3, hf1, hM.row, hM.done, hM.zero, HZ.out⟩⟩, hk⟩
theorem monoKJ {n : Nat} {K : Nat → Int} (h : ∀ i, i < n → K i ≤ K (i + 1) ∧ K (i + 1) ≤ K i + 2097152) (m : Nat) (hm : m ≤ n) : K 0 ≤ K m ∧ K m ≤ K 0 + 2097152 * m := by
  induction m with
  | zero => simp
  | succ m ih =>
    have a := ih (by omega)
    have b := h m (by omega)
    omega
set_option maxHeartbeats 1000000 in
set_option maxRecDepth 100000 in
theorem heldMkJ {v : Value} {w : World} {lo hi : Nat} {k r : Int} (h : MrJ w lo hi v k r) (h1 : 0 ≤ k) (h2 : k ≤ 400000000000) :
    Calls Try.prog 33 #[v, .int .i64 k] w fun e w' => e = .returned (.int .i64 r) ∧ w = w' := by
  rcases h with ⟨a, cap, rfl, rfl⟩ | ⟨b, n, cap, N, f, K, rfl, q1, q2, q3, q0, q4, q5, rfl, rfl⟩
  · go_enter Try.func33, Try.ntmps33
    go_wp2
    go_loopg [1, 5] 0 (fun g kk i wr => kk = .int .i64 r ∧ i = .int .i64 0 ∧ w = wr)
    case atStart => exact ⟨rfl, rfl, rfl⟩
    case round =>
      obtain ⟨rfl, rfl, rfl⟩ := hrel
      go_wp2
      go_ret
      exact ⟨rfl, rfl⟩
  · have HB := Lib.hid (fun i hi => (q5 i hi).2)
    have HM := Lib.hid (fun i hi => (q5 i hi).1)
    clear q5
    go_enter Try.func33, Try.ntmps33
    go_wp2
    go_loopg [1, 5] n (fun g kk i wr => ∃ (m : Nat) (z : Int), m ≤ n ∧ g = n - m ∧ kk = .int .i64 z ∧ i = .int .i64 m ∧ Hid (z = K m) ∧ w = wr)
    case atStart => exact ⟨0, _, Nat.zero_le _, rfl, rfl, rfl, rfl, rfl⟩
    case round =>
      obtain ⟨m, z, hm, rfl, rfl, rfl, HZ, rfl⟩ := hrel
      obtain ⟨z1, z2⟩ := monoKJ HB.out m hm
      rw [← HZ.out] at z1 z2
      by_cases hlt : m < n
      · have c2 : w.cell? ⟨b, m, none⟩ = some (f m) := q4.cell (by omega)
        have HS := heldMkI (HM.out m hlt) (by have := HZ.out; omega) (by have := HZ.out; omega)
        rw [← HZ.out] at HS
        obtain ⟨z3, z4⟩ := monoKJ HB.out (m + 1) (by omega)
        obtain ⟨fm, hfm⟩ : ∃ x, f m = x := ⟨_, rfl⟩
        obtain ⟨z', hz'⟩ : ∃ x, K (m + 1) = x := ⟨_, rfl⟩
        rw [hfm] at c2 HS
        rw [hz'] at HS z3 z4
        have HZ' := Lib.hid hz'
        have hnn : ¬ z' < 0 := by omega
        clear hfm hz'
        go_wp2_with fail
        refine HS.mono ?_
        rintro e w1 ⟨rfl, rfl⟩
        go_wp2
        go_roundg (n - (m + 1))
        case measure => omega
        case rel => exact ⟨m + 1, z', by omega, rfl, rfl, by simp, HZ'.out.symm, rfl⟩
      · have e : m = n := by omega
        subst e
        go_wp2
        go_ret
        exact ⟨by rw [HZ.out]; rfl, rfl⟩
def PJb (m : List (List Int) × Bool) (w : World) (e : Ending) (w' : World) : Prop := ∃ v, e = .returned (.tuple #[v, .bool m.2]) ∧ RdJ w' w.heap.size w'.heap.size v m.1 ∧ Below w.heap.size w w'
theorem PJb.out {l : List (List Int)} {z : Bool} {w w' : World} {e : Ending} (h : PJb (l, z) w e w') : ∃ v, e = .returned (.tuple #[v, .bool z]) ∧ RdJ w' w.heap.size w'.heap.size v l ∧ Below w.heap.size w w' := h
def QJb (m : List (List Int) × Bool) (w : World) (e : Ending) (w' : World) : Prop := ∃ v, e = .returned (.tuple #[v, .bool m.2]) ∧ OwJ w' w.heap.size w'.heap.size v m.1 ∧ Below w.heap.size w w'
theorem QJb.out {l : List (List Int)} {z : Bool} {w w' : World} {e : Ending} (h : QJb (l, z) w e w') : ∃ v, e = .returned (.tuple #[v, .bool z]) ∧ OwJ w' w.heap.size w'.heap.size v l ∧ Below w.heap.size w w' := h
theorem own_blockJ {w w' : World} {base size n : Nat} {e : TypeId} {v : Value} {xs : List Value} (h : w.ownsRow base e size v n xs) (hb : ∀ g, v.ownBlock = some g → g < w.heap.size → w'.heap[g]? = w.heap[g]?) : w'.ownsRow base e size v n xs := by
  obtain ⟨h0, h | ⟨g, cap, cur, rfl, h1, h2, h3⟩⟩ := h
  · exact ⟨h0, .inl h⟩
  · exact ⟨h0, .inr ⟨g, cap, cur, rfl, h1, (hb g rfl (Array.getElem?_eq_some_iff.1 h2).1).trans h2, h3⟩⟩
/-- A row of numbers lies in no block that an own row of lists lies in. -/
theorem OwI.apart {w : World} {lo hi base n : Nat} {u v : Value} {t : List Int} {xs : List Value} (h : OwI w lo hi u t) (hv : w.ownsRow base 29 1 v n xs) (c : Nat) (hc : u.ownBlock = some c) : v.ownBlock ≠ some c := by
  intro e
  obtain ⟨⟨rfl, -⟩ | ⟨c', cap, N, f, rfl, h1, h2, h3, h4, h5⟩, -⟩ := h
  · cases hc
  · have hc : c' = c := by simpa [Value.ownBlock] using hc
    subst hc
    obtain ⟨_, ⟨rfl, -⟩ | ⟨g, cap', cur, rfl, _, hg, _⟩⟩ := hv
    · cases e
    · have e : g = c' := by simpa [Value.ownBlock] using e
      subst e
      obtain ⟨cs, q, -⟩ := h4
      rw [hg] at q
      injection q with q
      injection q with _ q
      exact absurd q (by decide)
/-- v has been built of the lists in l by append, each list in a block of its own. -/
structure BldJ (w : World) (base : Nat) (v : Value) (l : List (List Int)) (f : Nat → Value) : Prop where
  own : w.ownsRow base 29 1 v l.length ((List.range l.length).map f)
  rows : ∀ i, i < l.length → OwI w base w.heap.size (f i) (l.getD i [])
  inj : ∀ i j c, i < j → j < l.length → (f i).ownBlock = some c → (f j).ownBlock ≠ some c
theorem BldJ.below {w w' : World} {base : Nat} {v : Value} {l : List (List Int)} {f : Nat → Value} (h : BldJ w base v l f) (hb : Below w.heap.size w w') : BldJ w' base v l f :=
  ⟨own_blockJ h.own fun g _ hg => hb.block g hg, fun i hi => ((h.rows i hi).block fun c _ hc => hb.block c hc).mono (Nat.le_refl _) hb.size, h.inj⟩
/-- A list in a block made since is appended. -/
theorem BldJ.step {wr w1 w3 : World} {base : Nat} {v v' u : Value} {l : List (List Int)} {t : List Int} {f : Nat → Value} {o : Obj} (h : BldJ wr base v l f) (hb0 : base ≤ wr.heap.size)
    (hb : Below wr.heap.size wr w1) (hu : OwI w1 wr.heap.size w1.heap.size u t) (hg : (w1.alloc o).grownBy w3 v.ownBlock) (hown : w3.ownsRow base 29 1 v' (l.length + 1) ((List.range l.length).map f ++ [u])) :
    BldJ w3 base v' (l ++ [t]) (fun i => if i = l.length then u else f i) := by
  have hs : w1.heap.size ≤ w3.heap.size := Nat.le_trans (by simp) hg.size
  have h1 := h.below hb
  have move : ∀ x t lo, OwI w1 lo w1.heap.size x t → OwI w3 lo w3.heap.size x t := fun x t lo hx =>
    (hx.block fun c e hc => ((hg.block c (by simp; omega) (fun q => hx.apart h1.own c e q.symm)).trans (blk_alloc_lt _ _ _ hc))).mono (Nat.le_refl _) hs
  refine ⟨?_, fun i hi => ?_, fun i j c hij hj => ?_⟩
  · have e : (List.range (l ++ [t]).length).map (fun i => if i = l.length then u else f i) = (List.range l.length).map f ++ [u] := by
      rw [List.length_append, List.length_singleton, List.range_succ, List.map_append]
      congr 1
      · refine List.map_congr_left fun i hi => ?_
        have : i < l.length := by simpa using hi
        simp [Nat.ne_of_lt this]
      · simp
    rw [e, List.length_append, List.length_singleton]; exact hown
  · have hi' : i < l.length + 1 := by simpa using hi
    by_cases e : i = l.length
    · subst e
      simp only [if_true]
      have e1 : (l ++ [t]).getD l.length [] = t := by simp [List.getD]
      rw [e1]
      exact (move _ _ _ hu).mono hb0 (Nat.le_refl _)
    · simp only [if_neg e]
      have hlt : i < l.length := by omega
      have e1 : (l ++ [t]).getD i [] = l.getD i [] := by simp [List.getD, List.getElem?_append_left hlt]
      rw [e1]
      exact move _ _ _ (h1.rows i hlt)
  · have hj' : j < l.length + 1 := by simpa using hj
    have hi : i ≠ l.length := by omega
    simp only [if_neg hi]
    by_cases e : j = l.length
    · subst e
      simp only [if_true]
      intro q1 q2
      have a := (h.rows i (by omega)).inb c q1
      have b := hu.inb c q2
      omega
    · simp only [if_neg e]; exact h.inj i j c hij (by omega)
theorem BldJ.done {w : World} {base : Nat} {v : Value} {l : List (List Int)} {f : Nat → Value} (h : BldJ w base v l f) (hf : FitsJ l) : OwJ w base w.heap.size v l := by
  have hap := fun i hi c => (h.rows i hi).apart h.own c
  obtain ⟨⟨_, ⟨rfl, h0⟩ | ⟨g, cap, cur, rfl, hb, hg, hn, hcap, hs, ht⟩⟩, hr, hinj⟩ := h
  · exact ⟨.inl ⟨rfl, List.eq_nil_of_length_eq_zero h0⟩, hf⟩
  · have hat : ∀ i, i < l.length → (cur[i]?).getD (.bool false) = f i := fun i hi => by
      have h1 : (cur.toList.take (l.length * 1))[i]? = ((List.range l.length).map f)[i]? := by rw [ht]
      rw [Nat.mul_one, List.getElem?_take_of_lt hi, Array.getElem?_toList] at h1
      rw [h1]; simp [hi]
    refine ⟨.inr ⟨g, cap, cur.size, fun i => (cur[i]?).getD (.bool false), rfl, hb, (Array.getElem?_eq_some_iff.1 hg).1, by omega, ⟨cur, hg, rfl, fun i hi => by simp [hi]⟩, fun i hi => ?_, fun i hi => ?_, fun i j c hij hj => ?_⟩, hf⟩
    · show OwI w base w.heap.size ((cur[i]?).getD (.bool false)) _
      rw [hat i hi]; exact hr i hi
    · show ((cur[i]?).getD (.bool false)).ownBlock ≠ some g
      rw [hat i hi]
      intro e
      exact hap i hi g e rfl
    · show ((cur[i]?).getD (.bool false)).ownBlock = some c → ((cur[j]?).getD (.bool false)).ownBlock ≠ some c
      rw [hat i (by omega), hat j hj]
      exact hinj i j c hij hj
theorem BldJ.start_lit (w : World) {base : Nat} (h : base ≤ w.heap.size) (f : Nat → Value) : BldJ (w.alloc (.cells #[] 29)) base (.slice (some ⟨w.heap.size, 0, none⟩) 0 0) [] f :=
  ⟨World.ownsRow_lit w #[] 0 h (by unfold maxLen; omega) rfl, fun i hi => absurd hi (Nat.not_lt_zero _), fun i j c _ hj => absurd hj (Nat.not_lt_zero _)⟩
theorem BldJ.start_nil (w : World) (base : Nat) (f : Nat → Value) : BldJ w base (.slice none 0 0) [] f :=
  ⟨⟨rfl, .inl ⟨rfl, rfl⟩⟩, fun i hi => absurd hi (Nat.not_lt_zero _), fun i j c _ hj => absurd hj (Nat.not_lt_zero _)⟩
end Go.Proofs.Ytlpidgdlbannbaa
