/- A pool whose nodes are all taken, thread by thread, and a map of those that were: for the law that does so. -/
import Derived.Test.YteeaminfhpcdmaaPoolC
import Derived.Maps.RangeWalk
namespace Go.Proofs.Yteeaminfhpcdmaa
open Go.ChangeShapes Go.WideShapes Go.ChangeAt Go.RowKit Go.Maps

/-- The first m nodes' first handles. -/
def upTo (m : Nat) : Int → Bool := fun x => decide (1 ≤ x ∧ x ≤ (m : Int))
theorem upTo_0 : upTo 0 = fun _ => false := by funext x; simp [upTo]; omega
theorem upTo_next (m : Nat) : turn (upTo m) ((m + 1 : Nat) : Int) true = upTo (m + 1) := by
  funext x
  unfold turn upTo
  split
  · rename_i h; subst h; simp; omega
  · rename_i h; rw [Bool.eq_iff_iff]; simp; omega
theorem upTo_not (m : Nat) : upTo m ((m + 1 : Nat) : Int) = false := by simp [upTo]; omega
/-- The free ones, behind m Takes, thread by thread. -/
def frs (k m : Nat) : Nat → List Int := fun t => (firsts t k k).drop (m - t * k)
theorem frs_0 (k : Nat) : frs k 0 = fun t => firsts t k k := by funext t; simp [frs]
theorem frs_at (k t j : Nat) (hj : j < k) : frs k (t * k + j) t = ((t * k + j + 1 : Nat) : Int) :: (firsts t k k).drop (j + 1) := by
  unfold frs
  rw [Nat.add_sub_cancel_left, List.drop_eq_getElem_cons (by rw [firsts_len]; exact hj)]
  congr 1
  simp [firsts]
  omega
theorem frs_end (k t : Nat) : frs k (t * k + k) t = [] := by
  unfold frs
  rw [Nat.add_sub_cancel_left]
  exact List.drop_of_length_le (by rw [firsts_len]; exact Nat.le_refl _)
theorem frs_next (k t j : Nat) (hj : j < k) : upd (frs k (t * k + j)) t ((firsts t k k).drop (j + 1)) = frs k (t * k + j + 1) := by
  funext s
  unfold upd frs
  split
  · rename_i h; subst h; congr 1; omega
  · rename_i h
    by_cases hs : s < t
    · have h1 : (s + 1) * k ≤ t * k := Nat.mul_le_mul_right _ hs
      rw [Nat.add_mul, Nat.one_mul] at h1
      rw [List.drop_of_length_le (by rw [firsts_len]; omega), List.drop_of_length_le (by rw [firsts_len]; omega)]
    · have h1 : (t + 1) * k ≤ s * k := Nat.mul_le_mul_right _ (by omega)
      rw [Nat.add_mul, Nat.one_mul] at h1
      rw [show t * k + j - s * k = 0 by omega, show t * k + j + 1 - s * k = 0 by omega]

/-- Block b is a map with the first m handles, each with 1. -/
def Had (w : World) (b m : Nat) : Prop :=
  ∃ D : DataW Unit, w.ownsMap Try.prog 31 (plainElem Try.prog 3) b m D ∧ size D = m ∧
    ∀ x, 0 ≤ x → x < 4294967296 → Maps.has D (.int .u32 x) = upTo m x ∧ D.atKey (.int .u32 x) (.lit (.int .i64 0)) = .lit (.int .i64 (if upTo m x then 1 else 0))
theorem zeroInt (w : World) : (zeroValue 3).run Try.prog w = .ok (.int .i64 0) w := by kernel_rfl

section
variable {w w' : World} {b m : Nat}
theorem Had.lt (h : Had w b m) : b < w.heap.size := by obtain ⟨D, h, _⟩ := h; exact h.lt
theorem Had.not_bk {g : Nat} {t : TypeId} {cs : Array Value} (h : Had w b m) (k : Bk w g t cs) : b ≠ g := by
  obtain ⟨D, ⟨es, clock, hb, _⟩, _⟩ := h
  intro e; subst e; unfold Bk at k; rw [hb] at k; cases k
theorem Had.within {S : Nat → Prop} (h : Had w b m) (k : Within w w' S) (hn : ¬ S b) : Had w' b m := by
  have hl := h.lt
  obtain ⟨D, ⟨es, clock, hb, r⟩, r'⟩ := h
  exact ⟨D, ⟨es, clock, (k.block b hl hn).trans hb, r⟩, r'⟩
theorem Had.made (w : World) : Had (w.alloc (.map #[] 0)) w.heap.size 0 :=
  ⟨.map [], World.ownsMap_made w _ _ _, rfl, fun x _ _ => by rw [upTo_0]; exact ⟨rfl, rfl⟩⟩
theorem Had.look (h : Had w b m) (hm : m < 1000) : (Instr.lookup 51 (.map (some b)) (.int .u32 ((m + 1 : Nat) : Int)) false).run Try.prog w = .ok (.int .i64 0) w := by
  obtain ⟨D, h, _, hk⟩ := h
  obtain ⟨c, hrun, hat, _⟩ := h.lookup_int keyed32 Try.underlying51 Try.underlying3 (zeroInt w) (key32 (x := ((m + 1 : Nat) : Int)) (by omega) (by omega))
  rw [(hk _ (by omega) (by omega)).2, upTo_not] at hat
  rw [hrun]
  simp at hat
  rw [← hat]
theorem Had.add (h : Had w b m) (hm : m < 1000) :
    ∃ w', (Instr.mapUpdate 51 (.map (some b)) (.int .u32 ((m + 1 : Nat) : Int)) (.int .i64 1)).run Try.prog w = .ok () w' ∧ Had w' b (m + 1) ∧ Only w w' b := by
  obtain ⟨D, h, hs, hh⟩ := h
  have h0 : (0 : Int) ≤ ((m + 1 : Nat) : Int) := by omega
  have h1 : ((m + 1 : Nat) : Int) < 4294967296 := by omega
  obtain ⟨w', hrun, ho, hg⟩ := h.update keyed32 Try.underlying51 (by unfold maxLen; omega) (key32 h0 h1) (plainElem_int (H := Unit) (a := 1) Try.underlying3 (by decide))
  refine ⟨w', hrun, ⟨_, ho, ?_, fun x x0 x1 => ?_⟩, hg⟩
  · rw [size_put (h.tidy keyed32), (hh _ h0 h1).1, upTo_not, hs]; simp
  · rw [← upTo_next]
    by_cases e : x = ((m + 1 : Nat) : Int)
    · subst e; rw [turn_same]; exact ⟨has_put_same h.isMap (isKey32 _) _, atKey_put_same h.isMap (isKey32 _) _ _⟩
    · rw [turn_other e, has_put_other (lit32_ne e), atKey_put_other (lit32_ne e)]; exact hh x x0 x1
end

/-- At each round's head, while nodes are taken: m are out, and in the map. -/
structure Rel (w : World) (p n k b m : Nat) (M : PM) (wr : World) : Prop where
  pl : Pl wr p n k M (frs k m) (upTo m) m
  had : Had wr b m
  gr : w.grownBy wr none
  new : ∀ i, M.Has n i → w.heap.size ≤ i
  nb : w.heap.size ≤ b
  apart : ¬ M.Has n b

/-- How many of a thread's first j nodes are out. -/
def outs (os : Int → Bool) (t k : Nat) : Nat → Nat
  | 0 => 0
  | j + 1 => outs os t k j + (os ((t * k + j + 1 : Nat) : Int)).toNat
theorem outs_other (os : Int → Bool) (t k i s : Nat) (hi : i < k) (hne : s ≠ t) (v : Bool) : ∀ j, j ≤ k → outs (turn os ((t * k + i + 1 : Nat) : Int) v) s k j = outs os s k j
  | 0, _ => rfl
  | j + 1, hj => by
    have hx : ((s * k + j + 1 : Nat) : Int) ≠ ((t * k + i + 1 : Nat) : Int) := by
      intro e
      have e' : s * k + j = t * k + i := by omega
      rcases Nat.lt_or_gt_of_ne hne with h | h
      · have h1 : (s + 1) * k ≤ t * k := Nat.mul_le_mul_right _ h
        rw [Nat.add_mul, Nat.one_mul] at h1; omega
      · have h1 : (t + 1) * k ≤ s * k := Nat.mul_le_mul_right _ h
        rw [Nat.add_mul, Nat.one_mul] at h1; omega
    unfold outs
    rw [outs_other os t k i s hi hne v j (by omega), turn_other hx]
theorem outs_before (os : Int → Bool) (t k i : Nat) (v : Bool) : ∀ j, j ≤ i → outs (turn os ((t * k + i + 1 : Nat) : Int) v) t k j = outs os t k j
  | 0, _ => rfl
  | j + 1, hj => by
    unfold outs
    rw [outs_before os t k i v j (by omega), turn_other (by omega)]
theorem outs_less (os : Int → Bool) (t k i : Nat) (h : os ((t * k + i + 1 : Nat) : Int) = true) : ∀ j, i < j → outs (turn os ((t * k + i + 1 : Nat) : Int) false) t k j + 1 = outs os t k j
  | 0, hj => by omega
  | j + 1, hj => by
    unfold outs
    by_cases e : j = i
    · subst e
      rw [outs_before os t k j false j (Nat.le_refl _), turn_same, h]
      simp
    · rw [turn_other (by omega), ← outs_less os t k i h j (by omega)]
      omega
theorem outs_all (t k m : Nat) : ∀ j, t * k + j ≤ m → outs (upTo m) t k j = j
  | 0, _ => rfl
  | j + 1, hj => by
    unfold outs
    rw [outs_all t k m j (by omega), show upTo m ((t * k + j + 1 : Nat) : Int) = true by simp [upTo]; omega]
    rfl

/-- How many of the first n threads' nodes are out. -/
def tot (os : Int → Bool) (k : Nat) : Nat → Nat
  | 0 => 0
  | t + 1 => tot os k t + outs os t k k
theorem tot_other (os : Int → Bool) (t k i : Nat) (hi : i < k) (v : Bool) : ∀ n, n ≤ t → tot (turn os ((t * k + i + 1 : Nat) : Int) v) k n = tot os k n
  | 0, _ => rfl
  | n + 1, hn => by
    unfold tot
    rw [tot_other os t k i hi v n (by omega), outs_other os t k i n hi (by omega) v k (Nat.le_refl _)]
theorem tot_less (os : Int → Bool) (t k i : Nat) (hi : i < k) (h : os ((t * k + i + 1 : Nat) : Int) = true) : ∀ n, t < n → tot (turn os ((t * k + i + 1 : Nat) : Int) false) k n + 1 = tot os k n
  | 0, hn => by omega
  | n + 1, hn => by
    unfold tot
    by_cases e : n = t
    · subst e
      rw [tot_other os n k i hi false n (Nat.le_refl _), ← outs_less os n k i h k hi]
      omega
    · rw [outs_other os t k i n hi e false k (Nat.le_refl _), ← tot_less os t k i hi h n (by omega)]
      omega
theorem tot_all (k m : Nat) : ∀ n, n * k ≤ m → tot (upTo m) k n = n * k
  | 0, _ => by simp [tot]
  | n + 1, hn => by
    rw [Nat.add_mul, Nat.one_mul] at hn
    unfold tot
    rw [tot_all k m n (by omega), outs_all n k m k (by omega), Nat.add_mul, Nat.one_mul]
theorem outs_none (os : Int → Bool) (t k : Nat) (h : ∀ x : Nat, x ≤ t * k + k → os (x : Int) = false) : ∀ j, j ≤ k → outs os t k j = 0
  | 0, _ => rfl
  | j + 1, hj => by
    unfold outs
    rw [outs_none os t k h j (by omega), h _ (by omega)]
    rfl
theorem tot_none (os : Int → Bool) (k : Nat) : ∀ n, (∀ x : Nat, x ≤ n * k → os (x : Int) = false) → tot os k n = 0
  | 0, _ => rfl
  | n + 1, h => by
    rw [Nat.add_mul, Nat.one_mul] at h
    unfold tot
    rw [tot_none os k n (fun x hx => h x (by omega)), outs_none os n k h k (Nat.le_refl _)]

theorem ranges_within {w w' : World} {S : Nat → Prop} {b r n cnt : Nat} {D : DataW Unit} {left : Lit → Bool} {k : TypeId} {R : Value → Option (DataW Unit × List MemPlace)} (h : w.ranges Try.prog k R b r n D left cnt) (hk : Within w w' S) (h1 : ¬ S b) (h2 : ¬ S r) : w'.ranges Try.prog k R b r n D left cnt := by
  have l1 := h.owns.lt
  have l2 := h.lt
  obtain ⟨es, clock, since, seen, c0, hb, F, hs, hD, hr, rest⟩ := h
  exact ⟨es, clock, since, seen, c0, (hk.block b l1 h1).trans hb, F, hs, hD, (hk.block r l2 h2).trans hr, rest⟩
theorem ranges_iter {w : World} {b r n cnt g : Nat} {D : DataW Unit} {left : Lit → Bool} {k t : TypeId} {R : Value → Option (DataW Unit × List MemPlace)} {cs : Array Value} (h : w.ranges Try.prog k R b r n D left cnt) (hb : Bk w g t cs) : g ≠ r := by
  obtain ⟨es, clock, since, seen, c0, _, _, _, _, hr, _⟩ := h
  intro e; subst e; unfold Bk at hb; rw [hr] at hb; cases hb

/-- While they come back, in whatever order: what is still to come is out. -/
structure Back (w : World) (p n k b r : Nat) (D : DataW Unit) (left : Lit → Bool) (cnt : Nat) (M : PM) (fr : Nat → List Int) (os : Int → Bool) (wr : World) : Prop where
  rg : wr.ranges Try.prog 31 (plainElem Try.prog 3) b r (n * k) D left cnt
  pl : Pl wr p n k M fr os (tot os k n)
  same : ∀ x, 0 ≤ x → x < 4294967296 → os x = left (.int .u32 x)
  few : ∀ x, os x = true → 1 ≤ x ∧ x ≤ ((n * k : Nat) : Int)
  full : ∀ t, t < n → (fr t).length + outs os t k k = k
  gr : w.grownBy wr none
  new : ∀ i, M.Has n i → w.heap.size ≤ i
  nr : w.heap.size ≤ r
  ab : ¬ M.Has n b
  ar : ¬ M.Has n r

/-- One has come up: it is out, and comes back. -/
theorem Back.step {w wr w1 : World} {p n k b r cnt cnt1 : Nat} {D : DataW Unit} {left : Lit → Bool} {M : PM} {fr : Nat → List Int} {os : Int → Bool} (h : Back w p n k b r D left cnt M fr os wr) {x : Int} (x0 : 0 ≤ x) (x1 : x < 4294967296)
    (hl : left (.int .u32 x) = true) (h1 : w1.ranges Try.prog 31 (plainElem Try.prog 3) b r (n * k) D (fun z => left z && !z.sameKey (.int .u32 x)) cnt1) (hg : wr.grownBy w1 (some r)) :
    Calls Try.prog 12 #[.pointer (some ⟨p, 0, none⟩), .int .u32 x] w1 fun e w' => e = .returned (.int .i64 0) ∧ ∃ M' fr' os', Back w p n k b r D (fun z => left z && !z.sameKey (.int .u32 x)) cnt1 M' fr' os' w' := by
  have hos : os x = true := by rw [h.same x x0 x1]; exact hl
  obtain ⟨l1, l2⟩ := h.few x hos
  have hN : n * k ≤ 64 * 8 := Nat.mul_le_mul h.pl.few h.pl.eight
  have hmod : x % 4096 = x := by omega
  obtain ⟨t, i, ht, hi, hx⟩ := node_or n k x (by unfold NoNode; omega)
  have hkr : Within wr w1 (fun i => i = r) := .of_grown hg (by simp)
  have hp1 : Pl w1 p n k M fr os (tot os k n) := h.pl.kept hkr (ranges_iter h.rg h.pl.ptr) (ranges_iter h.rg h.pl.row) (fun j hj e => h.ar (e ▸ hj))
  have hx' : x = ((t * k + i + 1 : Nat) : Int) := by omega
  have hlen : (fr t).length < k := by
    have h2 := h.full t ht
    have h3 := outs_less os t k i (by rw [← hx']; exact hos) k hi
    omega
  refine (plFree hp1 x x0 x1 hos hi ht hx hlen).mono ?_
  rintro e w2 ⟨M2, rfl, hp2, s2⟩
  have hg1 : w.grownBy w1 none := grown_then h.gr hg (.inr fun y e => by injection e with e; subst e; exact h.nr)
  obtain ⟨hg2, hM2⟩ := stays_grown hg1 h.new s2
  have hlb := h1.owns.lt
  have hlr := h1.lt
  refine ⟨rfl, M2, upd fr t (fr t ++ [nxt x]), turn os x false, ranges_within h1 s2.2.1 h.ab h.ar, ?_, ?_, ?_, ?_, hg2, hM2, h.nr, ?_, ?_⟩
  · have htot := tot_less os t k i hi (by rw [← hx']; exact hos) n ht
    rw [← hx'] at htot
    rw [show tot os k n - 1 = tot (turn os x false) k n by omega] at hp2
    exact hp2
  · intro y y0 y1
    by_cases e : y = x
    · subst e; rw [turn_same, WideAt.sameKey_self (isKey32 y)]; simp
    · rw [turn_other e, h.same y y0 y1, sameKey_ne (lit32_ne e)]; simp
  · intro y hy
    by_cases e : y = x
    · subst e; rw [turn_same] at hy; cases hy
    · rw [turn_other e] at hy; exact h.few y hy
  · intro s hs
    by_cases e : s = t
    · subst e
      have h3 := outs_less os s k i (by rw [← hx']; exact hos) k hi
      have h4 := h.full s hs
      rw [upd_same, hx']
      simp only [List.length_append, List.length_cons, List.length_nil]
      omega
    · rw [upd_other e, hx', outs_other os t k i s hi e false k (Nat.le_refl _)]
      exact h.full s hs
  · intro e
    rcases s2.2.2 b e with e | e
    · exact h.ab e
    · omega
  · intro e
    rcases s2.2.2 r e with e | e
    · exact h.ar e
    · omega
end Go.Proofs.Yteeaminfhpcdmaa
