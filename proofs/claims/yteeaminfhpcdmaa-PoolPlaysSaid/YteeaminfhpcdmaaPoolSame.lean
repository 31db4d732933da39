/- What the pool and the document's own pool have in common: lists and functions alone. Nodes are numbered from 0 on here. -/
import Derived.Test.YteeaminfhpcdmaaPoolC
namespace Go.Proofs.Yteeaminfhpcdmaa
open Go.ChangeShapes Go.WideShapes Go.ChangeAt Go.RowKit

/-- A node's handle. -/
def hdl (gen : List Int) (q : Nat) : Int := nth gen q * 4096 + ((q : Int) + 1)
/-- Has a node that is out this handle? -/
def isO (N : Nat) (gen out : List Int) (h : Int) : Bool := decide (1 ≤ h % 4096 ∧ h % 4096 ≤ (N : Int) ∧ nth out (h % 4096 - 1).toNat = 1 ∧ hdl gen (h % 4096 - 1).toNat = h)

/-- How many of a list of 0 and 1. -/
def sumTo (xs : List Int) : Nat → Int
  | 0 => 0
  | k + 1 => sumTo xs k + nth xs k

structure Same (n each : Nat) (free : Nat → List Nat) (gen out : List Int) (fr : Nat → List Int) (os : Int → Bool) (c : Nat) : Prop where
  few : n ≤ 64
  eight : each ≤ 8
  lenG : gen.length = n * each
  lenO : out.length = n * each
  gens : ∀ q, 0 ≤ nth gen q ∧ nth gen q < 262144
  outs : ∀ q, nth out q = 0 ∨ nth out q = 1
  frs : ∀ t, t < n → fr t = (free t).map (hdl gen)
  oss : ∀ h, 0 ≤ h → h < 4294967296 → os h = isO (n * each) gen out h
  cnt : (c : Int) = sumTo out (n * each)
  own : ∀ t, t < n → ∀ q, q ∈ free t → t * each ≤ q ∧ q < t * each + each ∧ nth out q = 0
  dup : ∀ t, t < n → (free t).Nodup

theorem sumTo_set {xs : List Int} {q : Nat} (hq : q < xs.length) (v : Int) : ∀ k, k ≤ xs.length → sumTo (xs.set q v) k = sumTo xs k + (if q < k then v - nth xs q else 0)
  | 0, _ => by simp [sumTo]
  | k + 1, hk => by
    unfold sumTo
    rw [sumTo_set hq v k (by omega), nth_set hq]
    by_cases e : q = k
    · subst e; simp; omega
    · rw [if_neg e]
      by_cases h : q < k
      · rw [if_pos h, if_pos (by omega)]; omega
      · rw [if_neg h, if_neg (by omega)]; omega
theorem sumTo_le {xs : List Int} (h : ∀ q, nth xs q = 0 ∨ nth xs q = 1) : ∀ k, 0 ≤ sumTo xs k ∧ sumTo xs k ≤ (k : Int)
  | 0 => by simp [sumTo]
  | k + 1 => by
    have h1 := sumTo_le h k
    have h2 := h k
    unfold sumTo
    omega
theorem sumTo_some {xs : List Int} (h : ∀ q, nth xs q = 0 ∨ nth xs q = 1) {q : Nat} (hq : nth xs q = 1) : ∀ k, q < k → 1 ≤ sumTo xs k
  | 0, hk => by omega
  | k + 1, hk => by
    unfold sumTo
    by_cases e : q = k
    · subst e; have := (sumTo_le h q).1; omega
    · have := sumTo_some h hq k (by omega); have := h k; omega

theorem nodup_len : ∀ (k a : Nat) (l : List Nat), l.Nodup → (∀ q, q ∈ l → a ≤ q ∧ q < a + k) → l.length ≤ k
  | 0, a, l, _, h => by
    cases l with
    | nil => simp
    | cons q r => have := h q (by simp); omega
  | k + 1, a, l, hd, h => by
    have h1 := nodup_len k a (l.erase (a + k)) (hd.erase _) (fun q hq => by
      have hm := (hd.mem_erase_iff.1 hq)
      have := h q hm.2
      have := hm.1
      omega)
    have h2 := List.length_erase_le (a := a + k) (l := l)
    by_cases hm : a + k ∈ l
    · have := List.length_erase_of_mem hm; omega
    · rw [List.erase_of_not_mem hm] at h1; omega

section
variable {n each c : Nat} {free : Nat → List Nat} {gen out : List Int} {fr : Nat → List Int} {os : Int → Bool}
theorem Same.le (h : Same n each free gen out fr os c) : n * each ≤ 512 := Nat.mul_le_mul h.few h.eight
theorem Same.in_ (_h : Same n each free gen out fr os c) {t q : Nat} (ht : t < n) (hq : q < t * each + each) : q < n * each := by
  have : (t + 1) * each ≤ n * each := Nat.mul_le_mul_right _ ht
  rw [Nat.add_mul, Nat.one_mul] at this
  omega
theorem hdl_facts {gen : List Int} (hg : ∀ q, 0 ≤ nth gen q ∧ nth gen q < 262144) {q : Nat} (hq : q < 512) : 0 < hdl gen q ∧ hdl gen q < 4294967296 ∧ hdl gen q % 4096 = (q : Int) + 1 ∧ hdl gen q / 4096 = nth gen q := by
  have := hg q
  unfold hdl
  omega
theorem isO_hdl {N : Nat} {gen out : List Int} (hg : ∀ q, 0 ≤ nth gen q ∧ nth gen q < 262144) {q : Nat} (hq : q < N) (hN : N ≤ 512) : isO N gen out (hdl gen q) = decide (nth out q = 1) := by
  obtain ⟨f1, f2, f3, f4⟩ := hdl_facts hg (q := q) (by omega)
  unfold isO
  rw [f3, show ((q : Int) + 1 - 1).toNat = q by omega, Bool.eq_iff_iff]
  simp
  omega
/-- Two handles of one node, each of which it has. -/
theorem isO_eq {N : Nat} {gen out : List Int} {h : Int} (hh : isO N gen out h = true) : ∃ q : Nat, q < N ∧ h % 4096 = (q : Int) + 1 ∧ nth out q = 1 ∧ hdl gen q = h := by
  unfold isO at hh
  obtain ⟨h1, h2, h3, h4⟩ := of_decide_eq_true hh
  exact ⟨(h % 4096 - 1).toNat, by omega, by omega, h3, h4⟩

/-- A node goes out. -/
theorem Same.take (h : Same n each free gen out fr os c) {t q : Nat} {rest : List Nat} (ht : t < n) (e : free t = q :: rest) :
    q < n * each ∧ nth out q = 0 ∧ fr t = hdl gen q :: rest.map (hdl gen) ∧ os (hdl gen q) = false ∧ Same n each (upd free t rest) gen (out.set q 1) (upd fr t (rest.map (hdl gen))) (turn os (hdl gen q) true) (c + 1) := by
  have hN := h.le
  obtain ⟨o1, o2, o3⟩ := h.own t ht q (by rw [e]; simp)
  have hq := h.in_ ht o2
  obtain ⟨f1, f2, f3, f4⟩ := hdl_facts h.gens (q := q) (by omega)
  have hfr : fr t = hdl gen q :: rest.map (hdl gen) := by rw [h.frs t ht, e]; rfl
  have hos : os (hdl gen q) = false := by rw [h.oss _ (by omega) f2, isO_hdl h.gens hq hN, o3]; rfl
  have hlO := h.lenO
  refine ⟨hq, o3, hfr, hos, h.few, h.eight, h.lenG, by simpa using hlO, h.gens, fun q' => ?_, fun s hs => ?_, fun x x0 x1 => ?_, ?_, fun s hs q' hm => ?_, fun s hs => ?_⟩
  · rw [nth_set (by omega)]
    split
    · exact .inr rfl
    · exact h.outs q'
  · by_cases es : s = t
    · subst es; rw [upd_same, upd_same]
    · rw [upd_other es, upd_other es]; exact h.frs s hs
  · by_cases ex : x = hdl gen q
    · subst ex
      rw [turn_same, isO_hdl h.gens hq hN, nth_set (by omega), if_pos rfl]
      rfl
    · rw [turn_other ex, h.oss x x0 x1]
      unfold isO
      rw [Bool.eq_iff_iff]
      simp only [decide_eq_true_eq]
      constructor
      · rintro ⟨a1, a2, a3, a4⟩
        refine ⟨a1, a2, ?_, a4⟩
        rw [nth_set (by omega)]
        split
        · rfl
        · exact a3
      · rintro ⟨a1, a2, a3, a4⟩
        refine ⟨a1, a2, ?_, a4⟩
        rw [nth_set (by omega), if_neg (fun e' => ex (by rw [← a4, e']))] at a3
        exact a3
  · rw [sumTo_set (by omega) 1 _ (by omega), if_pos (by omega), o3, ← h.cnt]
    omega
  · by_cases es : s = t
    · subst es
      rw [upd_same] at hm
      obtain ⟨b1, b2, b3⟩ := h.own s hs q' (by rw [e]; simp [hm])
      refine ⟨b1, b2, ?_⟩
      have hd := h.dup s hs
      rw [e] at hd
      rw [nth_set (by omega), if_neg (fun e' => by subst e'; exact (List.nodup_cons.1 hd).1 hm)]
      exact b3
    · rw [upd_other es] at hm
      obtain ⟨b1, b2, b3⟩ := h.own s hs q' hm
      refine ⟨b1, b2, ?_⟩
      have hne : q ≠ q' := by
        rintro rfl
        rcases Nat.lt_or_gt_of_ne es with hlt | hlt
        · have := Nat.mul_le_mul_right each (show s + 1 ≤ t from hlt)
          rw [Nat.add_mul, Nat.one_mul] at this; omega
        · have := Nat.mul_le_mul_right each (show t + 1 ≤ s from hlt)
          rw [Nat.add_mul, Nat.one_mul] at this; omega
      rw [nth_set (by omega), if_neg hne]
      exact b3
  · by_cases es : s = t
    · subst es
      have hd := h.dup s hs
      rw [e] at hd
      rw [upd_same]
      exact (List.nodup_cons.1 hd).2
    · rw [upd_other es]; exact h.dup s hs

/-- A node comes back. -/
theorem Same.back (h : Same n each free gen out fr os c) {x : Int} (x0 : 0 ≤ x) (x1 : x < 4294967296) (hx : os x = true) :
    ∃ t i, t < n ∧ i < each ∧ x % 4096 = ((t * each + i + 1 : Nat) : Int) ∧ (fr t).length < each ∧ 1 ≤ c ∧
      Same n each (upd free t (free t ++ [t * each + i])) (gen.set (t * each + i) ((x / 4096 + 1) % 262144)) (out.set (t * each + i) 0) (upd fr t (fr t ++ [nxt x])) (turn os x false) (c - 1) := by
  have hN := h.le
  have hO := hx
  rw [h.oss x x0 x1] at hO
  obtain ⟨q, hq, e1, e2, e3⟩ := isO_eq hO
  obtain ⟨t, i, ht, hi, he⟩ := node_or n each x (by unfold NoNode; omega)
  have hqi : q = t * each + i := by omega
  subst hqi
  have hlG := h.lenG
  have hlO := h.lenO
  have hnot : t * each + i ∉ free t := fun hm => by have := (h.own t ht _ hm).2.2; omega
  have hlen : (fr t).length < each := by
    rw [h.frs t ht, List.length_map]
    have h1 := nodup_len each (t * each) ((t * each + i) :: free t) (List.nodup_cons.2 ⟨hnot, h.dup t ht⟩) (fun q' hm => by
      rcases List.mem_cons.1 hm with rfl | hm
      · omega
      · have := h.own t ht q' hm; omega)
    simp at h1
    omega
  have hc : 1 ≤ c := by
    have h1 := sumTo_some h.outs e2 (n * each) hq
    have h2 := h.cnt
    omega
  obtain ⟨f1, f2, f3, f4⟩ := hdl_facts h.gens (q := t * each + i) (by omega)
  rw [e3] at f4
  have hgr := h.gens (t * each + i)
  have hg' : ∀ q', 0 ≤ nth (gen.set (t * each + i) ((x / 4096 + 1) % 262144)) q' ∧ nth (gen.set (t * each + i) ((x / 4096 + 1) % 262144)) q' < 262144 := fun q' => by
    rw [nth_set (by omega)]
    split
    · omega
    · exact h.gens q'
  have hkeep : ∀ q', q' ≠ t * each + i → hdl (gen.set (t * each + i) ((x / 4096 + 1) % 262144)) q' = hdl gen q' := fun q' hne => by
    unfold hdl; rw [nth_set (by omega), if_neg (fun e => hne e.symm)]
  have hnew : hdl (gen.set (t * each + i) ((x / 4096 + 1) % 262144)) (t * each + i) = nxt x := by
    unfold hdl nxt; rw [nth_set (by omega), if_pos rfl, e1]
  refine ⟨t, i, ht, hi, he, hlen, hc, h.few, h.eight, by simpa using hlG, by simpa using hlO, hg', fun q' => ?_, fun s hs => ?_, fun y y0 y1 => ?_, ?_, fun s hs q' hm => ?_, fun s hs => ?_⟩
  · rw [nth_set (by omega)]
    split
    · exact .inl rfl
    · exact h.outs q'
  · by_cases es : s = t
    · subst es
      rw [upd_same, upd_same, h.frs s hs, List.map_append, List.map_cons, List.map_nil, hnew]
      congr 1
      exact List.map_congr_left fun q' hm => (hkeep q' (fun e => hnot (e ▸ hm))).symm
    · rw [upd_other es, upd_other es, h.frs s hs]
      refine List.map_congr_left fun q' hm => (hkeep q' (fun e => ?_)).symm
      have := (h.own s hs q' hm).2.2
      rw [e] at this
      omega
  · by_cases ey : y = x
    · subst ey
      rw [turn_same]
      symm
      unfold isO
      rw [e1, show (((t * each + i : Nat) : Int) + 1 - 1).toNat = t * each + i by omega, nth_set (v := 0) (xs := out) (by omega), if_pos rfl]
      simp
    · rw [turn_other ey, h.oss y y0 y1]
      unfold isO
      rw [Bool.eq_iff_iff]
      simp only [decide_eq_true_eq]
      constructor
      · rintro ⟨a1, a2, a3, a4⟩
        have hne : (y % 4096 - 1).toNat ≠ t * each + i := fun e => ey (by rw [← a4, e, e3])
        refine ⟨a1, a2, ?_, ?_⟩
        · rw [nth_set (by omega), if_neg (fun e => hne e.symm)]; exact a3
        · rw [hkeep _ hne]; exact a4
      · rintro ⟨a1, a2, a3, a4⟩
        have hne : (y % 4096 - 1).toNat ≠ t * each + i := fun e => by
          rw [e, nth_set (by omega), if_pos rfl] at a3; omega
        refine ⟨a1, a2, ?_, ?_⟩
        · rw [nth_set (by omega), if_neg (fun e => hne e.symm)] at a3; exact a3
        · rw [hkeep _ hne] at a4; exact a4
  · rw [sumTo_set (by omega) 0 _ (by omega), if_pos (by omega), e2, ← h.cnt]
    omega
  · have hcase : q' ≠ t * each + i → nth (out.set (t * each + i) 0) q' = nth out q' := fun hne => by rw [nth_set (by omega), if_neg (fun e => hne e.symm)]
    by_cases es : s = t
    · subst es
      rw [upd_same] at hm
      rcases List.mem_append.1 hm with hm | hm
      · obtain ⟨b1, b2, b3⟩ := h.own s hs q' hm
        refine ⟨b1, b2, ?_⟩
        rw [hcase (fun e => hnot (e ▸ hm))]; exact b3
      · simp at hm
        subst hm
        refine ⟨by omega, by omega, ?_⟩
        rw [nth_set (by omega), if_pos rfl]
    · rw [upd_other es] at hm
      obtain ⟨b1, b2, b3⟩ := h.own s hs q' hm
      refine ⟨b1, b2, ?_⟩
      rw [hcase (fun e => by rw [e] at b3; omega)]; exact b3
  · by_cases es : s = t
    · subst es
      rw [upd_same]
      refine List.nodup_append.2 ⟨h.dup s hs, by simp, fun a ha b hb => ?_⟩
      simp at hb
      subst hb
      exact fun e => hnot (e ▸ ha)
    · rw [upd_other es]; exact h.dup s hs

/-- At first all are free, of generation 0. -/
def freeNew (each : Nat) : Nat → List Nat := fun t => (List.range each).map fun i => t * each + i
theorem nth_zeros (k q : Nat) : nth (List.replicate k 0) q = 0 := by
  simp [nth, List.getD_eq_getElem?_getD, List.getElem?_replicate]; split <;> rfl
theorem sumTo_zeros (N : Nat) : ∀ k, sumTo (List.replicate N 0) k = 0
  | 0 => rfl
  | k + 1 => by unfold sumTo; rw [sumTo_zeros N k, nth_zeros]; rfl
theorem same_new (n each : Nat) (hn : n ≤ 64) (he : each ≤ 8) : Same n each (freeNew each) (List.replicate (n * each) 0) (List.replicate (n * each) 0) (fun t => firsts t each each) (fun _ => false) 0 := by
  refine ⟨hn, he, by simp, by simp, fun q => by rw [nth_zeros]; omega, fun q => .inl (nth_zeros _ _), fun t ht => ?_, fun h h0 h1 => ?_, by rw [sumTo_zeros]; rfl, fun t ht q hq => ?_, fun t ht => ?_⟩
  · unfold firsts freeNew
    rw [List.map_map]
    refine List.map_congr_left fun i hi => ?_
    simp only [Function.comp, hdl, nth_zeros]
    omega
  · unfold isO
    simp [nth_zeros]
  · unfold freeNew at hq
    simp only [List.mem_map, List.mem_range] at hq
    obtain ⟨i, hi, rfl⟩ := hq
    exact ⟨by omega, by omega, nth_zeros _ _⟩
  · unfold freeNew
    exact List.Pairwise.map _ (fun a b hab e => hab (by omega)) List.nodup_range
end
end Go.Proofs.Yteeaminfhpcdmaa
