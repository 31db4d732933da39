/- What told, awake (of the statements of layer 2) and the document's own Do return: contracts, for every list of words, every access of an address that there is. -/
import Derived.Test.YtplfcfijopdmfaaCell
namespace Go.Proofs.Ytplfcfijopdmfaa
open Go.ChangeShapes Go.WideShapes Go.ChangeAt Go.RowKit

/-- What an access leaves, and what it tells. -/
def leaves (k : Int) (a : Nat) (o v : Int) (xs : List Int) : List Int :=
  if k = 1 then xs else if k = 2 then xs.set a v else if k = 3 then xs.set a v else if k = 4 then (if nth xs a = o then xs.set a v else xs) else xs.set a (two32 (nth xs a + v))
def tells (k : Int) (a : Nat) (o : Int) (xs : List Int) : Int :=
  if k = 1 then nth xs a else if k = 2 then 0 else if k = 3 then nth xs a else if k = 4 then (if nth xs a = o then 1 else 0) else nth xs a

def opv (k a o v : Int) : Value := .agg #[.int .i64 k, .int .i64 a, .int .u32 o, .int .u32 v]

theorem lAwake (w : World) : Calls Try.prog 6 #[] w fun e w' => e = .returned (.bool true) ∧ w.grownBy w' none := by
  go_enter Try.func6, Try.ntmps6
  go_wp2_with fail
  refine (cNew 1 (by omega) w).mono ?_
  rintro e w1 ⟨p, g, rfl, hc, hp, hg, hw1⟩
  go_wp2_with fail
  refine (cStore hc 0 (by simp) 3 (by omega)).mono ?_
  rintro e w2 ⟨rfl, hc2, hw2⟩
  go_wp2_with fail
  refine (cAdd hc2 0 (by simp) 4294967295 (by omega)).mono ?_
  rintro e w3 ⟨rfl, hc3, hw3⟩
  go_wp2_with fail
  refine (cLoad hc3 0 (by simp)).mono ?_
  rintro e w4 ⟨rfl, rfl⟩
  go_wp2
  go_ret
  refine ⟨rfl, grown_then (grown_then hw1 hw2 (.inr fun x e => by injection e with e; omega)) hw3 (.inr fun x e => by injection e with e; omega)⟩

section
variable {w : World} {p g : Nat} {xs : List Int}
theorem lTold (h : Cel w p g xs) (k : Int) (a : Nat) (o v : Int) (hk : 1 ≤ k ∧ k ≤ 5) (ha : a < xs.length) (hv : 0 ≤ v ∧ v < 4294967296) :
    Calls Try.prog 10 #[.pointer (some ⟨p, 0, none⟩), opv k a o v] w (Did w p g (.int .u32 (tells k a o xs)) (leaves k a o v xs)) := by
  have hf := h.few
  unfold opv
  rcases (show k = 1 ∨ k = 2 ∨ k = 3 ∨ k = 4 ∨ k = 5 by omega) with rfl | rfl | rfl | rfl | rfl
  · have h1 := h.alloc (.cells #[.int .i64 1, .int .i64 a, .int .u32 o, .int .u32 v] 32)
    go_enter Try.func10, Try.ntmps10
    go_wp2_with fail
    refine (cLoad h1 a ha).mono ?_
    rintro e w1 ⟨rfl, rfl⟩
    go_wp2
    go_ret
    exact ⟨rfl, h1, grown_made _ _ _⟩
  · have h1 := h.alloc (.cells #[.int .i64 2, .int .i64 a, .int .u32 o, .int .u32 v] 32)
    go_enter Try.func10, Try.ntmps10
    go_wp2_with fail
    refine (cStore h1 a ha v hv).mono ?_
    rintro e w1 ⟨rfl, h2, hw⟩
    go_wp2
    go_ret
    exact ⟨rfl, h2, grown_then (grown_made _ _ _) hw (.inl rfl)⟩
  · have h1 := h.alloc (.cells #[.int .i64 3, .int .i64 a, .int .u32 o, .int .u32 v] 32)
    go_enter Try.func10, Try.ntmps10
    go_wp2_with fail
    refine (cSwap h1 a ha v hv).mono ?_
    rintro e w1 ⟨rfl, h2, hw⟩
    go_wp2
    go_ret
    exact ⟨rfl, h2, grown_then (grown_made _ _ _) hw (.inl rfl)⟩
  · by_cases ho : nth xs a = o
    · have e1 : tells 4 a o xs = 1 := by simp [tells, ho]
      have e2 : leaves 4 a o v xs = xs.set a v := by simp [leaves, ho]
      rw [e1, e2]
      subst ho
      clear e1 e2
      have h1 := h.alloc (.cells #[.int .i64 4, .int .i64 a, .int .u32 (nth xs a), .int .u32 v] 32)
      go_enter Try.func10, Try.ntmps10
      go_wp2_with fail
      refine (cCasHit h1 a ha v hv).mono ?_
      rintro e w1 ⟨rfl, h2, hw⟩
      go_wp2
      go_ret
      exact ⟨rfl, h2, grown_then (grown_made _ _ _) hw (.inl rfl)⟩
    · have e1 : tells 4 a o xs = 0 := by simp [tells, ho]
      have e2 : leaves 4 a o v xs = xs := by simp [leaves, ho]
      rw [e1, e2]
      clear e1 e2
      have h1 := h.alloc (.cells #[.int .i64 4, .int .i64 a, .int .u32 o, .int .u32 v] 32)
      go_enter Try.func10, Try.ntmps10
      go_wp2_with fail
      refine (cCasMiss h1 a ha o v ho).mono ?_
      rintro e w1 ⟨rfl, h2, hw⟩
      go_wp2
      go_ret
      exact ⟨rfl, h2, grown_then (grown_made _ _ _) hw (.inl rfl)⟩
  · have h1 := h.alloc (.cells #[.int .i64 5, .int .i64 a, .int .u32 o, .int .u32 v] 32)
    go_enter Try.func10, Try.ntmps10
    go_wp2_with fail
    refine (cAdd h1 a ha v hv).mono ?_
    rintro e w1 ⟨rfl, h2, hw⟩
    go_wp2
    go_ret
    exact ⟨rfl, h2, grown_then (grown_made _ _ _) hw (.inl rfl)⟩
end

/-- What the document's Do returns: words of their own, and what is told. -/
def DoPost (w : World) (ys : List Int) (t : Int) (e : Ending) (w' : World) : Prop :=
  ∃ q cap, e = .returned (.tuple #[.slice (some ⟨q, 0, none⟩) ys.length cap, .int .u32 t]) ∧ Wds w' q cap ys ∧ w.heap.size ≤ q ∧ w.grownBy w' none

theorem rDo {w : World} {q cap : Nat} {xs : List Int} (h : Wds w q cap xs) (k : Int) (a : Nat) (o v : Int) (hk : 1 ≤ k ∧ k ≤ 5) (ha : a < xs.length) (hx : U32s xs) (hn : xs.length ≤ 8192) :
    Calls Try.prog 9 #[.slice (some ⟨q, 0, none⟩) xs.length cap, .int .i64 k, .int .i64 a, .int .u32 o, .int .u32 v] w (DoPost w (leaves k a o v xs) (tells k a o xs)) := by
  obtain ⟨i0, hi0, hz0, hz1, hz2⟩ := info_parts u32info
  have hxa := hx.at_ a
  have hnews : ∀ j u, (xs.map (Value.int .u32))[j]? = some u → w.cell? ((⟨q, 0, none⟩ : Addr).add j) = some u := by
    intro j u hj
    have hj' : j < xs.length := by have := (List.getElem?_eq_some_iff.1 hj).1; simpa using this
    rw [List.getElem?_map, nth_get hj'] at hj
    have e : (⟨q, 0, none⟩ : Addr).add j = ⟨q, j, none⟩ := by unfold Addr.add; split <;> simp_all
    rw [e, h.at_ hj', ← hj]; rfl
  have HN := Lib.hid hnews
  clear hnews
  rcases (show k = 1 ∨ k = 2 ∨ k = 3 ∨ k = 4 ∨ k = 5 by omega) with rfl | rfl | rfl | rfl | rfl
  · go_enter Try.func9, Try.ntmps9
    go_wp2_with (at_builtin; refine wpList_append_own _ rfl (.tmp 14) (.tmp 15) _ rfl w.heap.size 30 i0 _ 1 4 Try.underlying29 hi0 hz0 hz1 hz2 rfl (by omega) (.slice none 0 0) 0 [] rfl (World.ownsRow_nil _ _ _ _) ⟨q, 0, none⟩ xs.length cap (xs.map (Value.int .u32)) rfl (by simp) HN.out (by intro u hu; simp at hu; obtain ⟨x, _, rfl⟩ := hu; rfl) (by simp only [maxLen]; omega) (by omega) (Nat.le_refl _) ?_)
    intro v' w1 hown hgr _
    obtain ⟨q1, c1, rfl, h1, hq1⟩ := Wds.of_own (xs := xs) (by simpa using hown) (by omega)
    have hg1 : w.grownBy w1 none := hgr
    clear hown hgr hi0 hz0 hz1 hz2
    have hc := h1.at_ ha
    have hz := h1.free a
    go_wp2
    go_ret2
    exact ⟨q1, c1, rfl, h1, hq1, hg1⟩
  · go_enter Try.func9, Try.ntmps9
    go_wp2_with (at_builtin; refine wpList_append_own _ rfl (.tmp 14) (.tmp 15) _ rfl w.heap.size 30 i0 _ 1 4 Try.underlying29 hi0 hz0 hz1 hz2 rfl (by omega) (.slice none 0 0) 0 [] rfl (World.ownsRow_nil _ _ _ _) ⟨q, 0, none⟩ xs.length cap (xs.map (Value.int .u32)) rfl (by simp) HN.out (by intro u hu; simp at hu; obtain ⟨x, _, rfl⟩ := hu; rfl) (by simp only [maxLen]; omega) (by omega) (Nat.le_refl _) ?_)
    intro v' w1 hown hgr _
    obtain ⟨q1, c1, rfl, h1, hq1⟩ := Wds.of_own (xs := xs) (by simpa using hown) (by omega)
    have hg1 : w.grownBy w1 none := hgr
    clear hown hgr hi0 hz0 hz1 hz2
    have hc := h1.at_ ha
    have hz := h1.free a
    go_wp2
    go_ret2
    have hp := h1.put a v
    refine ⟨q1, c1, ?_, hp, hq1, grown_then hg1 (only_put _ _ _ _) (.inr fun x e => by injection e with e; omega)⟩
    simp [leaves, tells]
  · go_enter Try.func9, Try.ntmps9
    go_wp2_with (at_builtin; refine wpList_append_own _ rfl (.tmp 14) (.tmp 15) _ rfl w.heap.size 30 i0 _ 1 4 Try.underlying29 hi0 hz0 hz1 hz2 rfl (by omega) (.slice none 0 0) 0 [] rfl (World.ownsRow_nil _ _ _ _) ⟨q, 0, none⟩ xs.length cap (xs.map (Value.int .u32)) rfl (by simp) HN.out (by intro u hu; simp at hu; obtain ⟨x, _, rfl⟩ := hu; rfl) (by simp only [maxLen]; omega) (by omega) (Nat.le_refl _) ?_)
    intro v' w1 hown hgr _
    obtain ⟨q1, c1, rfl, h1, hq1⟩ := Wds.of_own (xs := xs) (by simpa using hown) (by omega)
    have hg1 : w.grownBy w1 none := hgr
    clear hown hgr hi0 hz0 hz1 hz2
    have hc := h1.at_ ha
    have hz := h1.free a
    go_wp2
    go_ret2
    have hp := h1.put a v
    refine ⟨q1, c1, ?_, hp, hq1, grown_then hg1 (only_put _ _ _ _) (.inr fun x e => by injection e with e; omega)⟩
    simp [leaves, tells]
  · by_cases ho : nth xs a = o
    · have e1 : tells 4 a o xs = 1 := by simp [tells, ho]
      have e2 : leaves 4 a o v xs = xs.set a v := by simp [leaves, ho]
      rw [e1, e2]
      subst ho
      clear e1 e2
      go_enter Try.func9, Try.ntmps9
      go_wp2_with (at_builtin; refine wpList_append_own _ rfl (.tmp 14) (.tmp 15) _ rfl w.heap.size 30 i0 _ 1 4 Try.underlying29 hi0 hz0 hz1 hz2 rfl (by omega) (.slice none 0 0) 0 [] rfl (World.ownsRow_nil _ _ _ _) ⟨q, 0, none⟩ xs.length cap (xs.map (Value.int .u32)) rfl (by simp) HN.out (by intro u hu; simp at hu; obtain ⟨x, _, rfl⟩ := hu; rfl) (by simp only [maxLen]; omega) (by omega) (Nat.le_refl _) ?_)
      intro v' w1 hown hgr _
      obtain ⟨q1, c1, rfl, h1, hq1⟩ := Wds.of_own (xs := xs) (by simpa using hown) (by omega)
      have hg1 : w.grownBy w1 none := hgr
      clear hown hgr hi0 hz0 hz1 hz2
      have hc := h1.at_ ha
      have hz := h1.free a
      go_wp2
      go_ret2
      have hp := h1.put a v
      refine ⟨q1, c1, ?_, hp, hq1, grown_then hg1 (only_put _ _ _ _) (.inr fun x e => by injection e with e; omega)⟩
      simp
    · have e1 : tells 4 a o xs = 0 := by simp [tells, ho]
      have e2 : leaves 4 a o v xs = xs := by simp [leaves, ho]
      rw [e1, e2]
      clear e1 e2
      have ho' : (nth xs a != o) = true := by simp [ho]
      go_enter Try.func9, Try.ntmps9
      go_wp2_with (at_builtin; refine wpList_append_own _ rfl (.tmp 14) (.tmp 15) _ rfl w.heap.size 30 i0 _ 1 4 Try.underlying29 hi0 hz0 hz1 hz2 rfl (by omega) (.slice none 0 0) 0 [] rfl (World.ownsRow_nil _ _ _ _) ⟨q, 0, none⟩ xs.length cap (xs.map (Value.int .u32)) rfl (by simp) HN.out (by intro u hu; simp at hu; obtain ⟨x, _, rfl⟩ := hu; rfl) (by simp only [maxLen]; omega) (by omega) (Nat.le_refl _) ?_)
      intro v' w1 hown hgr _
      obtain ⟨q1, c1, rfl, h1, hq1⟩ := Wds.of_own (xs := xs) (by simpa using hown) (by omega)
      have hg1 : w.grownBy w1 none := hgr
      clear hown hgr hi0 hz0 hz1 hz2
      have hc := h1.at_ ha
      have hz := h1.free a
      go_wp2
      go_ret2
      exact ⟨q1, c1, rfl, h1, hq1, hg1⟩
  · have hb := two32_b (nth xs a + v)
    have hw32 : (nth xs a + v) % 4294967296 = two32 (nth xs a + v) := rfl
    go_enter Try.func9, Try.ntmps9
    go_wp2_with (at_builtin; refine wpList_append_own _ rfl (.tmp 14) (.tmp 15) _ rfl w.heap.size 30 i0 _ 1 4 Try.underlying29 hi0 hz0 hz1 hz2 rfl (by omega) (.slice none 0 0) 0 [] rfl (World.ownsRow_nil _ _ _ _) ⟨q, 0, none⟩ xs.length cap (xs.map (Value.int .u32)) rfl (by simp) HN.out (by intro u hu; simp at hu; obtain ⟨x, _, rfl⟩ := hu; rfl) (by simp only [maxLen]; omega) (by omega) (Nat.le_refl _) ?_)
    intro v' w1 hown hgr _
    obtain ⟨q1, c1, rfl, h1, hq1⟩ := Wds.of_own (xs := xs) (by simpa using hown) (by omega)
    have hg1 : w.grownBy w1 none := hgr
    clear hown hgr hi0 hz0 hz1 hz2
    have hc := h1.at_ ha
    have hz := h1.free a
    go_wp2
    go_ret2
    have hp := h1.put a (two32 (nth xs a + v))
    refine ⟨q1, c1, ?_, hp, hq1, grown_then hg1 (only_put _ _ _ _) (.inr fun x e => by injection e with e; omega)⟩
    simp [leaves, tells]
end Go.Proofs.Ytplfcfijopdmfaa
