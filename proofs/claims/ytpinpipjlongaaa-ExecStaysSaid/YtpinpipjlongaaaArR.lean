/- The document's own answers for layer 9: all cells in a row, and where one of them stands. -/
import Derived.Test.YtpinpipjlongaaaArA
import Derived.Deep.DeepCutAuto
import Derived.Deep.CutBlock
namespace Go.Proofs.Ytpinpipjlongaaa
set_option maxRecDepth 100000
open Go.ChangeShapes Go.WideShapes Go.ChangeAt Go.RowKit
set_option linter.unusedVariables false

theorem celInfo : (Try.prog.info? 86).map (fun i => (i.zero, i.size, i.bytes)) = some (some (.agg #[.int .i64 0, .int .i64 0]), 2, 16) := by kernel_rfl
theorem celC_one (c : Nat × Nat) : ∀ u ∈ celC c, u.oneCell' = true := by
  intro u hu
  simp [celC] at hu
  rcases hu with rfl | rfl <;> rfl

/-- The value v is a slice of just these cells, in a row of its own, made since base (or nil). -/
def Cs (base : Nat) (w : World) (v : Value) (l : List (Nat × Nat)) : Prop := w.ownsRow base 86 2 v l.length (celsC l)
section
variable {base : Nat} {w w' : World} {v : Value} {l : List (Nat × Nat)}
theorem Cs.nil (base : Nat) (w : World) : Cs base w (.slice none 0 0) [] := World.ownsRow_nil _ _ _ _
theorem Cs.within {S : Nat → Prop} (h : Cs base w v l) (hk : Within w w' S) (hn : ∀ g, v.ownBlock = some g → ¬ S g) : Cs base w' v l := own_within h hk hn
theorem Cs.grown (h : Cs base w v l) (hg : w.grownBy w' none) : Cs base w' v l := own_within h (.of_grown (S := fun _ => False) hg (by simp)) (by simp)
theorem Cs.lt (h : Cs base w v l) {g : Nat} (e : v.ownBlock = some g) : base ≤ g ∧ g < w.heap.size := World.ownsRow.lt h g e
theorem Cs.only {t : TypeId} {g : Nat} {cs : Array Value} (h : Cs base w v l) (hg : Only w w' g) (hb : Bk w g t cs) (ht : t ≠ 86) : Cs base w' v l :=
  own_within h (.of_grown (S := fun b => b = g) hg (by simp)) (fun b e e2 => by
    obtain ⟨cs', hcs⟩ := own_bk h e
    subst e2
    exact hb.unlike hcs ht rfl)
theorem Cs.is (h : Cs base w v l) : ∃ a cap, v = .slice a l.length cap ∧ l.length ≤ cap ∧ cap ≤ maxLen ∧ (0 < l.length → ∃ g, a = some ⟨g, 0, none⟩ ∧ v.ownBlock = some g ∧ base ≤ g ∧ g < w.heap.size ∧ (∀ i, w.frozen? ⟨g, i, none⟩ = false) ∧ ∀ i c, l[i]? = some c → w.cell? ⟨g, i * 2, none⟩ = some (.int .i64 c.1) ∧ w.cell? ⟨g, i * 2 + 1, none⟩ = some (.int .i64 c.2)) := by
  obtain ⟨a, cap, e, h1, h2, h3⟩ := own_is h
  refine ⟨a, cap, e, h1, h2, fun h0 => ?_⟩
  obtain ⟨g, e1, e2, e3, e4, e5, e6⟩ := h3 h0
  refine ⟨g, e1, e2, e3, e4, e5, fun i c hi => ?_⟩
  have hlt : i < l.length := (List.getElem?_eq_some_iff.1 hi).1
  obtain ⟨q1, q2⟩ := celsC_at l i c hi
  rw [e6 _ (by omega), e6 _ (by omega), q1, q2]
  exact ⟨rfl, rfl⟩
end

/-- What Cells returns. -/
def CellsPost (w : World) (zs : List Int) (e : Ending) (w' : World) : Prop :=
  w.grownBy w' none ∧ ((RightZ zs ∧ ∃ v, e = .returned (.tuple #[v, .bool (decide ((tot zs : Int) ≤ 8192))]) ∧ Cs w.heap.size w' v (cels zs)) ∨ (¬ RightZ zs ∧ e = .returned (.tuple #[.slice none 0 0, .bool false])))

theorem pre_few {zs : List Int} : ∀ k, (∀ i, i < k → 0 ≤ nth zs i ∧ nth zs i ≤ 4096) → pre zs k ≤ 4096 * k
  | 0, _ => Nat.le_refl _
  | k + 1, h => by
    have h1 := pre_few k fun i hi => h i (by omega)
    have h2 := h k (by omega)
    rw [pre_succ]; unfold sz; omega

theorem own_grow {a b c : World} {v : Value} {base : Nat} {l : List (Nat × Nat)} (h : a.grownBy b none) (k : b.grownBy c v.ownBlock) (hv : Cs a.heap.size b v l) : a.grownBy c none :=
  grown_then h k (.inr fun x e => (hv.lt e).1)

theorem cs_next {w wr : World} {o : Value} {zs : List Int} {k i : Nat} (ho : Cs w.heap.size wr o (celPart zs k i)) (hg : w.grownBy wr none) (w' : World) (v' : Value) (h1 : w'.ownsRow w.heap.size 86 2 v' ((celPart zs k i).length + 1) (celsC (celPart zs k i) ++ celC (k, i)))
    (h2 : (wr.alloc (.cells #[.int .i64 k, .int .i64 i] 86)).grownBy w' o.ownBlock) : Cs w.heap.size w' v' (celPart zs k (i + 1)) ∧ w.grownBy w' none := by
  constructor
  · unfold Cs
    rw [celPart_next, celsC_snoc, List.length_append]
    exact h1
  · exact grown_then (grown_then hg (grown_made _ _ none) (.inl rfl)) h2 (.inr fun x e => (ho.lt e).1)

set_option maxHeartbeats 1000000 in
theorem rCells {w : World} {a : Option Addr} {zs : List Int} (h : Given .i64 w a zs) (hm : zs.length ≤ maxLen) (cap : Nat) :
    Calls Try.prog 13 #[.slice a zs.length cap] w (CellsPost w zs) := by
  unfold maxLen at hm
  by_cases h8 : 8 < zs.length
  · go_enter Try.func13, Try.ntmps13
    go_wp2
    go_ret2
    exact ⟨grown_refl _ _, .inr ⟨fun hz => by have := hz.1; omega, rfl⟩⟩
  go_enter Try.func13, Try.ntmps13
  go_wp2
  go_loopw [4, 13] (fun o t wr => ∃ k : Nat, k ≤ zs.length ∧ t = .int .i64 k ∧ Hid (∀ i, i < k → 0 ≤ nth zs i ∧ nth zs i ≤ 4096) ∧ Cs w.heap.size wr o (celTo zs k) ∧ w.grownBy wr none) (fun _ t _ => zs.length - (intOf t).toNat)
  case atStart => exact ⟨0, Nat.zero_le _, rfl, Lib.hid (fun i hi => by omega), Cs.nil _ _, grown_refl _ _⟩
  case round =>
    obtain ⟨k, hk, rfl, HA, ho, hg⟩ := hrel
    by_cases hlt : k < zs.length
    · obtain ⟨b, off, rfl, hc⟩ := (h.grown hg).here hlt
      rcases (show nth zs k < 0 ∨ (0 ≤ nth zs k ∧ 4096 < nth zs k) ∨ (0 ≤ nth zs k ∧ nth zs k ≤ 4096) by omega) with h1 | h1 | h1
      · go_wp2
        go_ret2
        exact ⟨hg, .inr ⟨fun hz => by have := hz.2 k hlt; omega, rfl⟩⟩
      · go_wp2
        go_ret2
        exact ⟨hg, .inr ⟨fun hz => by have := hz.2 k hlt; omega, rfl⟩⟩
      · obtain ⟨n, hn⟩ : ∃ n, sz zs k = n := ⟨_, rfl⟩
        have hzn : nth zs k = (n : Int) := by unfold sz at hn; omega
        have hn4 : n ≤ 4096 := by omega
        rw [hzn] at hc
        have HZ := Lib.hid hzn
        have HN := Lib.hid hn
        have hpk := pre_few k HA.out
        have HP : Hid (pre zs k ≤ 40000) := Lib.hid (by omega)
        rw [← celPart_0] at ho
        clear h1 hzn hn hpk
        go_wp2
        go_loopw [4, 7] (fun o t wr => ∃ i : Nat, i ≤ n ∧ t = .int .i64 i ∧ Cs w.heap.size wr o (celPart zs k i) ∧ w.grownBy wr none) (fun _ t _ => n - (intOf t).toNat)
        case atStart => exact ⟨0, Nat.zero_le _, rfl, ho, hg⟩
        case round =>
          clear ho hg hc
          obtain ⟨i, hi, rfl, ho, hg⟩ := hrel
          by_cases hin : i < n
          · have HO := Lib.hid (World.ownsRow.alloc ho (.cells #[.int .i64 k, .int .i64 i] 86))
            have HNW : Hid (∀ (j : Nat) (u : Value), (celC (k, i))[j]? = some u → (wr.alloc (.cells #[.int .i64 k, .int .i64 i] 86)).cell? ((⟨wr.heap.size, 0, none⟩ : Addr).add j) = some u) := Lib.hid (news_bk (Bk.made wr 86 #[.int .i64 k, .int .i64 i]))
            have HBS : Hid (w.heap.size ≤ (wr.alloc (.cells #[.int .i64 k, .int .i64 i] 86)).heap.size) := Lib.hid (by rw [World.size_alloc]; have := hg.size; omega)
            have HL : Hid ((celPart zs k i).length < 100000) := Lib.hid (by rw [celPart_len]; have := HP.out; omega)
            have HEND := Lib.hid (cs_next (k := k) (i := i) ho hg)
            clear ho hg
            go_wp2_with (at_builtin; refine wpOwn rfl _ _ 57 rfl _ 16 Try.underlying57 celInfo rfl (by omega) (by omega) HO.out rfl (celC (k, i)) rfl (celC_one _) wr.heap.size rfl HNW.out HL.out HBS.out ?_; intro v' w' hown hgr hloc)
            obtain ⟨s1, s2⟩ := HEND.out _ _ hown hgr
            go_roundw
            case rel => exact ⟨i + 1, by omega, by go_num, s1, s2⟩
            case measure => simp [intOf]; omega
          · obtain rfl : i = n := by omega
            rw [← HN.out, celPart_all] at ho
            go_wp2
            go_roundw
            case rel =>
              refine ⟨k + 1, by omega, by go_num, Lib.hid fun j hj => ?_, ho, hg⟩
              by_cases e : j = k
              · subst e; have := HZ.out; omega
              · exact HA.out j (by omega)
            case measure => simp [intOf]; omega
    · obtain rfl : k = zs.length := by omega
      have hz : RightZ zs := ⟨by omega, HA.out⟩
      obtain ⟨oa, oc, rfl, _, hoc, _⟩ := ho.is
      rw [show celTo zs zs.length = cels zs from rfl, cels_len] at *
      have ht := tot_le hz
      go_wp2
      go_ret2
      exact ⟨hg, .inl ⟨hz, _, rfl, ho⟩⟩

section
variable {base : Nat} {w : World} {v : Value} {zs : List Int}
end
end Go.Proofs.Ytpinpipjlongaaa
