/- What the document's own Room, Put and Take of layer 3 return: contracts, for every list of strings, every room, every string. -/
import Derived.Test.YthclahiljfamoaaRingStrB
import Derived.Laws.AppendOwn
import Derived.Laws.AppendOwnNone
import Derived.Deep.AppendLies
namespace Go.Proofs.Ythclahiljfamoaa
open Go.ChangeShapes Go.WideShapes Go.ChangeAt Go.RowKit
open RStr

/-- Nothing, whatever slice it is of, put behind nothing: nothing. -/
theorem wpList_append_nothing {P : Program} {w : World} {ops : Array Oper} {rest : List Oper} {o : Oper} {a : Act} {Q : Exit → Act → World → Prop} (hgd : o.guard = none) (s x : Operand) (t : TypeId)
    (ho : o.op = .call { callee := .builtin .append, args := #[s, x], argTypes := #[t, t] }) (e : TypeId) (i : TypeInfo) (ht : P.underlying t = some (.slice e)) (hi : P.info? e = some i)
    (A : Option Addr) (c : Nat) (hs : a.eval s = .slice none 0 0) (hx : a.eval x = .slice A 0 c) (h : wpList P ops Q rest (a.put o.dst (.slice none 0 0)) w) : wpList P ops Q (o :: rest) a w := by
  have hrun : (Builtin.append_ #[t, t] o.type #[.slice none 0 0, .slice A 0 c]).run P w = .ok (.slice none 0 0) w := by
    cases A <;> simp [Builtin.append_, run_underlying ht, sizeOf, typeInfo, hi, Builtin.lenOf, Builtin.firstCells, loadCells, loadCellsFrom]
  refine wpList_plain hgd fun K hK => ?_
  unfold Oper.wp
  simp [execOp, ho, resolve, invoke, builtin, hs, hx, hrun, Result.andThen]
  exact hK _ _ h

/-- A slice of the strings xs: where there is one, they lie in block b, from some place on. -/
def Sl (w : World) (b : Nat) (A : Option Addr) (cap : Nat) (xs : List ByteArray) : Prop :=
  xs.length ≤ cap ∧ cap ≤ 9223372036854775807 ∧ (0 < xs.length → b < w.heap.size ∧ ∃ off, A = some ⟨b, off, none⟩ ∧ ∀ i, i < xs.length → w.cell? ⟨b, off + i, none⟩ = some (C (nthO ⟨#[]⟩ xs i)))
theorem Sl.nil (w : World) (b : Nat) (A : Option Addr) {cap : Nat} (h : cap ≤ 9223372036854775807) : Sl w b A cap [] := ⟨Nat.zero_le _, h, fun h => absurd h (by simp)⟩
section
variable {w w' : World} {b : Nat} {A : Option Addr} {cap : Nat} {xs : List ByteArray}
theorem Sl.kept {S : Nat → Prop} (h : Sl w b A cap xs) (k : Within w w' S) (hn : 0 < xs.length → ¬ S b) : Sl w' b A cap xs := by
  refine ⟨h.1, h.2.1, fun h0 => ?_⟩
  obtain ⟨hb, off, e, hc⟩ := h.2.2 h0
  exact ⟨Nat.lt_of_lt_of_le hb k.size, off, e, fun i hi => (World.cell?_of_block (k.block b hb (hn h0))).trans (hc i hi)⟩
theorem Sl.draws (h : Sl w b A cap xs) (n : Nat) : Sl (w.drewN n) b A cap xs := h
theorem Sl.of_own {base n : Nat} {v : Value} (h : w.ownsRow base 9 1 v n (xs.map C)) (hn : 0 < n) (hx : xs.length = n) : ∃ q cap, v = .slice (some ⟨q, 0, none⟩) xs.length cap ∧ Sl w q (some ⟨q, 0, none⟩) cap xs ∧ base ≤ q := by
  subst hx
  rcases h.2 with ⟨_, h0⟩ | ⟨g, cap, cur, rfl, hb, hg, hnc, hcm, hcs, htake⟩
  · omega
  · refine ⟨g, cap, rfl, ⟨hnc, hcm, fun _ => ⟨(Array.getElem?_eq_some_iff.1 hg).1, 0, rfl, fun i hi => ?_⟩⟩, hb⟩
    rw [Nat.zero_add, World.ownsRow.cellAt ⟨h.1, .inr ⟨g, cap, cur, rfl, hb, hg, hnc, hcm, hcs, htake⟩⟩ i (by omega), List.getElem?_map, nthO_get (z := ⟨#[]⟩) hi]
    rfl
end

theorem rRoom (x : Int) (w : World) : Calls Try.prog 15 #[.int .i64 x] w fun e w' => e = .returned (.int .i64 (held x)) ∧ w = w' := by
  rcases (show x < 0 ∨ 4096 < x ∨ (0 ≤ x ∧ x ≤ 4096) by omega) with h | h | h
  · have e : held x = 0 := by unfold held; rw [if_pos h]
    rw [e]
    clear e
    go_enter Try.func15, Try.ntmps15
    go_wp2
    go_ret
    exact ⟨rfl, rfl⟩
  · have e : held x = 4096 := by unfold held; rw [if_neg (by omega), if_pos h]
    rw [e]
    have h0 : ¬ x < 0 := by omega
    clear e
    go_enter Try.func15, Try.ntmps15
    go_wp2
    go_ret
    exact ⟨rfl, rfl⟩
  · have e : held x = x.toNat := by unfold held; rw [if_neg (by omega), if_neg (by omega)]
    rw [e]
    clear e
    obtain ⟨t, rfl⟩ := Int.eq_ofNat_of_zero_le h.1
    rw [Int.toNat_natCast]
    have h1 : ¬ (t : Int) < 0 := by omega
    have h2 : ¬ 4096 < (t : Int) := by omega
    go_enter Try.func15, Try.ntmps15
    go_wp2
    go_ret
    exact ⟨rfl, rfl⟩

/-- Behind the document's Take of a list that isn't empty. -/
def RTakePost (w : World) (b : Nat) (v : ByteArray) (xs : List ByteArray) (e : Ending) (w' : World) : Prop :=
  ∃ A cap m, e = .returned (.tuple #[.slice A xs.length cap, C v, .bool true]) ∧ w' = w.drewN m ∧ Sl w b A cap xs

section
variable {w : World} {b : Nat} {A : Option Addr} {cap : Nat} {xs : List ByteArray}
theorem rTake_no (A : Option Addr) (n cap : Nat) (hn : n = 0) : Calls Try.prog 8 #[.slice A n cap] w fun e w' => e = .returned (.tuple #[.slice A n cap, C ⟨#[]⟩, .bool false]) ∧ w = w' := by
  subst hn
  go_enter Try.func8, Try.ntmps8
  go_wp2
  go_ret3
  exact ⟨rfl, rfl⟩

theorem rTake {v : ByteArray} (h : Sl w b A cap (v :: xs)) : Calls Try.prog 8 #[.slice A (xs.length + 1) cap] w (RTakePost w b v xs) := by
  obtain ⟨h1, h2, h3⟩ := h
  simp only [List.length_cons] at h1
  obtain ⟨hb, off, rfl, hc⟩ := h3 (by simp)
  have hc0 := hc 0 (by simp)
  rw [Nat.add_zero] at hc0
  have hc0' : w.cell? ⟨b, off, none⟩ = some (C v) := hc0
  have HC := Lib.hid hc
  clear hc hc0 h3
  by_cases hcap : cap = 1
  · have e : xs = [] := List.eq_nil_of_length_eq_zero (by omega)
    subst e
    subst hcap
    go_enter Try.func8, Try.ntmps8
    go_wp2
    go_quiet (fail)
    go_wp2
    go_ret3
    exact ⟨_, _, _, rfl, rfl, Sl.nil _ _ _ (by omega)⟩
  · have hs : Sl w b (some ⟨b, off + 1, none⟩) (cap - 1) xs := ⟨by omega, by omega, fun _ => ⟨hb, off + 1, rfl, fun i hi => by
      have := HC.out (i + 1) (by simp; omega)
      rw [show off + 1 + i = off + (i + 1) by omega, this]; rfl⟩⟩
    have t1 : ((xs.length : Int) + 1 == 0) = false := by simp; omega
    have b1 : (1 : Int) ≤ (xs.length : Int) + 1 := by omega
    have b2 : (xs.length : Int) + 1 ≤ cap := by omega
    go_enter Try.func8, Try.ntmps8
    go_wp2
    go_quiet (fail)
    go_wp2
    go_ret3
    exact ⟨_, _, _, rfl, rfl, hs⟩

/-- Behind the document's Put where there is room: a list of its own. -/
def RPutPost (w : World) (ys : List ByteArray) (e : Ending) (w' : World) : Prop :=
  ∃ q A cap, e = .returned (.tuple #[.slice A ys.length cap, .bool true]) ∧ Sl w' q A cap ys ∧ w.heap.size ≤ q ∧ w.grownBy w' none

theorem rPut_no (A : Option Addr) (n cap : Nat) (x : Int) (v : ByteArray) (hr : held x ≤ n) :
    Calls Try.prog 10 #[.slice A n cap, .int .i64 x, C v] w fun e w' => e = .returned (.tuple #[.slice A n cap, .bool false]) ∧ w = w' := by
  go_enter Try.func10, Try.ntmps10
  go_wp2_with fail
  refine (rRoom x w).mono ?_
  rintro e w1 ⟨rfl, rfl⟩
  generalize held x = r at hr ⊢
  go_wp2
  go_ret2
  exact ⟨rfl, rfl⟩

theorem rPut_first (A : Option Addr) (cap : Nat) (x : Int) (v : ByteArray) (hr : 0 < held x) :
    Calls Try.prog 10 #[.slice A 0 cap, .int .i64 x, C v] w (RPutPost w [v]) := by
  obtain ⟨i0, hi0, hz0, hz1, hz2⟩ := info_parts tinfo
  go_enter Try.func10, Try.ntmps10
  go_wp2_with fail
  refine (rRoom x w).mono ?_
  rintro e w1 ⟨rfl, rfl⟩
  generalize held x = r at hr ⊢
  go_wp2_with (first
    | (at_builtin; refine wpList_append_nothing rfl (.tmp 15) (.tmp 16) _ rfl 9 i0 Try.underlying26 hi0 A cap rfl rfl ?_)
    | (at_builtin; refine wpList_append_own _ rfl (.tmp 18) (.tmp 20) _ rfl w.heap.size 9 i0 _ 1 16 Try.underlying26 hi0 hz0 hz1 hz2 rfl (by omega) (.slice none 0 0) 0 [] rfl (World.ownsRow_nil _ _ _ _) ⟨w.heap.size, 0, none⟩ 1 1 [C v] rfl rfl (World.news_of_block (Bk.made w 9 #[C v])) (by intro u hu; simp at hu; subst hu; rfl) (by simp only [maxLen]; omega) (by omega) (by simp) ?_))
  intro v' w1 hown hgr _
  obtain ⟨q1, c1, rfl, h1, hq1⟩ := Sl.of_own (n := 1) (xs := [v]) (by simpa using hown) (by omega) rfl
  have hg1 : w.grownBy w1 none := grown_then (grown_made w _ none) hgr (.inl rfl)
  clear hown hgr hi0 hz0 hz1 hz2
  go_wp2
  go_ret2
  exact ⟨q1, _, c1, rfl, h1, hq1, hg1⟩

theorem rPut (h : Sl w b A cap xs) (h0 : 0 < xs.length) (x : Int) (v : ByteArray) (hr : xs.length < held x) (hn : xs.length ≤ 4096) :
    Calls Try.prog 10 #[.slice A xs.length cap, .int .i64 x, C v] w (RPutPost w (xs ++ [v])) := by
  obtain ⟨i0, hi0, hz0, hz1, hz2⟩ := info_parts tinfo
  obtain ⟨hb, off, rfl, hc⟩ := h.2.2 h0
  have hnews : ∀ j u, (xs.map C)[j]? = some u → w.cell? ((⟨b, off, none⟩ : Addr).add j) = some u := by
    intro j u hj
    have hj' : j < xs.length := by have := (List.getElem?_eq_some_iff.1 hj).1; simpa using this
    rw [List.getElem?_map, nthO_get (z := ⟨#[]⟩) hj'] at hj
    have e : (⟨b, off, none⟩ : Addr).add j = ⟨b, off + j, none⟩ := by unfold Addr.add; split <;> simp_all
    rw [e, hc j hj', ← hj]; rfl
  have HN := Lib.hid hnews
  clear hnews hc
  go_enter Try.func10, Try.ntmps10
  go_wp2_with fail
  refine (rRoom x w).mono ?_
  rintro e w1 ⟨rfl, rfl⟩
  generalize held x = r at hr ⊢
  go_wp2_with (at_builtin; refine wpList_append_own _ rfl (.tmp 15) (.tmp 16) _ rfl w.heap.size 9 i0 _ 1 16 Try.underlying26 hi0 hz0 hz1 hz2 rfl (by omega) (.slice none 0 0) 0 [] rfl (World.ownsRow_nil _ _ _ _) ⟨b, off, none⟩ xs.length cap (xs.map C) rfl (by simp) HN.out (by intro u hu; simp at hu; obtain ⟨x, _, rfl⟩ := hu; rfl) (by simp only [maxLen]; omega) (by omega) (Nat.le_refl _) ?_)
  intro v1 w1 hown1 hgr1 _
  have hg1 : w.grownBy w1 none := hgr1
  have hs1 := hg1.size
  obtain ⟨g1, cap1, rfl, hg1b, hg1l⟩ := hown1.form h0
  have hown2 : (w1.alloc (.cells #[C v] 9)).ownsRow w.heap.size 9 1 (.slice (some ⟨g1, 0, none⟩) xs.length cap1) xs.length (xs.map C) := World.ownsRow.kept hown1 (grown_made _ _ none) (.inr (by simp [Value.ownBlock]))
  clear hgr1 HN
  go_wp2_with (at_builtin; refine wpList_append_own _ rfl (.tmp 18) (.tmp 20) _ rfl w.heap.size 9 i0 _ 1 16 Try.underlying26 hi0 hz0 hz1 hz2 rfl (by omega) (.slice (some ⟨g1, 0, none⟩) xs.length cap1) xs.length (xs.map C) rfl hown2 ⟨w1.heap.size, 0, none⟩ 1 1 [C v] rfl rfl (World.news_of_block (Bk.made w1 9 #[C v])) (by intro u hu; simp at hu; subst hu; rfl) (by simp only [maxLen]; omega) (by omega) (by simp; omega) ?_)
  intro v2 w2 hown3 hgr3 _
  have hg2 : w.grownBy w2 none := grown_then (grown_then hg1 (grown_made w1 _ none) (.inl rfl)) hgr3 (.inr fun x e => by simp [Value.ownBlock] at e; omega)
  obtain ⟨q2, c2, rfl, h2, hq2⟩ := Sl.of_own (n := xs.length + 1) (xs := xs ++ [v]) (by simpa using hown3) (by omega) (by simp)
  clear hown1 hown2 hown3 hgr3 hi0 hz0 hz1 hz2
  go_wp2
  go_ret2
  exact ⟨q2, _, c2, by simp, h2, hq2, hg2⟩
theorem rPut_any (h : Sl w b A cap xs) (x : Int) (v : ByteArray) (hr : xs.length < held x) (hn : xs.length ≤ 4096) :
    Calls Try.prog 10 #[.slice A xs.length cap, .int .i64 x, C v] w (RPutPost w (xs ++ [v])) := by
  cases xs with
  | nil => exact rPut_first A cap x v hr
  | cons y ys => exact rPut h (by simp) x v hr hn
end
end Go.Proofs.Ythclahiljfamoaa
