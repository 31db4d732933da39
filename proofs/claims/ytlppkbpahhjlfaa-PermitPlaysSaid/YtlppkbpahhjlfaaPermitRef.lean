/- What the document's own Set of layer 4 returns: contracts, for every list of ints, every place, every int. -/
import Derived.Test.YtlppkbpahhjlfaaInts
import Derived.Laws.AppendOwn
import Derived.BigQuiet
namespace Go.Proofs.Ytlppkbpahhjlfaa
open Go.ChangeShapes Go.WideShapes Go.ChangeAt Go.RowKit

section
variable {w w' : World} {q cap : Nat} {xs : List Int}
theorem rSetNo (A : Option Addr) (n cap : Nat) (t to : Int) (hn : n ≤ 64) (ht : t < 0 ∨ n ≤ t) :
    Calls Try.prog 8 #[.slice A n cap, .int .i64 t, .int .i64 to] w fun e w' => e = .returned (.tuple #[.slice A n cap, .int .i64 0, .bool false]) ∧ w = w' := by
  rcases ht with ht | ht
  · go_enter Try.func8, Try.ntmps8
    go_wp2
    go_ret3
    exact ⟨rfl, rfl⟩
  · have h0 : ¬ t < 0 := by omega
    go_enter Try.func8, Try.ntmps8
    go_wp2
    go_ret3
    exact ⟨rfl, rfl⟩

/-- Behind the document's Set of a place that there is: a list of its own. -/
def RSetPost (w : World) (v : Int) (ys : List Int) (e : Ending) (w' : World) : Prop :=
  ∃ q cap, e = .returned (.tuple #[.slice (some ⟨q, 0, none⟩) ys.length cap, .int .i64 v, .bool true]) ∧ Its w' q cap ys ∧ w.heap.size ≤ q ∧ w.grownBy w' none

theorem rSet (h : Its w q cap xs) (hn : xs.length ≤ 64) (t : Nat) (ht : t < xs.length) (to : Int) :
    Calls Try.prog 8 #[.slice (some ⟨q, 0, none⟩) xs.length cap, .int .i64 t, .int .i64 to] w (RSetPost w (nth xs t) (xs.set t to)) := by
  obtain ⟨i0, hi0, hz0, hz1, hz2⟩ := info_parts intinfo
  have HN := Lib.hid h.news
  have h0 : 0 < xs.length := by omega
  have hlt := h.lt
  go_enter Try.func8, Try.ntmps8
  go_wp2_with (at_builtin; refine wpList_append_own _ rfl (.tmp 19) (.tmp 20) _ rfl w.heap.size 3 i0 _ 1 8 Try.underlying28 hi0 hz0 hz1 hz2 rfl (by omega) (.slice none 0 0) 0 [] rfl (World.ownsRow_nil _ _ _ _) ⟨q, 0, none⟩ xs.length cap (xs.map (Value.int .i64)) rfl (by simp) HN.out (by intro u hu; simp at hu; obtain ⟨x, _, rfl⟩ := hu; rfl) (by simp only [maxLen]; omega) (by omega) (Nat.le_refl _) ?_)
  intro v1 w1 hown1 hgr1 _
  have hg1 : w.grownBy w1 none := hgr1
  obtain ⟨q1, cap1, rfl, h1, hq1⟩ := Its.of_own (n := xs.length) (xs := xs) (by simpa using hown1) h0
  have hx1 := h1.at_ ht
  have hz := h1.free t
  have hc1 := h1.caps
  have h2 := h1.put t to
  have hl := (h.kept hg1 (by simp)).kept (only_put w1 q1 t (.int .i64 to)) (by simp; omega)
  have hg2 := grown_then hg1 (only_put w1 q1 t (.int .i64 to)) (.inr fun x e => by injection e with e; omega)
  clear hown1 hgr1 hi0 hz0 hz1 hz2 HN
  unfold maxLen at hc1
  have H2 := Lib.hid h2
  have HL := Lib.hid hl
  have HG2 := Lib.hid hg2
  clear h2 hl hg2
  go_wp2
  have hx := HL.out.at_ ht
  have h2 := H2.out
  have hg2 := HG2.out
  clear HL H2 HG2 hx1 hz h1 h
  generalize w1.setCell ⟨q1, t, none⟩ (.int .i64 to) = w2 at hx h2 hg2 ⊢
  go_quiet (fail)
  go_wp2
  go_ret3
  exact ⟨q1, cap1, by rw [List.length_set]; rfl, h2, hq1, grown_draws hg2 _⟩
end
end Go.Proofs.Ytlppkbpahhjlfaa
