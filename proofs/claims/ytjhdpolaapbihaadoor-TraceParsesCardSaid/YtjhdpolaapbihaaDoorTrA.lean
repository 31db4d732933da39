/- Layer 12's leaf functions, the program's and the document's: kinds, words, when there is a line, the line. -/
import Derived.Test.YtjhdpolaapbihaaDoorTrM
import Derived.Test.YtjhdpolaapbihaaDoorInstL
import Derived.Test.YtjhdpolaapbihaaDoorGrow
import Derived.Test.YtjhdpolaapbihaaDoorTbl
import Derived.Deep.WholeRow
import Derived.Laws.Tables
import Derived.Test.YtjhdpolaapbihaaDoorWdB
namespace Go.Proofs.YtjhdpolaapbihaaDoor
open Go.ChangeShapes Go.WideShapes Go.ChangeAt Go.RowKit Go.Shelf
set_option linter.unusedVariables false

/-- What the library's variables hold, and the program's table of words. -/
structure Lt (w : World) : Prop where
  lib : Lb w
  low : 0 < w.heap.size
  word : ∀ n : Nat, n ≤ 10 → w.cell? ⟨0, n, none⟩ = some (.string ⟨(wordT n).toArray⟩)
theorem Lt.below {w w' : World} (h : Lt w) (hb : Below w.heap.size w w') : Lt w' :=
  ⟨h.lib.below hb, Nat.lt_of_lt_of_le h.low hb.size, fun n hn => (hb.cell (p := ⟨0, n, none⟩) h.low).trans (h.word n hn)⟩

/-- An entry's block. -/
def Nb (t : TypeId) (w : World) (g : Nat) (x : En) : Prop := Bk w g t #[.int .i64 x.kind, .int .i64 x.th, .int .i64 x.now]
theorem Nb.cells {t : TypeId} {w : World} {g : Nat} {x : En} (h : Nb t w g x) : w.cell? ⟨g, 0, none⟩ = some (.int .i64 x.kind) ∧ w.cell? ⟨g, 1, none⟩ = some (.int .i64 x.th) ∧ w.cell? ⟨g, 2, none⟩ = some (.int .i64 x.now) := ⟨Bk.cell h 0, Bk.cell h 1, Bk.cell h 2⟩
theorem Nb.below {t : TypeId} {w w' : World} {g : Nat} {x : En} (h : Nb t w g x) (hb : Below w.heap.size w w') : Nb t w' g x := (hb.block g (Bk.lt h)).trans h
theorem Nb.made (t : TypeId) (w : World) (k h n : Int) : Nb t (w.alloc (.cells #[.int .i64 k, .int .i64 h, .int .i64 n] t)) w.heap.size ⟨k, h, n⟩ := Bk.made _ _ _
theorem Nb.grw {t : TypeId} {w : World} {b : Nat} {x : En} (h : Nb t w b x) : (∀ g : Grw w, g.x.cell? ⟨b, 0, none⟩ = some (.int .i64 x.kind)) ∧ (∀ g : Grw w, g.x.cell? ⟨b, 1, none⟩ = some (.int .i64 x.th)) ∧ (∀ g : Grw w, g.x.cell? ⟨b, 2, none⟩ = some (.int .i64 x.now)) := by
  obtain ⟨c0, c1, c2⟩ := h.cells
  exact ⟨fun g => g.cell c0, fun g => g.cell c1, fun g => g.cell c2⟩
theorem boxedE {t : TypeId} {w x : World} {k h n : Int} (hb : Below (w.alloc (.cells #[.int .i64 k, .int .i64 h, .int .i64 n] t)).heap.size (w.alloc (.cells #[.int .i64 k, .int .i64 h, .int .i64 n] t)) x) : Nb t x w.heap.size ⟨k, h, n⟩ ∧ Below w.heap.size w x :=
  ⟨(Nb.made t w k h n).below hb, ((Below.refl _ _).alloc (Nat.le_refl _) _).trans (hb.mono (by simp))⟩

set_option maxRecDepth 100000 in
theorem cHas (x : En) (w : World) :
    Calls Tryd.prog 23 #[enV x] w fun e w' => e = .returned (.bool (fitsB x)) ∧ Below w.heap.size w w' := by
  have E := Lib.hid (show fitsB x = fitsB x from rfl)
  generalize hr : fitsB x = r at E ⊢
  obtain ⟨k, t, n⟩ := x
  unfold enV
  simp only
  cases r with
  | true =>
    obtain ⟨a, b, c, d, e, f⟩ := fits_iff.1 hr
    simp only at a b c d e f
    have d2 : t < 64 := by omega
    clear hr
    go_enter Tryd.func23, Tryd.ntmps23
    go_wp2
    go_ret
    exact ⟨rfl, (Below.refl _ _).alloc (Nat.le_refl _) _⟩
  | false =>
    have hn := fits_not hr
    simp only at hn
    clear hr
    by_cases a : 1 ≤ k
    · by_cases b : k ≤ 10
      · by_cases c : 0 ≤ t
        · by_cases d : t < 64
          · by_cases e : 0 ≤ n
            · have f : decide (n ≤ 1099511627776) = false := by simp; omega
              clear hn
              go_enter Tryd.func23, Tryd.ntmps23
              go_wp2
              go_ret
              exact ⟨rfl, (Below.refl _ _).alloc (Nat.le_refl _) _⟩
            · have e2 : decide (n ≥ 0) = false := by simp; omega
              clear hn e
              go_enter Tryd.func23, Tryd.ntmps23
              go_wp2
              go_ret
              exact ⟨rfl, (Below.refl _ _).alloc (Nat.le_refl _) _⟩
          · have d2 : decide (t < 64) = false := by simp; omega
            clear hn d
            go_enter Tryd.func23, Tryd.ntmps23
            go_wp2
            go_ret
            exact ⟨rfl, (Below.refl _ _).alloc (Nat.le_refl _) _⟩
        · have c2 : decide (t ≥ 0) = false := by simp; omega
          clear hn c
          go_enter Tryd.func23, Tryd.ntmps23
          go_wp2
          go_ret
          exact ⟨rfl, (Below.refl _ _).alloc (Nat.le_refl _) _⟩
      · have b2 : decide (k ≤ 10) = false := by simp; omega
        clear hn b
        go_enter Tryd.func23, Tryd.ntmps23
        go_wp2
        go_ret
        exact ⟨rfl, (Below.refl _ _).alloc (Nat.le_refl _) _⟩
    · have a2 : decide (k ≥ 1) = false := by simp; omega
      clear hn a
      go_enter Tryd.func23, Tryd.ntmps23
      go_wp2
      go_ret
      exact ⟨rfl, (Below.refl _ _).alloc (Nat.le_refl _) _⟩

/-- The document's words, as it lays them. -/
def wordsA : Array Value := #[.string ⟨#[]⟩, .string ⟨#[99, 97, 108, 108]⟩, .string ⟨#[101, 110, 113]⟩, .string ⟨#[103, 114, 97, 110, 116]⟩, .string ⟨#[97, 98, 111, 114, 116]⟩, .string ⟨#[103, 111, 116]⟩, .string ⟨#[108, 111, 115, 116]⟩, .string ⟨#[102, 117, 108, 108]⟩, .string ⟨#[117, 110, 108, 111, 99, 107]⟩, .string ⟨#[114, 101, 108, 101, 97, 115, 101]⟩, .string ⟨#[111, 118, 101, 114]⟩]
theorem wordsA_at : ∀ n : Nat, n ≤ 10 → wordsA[n]? = some (.string ⟨(wordT n).toArray⟩) := by
  intro n h
  have hn : n = 0 ∨ n = 1 ∨ n = 2 ∨ n = 3 ∨ n = 4 ∨ n = 5 ∨ n = 6 ∨ n = 7 ∨ n = 8 ∨ n = 9 ∨ n = 10 := by omega
  rcases hn with rfl | rfl | rfl | rfl | rfl | rfl | rfl | rfl | rfl | rfl | rfl <;> rfl

set_option maxRecDepth 100000 in
theorem rWord (k : Int) (w : World) : Calls Tryd.prog 25 #[.int .i64 k] w fun e w' => e = .returned (bs (wordT k)) ∧ w = w' := by
  by_cases h : k < 1 ∨ 10 < k
  · have E := Lib.hid (word_none h)
    generalize wordT k = nm at *
    rcases h with h | h
    · go_enter Tryd.func25, Tryd.ntmps25
      go_wp2
      go_ret
      exact ⟨by rw [E.out]; rfl, rfl⟩
    · have h2 : decide (k < 1) = false := by simp; omega
      have h3 : k > 10 := h
      go_enter Tryd.func25, Tryd.ntmps25
      go_wp2
      go_ret
      exact ⟨by rw [E.out]; rfl, rfl⟩
  · obtain ⟨n, rfl⟩ : ∃ n : Nat, k = n := ⟨k.toNat, by omega⟩
    have h1 : 1 ≤ n := by omega
    have h10 : n ≤ 10 := by omega
    have hi : ∀ W, (Instr.index 62 (.agg wordsA) (.int .i64 n)).run Tryd.prog W = .ok (.string ⟨(wordT n).toArray⟩) W := by
      intro W
      have hn : n = 1 ∨ n = 2 ∨ n = 3 ∨ n = 4 ∨ n = 5 ∨ n = 6 ∨ n = 7 ∨ n = 8 ∨ n = 9 ∨ n = 10 := by omega
      rcases hn with rfl | rfl | rfl | rfl | rfl | rfl | rfl | rfl | rfl | rfl <;> (show _ = _; kernel_rfl)
    generalize wordT n = nm at *
    have d1 : decide ((n : Int) < 1) = false := by simp; omega
    have d2 : decide ((n : Int) > 10) = false := by simp; omega
    clear h
    go_enter Tryd.func25, Tryd.ntmps25
    go_wp2_with (refine wpList_build_to rfl 62 _ rfl wordsA (by kernel_rfl) ?_)
    go_ret
    exact ⟨rfl, rfl⟩
end Go.Proofs.YtjhdpolaapbihaaDoor
