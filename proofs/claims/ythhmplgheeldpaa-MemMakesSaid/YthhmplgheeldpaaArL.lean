/- What awake and made (of the statements of layer 9) return: for all sizes and every word. -/
import Derived.Test.YthhmplgheeldpaaArB
import Derived.Test.YthhmplgheeldpaaArR
namespace Go.Proofs.Ythhmplgheeldpaa
open Go.ChangeShapes Go.WideShapes Go.ChangeAt Go.RowKit
set_option linter.unusedVariables false

theorem results_tmp4 {fn : Func} {t u v x : Tmp} (h : fn.results = #[.tmp t, .tmp u, .tmp v, .tmp x]) (tmps : Array Value) (P : Program) (w : World) :
    (results fn tmps).run P w = .ok (.tuple #[tmps.getD t undef, tmps.getD u undef, tmps.getD v undef, tmps.getD x undef]) w := by
  simp [results, h]

/-- Words numbered from a word on. -/
def fromL (x : Int) (n : Nat) : List Int := (List.range n).map fun i : Nat => two32 (x + (i : Int))
theorem fromL_len (x : Int) (n : Nat) : (fromL x n).length = n := by simp [fromL]
theorem fromL_0 (x : Int) : fromL x 0 = [] := rfl
theorem fromL_next (x : Int) (n : Nat) : fromL x (n + 1) = fromL x n ++ [two32 (x + (n : Int))] := by simp [fromL, List.range_succ]
theorem fromL_u32 (x : Int) (n : Nat) : U32s (fromL x n) := by
  intro y hy
  simp only [fromL, List.mem_map] at hy
  obtain ⟨i, _, rfl⟩ := hy
  exact two32_b _
theorem fromL_at (x : Int) {n i : Nat} (h : i < n) : nth (fromL x n) i = two32 (x + (i : Int)) := by
  simp [nth, fromL, h]

/-- The value v is a slice of just these words, in a row of its own, made since base (or nil). -/
def Ows (base : Nat) (w : World) (v : Value) (ys : List Int) : Prop := w.ownsRow base 23 1 v ys.length (ys.map (Value.int .u32))
theorem Ows.nil (base : Nat) (w : World) : Ows base w (.slice none 0 0) [] := World.ownsRow_nil _ _ _ _
theorem Ows.lt {base : Nat} {w : World} {v : Value} {ys : List Int} (h : Ows base w v ys) {g : Nat} (e : v.ownBlock = some g) : base ≤ g ∧ g < w.heap.size := World.ownsRow.lt h g e
theorem Ows.is {base : Nat} {w : World} {v : Value} {ys : List Int} (h : Ows base w v ys) : ∃ a cap, v = .slice a ys.length cap ∧ cap ≤ maxLen ∧ ys.length ≤ cap ∧ Given .u32 w a ys := by
  obtain ⟨a, cap, e, h1, h2, h3⟩ := own_is h
  refine ⟨a, cap, e, h2, h1, fun h0 => ?_⟩
  obtain ⟨g, e1, e2, e3, e4, e5, e6⟩ := h3 h0
  refine ⟨g, 0, e1, e4, fun i hi => ?_⟩
  rw [Nat.zero_add, e6 i (by omega), List.getElem?_map, nth_get hi]; rfl

theorem os_next {w wr : World} {o : Value} {x : Int} {k : Nat} (ho : Ows w.heap.size wr o (fromL x k)) (hg : w.grownBy wr none) (w' : World) (v' : Value) (h1 : w'.ownsRow w.heap.size 23 1 v' ((fromL x k).length + 1) ((fromL x k).map (Value.int .u32) ++ [.int .u32 (two32 (x + (k : Int)))]))
    (h2 : (wr.alloc (.cells #[.int .u32 (two32 (x + (k : Int)))] 23)).grownBy w' o.ownBlock) : Ows w.heap.size w' v' (fromL x (k + 1)) ∧ w.grownBy w' none := by
  constructor
  · unfold Ows
    rw [fromL_next, List.map_append, List.length_append]
    exact h1
  · exact grown_then (grown_then hg (grown_made _ _ none) (.inl rfl)) h2 (.inr fun x e => (ho.lt e).1)

/-- Sizes that there may be, of no more cells than there may be. -/
def Fits (zs : List Int) : Prop := RightZ zs ∧ tot zs ≤ 8192
/-- What made returns. -/
def MadePost (w : World) (zs : List Int) (x : Int) (e : Ending) (w' : World) : Prop :=
  w.grownBy w' none ∧ ((Fits zs ∧ ∃ p q g s v, e = .returned (.tuple #[.pointer (some ⟨p, 0, none⟩), .int .i64 0, v, .bool true]) ∧ Mm w' p q g s zs (fromL x (tot zs)) ∧ Cs w.heap.size w' v (cels zs) ∧ (w.heap.size ≤ p ∧ w.heap.size ≤ q ∧ w.heap.size ≤ g ∧ w.heap.size ≤ s)) ∨
    (¬ Fits zs ∧ ∃ v, e = .returned (.tuple #[.pointer none, .int .i64 1, v, .bool false])))

theorem cells_cases {w w1 : World} {zs : List Int} {e : Ending} (h : CellsPost w zs e w1) : w.grownBy w1 none ∧ ∃ va n vc fl, e = .returned (.tuple #[.slice va n vc, .bool fl]) ∧ n ≤ 32768 ∧
    ((RightZ zs ∧ fl = decide ((tot zs : Int) ≤ 8192) ∧ n = tot zs ∧ Cs w.heap.size w1 (.slice va n vc) (cels zs)) ∨ (¬ RightZ zs ∧ fl = false ∧ n = 0)) := by
  obtain ⟨hg, ⟨hz, v, rfl, hc⟩ | ⟨hz, rfl⟩⟩ := h
  · refine ⟨hg, ?_⟩
    obtain ⟨va, vc, rfl, _⟩ := hc.is
    refine ⟨va, _, vc, _, rfl, ?_, .inl ⟨hz, rfl, cels_len _, hc⟩⟩
    rw [cels_len]; exact tot_le hz
  · exact ⟨hg, none, 0, 0, false, rfl, by omega, .inr ⟨hz, rfl, rfl⟩⟩

/-- What New does behind that. -/
theorem new_cases {w w1 wr : World} {a b : Option Addr} {zs : List Int} {x : Int} {va : Option Addr} {n vc c1 c2 : Nat} {fl : Bool} (ha : Given .i64 wr a zs) (hm : zs.length ≤ maxLen) (hn : n ≤ 32768) (hb : Given .u32 wr b (fromL x n)) (hg : w.grownBy wr none) (hwr : w1.grownBy wr none)
    (h : (RightZ zs ∧ fl = decide ((tot zs : Int) ≤ 8192) ∧ n = tot zs ∧ Cs w.heap.size w1 (.slice va n vc) (cels zs)) ∨ (¬ RightZ zs ∧ fl = false ∧ n = 0)) :
    Calls Try.prog 12 #[.slice a zs.length c1, .slice b (fromL x n).length c2] wr fun e w' => ∃ r y, e = .returned (.tuple #[r, .int .i64 y]) ∧ MadePost w zs x (.returned (.tuple #[r, .int .i64 y, .slice va n vc, .bool fl])) w' := by
  have hml : (fromL x n).length ≤ maxLen := by rw [fromL_len]; unfold maxLen; omega
  rcases h with ⟨hz, rfl, rfl, hc⟩ | ⟨hz, rfl, rfl⟩
  · by_cases h8 : tot zs ≤ 8192
    · refine (mNew ha hb hz (by rw [fromL_len]) (by rw [fromL_len]; exact h8) (fromL_u32 _ _) c1 c2).mono ?_
      rintro e w' ⟨p, q, g, s, rfl, hM, ⟨q1, q2, q3, q4⟩, hg2⟩
      have hs := hg.size
      have e1 : decide ((tot zs : Int) ≤ 8192) = true := by simp; omega
      rw [e1]
      exact ⟨_, _, rfl, grown_then hg hg2 (.inl rfl), .inl ⟨⟨hz, h8⟩, p, q, g, s, _, rfl, hM, hc.grown (grown_then hwr hg2 (.inl rfl)), ⟨by omega, by omega, by omega, by omega⟩⟩⟩
    · refine (mNewBad ha (.inr (.inr (by rw [fromL_len]; omega))) hm hml c1 c2).mono ?_
      rintro e w' ⟨rfl, rfl⟩
      have e1 : decide ((tot zs : Int) ≤ 8192) = false := by simp; omega
      rw [e1]
      exact ⟨_, _, rfl, hg, .inr ⟨fun h => h8 h.2, _, rfl⟩⟩
  · refine (mNewBad ha (.inl hz) hm hml c1 c2).mono ?_
    rintro e w' ⟨rfl, rfl⟩
    exact ⟨_, _, rfl, hg, .inr ⟨fun h => hz h.1, _, rfl⟩⟩

set_option maxHeartbeats 1000000 in
theorem lMade {w : World} {a : Option Addr} {zs : List Int} (h : Given .i64 w a zs) (hm : zs.length ≤ maxLen) (cap : Nat) (x : Int) (x0 : 0 ≤ x) (x1 : x < 4294967296) :
    Calls Try.prog 8 #[.slice a zs.length cap, .int .u32 x] w (MadePost w zs x) := by
  have HM := Lib.hid hm
  unfold maxLen at hm
  have hC := Lib.hid (rCells h HM.out cap)
  go_enter Try.func8, Try.ntmps8
  go_wp2_with fail
  refine hC.out.mono ?_
  rintro e w1 hP
  obtain ⟨hg1, va, n, vc, fl, rfl, hn, hcs⟩ := cells_cases hP
  have HC := Lib.hid hcs
  clear hP hcs hC
  go_wp2
  go_loopw [10, 21] (fun o t wr => ∃ k : Nat, k ≤ n ∧ t = .int .i64 k ∧ Ows w1.heap.size wr o (fromL x k) ∧ w1.grownBy wr none) (fun _ t _ => n - (intOf t).toNat)
  case atStart => exact ⟨0, Nat.zero_le _, rfl, Ows.nil _ _, grown_refl _ _⟩
  case round =>
    obtain ⟨k, hk, rfl, ho, hg⟩ := hrel
    by_cases hlt : k < n
    · have hkw : (k : Int) % 4294967296 = k := by omega
      have h32 : (x + (k : Int)) % 4294967296 = two32 (x + (k : Int)) := rfl
      have HO := Lib.hid (World.ownsRow.alloc ho (.cells #[.int .u32 (two32 (x + (k : Int)))] 23))
      have HNW : Hid (∀ (j : Nat) (u : Value), ([.int .u32 (two32 (x + (k : Int)))] : List Value)[j]? = some u → (wr.alloc (.cells #[.int .u32 (two32 (x + (k : Int)))] 23)).cell? ((⟨wr.heap.size, 0, none⟩ : Addr).add j) = some u) := Lib.hid (news_bk (Bk.made wr 23 #[.int .u32 (two32 (x + (k : Int)))]))
      have HBS : Hid (w1.heap.size ≤ (wr.alloc (.cells #[.int .u32 (two32 (x + (k : Int)))] 23)).heap.size) := Lib.hid (by rw [World.size_alloc]; have := hg.size; omega)
      have HL : Hid ((fromL x k).length < 100000) := Lib.hid (by rw [fromL_len]; omega)
      have HEND := Lib.hid (os_next ho hg)
      clear ho hg
      go_wp2_with (at_builtin; refine wpOwn rfl _ _ 34 rfl _ 4 Try.underlying34 u32info rfl (by omega) (by omega) HO.out rfl [.int .u32 (two32 (x + (k : Int)))] rfl (by intro u hu; simp at hu; subst hu; rfl) wr.heap.size rfl HNW.out HL.out HBS.out ?_; intro v' w' hown hgr hloc)
      obtain ⟨s1, s2⟩ := HEND.out _ _ hown hgr
      go_roundw
      case rel => exact ⟨k + 1, by omega, by go_num, s1, s2⟩
      case measure => simp [intOf]; omega
    · obtain rfl : k = n := by omega
      obtain ⟨b, c2, rfl, _, hc2, hgiv⟩ := ho.is
      have hg3 : w.grownBy wr none := grown_then hg1 hg (.inl rfl)
      have HNEW := Lib.hid (new_cases (c1 := cap) (c2 := c2) (h.grown hg3) HM.out hn hgiv hg3 hg HC.out)
      clear ho hc2 hgiv
      go_wp2_with fail
      refine HNEW.out.mono ?_
      rintro e w3 ⟨r, y, rfl, hpost⟩
      have HPOST := Lib.hid hpost
      clear HNEW hpost
      go_wp2
      (try simp only [Exit.inBlock, Exit.then])
      refine bodyPost_ret (results_tmp4 rfl _ _ _) rfl ?_
      exact HPOST.out

theorem ex_right : RightZ [1, 3] := by
  refine ⟨by decide, fun k hk => ?_⟩
  simp at hk
  rcases (show k = 0 ∨ k = 1 by omega) with rfl | rfl <;> decide
theorem ex_addr {w : World} {p q g s : Nat} {xs : List Int} (h : Mm w p q g s [1, 3] xs) (v : Int) (hv : v = 2 ∨ v = 4098) :
    Calls Try.prog 13 #[.pointer (some ⟨p, 0, none⟩), .int .i64 1, .int .u32 v] w fun e w' => e = .returned (.tuple #[.int .i64 3, .bool true]) ∧ w = w' := by
  have e1 : v % 4096 = 2 := by omega
  have := cAddress h 1 (by decide) v (by omega) (by omega) (by rw [e1]; decide)
  rw [e1] at this
  exact this
theorem ex_none {w : World} {p q g s : Nat} {xs : List Int} (h : Mm w p q g s [1, 3] xs) :
    Calls Try.prog 13 #[.pointer (some ⟨p, 0, none⟩), .int .i64 1, .int .u32 3] w fun e w' => e = .returned (.tuple #[.int .i64 0, .bool false]) ∧ w = w' :=
  cAddressNo h 1 3 (by omega) (by omega) (.inr (.inr (by decide)))

theorem lAwake9 (w : World) : Calls Try.prog 7 #[] w fun e w' => e = .returned (.bool true) ∧ w.grownBy w' none := by
  have hB1 : Bk ((w.alloc (.cells #[.int .i64 1, .int .i64 3] 3)).alloc (.cells #[.int .u32 4, .int .u32 5, .int .u32 6, .int .u32 7] 23)) w.heap.size 3 (intsC [1, 3]) := (Bk.made w 3 #[.int .i64 1, .int .i64 3]).alloc (.cells #[.int .u32 4, .int .u32 5, .int .u32 6, .int .u32 7] 23)
  have hB2 : Bk ((w.alloc (.cells #[.int .i64 1, .int .i64 3] 3)).alloc (.cells #[.int .u32 4, .int .u32 5, .int .u32 6, .int .u32 7] 23)) (w.heap.size + 1) 23 (words [4, 5, 6, 7]) := by
    have := Bk.made (w.alloc (.cells #[.int .i64 1, .int .i64 3] 3)) 23 #[.int .u32 4, .int .u32 5, .int .u32 6, .int .u32 7]
    rw [World.size_alloc] at this
    exact this
  have hG : w.grownBy ((w.alloc (.cells #[.int .i64 1, .int .i64 3] 3)).alloc (.cells #[.int .u32 4, .int .u32 5, .int .u32 6, .int .u32 7] 23)) none := grown_then (grown_made _ _ none) (grown_made _ _ none) (.inl rfl)
  go_enter Try.func7, Try.ntmps7
  go_wp2_with fail
  generalize (w.alloc (.cells #[.int .i64 1, .int .i64 3] 3)).alloc (.cells #[.int .u32 4, .int .u32 5, .int .u32 6, .int .u32 7] 23) = x at *
  have hN := mNew (given_bk (k := 2) hB1 (by decide)) (b := some ⟨w.heap.size + 1, 0, none⟩) (ys := [4, 5, 6, 7]) (by
    intro _
    refine ⟨_, 0, rfl, hB2.lt, fun i hi => ?_⟩
    rw [Nat.zero_add, hB2.cell, words_at _ i hi]) ex_right (by decide) (by decide) (by intro y hy; simp at hy; omega) 2 4
  refine hN.mono ?_
  clear hN hB1 hB2
  rintro e w1 ⟨p, q, g, s, rfl, hM, _, hg1⟩
  have c0 := hM.c0
  have hg2 := grown_then hG hg1 (.inl rfl)
  clear hG hg1
  have hA1 := Lib.hid (ex_addr hM 2 (.inl rfl))
  have hA2 := Lib.hid (ex_addr hM 4098 (.inr rfl))
  have hA3 := Lib.hid (ex_none hM)
  have hL := Lib.hid (cLoad hM.cel 3 (by decide))
  go_wp2_with fail
  refine hA1.out.mono ?_
  rintro e w2 ⟨rfl, rfl⟩
  go_wp2_with fail
  refine hA2.out.mono ?_
  rintro e w2 ⟨rfl, rfl⟩
  go_wp2_with fail
  refine hA3.out.mono ?_
  rintro e w2 ⟨rfl, rfl⟩
  go_wp2_with fail
  refine hL.out.mono ?_
  rintro e w2 ⟨rfl, rfl⟩
  rw [show nth [4, 5, 6, 7] 3 = 7 from rfl]
  go_wp2
  go_ret
  exact ⟨rfl, hg2⟩

/-- A slice of words whose block is known. -/
theorem given_words {w : World} {b : Nat} {ys : List Int} (h : Bk w b 23 (words ys)) : Given .u32 w (some ⟨b, 0, none⟩) ys := by
  intro _
  refine ⟨b, 0, rfl, h.lt, fun i hi => ?_⟩
  rw [Nat.zero_add, h.cell, words_at _ i hi]
/-- A row of words, all 0, that has just been made: what New does with it. -/
theorem new_zeros {w : World} {a : Option Addr} {zs : List Int} (h : Given .i64 w a zs) (hm : zs.length ≤ maxLen) (hz : RightZ zs) (N : Nat) (hN : N ≤ 40000) (c1 : Nat) :
    Calls Try.prog 12 #[.slice a zs.length c1, .slice (some ⟨w.heap.size, 0, none⟩) N N] (w.alloc (.cells (madeCells #[.int .u32 0] N) 23)) fun e w' => w.grownBy w' none ∧ ((tot zs = N ∧ N ≤ 8192 ∧ ∃ p q g s, e = .returned (.tuple #[.pointer (some ⟨p, 0, none⟩), .int .i64 0]) ∧ Mm w' p q g s zs (List.replicate N 0) ∧ (w.heap.size < p ∧ w.heap.size < q ∧ w.heap.size < g ∧ w.heap.size < s) ∧ Bk w' w.heap.size 23 (words (List.replicate N 0))) ∨ ((tot zs ≠ N ∨ 8192 < N) ∧ e = .returned (.tuple #[.pointer none, .int .i64 1]))) := by
  have hB := Bk.made w 23 (madeCells #[.int .u32 0] N)
  have hG := grown_made w (.cells (madeCells #[.int .u32 0] N) 23) none
  have hS := World.size_alloc w (.cells (madeCells #[.int .u32 0] N) 23)
  rw [made_words] at *
  generalize w.alloc (.cells (words (List.replicate N 0)) 23) = x at *
  by_cases hF : tot zs = N ∧ N ≤ 8192
  · have hN := mNew (h.grown hG) (given_words hB) hz (by simpa using hF.1) (by simpa using hF.2) (U32s.zeros N) c1 N
    rw [List.length_replicate] at hN
    refine hN.mono ?_
    rintro e w' ⟨p, q, g, s, rfl, hM, ⟨q1, q2, q3, q4⟩, hg⟩
    exact ⟨grown_then hG hg (.inl rfl), .inl ⟨hF.1, hF.2, p, q, g, s, rfl, hM, ⟨by omega, by omega, by omega, by omega⟩, hB.grown hg (by simp)⟩⟩
  · have hN := mNewBad (b := some ⟨w.heap.size, 0, none⟩) (ys := List.replicate N 0) (h.grown hG) (.inr (by simp only [List.length_replicate]; omega)) hm (by simp; unfold maxLen; omega) c1 N
    rw [List.length_replicate] at hN
    refine hN.mono ?_
    rintro e w' ⟨rfl, rfl⟩
    exact ⟨hG, .inr ⟨by omega, rfl⟩⟩
theorem makeU32 (N : Nat) (hN : N ≤ 40000) (W : World) : (Instr.makeSlice 34 (.int .i64 N) (.int .i64 N)).run Try.prog W = .ok (.slice (some ⟨W.heap.size, 0, none⟩) N N) (W.alloc (.cells (madeCells #[.int .u32 0] N) 23)) := by
  obtain ⟨i0, hi0, hz0, hz1, hz2⟩ := info_parts u32info
  have := run_make (P := Try.prog) W 34 23 i0 _ Try.underlying34 hi0 hz0 .i64 .i64 N N (by omega) (by omega) (by rw [hz2]; omega) (by omega)
  rw [hz1] at this
  simp only [Int.toNat_natCast, Nat.mul_one] at this
  exact this
theorem u8_bounds {n : Int} (h : (Lit.int .u8 n).wf = true) : 0 ≤ n ∧ n < 256 := by
  simp [Lit.wf, IntKind.min, IntKind.max, IntKind.bits, IntKind.signed] at h; omega
end Go.Proofs.Ythhmplgheeldpaa
