/- The walk of InstParses. -/
import Derived.Test.YtgbblpmdoacinaaDoorInstK
import Derived.Test.YtgbblpmdoacinaaDoorInstH
namespace Go.Proofs.YtgbblpmdoacinaaDoor.instParses
open Go.ChangeShapes Go.WideShapes Go.ChangeAt Go.RowKit
set_option linter.unusedVariables false

theorem draftR_k (ws : List (List UInt8)) : 0 ≤ (draftR ws).k ∧ (draftR ws).k < 4294967296 := by
  have hk : 0 ≤ kOf ws.tail ∧ kOf ws.tail < 4294967296 := by unfold kOf; split <;> omega
  unfold draftR finI
  generalize kOf ws.tail = k at *
  repeat' split
  all_goals (simp only; omega)

/-- What the document parses is what the program parses, and its text is the text. -/
theorem par_true {s : List UInt8} (h : parseRB s = true) : ∃ F : Ins, F.Wf ∧ parseV s = .tuple #[iv F, .int .i64 0] ∧ parseRV s = .tuple #[iv F, .bool true] ∧ textV F = .tuple #[bs s, .int .i64 0] := by
  have h2 := h
  unfold parseRB at h2
  simp only [Bool.and_eq_true, decide_eq_true_eq] at h2
  obtain ⟨-, hr, ht⟩ := h2
  obtain ⟨k0, k1⟩ := draftR_k (wordsL s)
  obtain ⟨hp, he⟩ := parse_text _ hr k0 k1
  rw [ht] at hp he
  refine ⟨draftR (wordsL s), ?_, ?_, ?_, ?_⟩
  · rw [← he]; exact draft_wf _
  · unfold parseV; rw [if_pos hp, he]
  · unfold parseRV; rw [if_pos h]
  · unfold textV; rw [if_pos hr, ht]
/-- What the document refuses the program refuses. -/
theorem par_false {s : List UInt8} (h : parseRB s = false) : parseV s = .tuple #[iv Ins.zero, .int .i64 8] ∧ parseRV s = .tuple #[iv Ins.zero, .bool false] := by
  have hB : parseB s = false := by
    rw [Bool.eq_false_iff]
    intro hb
    have h2 := hb
    unfold parseB at h2
    simp only [Bool.and_eq_true, decide_eq_true_eq] at h2
    obtain ⟨hr, ht⟩ := h2
    have hw : (parsedI s).Wf := draft_wf _
    have := parseR_text _ hr hw.k0 hw.k1
    rw [ht, h] at this
    cases this
  constructor
  · unfold parseV; rw [if_neg (by rw [hB]; decide)]
  · unfold parseRV; rw [if_neg (by rw [h]; decide)]

set_option maxHeartbeats 4000000 in
theorem walk (b : ByteArray) (hsz : b.size ≤ maxLen) (w : World) (L : Lb w) :
    Calls Tryd.prog 5 #[.string b] w fun e w' => e = .returned (.bool true) ∧ Below w.heap.size w w' := by
  obtain ⟨⟨s⟩⟩ := b
  replace hsz : s.length ≤ 9223372036854775807 := by
    have h1 : s.length ≤ maxLen := hsz
    unfold maxLen at h1
    omega
  have HA := Lib.hid (fun W LW => lAwake W LW)
  change Calls Tryd.prog 5 #[.string ⟨s.toArray⟩] w _
  by_cases h80 : 80 < s.length
  · have h81 : (80 : Int) < (s.length : Int) := by omega
    go_enter Tryd.func5, Tryd.ntmps5
    go_wp2_with fail
    refine (HA.out w L).mono ?_
    rintro e y ⟨rfl, hy⟩
    go_wp2
    go_ret
    exact ⟨rfl, hy⟩
  have h81 : ¬ (80 : Int) < (s.length : Int) := by omega
  have hq1 : (s == s) = true := by simp
  by_cases hR : parseRB s = true
  · obtain ⟨F, hwf, E1, E2, E3⟩ := par_true hR
    have HP := Lib.hid (show ∀ W, Lb W → Calls Tryd.prog 13 #[.string ⟨s.toArray⟩] W fun e w' => e = .returned (.tuple #[iv F, .int .i64 0]) ∧ Below W.heap.size W w' from fun W LW => E1 ▸ cParse s (by omega) W LW)
    have HR := Lib.hid (show ∀ W, Calls Tryd.prog 15 #[.string ⟨s.toArray⟩] W fun e w' => e = .returned (.tuple #[iv F, .bool true]) ∧ Below W.heap.size W w' from fun W => E2 ▸ rParse s (by omega) W)
    have HT := Lib.hid (show ∀ W, Lb W → Calls Tryd.prog 12 #[iv F] W fun e w' => e = .returned (.tuple #[.string ⟨s.toArray⟩, .int .i64 0]) ∧ Below W.heap.size W w' from fun W LW => E3 ▸ cText F hwf W LW)
    have HF := Lib.hid (fun W => rRef F W)
    have hq := run_eqJ F F
    rw [show eqI F F = true from (eqI_iff F F).2 rfl] at hq
    clear E1 E2 E3 hwf hR
    obtain ⟨op, d, s', t, u, a, k, pl⟩ := F
    unfold iv at hq HP HR HT HF
    simp only at hq
    go_enter Tryd.func5, Tryd.ntmps5
    go_wp2_with fail
    refine (HP.out w L).mono ?_
    rintro e x1 ⟨rfl, hb⟩
    go_wp2_with fail
    generalize hx2 : x1.alloc (.cells #[.int .i64 op, .int .i64 d, .int .i64 s', .int .i64 t, .int .i64 u, .int .i64 a, .int .u32 k, .int .i64 pl] 24) = x2 at *
    have hI : Ib x2 x1.heap.size ⟨op, d, s', t, u, a, k, pl⟩ := by rw [← hx2]; exact Ib.made x1 _ _ _ _ _ _ _ _
    replace hb : Below w.heap.size w x2 := by rw [← hx2]; exact hb.alloc hb.size _
    clear hx2
    generalize x1.heap.size = g at *
    refine (HR.out x2).mono ?_
    rintro e x3 ⟨rfl, hy⟩
    replace hI := hI.below hy
    replace hb := hb.trans (hy.mono hb.size)
    clear hy x2
    obtain ⟨c0, c1, c2, c3, c4, c5, c6, c7⟩ := hI.cells
    simp only at c0 c1 c2 c3 c4 c5 c6 c7
    have hlt : g < x3.heap.size := Bk.lt hI
    have hne : g ≠ x3.heap.size := Nat.ne_of_lt hlt
    go_wp2_with fail
    generalize hx4 : x3.alloc (.cells #[.int .i64 op, .int .i64 d, .int .i64 s', .int .i64 t, .int .i64 u, .int .i64 a, .int .u32 k, .int .i64 pl] 27) = x4 at *
    have mJ : Jb x4 x3.heap.size ⟨op, d, s', t, u, a, k, pl⟩ := by rw [← hx4]; exact Jb.made x3 _ _ _ _ _ _ _ _
    replace hI : Ib x4 g ⟨op, d, s', t, u, a, k, pl⟩ := by rw [← hx4]; exact Bk.alloc hI _
    replace hb : Below w.heap.size w x4 := by rw [← hx4]; exact hb.alloc hb.size _
    clear hx4 hlt hne c0 c1 c2 c3 c4 c5 c6 c7
    generalize x3.heap.size = g2 at *
    refine (HT.out x4 (L.below hb)).mono ?_
    rintro e x5 ⟨rfl, hy⟩
    replace hI := hI.below hy
    replace mJ := mJ.below hy
    replace hb := hb.trans (hy.mono hb.size)
    clear hy
    go_wp2_with fail
    have H5 := Lib.hid (fun g : Grw x5 => lAwake g.x ((L.below hb).grw g))
    obtain ⟨g0, g1, g2', g3, g4, g5, g6, g7⟩ := hI.grw
    obtain ⟨m0, m1, m2, m3, m4, m5, m6, m7⟩ := mJ.grw
    simp only at g0 g1 g2' g3 g4 g5 g6 g7 m0 m1 m2 m3 m4 m5 m6 m7
    refine wp_region_grow (by kernel_rfl) (by kernel_rfl) ?_
    repeat (go_big_quiet_step (first | (go_at_call 9; with_reducible exact grw_call (HF.out _)) | (go_at_call 11; with_reducible exact grw_call (H5.out _))))
    refine wpQuiet_nil ?_
    rintro y ⟨⟨_, hy⟩, rfl⟩
    go_wp2
    go_ret
    exact ⟨rfl, hb.trans (hy.mono hb.size)⟩
  · obtain ⟨E1, E2⟩ := par_false (by simpa using hR)
    have HP := Lib.hid (show ∀ W, Lb W → Calls Tryd.prog 13 #[.string ⟨s.toArray⟩] W fun e w' => e = .returned (.tuple #[.agg #[.int .i64 0, .int .i64 0, .int .i64 0, .int .i64 0, .int .i64 0, .int .i64 0, .int .u32 0, .int .i64 0], .int .i64 8]) ∧ Below W.heap.size W w' from fun W LW => (show parseV s = .tuple #[.agg #[.int .i64 0, .int .i64 0, .int .i64 0, .int .i64 0, .int .i64 0, .int .i64 0, .int .u32 0, .int .i64 0], .int .i64 8] from E1) ▸ cParse s (by omega) W LW)
    have HR := Lib.hid (show ∀ W, Calls Tryd.prog 15 #[.string ⟨s.toArray⟩] W fun e w' => e = .returned (.tuple #[.agg #[.int .i64 0, .int .i64 0, .int .i64 0, .int .i64 0, .int .i64 0, .int .i64 0, .int .u32 0, .int .i64 0], .bool false]) ∧ Below W.heap.size W w' from fun W => (show parseRV s = .tuple #[.agg #[.int .i64 0, .int .i64 0, .int .i64 0, .int .i64 0, .int .i64 0, .int .i64 0, .int .u32 0, .int .i64 0], .bool false] from E2) ▸ rParse s (by omega) W)
    have hq := run_eqI Ins.zero Ins.zero
    rw [show eqI Ins.zero Ins.zero = true from rfl] at hq
    unfold iv Ins.zero at hq
    simp only at hq
    clear E1 E2 hR
    go_enter Tryd.func5, Tryd.ntmps5
    go_wp2_with fail
    refine (HP.out w L).mono ?_
    rintro e x1 ⟨rfl, hb⟩
    go_wp2_with fail
    generalize hx2 : x1.alloc (.cells #[.int .i64 0, .int .i64 0, .int .i64 0, .int .i64 0, .int .i64 0, .int .i64 0, .int .u32 0, .int .i64 0] 24) = x2 at *
    have hI : Ib x2 x1.heap.size ⟨0, 0, 0, 0, 0, 0, 0, 0⟩ := by rw [← hx2]; exact Ib.made x1 _ _ _ _ _ _ _ _
    replace hb : Below w.heap.size w x2 := by rw [← hx2]; exact hb.alloc hb.size _
    clear hx2
    generalize x1.heap.size = g at *
    refine (HR.out x2).mono ?_
    rintro e x3 ⟨rfl, hy⟩
    replace hI := hI.below hy
    replace hb := hb.trans (hy.mono hb.size)
    clear hy x2
    obtain ⟨c0, c1, c2, c3, c4, c5, c6, c7⟩ := hI.cells
    simp only at c0 c1 c2 c3 c4 c5 c6 c7
    have hlt : g < x3.heap.size := Bk.lt hI
    have hne : g ≠ x3.heap.size := Nat.ne_of_lt hlt
    go_wp2_with fail
    generalize hx4 : x3.alloc (.cells #[.int .i64 0, .int .i64 0, .int .i64 0, .int .i64 0, .int .i64 0, .int .i64 0, .int .u32 0, .int .i64 0] 27) = x4 at *
    replace hb : Below w.heap.size w x4 := by rw [← hx4]; exact hb.alloc hb.size _
    clear hx4
    refine (HA.out x4 (L.below hb)).mono ?_
    rintro e x5 ⟨rfl, hy⟩
    go_wp2
    go_ret
    exact ⟨rfl, hb.trans (hy.mono hb.size)⟩
end Go.Proofs.YtgbblpmdoacinaaDoor.instParses
