/- Layer 12, the document's: a number, the entry of a line. -/
import Derived.Test.YtjhdpolaapbihaaDoorTrC
import Derived.Deep.DeepCutAuto
import Derived.Deep.LoopGhost
import Derived.Deep.CutBlock
import Derived.Test.YtjhdpolaapbihaaDoorHold
import Derived.BigQuiet
namespace Go.Proofs.YtjhdpolaapbihaaDoor
open Go.ChangeShapes Go.WideShapes Go.ChangeAt Go.RowKit Go.Shelf
set_option linter.unusedVariables false

theorem digs_snoc (l : List UInt8) (c : UInt8) : digsB (l ++ [c]) = (digsB l && (decide (48 ≤ c.toNat) && decide (c.toNat ≤ 57))) := by simp [digsB, List.all_append]
theorem take_snoc (l : List UInt8) (k : Nat) (h : k < l.length) : l.take (k + 1) = l.take k ++ [l.getD k 0] := by
  have e : l.getD k 0 = l[k] := by simp [h]
  rw [e, List.take_append_getElem]
theorem digs_take {l : List UInt8} (h : digsB l = true) (k : Nat) : digsB (l.take k) = true := digs_of fun c hc => digs_mem h c (List.mem_of_mem_take hc)

set_option maxRecDepth 100000 in
theorem rNumber (s : List UInt8) (w : World) :
    Calls Tryd.prog 38 #[bs s] w fun e w' => e = .returned (.int .i64 (numT s)) ∧ w = w' := by
  have E : numT s = if s = [] ∨ 13 < s.length ∨ (1 < s.length ∧ s.getD 0 0 = 48) ∨ digsB s = false then -1 else ((valD s : Nat) : Int) := rfl
  generalize numT s = r at *
  unfold bs
  by_cases h1 : s = []
  · rw [if_pos (.inl h1)] at E
    subst h1
    have HE := Lib.hid E
    clear E
    go_enter Tryd.func38, Tryd.ntmps38
    go_wp2
    go_ret
    exact ⟨ret_int HE.out.symm, rfl⟩
  have q1 : (s == []) = false := by simpa using h1
  by_cases h2 : 13 < s.length
  · rw [if_pos (.inr (.inl h2))] at E
    have HE := Lib.hid E
    clear E
    have d1 : (s.length : Int) > 13 := by omega
    clear h1
    go_enter Tryd.func38, Tryd.ntmps38
    go_wp2
    go_ret
    exact ⟨ret_int HE.out.symm, rfl⟩
  have d1 : decide ((s.length : Int) > 13) = false := by simp; omega
  have hpos : 0 < s.length := List.length_pos_iff.2 h1
  have hi0 : ∀ W, (Instr.index 9 (.string ⟨s.toArray⟩) (.int .i64 0)).run Tryd.prog W = .ok (.int .u8 ((s.getD 0 0).toNat : Int)) W := fun W => run_ltr s 0 hpos W
  by_cases h3 : 1 < s.length ∧ s.getD 0 0 = 48
  · rw [if_pos (.inr (.inr (.inl h3)))] at E
    have HE := Lib.hid E
    clear E
    have d2 : decide ((s.length : Int) > 1) = true := by simp; omega
    rw [h3.2] at hi0
    have e48 : (((48 : UInt8).toNat : Nat) : Int) = 48 := rfl
    rw [e48] at hi0
    clear h1 h2 h3 hpos
    go_enter Tryd.func38, Tryd.ntmps38
    go_wp2
    go_ret
    exact ⟨ret_int HE.out.symm, rfl⟩
  have HE : Hid (r = if digsB s = false then -1 else ((valD s : Nat) : Int)) := Lib.hid (by
    rw [E]
    by_cases h4 : digsB s = false
    · rw [if_pos (.inr (.inr (.inr h4))), if_pos h4]
    · rw [if_neg (by rintro (h | h | h | h); exact h1 h; exact h2 h; exact h3 h; exact h4 h), if_neg h4])
  have hl13 : s.length ≤ 13 := by omega
  have HX : Hid (∀ k, k < s.length → ∀ W, (Instr.index 9 (.string ⟨s.toArray⟩) (.int .i64 k)).run Tryd.prog W = .ok (.int .u8 ((s.getD k 0).toNat : Int)) W) := Lib.hid fun k hk W => run_ltr s k hk W
  have H3 := Lib.hid h3
  clear E h1 h2 h3
  have HC : ∃ d2 d3 : Bool, decide ((s.length : Int) > 1) = d2 ∧ (((s.getD 0 0).toNat : Int) == 48) = d3 ∧ (d2 = false ∨ (d2 = true ∧ d3 = false)) := by
    refine ⟨_, _, rfl, rfl, ?_⟩
    by_cases h : 1 < s.length
    · right
      have h4 : s.getD 0 0 ≠ 48 := fun e => H3.out ⟨h, e⟩
      have h5 : (s.getD 0 0).toNat ≠ 48 := fun e => h4 (UInt8.toNat_inj.1 e)
      generalize (s.getD 0 0).toNat = z at *
      exact ⟨by simp; omega, by simp; omega⟩
    · left
      simp; omega
  obtain ⟨d2, d3, e2, e3, hd⟩ := HC
  have HS := Lib.hid (fun k (hk : k < s.length) => take_snoc s k hk)
  have HT : Hid (digsB s = true → ∀ k, digsB (s.take k) = true) := Lib.hid (fun h k => digs_take h k)
  have HV := Lib.hid (fun k (hk : k ≤ s.length) (h : digsB (s.take k) = true) => valD_few (l := s.take k) (by simp; omega) h)
  clear H3
  generalize ((s.getD 0 0).toNat : Int) = c0 at *
  rcases hd with rfl | ⟨rfl, rfl⟩
  all_goals
    go_enter Tryd.func38, Tryd.ntmps38
    go_wp2
    clear e2 e3 hi0 q1
    go_loop [3, 4] (fun n i => ∃ k : Nat, k ≤ s.length ∧ i = .int .i64 k ∧ n = .int .i64 (valD (s.take k) : Nat) ∧ Hid (digsB (s.take k) = true)) (fun _ i => s.length - (intOf i).toNat)
    case atStart => exact ⟨0, by omega, rfl, by simp [valD], Lib.hid (by simp [digsB])⟩
    case round =>
      obtain ⟨k, hk, rfl, rfl, HD⟩ := hrel
      by_cases hlt : k < s.length
      · have hx := HX.out k hlt
        have e1 := HS.out k hlt
        have hv := HV.out k (by omega) HD.out
        have hki : (k : Int) < s.length := by omega
        have e4 := congrArg digsB e1
        rw [digs_snoc, HD.out, Bool.true_and] at e4
        have e5 := congrArg valD e1
        rw [valD_snoc] at e5
        generalize s.getD k 0 = c at *
        have hcb := c.toNat_lt
        have E4 := Lib.hid e4
        have E5 := Lib.hid e5
        generalize valD (s.take k) = v at *
        clear e1 e4 e5
        by_cases hc1 : c.toNat < 48
        · have hn : digsB s = false := by
            rw [Bool.eq_false_iff]
            intro e
            have := HT.out e (k + 1)
            rw [E4.out] at this
            simp at this
            omega
          have HE2 : Hid (r = -1) := Lib.hid (by rw [HE.out, if_pos hn])
          have c1 : ((c.toNat : Int) < 48) := by omega
          generalize (c.toNat : Int) = ci at *
          clear hn HS HT HV HE HX E4 E5 HD hc1
          go_wp2
          go_ret
          exact ⟨ret_int HE2.out.symm, rfl⟩
        by_cases hc2 : 57 < c.toNat
        · have hn : digsB s = false := by
            rw [Bool.eq_false_iff]
            intro e
            have := HT.out e (k + 1)
            rw [E4.out] at this
            simp at this
            omega
          have HE2 : Hid (r = -1) := Lib.hid (by rw [HE.out, if_pos hn])
          have c1 : decide ((c.toNat : Int) < 48) = false := by simp; omega
          have c2 : ((c.toNat : Int) > 57) := by omega
          generalize (c.toNat : Int) = ci at *
          clear hn HS HT HV HE HX E4 E5 HD hc1 hc2
          go_wp2
          go_ret
          exact ⟨ret_int HE2.out.symm, rfl⟩
        have HD2 : Hid (digsB (s.take (k + 1)) = true) := Lib.hid (by rw [E4.out]; simp; omega)
        have c1 : decide ((c.toNat : Int) < 48) = false := by simp; omega
        have c2 : decide ((c.toNat : Int) > 57) = false := by simp; omega
        have w1 : IntKind.i64.wrap ((v : Int) * 10) = (v : Int) * 10 := IntWalk.i64_in _ (by omega)
        have w2 : IntKind.u8.wrap ((c.toNat : Int) - 48) = (c.toNat : Int) - 48 := by simp [IntKind.wrap, IntKind.signed, IntKind.bits]; omega
        have w3 : IntKind.i64.wrap ((c.toNat : Int) - 48) = (c.toNat : Int) - 48 := IntWalk.i64_in _ (by omega)
        have w4 : IntKind.i64.wrap ((v : Int) * 10 + ((c.toNat : Int) - 48)) = (v : Int) * 10 + ((c.toNat : Int) - 48) := IntWalk.i64_in _ (by omega)
        have E6 : Hid (((valD (s.take (k + 1)) : Nat) : Int) = (v : Int) * 10 + ((c.toNat : Int) - 48)) := Lib.hid (by rw [E5.out]; omega)
        generalize (c.toNat : Int) = ci at *
        clear HS HT HV HX E4 E5 HD hc1 hc2
        go_wp2
        go_round
        case rel => exact ⟨k + 1, by omega, by go_num, by rw [E6.out], HD2⟩
        case measure => (simp [intOf] <;> omega)
      · obtain rfl : k = s.length := by omega
        rw [List.take_length] at *
        have HE2 : Hid (r = ((valD s : Nat) : Int)) := Lib.hid (by rw [HE.out, if_neg (by rw [HD.out]; simp)])
        clear HS HT HV HX HE
        go_wp2
        go_ret
        exact ⟨ret_int HE2.out.symm, rfl⟩

theorem below_draws {B : Nat} {w w' : World} (h : Below B w w') (n : Nat) : Below B w (w'.drewN n) := ⟨h.os, h.tape, h.output, h.size, h.block⟩
/-- The kind as far as the first k - 1 words have been tried. -/
def kdT (a : List UInt8) (k : Nat) : Int := if kindT a < k then kindT a else 0
theorem kd_one (a : List UInt8) : kdT a 1 = 0 := by
  have := kind_range a
  unfold kdT
  split <;> omega
theorem kd_all (a : List UInt8) : kdT a 11 = kindT a := by
  have := kind_range a
  unfold kdT
  rw [if_pos (by omega)]
theorem kd_yes {a : List UInt8} {k : Nat} (h1 : 1 ≤ k) (h2 : k ≤ 10) (h : wordT k = a) : kdT a (k + 1) = k := by
  have := kind_of (k := k) (by omega) (by omega) h
  unfold kdT
  rw [this, if_pos (by omega)]
theorem kd_no {a : List UInt8} {k : Nat} (h1 : 1 ≤ k) (h : wordT k ≠ a) : kdT a (k + 1) = kdT a k := by
  have h2 := kind_not (k := k) (by omega) h
  unfold kdT
  by_cases h3 : kindT a < k
  · rw [if_pos h3, if_pos (by omega)]
  · rw [if_neg h3, if_neg (by omega)]

theorem three {v : Value} {w : World} {a b c : List UInt8} (h : Vls 9 w v (wvs [a, b, c])) :
    ∃ g cap, v = .slice (some ⟨g, 0, none⟩) 3 cap ∧ g < w.heap.size ∧ w.cell? ⟨g, 0, none⟩ = some (.string ⟨a.toArray⟩) ∧ w.cell? ⟨g, 1, none⟩ = some (.string ⟨b.toArray⟩) ∧ w.cell? ⟨g, 2, none⟩ = some (.string ⟨c.toArray⟩) := by
  have hlt := fun g => h.lt (g := g)
  obtain ⟨a2, cap, e, _, _, h2⟩ := h.is
  obtain ⟨g, rfl, e2, _, h3⟩ := h2 (by simp [wvs])
  refine ⟨g, cap, e, hlt g e2, ?_, ?_, ?_⟩
  · rcases h3 0 with h | h
    · rw [h]; rfl
    · simp [wvs] at h
  · rcases h3 1 with h | h
    · rw [h]; rfl
    · simp [wvs] at h
  · rcases h3 2 with h | h
    · rw [h]; rfl
    · simp [wvs] at h
theorem doc_three {s a b c : List UInt8} (h : wordsL s = [a, b, c]) : docT s = if fitsB ⟨kindT a, numT b, numT c⟩ = true then some ⟨kindT a, numT b, numT c⟩ else none := by
  unfold docT
  rw [h]
theorem doc_else {s : List UInt8} (h : (wordsL s).length ≠ 3) : docT s = none := by
  unfold docT
  split
  · rename_i a b c hw
    rw [hw] at h
    exact absurd rfl h
  · rfl

set_option maxHeartbeats 2000000 in
set_option maxRecDepth 100000 in
theorem rParseLine (s : List UInt8) (hl : s.length < 100000) (w : World) :
    Calls Tryd.prog 29 #[bs s] w fun e w' => e = .returned (parV s) ∧ Below w.heap.size w w' := by
  have E : parV s = (match docT s with | some x => .tuple #[enV x, .bool true] | none => .tuple #[.agg #[.int .i64 0, .int .i64 0, .int .i64 0], .bool false]) := rfl
  have HW := Lib.hid (fun W => rWords s hl W)
  generalize parV s = r at *
  have b0 : Below w.heap.size w (w.alloc (.cells #[.int .i64 0, .int .i64 0, .int .i64 0] 30)) := (Below.refl _ _).alloc (Nat.le_refl _) _
  have i0 := Nb.made 30 w 0 0 0
  by_cases h3 : (wordsL s).length = 3
  · obtain ⟨sa, sb, sc, hw⟩ : ∃ a b c, wordsL s = [a, b, c] := by
      match h : wordsL s, h3 with
      | [a, b, c], _ => exact ⟨a, b, c, rfl⟩
    rw [doc_three hw] at E
    rw [hw] at HW
    have HB := Lib.hid (fun W => rNumber sb W)
    have HC := Lib.hid (fun W => rNumber sc W)
    have HK1 := Lib.hid (kd_one sa)
    have HKA := Lib.hid (kd_all sa)
    have HKY := Lib.hid (fun k h1 h2 h => kd_yes (a := sa) (k := k) h1 h2 h)
    have HKN := Lib.hid (fun k h1 h => kd_no (a := sa) (k := k) h1 h)
    have HE := Lib.hid E
    clear E hw h3
    generalize kindT sa = K at *
    generalize numT sb = B at *
    generalize numT sc = C at *
    have HF := Lib.hid (fun W => rFits ⟨K, B, C⟩ W)
    have HWd := Lib.hid (fun (k : Int) W => rWord k W)
    unfold bs at HB HC ⊢
    unfold bs enV at *
    go_enter Tryd.func29, Tryd.ntmps29
    go_wp2_with fail
    generalize w.alloc (.cells #[.int .i64 0, .int .i64 0, .int .i64 0] 30) = x at *
    refine (HW.out x).mono ?_
    rintro e y ⟨v, rfl, hV, hy⟩
    obtain ⟨g, cap, rfl, hg, c0, c1, c2⟩ := three hV
    replace i0 := i0.below hy
    replace b0 := b0.trans (hy.mono b0.size)
    clear hy hV HW
    go_upto_region 4 with fail
    have HC0 : Hid (∀ W, Below y.heap.size y W → W.cell? ⟨g, 0, none⟩ = some (.string ⟨sa.toArray⟩)) := Lib.hid fun W hW => (hW.cell (p := ⟨g, 0, none⟩) hg).trans c0
    have HCW : Hid (∀ W, Below y.heap.size y W → W.cell? ⟨g, 1, none⟩ = some (.string ⟨sb.toArray⟩) ∧ W.cell? ⟨g, 2, none⟩ = some (.string ⟨sc.toArray⟩)) := Lib.hid fun W hW => ⟨(hW.cell (p := ⟨g, 1, none⟩) hg).trans c1, (hW.cell (p := ⟨g, 2, none⟩) hg).trans c2⟩
    clear c0 c1 c2
    refine wp_region_put 9 10 30 #[.int .i64 0, .int .i64 0, .int .i64 0] (fun W b => put3 W b (.int .i64 0) (.int .i64 B) (.int .i64 C)) (fun W b => Nb 30 W b ⟨0, B, C⟩) (fun vs => { tmps := #[.string ⟨s.toArray⟩, undef, .pointer (some ⟨w.heap.size, 0, none⟩), .bool false, .slice (some ⟨g, 0, none⟩) 3 cap, vs 9, undef, .string ⟨s.toArray⟩, .slice (some ⟨g, 0, none⟩) 3 cap, .slice (some ⟨g, 0, none⟩) 3 cap, .int .i64 3, .bool false, undef, vs 0, vs 1, vs 2, vs 3, vs 4, vs 5, vs 6, vs 7, vs 8, undef, undef, undef, undef, undef, undef, undef, undef, undef, undef, undef, undef, undef, undef, undef, undef, undef], defers := [] }) (mixT [] [.slice (some ⟨g, 0, none⟩) 3 cap, .pointer (some ⟨g, 1, none⟩), .string ⟨sb.toArray⟩, .int .i64 B, .slice (some ⟨g, 0, none⟩) 3 cap, .pointer (some ⟨g, 2, none⟩), .string ⟨sc.toArray⟩, .int .i64 C, .agg #[.int .i64 0, .int .i64 B, .int .i64 C], undef, undef]) ?ghm ?ghr ?ghns ?ghlen ?glit ?gst ?gst2 ?gd1 ?gbel ?gdn ?gnew ?gsto ?gops ?gdone
    case ghm => kernel_rfl
    case ghr => kernel_rfl
    case ghns => kernel_rfl
    case ghlen => rfl
    case glit => intro vs; rfl
    case gst => exact mixT_stable (by intro p hp; cases hp)
    case gst2 =>
      have hk := mixT_keep (R := fun W W2 => ∃ b, Bk W b 30 #[.int .i64 0, .int .i64 0, .int .i64 0] ∧ W2 = put3 W b (.int .i64 0) (.int .i64 B) (.int .i64 C)) (ps := []) (l := [.slice (some ⟨g, 0, none⟩) 3 cap, .pointer (some ⟨g, 1, none⟩), .string ⟨sb.toArray⟩, .int .i64 B, .slice (some ⟨g, 0, none⟩) 3 cap, .pointer (some ⟨g, 2, none⟩), .string ⟨sc.toArray⟩, .int .i64 C, .agg #[.int .i64 0, .int .i64 B, .int .i64 C], undef, undef]) (by intro p hp; cases hp)
      exact fun i v W b h hb => hk i v W _ h ⟨b, hb, rfl⟩
    case gd1 => exact fun W W2 b h hb => Nb.below h hb
    case gbel => exact fun W b hb h => put3_below h hb _ _ _
    case gdn => exact fun W b h => put3_bk h _ _ _
    case gnew =>
      intro o ho vs W hW
      injection ho with ho
      subst ho
      refine leaves_free rfl ?_
      go_simp
      exact ⟨⟨W.heap.size, rfl, hW.size, Nb.made _ W 0 0 0⟩, (Below.refl _ _).alloc (Nat.le_refl _) _⟩
    case gsto =>
      intro o ho vs W b hW hd hb hk
      injection ho with ho
      subst ho
      have ev : vs 8 = .agg #[.int .i64 0, .int .i64 B, .int .i64 C] := hd 8 (by decide) rfl
      have zf := Bk.free hk
      obtain ⟨z0, z1, z2⟩ := Nb.cells (x := ⟨0, 0, 0⟩) hk
      simp only at z0 z1 z2
      refine leavesIf_free rfl ?_
      clear hd
      go_simp
      rfl
    case gops =>
      refine ⟨?_, ?_, ?_, ?_, ?_, ?_, ?_, ?_, ?_, ?_, ?_, trivial⟩
      · intro _ vs W hW hd
        refine leaves_free rfl ?_
        go_simp
        exact ⟨rfl, Below.refl _ _⟩
      · intro _ vs W hW hd
        refine leaves_free rfl ?_
        have e0 : vs 0 = .slice (some ⟨g, 0, none⟩) 3 cap := hd 0 (by decide) rfl
        go_simp
        exact ⟨rfl, Below.refl _ _⟩
      · intro _ vs W hW hd
        refine leaves_free rfl ?_
        have e1 : vs 1 = .pointer (some ⟨g, 1, none⟩) := hd 1 (by decide) rfl
        obtain ⟨c1, c2⟩ := HCW.out W hW
        go_simp
        exact ⟨rfl, Below.refl _ _⟩
      · intro _ vs W hW hd
        refine leaves_free rfl ?_
        have e2 : vs 2 = .string ⟨sb.toArray⟩ := hd 2 (by decide) rfl
        have HS := Lib.hid (HB.out W)
        clear hd
        go_simp
        refine HS.out.mono ?_
        rintro e z ⟨he, rfl⟩
        exact ⟨_, he, rfl, Below.refl _ _⟩
      · intro _ vs W hW hd
        refine leaves_free rfl ?_
        go_simp
        exact ⟨rfl, Below.refl _ _⟩
      · intro _ vs W hW hd
        refine leaves_free rfl ?_
        have e4 : vs 4 = .slice (some ⟨g, 0, none⟩) 3 cap := hd 4 (by decide) rfl
        go_simp
        exact ⟨rfl, Below.refl _ _⟩
      · intro _ vs W hW hd
        refine leaves_free rfl ?_
        have e5 : vs 5 = .pointer (some ⟨g, 2, none⟩) := hd 5 (by decide) rfl
        obtain ⟨c1, c2⟩ := HCW.out W hW
        go_simp
        exact ⟨rfl, Below.refl _ _⟩
      · intro _ vs W hW hd
        refine leaves_free rfl ?_
        have e6 : vs 6 = .string ⟨sc.toArray⟩ := hd 6 (by decide) rfl
        have HS := Lib.hid (HC.out W)
        clear hd
        go_simp
        refine HS.out.mono ?_
        rintro e z ⟨he, rfl⟩
        exact ⟨_, he, rfl, Below.refl _ _⟩
      · intro _ vs W hW hd
        refine leaves_free rfl ?_
        have e3 : vs 3 = .int .i64 B := hd 3 (by decide) rfl
        have e7 : vs 7 = .int .i64 C := hd 7 (by decide) rfl
        go_simp
        exact ⟨rfl, Below.refl _ _⟩
      · exact fun h => absurd h (by decide)
      · exact fun h => absurd h (by decide)
    case gdone =>
      intro vs W b hW hf hgv hgb pb
      have f0 : vs 0 = .slice (some ⟨g, 0, none⟩) 3 cap := hf 0 (by decide) rfl
      have f1 : vs 1 = .pointer (some ⟨g, 1, none⟩) := hf 1 (by decide) rfl
      have f2 : vs 2 = .string ⟨sb.toArray⟩ := hf 2 (by decide) rfl
      have f3 : vs 3 = .int .i64 B := hf 3 (by decide) rfl
      have f4 : vs 4 = .slice (some ⟨g, 0, none⟩) 3 cap := hf 4 (by decide) rfl
      have f5 : vs 5 = .pointer (some ⟨g, 2, none⟩) := hf 5 (by decide) rfl
      have f6 : vs 6 = .string ⟨sc.toArray⟩ := hf 6 (by decide) rfl
      have f7 : vs 7 = .int .i64 C := hf 7 (by decide) rfl
      have f8 : vs 8 = .agg #[.int .i64 0, .int .i64 B, .int .i64 C] := hf 8 (by decide) rfl
      simp only [f0, f1, f2, f3, f4, f5, f6, f7, f8]
      simp only [hgv]
      clear hf hgv f0 f1 f2 f3 f4 f5 f6 f7 f8
      have HI := Lib.hid i0
      clear i0 HCW HB HC
      rw [← HK1.out] at pb
      go_wp2
      go_loopg [6] 10 (fun gk v6 wr => ∃ k : Nat, 1 ≤ k ∧ k ≤ 11 ∧ v6 = .int .i64 k ∧ k + gk = 11 ∧ Below y.heap.size y wr ∧ Nb 30 wr b ⟨kdT sa k, B, C⟩)
      case atStart => exact ⟨1, by omega, by omega, rfl, by omega, hW, pb⟩
      case round =>
        obtain ⟨k, k1, k2, rfl, hk, hb, hN⟩ := hrel
        by_cases hlt : k ≤ 10
        · have c0 := HC0.out wr hb
          have HY := Lib.hid (HKY.out k k1 hlt)
          have HN := Lib.hid (HKN.out k k1)
          have HWk := Lib.hid (fun W => (HWd.out k W).mono fun _ W2 ⟨h1, h2⟩ => (⟨h1, h2.symm⟩ : _ ∧ W2 = W))
          generalize wordT k = wd at *
          have k4 : (k : Int) ≤ 10 := by omega
          have k5 : (k : Int) < 11 := by omega
          go_upto_region 8 with fail
          by_cases hq : wd = sa
          · have q1 : (wd == sa) = true := by simpa using hq
            have hkd := HY.out hq
            clear hq HY HN
            go_quiet ((go_at_call 25; with_reducible exact Calls.quiet_of_same (HWk.out _)))
            have hb2 : Below y.heap.size y (wr.drewN nq) := below_draws hb nq
            have hN2 : Nb 30 (wr.drewN nq) b ⟨kdT sa k, B, C⟩ := hN
            generalize wr.drewN nq = u at *
            obtain ⟨z0, z1, z2⟩ := hN2.cells
            simp only at z0 z1 z2
            have zf := Bk.free hN2
            have hN3 : Nb 30 (u.setCell ⟨b, 0, none⟩ (.int .i64 k)) b ⟨kdT sa (k + 1), B, C⟩ := by
              rw [hkd]
              exact Bk.put hN2 0 _
            have hb3 := hb2.setCell (u := .int .i64 k) (p := ⟨b, 0, none⟩) hgb
            clear hkd c0
            go_wp2
            go_roundg (gk - 1)
            case rel => exact ⟨k + 1, by omega, by omega, by go_num, by omega, hb3, hN3⟩
            case measure => omega
          · have q1 : (wd == sa) = false := by simpa using hq
            have hkd := HN.out hq
            clear hq HY HN
            go_quiet ((go_at_call 25; with_reducible exact Calls.quiet_of_same (HWk.out _)))
            have hb2 : Below y.heap.size y (wr.drewN nq) := below_draws hb nq
            have hN2 : Nb 30 (wr.drewN nq) b ⟨kdT sa k, B, C⟩ := hN
            rw [← hkd] at hN2
            generalize wr.drewN nq = u at *
            clear hkd c0
            go_wp2
            go_roundg (gk - 1)
            case rel => exact ⟨k + 1, by omega, by omega, by go_num, by omega, hb2, hN2⟩
            case measure => omega
        · obtain rfl : k = 11 := by omega
          rw [HKA.out] at hN
          obtain ⟨z0, z1, z2⟩ := hN.cells
          simp only at z0 z1 z2
          have hlb := Bk.lt hN
          go_wp2_with fail
          refine (HF.out wr).mono ?_
          rintro e u ⟨rfl, hu⟩
          have i2 := (HI.out.below hb).below hu
          have b2 := (b0.trans (hb.mono b0.size)).trans (hu.mono (b0.trans (hb.mono b0.size)).size)
          have hN2 := hN.below hu
          clear z0 z1 z2
          obtain ⟨z0, z1, z2⟩ := hN2.cells
          obtain ⟨r0, r1, r2⟩ := i2.cells
          simp only at z0 z1 z2 r0 r1 r2
          have hf := Bk.free i2
          cases hq : fitsB ⟨K, B, C⟩ with
          | true =>
            rw [hq] at HE
            have bz := put3_below b2 (Nat.le_refl _) (.int .i64 K) (.int .i64 B) (.int .i64 C)
            have o1 := put3_bk i2 (.int .i64 K) (.int .i64 B) (.int .i64 C)
            clear hq
            go_wp2_with (refine bodyPost_ret (v := .tuple #[.agg #[.int .i64 K, .int .i64 B, .int .i64 C], .bool true]) (w := put3 u w.heap.size (.int .i64 K) (.int .i64 B) (.int .i64 C)) ?hres rfl ?hpost)
            case hpost => exact ⟨by rw [HE.out]; rfl, bz⟩
            case hres =>
              clear bz
              generalize put3 u w.heap.size (.int .i64 K) (.int .i64 B) (.int .i64 C) = v9 at *
              obtain ⟨o0, o2, o3⟩ : v9.cell? ⟨w.heap.size, 0, none⟩ = some (.int .i64 K) ∧ v9.cell? ⟨w.heap.size, 1, none⟩ = some (.int .i64 B) ∧ v9.cell? ⟨w.heap.size, 2, none⟩ = some (.int .i64 C) := ⟨o1.cell 0, o1.cell 1, o1.cell 2⟩
              simp [results, Tryd.results29, go_sem, o0, o2, o3]
          | false =>
            rw [hq] at HE
            have bz := put3_below b2 (Nat.le_refl _) (.int .i64 0) (.int .i64 0) (.int .i64 0)
            have o1 := put3_bk i2 (.int .i64 0) (.int .i64 0) (.int .i64 0)
            clear hq
            go_wp2_with (refine bodyPost_ret (v := .tuple #[.agg #[.int .i64 0, .int .i64 0, .int .i64 0], .bool false]) (w := put3 u w.heap.size (.int .i64 0) (.int .i64 0) (.int .i64 0)) ?hres rfl ?hpost)
            case hpost => exact ⟨by rw [HE.out]; rfl, bz⟩
            case hres =>
              clear bz
              generalize put3 u w.heap.size (.int .i64 0) (.int .i64 0) (.int .i64 0) = v9 at *
              obtain ⟨o0, o2, o3⟩ : v9.cell? ⟨w.heap.size, 0, none⟩ = some (.int .i64 0) ∧ v9.cell? ⟨w.heap.size, 1, none⟩ = some (.int .i64 0) ∧ v9.cell? ⟨w.heap.size, 2, none⟩ = some (.int .i64 0) := ⟨o1.cell 0, o1.cell 1, o1.cell 2⟩
              simp [results, Tryd.results29, go_sem, o0, o2, o3]
  · rw [doc_else h3] at E
    have HE := Lib.hid E
    have hn : decide ((wordsL s).length ≠ 3) = true := by simpa using h3
    have hlen : (wvs (wordsL s)).length = (wordsL s).length := by simp [wvs]
    generalize wordsL s = ws at *
    clear E
    unfold bs
    go_enter Tryd.func29, Tryd.ntmps29
    go_wp2_with fail
    generalize w.alloc (.cells #[.int .i64 0, .int .i64 0, .int .i64 0] 30) = x at *
    unfold bs at HW
    refine (HW.out x).mono ?_
    rintro e y ⟨v, rfl, hV, hy⟩
    obtain ⟨a2, cap, rfl, hc1, hc2, _⟩ := hV.is
    rw [hlen] at *
    replace i0 := i0.below hy
    replace b0 := b0.trans (hy.mono b0.size)
    clear hy hV HW
    obtain ⟨r0, r1, r2⟩ := i0.cells
    simp only at r0 r1 r2
    have hf := Bk.free i0
    have hn2 : ((ws.length : Int) == 3) = false := by simp; omega
    have bz := put3_below b0 (Nat.le_refl _) (.int .i64 0) (.int .i64 0) (.int .i64 0)
    have o1 := put3_bk i0 (.int .i64 0) (.int .i64 0) (.int .i64 0)
    clear hn h3
    go_wp2_with (refine bodyPost_ret (v := .tuple #[.agg #[.int .i64 0, .int .i64 0, .int .i64 0], .bool false]) (w := put3 y w.heap.size (.int .i64 0) (.int .i64 0) (.int .i64 0)) ?hres rfl ?hpost)
    case hpost => exact ⟨by rw [HE.out], bz⟩
    case hres =>
      clear bz
      generalize put3 y w.heap.size (.int .i64 0) (.int .i64 0) (.int .i64 0) = v9 at *
      obtain ⟨o0, o2, o3⟩ : v9.cell? ⟨w.heap.size, 0, none⟩ = some (.int .i64 0) ∧ v9.cell? ⟨w.heap.size, 1, none⟩ = some (.int .i64 0) ∧ v9.cell? ⟨w.heap.size, 2, none⟩ = some (.int .i64 0) := ⟨o1.cell 0, o1.cell 1, o1.cell 2⟩
      simp [results, Tryd.results29, go_sem, o0, o2, o3]
end Go.Proofs.YtjhdpolaapbihaaDoor
