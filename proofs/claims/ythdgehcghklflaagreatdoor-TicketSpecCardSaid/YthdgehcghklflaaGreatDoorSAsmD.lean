/- AsmD. -/
import Derived.Test.YthdgehcghklflaaGreatDoorSPrgM
import Derived.Test.YthdgehcghklflaaGreatDoorSFlow
import Derived.Test.YthdgehcghklflaaGreatDoorSAsmB
import Derived.Test.YthdgehcghklflaaGreatDoorSAsmC
/- (*draft).add: one line. -/
namespace Go.Proofs.YthdgehcghklflaaGreatDoor
open Go.ChangeShapes Go.WideShapes Go.ChangeAt Go.RowKit Go.Shelf
set_option linter.unusedVariables false

theorem lb_snoc (t : List UInt8) : lbB (t ++ [58]) = nameB t := by
  unfold lbB
  simp
theorem lb_not {s : List UInt8} (h : ∀ t, s ≠ t ++ [58]) : lbB s = false := by
  rw [Bool.eq_false_iff]
  intro e
  unfold lbB at e
  simp only [Bool.and_eq_true, decide_eq_true_eq, Bool.not_eq_true', List.isEmpty_eq_false_iff] at e
  obtain ⟨h1, h2, _⟩ := e
  refine h s.dropLast ?_
  have := List.dropLast_concat_getLast h1
  have h3 : (s.dropLast ++ [s.getLast h1]).getLastD 0 = 58 := by rw [this]; exact h2
  simp at h3
  rw [h3] at this
  exact this.symm

/-- Behind a line: the error, the labels, the rows. -/
def addL (s : List UInt8) (n : Int) (ls : List (List UInt8 × Int)) (rs : List Rw) : Int × List (List UInt8 × Int) × List Rw :=
  if lbB s = true then (if labB ls s.dropLast = true then (2, ls, rs) else (0, ls ++ [(s.dropLast, (rs.length : Int))], rs))
  else match lineL s with
    | none => (8, ls, rs)
    | some (i, nm) => if 64 ≤ rs.length then (9, ls, rs) else (0, ls, rs ++ [(i, nm, n)])
section
variable {w : World} {p m lo : Nat} {ls : List (List UInt8 × Int)} {rs : List Rw}
theorem cAddEnd (h : Dr w p m lo ls rs) (s : List UInt8) (hs : ∀ t, s ≠ t ++ [10]) (hl : s.length < 100000) (n : Int) :
    Calls Tryz.prog 60 #[.pointer (some ⟨p, 0, none⟩), .int .i64 n, bs s] w fun e w' => e = .returned (.int .i64 8) ∧ w = w' := by
  have HC := Lib.hid (fun W => lCut s [10] (by omega) W)
  rw [(suf_no hs).1, (suf_no hs).2] at HC
  unfold bs
  go_enter Tryz.func60, Tryz.ntmps60
  go_wp2_with fail
  refine (HC.out _).mono ?_
  rintro e w' ⟨rfl, rfl⟩
  unfold bs
  go_wp2
  go_ret
  exact ⟨rfl, rfl⟩

/-- What add leaves. -/
def Added (w : World) (p m lo : Nat) (q : Int × List (List UInt8 × Int) × List Rw) (e : Ending) (w' : World) : Prop := e = .returned (.int .i64 q.1) ∧ Dr w' p m lo q.2.1 q.2.2 ∧ Within w w' (InDr p m lo)

set_option maxHeartbeats 1000000 in
theorem cAddA (h : Dr w p m lo ls rs) (hlo : lo ≤ w.heap.size) (L : Lb w) (s : List UInt8) (hl : s.length < 90000) (n : Int) (hls : ls.length < 1000000) (hrs : rs.length ≤ 64) :
    Calls Tryz.prog 60 #[.pointer (some ⟨p, 0, none⟩), .int .i64 n, bs (s ++ [10])] w (Added w p m lo (addL s n ls rs)) := by
  have HC := Lib.hid (fun W => lCut (s ++ [10]) [10] (by simp; omega) W)
  rw [(suf_yes s 10).1, (suf_yes s 10).2] at HC
  have HK := Lib.hid (fun W => lCut s [58] (by omega) W)
  have HI := Lib.hid (fun W LW => cInstOf s (by omega) W LW)
  have HB : Hid (∀ W, Below w.heap.size w W → Dr W p m lo ls rs ∧ Within w W (InDr p m lo)) := Lib.hid fun W hW => ⟨h.within (within_of_below hW) (by simp) (by simp) (by simp), (within_of_below hW).wide (by simp)⟩
  have HLB := Lib.hid (fun W (hW : Below w.heap.size w W) => L.below hW)
  rcases suf_or s 58 with ⟨nm, hnm⟩ | hno
  case' inl =>
    have e1 := (suf_yes nm 58).1
    have e2 := (suf_yes nm 58).2
    rw [← hnm] at e1 e2
    rw [e1, e2] at HK
    have HN := Lib.hid (fun W => cIsName nm W)
    have hlb : lbB s = nameB nm := by rw [hnm]; exact lb_snoc nm
    have hdl : s.dropLast = nm := by rw [hnm]; simp
    have HD := Lib.hid hdl
    have hnl : nm.length ≤ 1000000 := by rw [hnm] at hl; simp at hl; omega
    clear e1 e2 hdl
    clear hnm
    unfold bs
    go_enter Tryz.func60, Tryz.ntmps60
    go_wp2_with fail
    refine (HC.out _).mono ?_
    rintro e w' ⟨rfl, rfl⟩
    unfold bs
    go_wp2_with fail
    refine (HK.out _).mono ?_
    rintro e w' ⟨rfl, rfl⟩
    unfold bs
    go_wp2_with fail
    refine (HN.out _).mono ?_
    rintro e x ⟨rfl, bb⟩
    rcases hq : nameB nm
    case' true =>
      rw [hq] at hlb
      have HLBL := Lib.hid hlb
      clear HI HC HK HN hq hlb
      obtain ⟨hD, hW⟩ := HB.out x bb
      rcases hk : labB ls nm
      · have HA := Lib.hid (cAddLabel hD nm hnl hls hrs hk)
        go_wp2_with fail
        refine HA.out.mono ?_
        rintro e y ⟨rfl, hD2, hW2⟩
        go_wp2
        go_ret
        have : addL s n ls rs = (0, ls ++ [(nm, (rs.length : Int))], rs) := by
          unfold addL
          rw [if_pos HLBL.out, HD.out, if_neg (by rw [hk]; simp)]
        unfold Added
        rw [this]
        exact ⟨rfl, hD2, hW.then_ hW2 fun i hi => .inl hi⟩
      · have HA := Lib.hid (cAddLabelNo hD nm hnl hk)
        go_wp2_with fail
        refine HA.out.mono ?_
        rintro e y ⟨rfl, rfl⟩
        go_wp2
        go_ret
        have : addL s n ls rs = (2, ls, rs) := by
          unfold addL
          rw [if_pos HLBL.out, HD.out, if_pos hk]
        unfold Added
        rw [this]
        exact ⟨rfl, hD, hW⟩
    case' false =>
      rw [hq] at hlb
      have HLBL := Lib.hid hlb
      clear HC HK HN hq hlb HD
      go_wp2_with fail
  case' inr =>
    rw [(suf_no hno).1, (suf_no hno).2] at HK
    have HLBL := Lib.hid (lb_not hno)
    clear hno
    unfold bs
    go_enter Tryz.func60, Tryz.ntmps60
    go_wp2_with fail
    refine (HC.out _).mono ?_
    rintro e w' ⟨rfl, rfl⟩
    unfold bs
    go_wp2_with fail
    refine (HK.out _).mono ?_
    rintro e w' ⟨rfl, rfl⟩
    unfold bs
    have bb := Below.refl w.heap.size w
    clear HC HK
    go_wp2_with fail
  all_goals (
    refine (HI.out _ (HLB.out _ bb)).mono ?_
    rintro e y ⟨rfl, hby⟩
    replace bb := bb.trans (hby.mono bb.size)
    clear hby HI
    rcases hq : lineL s with _ | ⟨⟨op, d, s', t, u, a, k, pl⟩, nm2⟩
    · have e : instOfV s = .tuple #[.agg #[.int .i64 0, .int .i64 0, .int .i64 0, .int .i64 0, .int .i64 0, .int .i64 0, .int .u32 0, .int .i64 0], .string ⟨#[]⟩, .bool false] := by unfold instOfV; rw [hq]; rfl
      have ea : addL s n ls rs = (8, ls, rs) := by unfold addL; rw [if_neg (by rw [HLBL.out]; simp), hq]
      have EA := Lib.hid ea
      rw [e]
      clear e hq HLBL ea
      go_wp2
      go_ret
      unfold Added
      rw [EA.out]
      exact ⟨rfl, HB.out _ (bb.alloc bb.size _)⟩
    · have e : instOfV s = .tuple #[.agg #[.int .i64 op, .int .i64 d, .int .i64 s', .int .i64 t, .int .i64 u, .int .i64 a, .int .u32 k, .int .i64 pl], .string ⟨nm2.toArray⟩, .bool true] := by unfold instOfV; rw [hq]; rfl
      have ea : addL s n ls rs = if 64 ≤ rs.length then (9, ls, rs) else (0, ls, rs ++ [(⟨op, d, s', t, u, a, k, pl⟩, nm2, n)]) := by unfold addL; rw [if_neg (by rw [HLBL.out]; simp), hq]
      have EA := Lib.hid ea
      rw [e]
      clear e hq HLBL ea
      go_upto_region 8 with fail
      have m2 := Ib.made y op d s' t u a k pl
      replace bb := bb.alloc (o := .cells #[.int .i64 op, .int .i64 d, .int .i64 s', .int .i64 t, .int .i64 u, .int .i64 a, .int .u32 k, .int .i64 pl] 119) bb.size
      generalize y.heap.size = g at *
      generalize y.alloc (.cells #[.int .i64 op, .int .i64 d, .int .i64 s', .int .i64 t, .int .i64 u, .int .i64 a, .int .u32 k, .int .i64 pl] 119) = x3 at *
      obtain ⟨c0, c1, c2, c3, c4, c5, c6, c7⟩ := m2.cells
      simp only at c0 c1 c2 c3 c4 c5 c6 c7
      obtain ⟨hD, hW⟩ := HB.out x3 bb
      go_wp2_with fail
      by_cases h64 : rs.length < 64
      · refine (cAddRow hD h64 (Nat.le_trans hlo bb.size) (⟨op, d, s', t, u, a, k, pl⟩, nm2, n)).mono ?_
        rintro e z ⟨rfl, hD2, hW2⟩
        go_wp2
        go_ret
        unfold Added
        rw [EA.out, if_neg (by omega)]
        exact ⟨rfl, hD2, hW.then_ hW2 fun i hi => .inl hi⟩
      · refine (cAddRowNo hD (by omega) (⟨op, d, s', t, u, a, k, pl⟩, nm2, n)).mono ?_
        rintro e z ⟨rfl, hz⟩
        go_wp2
        go_ret
        unfold Added
        rw [EA.out, if_pos (by omega)]
        exact ⟨rfl, HB.out _ (bb.trans (hz.mono bb.size))⟩)
end
end Go.Proofs.YthdgehcghklflaaGreatDoor
