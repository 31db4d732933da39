/- What Give and Take of layer 4 (permit) return for a thread that there is, and who has a permit then: by a walk up to the select, one step of the machine, and a walk behind it. -/
import Derived.Test.YtjdnellafephfaaPermit
namespace Go.Proofs.Ytjdnellafephfaa
open Go.ChangeShapes Go.WideShapes Go.ChangeAt Go.RowKit Go.Conc

/-- Behind a Give or a Take: what it tells, who has one; only channels have changed. -/
def Turned (w : World) (g n : Nat) (did : Bool) (bs' : List Bool) (e : Ending) (w' : World) : Prop :=
  e = .returned (.tuple #[.bool did, .int .i64 0]) ∧ Pm w' g n bs' ∧ Within w w' (InPm g n)

section
variable {w w' : World} {g n : Nat} {bs : List Bool}

theorem set_same {t : Nat} {b : Bool} (h : nthO false bs t = b) (ht : t < bs.length) : bs.set t b = bs := by
  refine nthO_ext (z := false) (by simp) fun i _ => ?_
  rw [nthO_set ht]
  by_cases e : t = i
  · subst e; rw [if_pos rfl, h]
  · rw [if_neg e]

set_option maxRecDepth 100000 in
theorem pGive (h : Pm w g n bs) (t : Nat) (ht : t < n) :
    Calls Try.prog 26 #[.pointer (some ⟨g + 1 + n, 0, none⟩), .int .i64 t] w (Turned w g n (!nthO false bs t) (bs.set t true)) := by
  have h0 := h.c0
  have h1 := h.at_ ht
  have hf := h.few
  have hl := h.len
  have hp := h.put ht
  obtain ⟨s, r, hc⟩ := h.chs t ht
  refine calls_of_loneTo (fun cs => ?_) (by rintro _ ⟨hh, _⟩; cases hh)
  have e : Frame.enter Try.prog 26 #[.pointer (some ⟨g + 1 + n, 0, none⟩), .int .i64 t] .normal
      = (base 26).at ⟨#[.pointer (some ⟨g + 1 + n, 0, none⟩), .int .i64 t, undef, undef, undef, undef, undef, undef, undef, undef, undef, undef, undef, undef, undef, undef, undef, undef, undef, undef, undef], []⟩ [.code (Try.f26.body.getD .skip)] := by
    simp [Frame.enter, Frame.at, Try.func26, base, Try.f26]
  rw [e]
  clear e
  simp only [Try.f26, Option.getD_some]
  refine loneTo_seq (loneTo_wp fun K hK => ?_)
  go_wp2
  refine loneTo_seq (loneTo_wp fun K hK => ?_)
  go_wp2_with fail
  refine (pIs h t ht).mono ?_
  rintro e w' ⟨rfl, rfl⟩
  go_wp2
  refine loneTo_seq (loneTo_wp fun K hK => ?_)
  go_wp2
  refine loneTo_seq (LoneTo.step step_region ?_)
  simp only [List.size_toArray, List.length_cons, List.length_nil, Nat.reduceAdd, Nat.zero_add, List.range, List.range.loop]
  cases hb : nthO false bs t <;> rw [hb] at hc <;> simp only [chBuf, if_true, if_false, Bool.false_eq_true] at hc
  · refine LoneTo.step (step_lone_select_send_room (c := g + 1 + t) (cap := 1) (buf := #[]) (s := s) (r := r) (tm := false) (v := .agg #[]) (z' := .agg #[])
      (stepG_comm (cases := #[scase (g + 1 + t) (.agg #[]) (.agg #[])]) (blocking := false) (shape := .select) (w' := w) rfl rfl (by decide) (by simp [go_sem, execOp, scase, Act.eval])) hc (by simp)) ?_
    rw [Frame.finish_at]
    walk_nrm
    refine LoneTo.goes (n := 12) ?_
    s_op
    s_op
    s_c stepG_region_end
    s_c stepG_block
    s_cond true
    s_c stepG_seq
    s_reg
    s_op
    s_op
    s_c stepG_region_end
    s_c stepG_ret'
    s_stop
    refine LoneTo.done ⟨.returned (.tuple #[.bool true, .int .i64 0]), _, rfl, ⟨rfl, ?_, ?_⟩, rfl, rfl, rfl, rfl, _, Try.func26, by simp [results, Try.f26, Frame.at]⟩
    · exact hp true (s + 1) r
    · exact within_chan _ ⟨by omega, by omega⟩
  · refine LoneTo.step (step_lone_select_send_full (c := g + 1 + t) (cap := 1) (buf := #[.agg #[]]) (s := s) (r := r) (tm := false) (v := .agg #[]) (z' := .agg #[])
      (stepG_comm (cases := #[scase (g + 1 + t) (.agg #[]) (.agg #[])]) (blocking := false) (shape := .select) (w' := w) rfl rfl (by decide) (by simp [go_sem, execOp, scase, Act.eval])) hc (by simp)) ?_
    rw [Frame.finish_at]
    walk_nrm
    refine LoneTo.goes (n := 12) ?_
    s_op
    s_op
    s_c stepG_region_end
    s_c stepG_block
    s_cond false
    s_c stepG_seq
    s_reg
    s_op
    s_op
    s_c stepG_region_end
    s_c stepG_ret'
    s_stop
    refine LoneTo.done ⟨.returned (.tuple #[.bool false, .int .i64 0]), _, rfl, ⟨rfl, ?_, ?_⟩, rfl, rfl, rfl, rfl, _, Try.func26, by simp [results, Try.f26, Frame.at]⟩
    · rw [set_same hb (by omega)]; exact h
    · exact Within.refl _ _

set_option maxRecDepth 100000 in
theorem pTake (h : Pm w g n bs) (t : Nat) (ht : t < n) :
    Calls Try.prog 28 #[.pointer (some ⟨g + 1 + n, 0, none⟩), .int .i64 t] w (Turned w g n (nthO false bs t) (bs.set t false)) := by
  have h0 := h.c0
  have h1 := h.at_ ht
  have hf := h.few
  have hl := h.len
  have hp := h.put ht
  obtain ⟨s, r, hc⟩ := h.chs t ht
  refine calls_of_loneTo (fun cs => ?_) (by rintro _ ⟨hh, _⟩; cases hh)
  have e : Frame.enter Try.prog 28 #[.pointer (some ⟨g + 1 + n, 0, none⟩), .int .i64 t] .normal
      = (base 28).at ⟨#[.pointer (some ⟨g + 1 + n, 0, none⟩), .int .i64 t, undef, undef, undef, undef, undef, undef, undef, undef, undef, undef, undef, undef, undef, undef, undef, undef, undef, undef], []⟩ [.code (Try.f28.body.getD .skip)] := by
    simp [Frame.enter, Frame.at, Try.func28, base, Try.f28]
  rw [e]
  clear e
  simp only [Try.f28, Option.getD_some]
  refine loneTo_seq (loneTo_wp fun K hK => ?_)
  go_wp2
  refine loneTo_seq (loneTo_wp fun K hK => ?_)
  go_wp2_with fail
  refine (pIs h t ht).mono ?_
  rintro e w' ⟨rfl, rfl⟩
  go_wp2
  refine loneTo_seq (loneTo_wp fun K hK => ?_)
  go_wp2
  refine loneTo_seq (LoneTo.step step_region ?_)
  simp only [List.size_toArray, List.length_cons, List.length_nil, Nat.reduceAdd, Nat.zero_add, List.range, List.range.loop]
  cases hb : nthO false bs t <;> rw [hb] at hc <;> simp only [chBuf, if_true, if_false, Bool.false_eq_true] at hc
  · refine LoneTo.step (step_lone_select_default (c := g + 1 + t) (cap := 1) (s := s) (r := r) (tm := false) (z := .agg #[])
      (stepG_comm (cases := #[rcase (g + 1 + t) (.agg #[])]) (blocking := false) (shape := .select) (w' := w) rfl rfl (by decide) (by simp [go_sem, execOp, rcase, Act.eval])) hc) ?_
    rw [Frame.finish_at]
    walk_nrm
    refine LoneTo.goes (n := 12) ?_
    s_op
    s_op
    s_c stepG_region_end
    s_c stepG_block
    s_cond false
    s_c stepG_seq
    s_reg
    s_op
    s_op
    s_c stepG_region_end
    s_c stepG_ret'
    s_stop
    refine LoneTo.done ⟨.returned (.tuple #[.bool false, .int .i64 0]), _, rfl, ⟨rfl, ?_, ?_⟩, rfl, rfl, rfl, rfl, _, Try.func28, by simp [results, Try.f28, Frame.at]⟩
    · rw [set_same hb (by omega)]; exact h
    · exact Within.refl _ _
  · refine LoneTo.step (step_lone_select_recv_buf (c := g + 1 + t) (cap := 1) (buf := #[.agg #[]]) (s := s) (r := r) (tm := false) (z := .agg #[])
      (stepG_comm (cases := #[rcase (g + 1 + t) (.agg #[])]) (blocking := false) (shape := .select) (w' := w) rfl rfl (by decide) (by simp [go_sem, execOp, rcase, Act.eval])) hc (by simp)) ?_
    rw [Frame.finish_at]
    walk_nrm
    refine LoneTo.goes (n := 12) ?_
    s_op
    s_op
    s_c stepG_region_end
    s_c stepG_block
    s_cond true
    s_c stepG_seq
    s_reg
    s_op
    s_op
    s_c stepG_region_end
    s_c stepG_ret'
    s_stop
    refine LoneTo.done ⟨.returned (.tuple #[.bool true, .int .i64 0]), _, rfl, ⟨rfl, ?_, ?_⟩, rfl, rfl, rfl, rfl, _, Try.func28, by simp [results, Try.f28, Frame.at]⟩
    · exact hp false s (r + 1)
    · exact within_chan _ ⟨by omega, by omega⟩
end
end Go.Proofs.Ytjdnellafephfaa
