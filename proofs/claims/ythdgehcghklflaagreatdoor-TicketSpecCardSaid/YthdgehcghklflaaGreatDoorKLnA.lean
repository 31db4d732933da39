/- LnA, AsmB, Prg, InstV, InstSA, InstSB, InstSC, InstSD, InstSF, InstSG, RefP. -/
import Derived.Test.YthdgehcghklflaaGreatDoorKMem
import Derived.Test.YthdgehcghklflaaGreatDoorKInstA
import Derived.BigRegionIn
import Derived.Deep.RegionHeld3
import Derived.Deep.CutBlock
import Derived.Deep.RegionLaw
import Derived.Laws.IdiomStrings
import Derived.BigRegion
import Derived.Deep.Cut
/- The lines of a text, each with its end; strings.Lines, strings.CutSuffix. -/
namespace Go.Proofs.YthdgehcghklflaaGreatDoor
open Go.ChangeShapes Go.WideShapes Go.ChangeAt Go.RowKit Go.Shelf
attribute [local go_sem] Oper.semAt_some
set_option linter.unusedVariables false

/-- A sign ahead of the first line. -/
def onto (c : UInt8) : List (List UInt8) → List (List UInt8)
  | [] => [[c]]
  | x :: xs => (c :: x) :: xs
/-- The lines of a text, each with its end, if it has one. -/
def linesL : List UInt8 → List (List UInt8)
  | [] => []
  | c :: r => if c = 10 then [10] :: linesL r else onto c (linesL r)
/-- Line k. A plain definition, so that a walk leaves it alone. -/
def lineAt (text : List UInt8) (k : Nat) : List UInt8 := (linesL text).getD k []
theorem lines_more : ∀ (s r : List UInt8), Nl s → linesL (s ++ 10 :: r) = (s ++ [10]) :: linesL r
  | [], r, _ => by simp [linesL]
  | c :: s, r, h => by
    have ih := lines_more s r fun d hd => h d (List.mem_cons_of_mem _ hd)
    show linesL (c :: (s ++ 10 :: r)) = _
    rw [linesL, if_neg (h c List.mem_cons_self), ih]
    rfl
theorem lines_last : ∀ s : List UInt8, Nl s → s ≠ [] → linesL s = [s]
  | [], _, h => absurd rfl h
  | [c], h, _ => by simp [linesL, h c List.mem_cons_self, onto]
  | c :: d :: s, h, _ => by
    have ih := lines_last (d :: s) (fun x hx => h x (List.mem_cons_of_mem _ hx)) (by simp)
    rw [linesL, if_neg (h c List.mem_cons_self), ih]
    rfl
theorem lines_len : ∀ t : List UInt8, (linesL t).length ≤ t.length
  | [] => Nat.le_refl _
  | c :: t => by
    have ih := lines_len t
    rw [linesL]
    split
    · simp; omega
    · cases h : linesL t with
      | nil => simp [onto]
      | cons x y => rw [h] at ih; simp [onto] at ih ⊢; omega
theorem first_nl : ∀ t : List UInt8, Nl t ∨ ∃ s r, Nl s ∧ t = s ++ 10 :: r
  | [] => .inl (by unfold Nl; simp)
  | c :: t => by
    by_cases hc : c = 10
    · exact .inr ⟨[], t, by unfold Nl; simp, by rw [hc]; rfl⟩
    rcases first_nl t with h | ⟨s, r, hs, rfl⟩
    · exact .inl fun d hd => by
        rcases List.mem_cons.1 hd with rfl | hd
        · exact hc
        · exact h d hd
    · exact .inr ⟨c :: s, r, fun d hd => by
        rcases List.mem_cons.1 hd with rfl | hd
        · exact hc
        · exact hs d hd, rfl⟩
theorem index_no : ∀ t : List UInt8, Nl t → Lib.indexByte t 10 = -1
  | [], _ => rfl
  | c :: t, h => by
    have ih := index_no t fun d hd => h d (List.mem_cons_of_mem _ hd)
    have hc : (c == 10) = false := by simpa using h c List.mem_cons_self
    rw [Lib.indexByte, hc, ih]
    simp
theorem index_yes : ∀ s r : List UInt8, Nl s → Lib.indexByte (s ++ 10 :: r) 10 = s.length
  | [], r, _ => by simp [Lib.indexByte]
  | c :: s, r, h => by
    have ih := index_yes s r fun d hd => h d (List.mem_cons_of_mem _ hd)
    have hc : (c == 10) = false := by simpa using h c List.mem_cons_self
    show Lib.indexByte (c :: (s ++ 10 :: r)) 10 = _
    rw [Lib.indexByte, hc, ih]
    have : ((s.length : Int) == -1) = false := by simp
    simp [this]

theorem lIndex (s : List UInt8) (w : World) :
    Calls Tryz.prog 137 #[bs s, .int .u8 10] w fun e w' => e = .returned (.int .i64 (Lib.indexByte s 10)) ∧ w = w' :=
  (Any.strings_IndexByte Tryz.lays137 ⟨s.toArray⟩ 10 w).mono fun _ _ ⟨he, hw⟩ => ⟨he, hw.symm⟩

theorem run_lo (s r : List UInt8) (w : World) : (Instr.slice 9 (.string ⟨(s ++ 10 :: r).toArray⟩) none (some (.int .i64 ((s.length : Int) + 1))) none).run Tryz.prog w = .ok (.string ⟨(s ++ [10]).toArray⟩) w := by
  have hu := Tryz.underlying9
  go_simp
  rw [if_pos ⟨by omega, by omega⟩]
  refine congrArg (fun x => Result.ok (Value.string x) w) (ByteArray.ext ?_)
  rw [ByteArray.data_extract]
  apply Array.ext'
  simp
  rw [show s ++ 10 :: r = (s ++ [10]) ++ r by simp, show s.length + 1 = (s ++ [10]).length by simp, List.take_left]
theorem run_hi (s r : List UInt8) (w : World) : (Instr.slice 9 (.string ⟨(s ++ 10 :: r).toArray⟩) (some (.int .i64 ((s.length : Int) + 1))) none none).run Tryz.prog w = .ok (.string ⟨r.toArray⟩) w := by
  have hu := Tryz.underlying9
  go_simp
  rw [if_pos ⟨by omega, by omega⟩]
  refine congrArg (fun x => Result.ok (Value.string x) w) (ByteArray.ext ?_)
  rw [ByteArray.data_extract]
  apply Array.ext'
  simp
  exact List.take_of_length_le (by omega)
/-- How long the string in a box is. -/
def boxLen (w : World) (b : Nat) : Nat := match w.cell? ⟨b, 0, none⟩ with
  | some (.string s) => s.size
  | _ => 0
theorem boxLen_of {w : World} {b : Nat} {t : TypeId} {s : List UInt8} (h : Bk w b t #[bs s]) : boxLen w b = s.length := by
  unfold boxLen
  rw [h.cell 0]
  show s.toArray.size = _
  simp

set_option maxHeartbeats 1000000 in
theorem it_lines (text : List UInt8) (b l : Nat) (W1 : World) (hb : Bk W1 b 9 #[bs text]) (hlen : text.length < 1000000000) :
    Iter Tryz.prog 136 #[.pointer (some ⟨b, 0, none⟩)] (fun k => #[bs (lineAt text k)]) (linesL text).length l W1 (fun x => x = b) := by
  intro J Jx hJ hJx hY h0
  refine callsIn_of_wp Tryz.func136 rfl trivial ?_ rfl
  simp only [Tryz.ntmps136, List.size_toArray, List.length_cons, List.length_nil, Nat.reduceAdd, Nat.reduceSub, Array.replicate_succ, Array.replicate_zero, List.push_toArray, List.append_toArray, List.nil_append, List.cons_append]
  gi_wp2
  gi_loopw [3] (fun p wr => ∃ (k : Nat) (t : List UInt8), k ≤ (linesL text).length ∧ (linesL text).drop k = linesL t ∧ t.length ≤ text.length ∧ Bk wr b 9 #[bs t] ∧ J k wr) (fun p wr => boxLen wr b)
  case atStart => exact ⟨0, text, Nat.zero_le _, rfl, Nat.le_refl _, hb, h0⟩
  case round =>
    obtain ⟨k, t, hkl, hdr, hle, hbk, hj⟩ := hrel
    have hbl := boxLen_of hbk
    have hc0 : wr.cell? ⟨b, 0, none⟩ = some (.string ⟨t.toArray⟩) := hbk.cell 0
    have hfr := hbk.free 0
    by_cases ht : t = []
    · subst ht
      have hk : k = (linesL text).length := by
        have := congrArg List.length hdr
        simp [linesL] at this
        omega
      subst hk
      gi_wp2
      go_end0
      exact ⟨⟨_, rfl⟩, .inl hj⟩
    · have hpos : (0 : Int) < t.length := by
        have := List.length_pos_iff.2 ht
        omega
      have HI := Lib.hid (fun W => callsIn_wide (n := 0) |>.2 (lIndex t W))
      rcases first_nl t with hn | ⟨s, r, hn, rfl⟩
      · have hk1 : k < (linesL text).length := by
          have := congrArg List.length hdr
          rw [lines_last t hn ht] at this
          simp at this
          omega
        have hk2 : (linesL text).length = k + 1 := by
          have := congrArg List.length hdr
          rw [lines_last t hn ht] at this
          simp at this
          omega
        have hline : lineAt text k = t := by
          unfold lineAt
          have := congrArg List.head? hdr
          rw [lines_last t hn ht] at this
          simp [List.head?_drop] at this
          simp [List.getD_eq_getElem?_getD, this]
        have hi := index_no t hn
        have w1 : Within wr (wr.setCell ⟨b, 0, none⟩ (.string ⟨#[]⟩)) (fun x => x = b) := (Within.refl _ _).put b 0 _ (.inl rfl)
        have b1 : Bk (wr.setCell ⟨b, 0, none⟩ (.string ⟨#[]⟩)) b 9 #[bs []] := hbk.put 0 _
        have hj1 := hJ k _ _ hj w1
        obtain ⟨fn, tmps, assign, body, hy, hR⟩ := hY k _ hk1 hj1 (by rintro x rfl; exact b1.lt)
        rw [hline] at hy
        unfold bs at hy
        gi_wp2
        refine ⟨trivial, rfl, ?_⟩
        refine (HI.out _).mono ?_
        rintro e w' ⟨rfl, rfl⟩
        rw [hi]
        gi_wp2
        refine ⟨rfl, hR.mono ?_⟩
        rintro e W3 ⟨hh, (⟨rfl, hJ3⟩ | ⟨rfl, hJx3⟩)⟩
        · gi_wp2
          have b3 : Bk W3 b 9 #[bs []] := (hh.2 b rfl).trans b1
          go_roundw
          case rel => exact ⟨k + 1, [], by omega, by rw [List.drop_of_length_le (by omega)]; rfl, by simp, b3, hJ3⟩
          case measure => rw [boxLen_of b3, hbl]; simp; omega
        · gi_wp2
          refine bodyPost_ret (results_none rfl _ _ _) rfl ?_
          exact ⟨⟨_, rfl⟩, .inr hJx3⟩
      · have hk1 : k < (linesL text).length := by
          have := congrArg List.length hdr
          rw [lines_more s r hn] at this
          simp at this
          omega
        have hdr2 : (linesL text).drop (k + 1) = linesL r := by
          have := congrArg List.tail hdr
          rw [lines_more s r hn] at this
          simpa [List.tail_drop] using this
        have hline : lineAt text k = s ++ [10] := by
          unfold lineAt
          have := congrArg List.head? hdr
          rw [lines_more s r hn] at this
          simp [List.head?_drop] at this
          simp [List.getD_eq_getElem?_getD, this]
        have hi := index_yes s r hn
        have hi0 : (0 : Int) ≤ s.length := by omega
        have hwr : wrap64 ((s.length : Int) + 1) = (s.length : Int) + 1 := by
          simp at hle
          unfold wrap64
          omega
        have hcut1 : ∀ w, (Instr.slice 9 (.string ⟨(s ++ 10 :: r).toArray⟩) none (some (.int .i64 ((s.length : Int) + 1))) none).run Tryz.prog w = .ok (.string ⟨(s ++ [10]).toArray⟩) w := fun w => run_lo s r w
        have hcut2 : ∀ w, (Instr.slice 9 (.string ⟨(s ++ 10 :: r).toArray⟩) (some (.int .i64 ((s.length : Int) + 1))) none none).run Tryz.prog w = .ok (.string ⟨r.toArray⟩) w := fun w => run_hi s r w
        gi_wp2
        refine ⟨trivial, rfl, ?_⟩
        refine (HI.out _).mono ?_
        rintro e w' ⟨rfl, rfl⟩
        rw [hi]
        gi_wp2
        gi_region
        have w0 : Within wr (wr.setCell ⟨b, 0, none⟩ (.string ⟨r.toArray⟩)) (fun x => x = b) := (Within.refl _ _).put b 0 _ (.inl rfl)
        have w1 : Within wr (wr.setCell ⟨b, 0, none⟩ (.string ⟨r.toArray⟩)).drew (fun x => x = b) := ⟨w0.os, w0.tape, w0.output, w0.size, w0.block⟩
        clear w0
        have b1 : Bk (wr.setCell ⟨b, 0, none⟩ (.string ⟨r.toArray⟩)).drew b 9 #[bs r] := hbk.put 0 (.string ⟨r.toArray⟩)
        generalize (wr.setCell ⟨b, 0, none⟩ (.string ⟨r.toArray⟩)).drew = W2 at *
        have hj1 := hJ k _ _ hj w1
        obtain ⟨fn, tmps, assign, body, hy, hR⟩ := hY k _ hk1 hj1 (by rintro x rfl; exact b1.lt)
        rw [hline] at hy
        unfold bs at hy
        gi_wp2
        refine ⟨rfl, hR.mono ?_⟩
        rintro e W3 ⟨hh, (⟨rfl, hJ3⟩ | ⟨rfl, hJx3⟩)⟩
        · gi_wp2
          have b3 : Bk W3 b 9 #[bs r] := (hh.2 b rfl).trans b1
          go_roundw
          case rel => exact ⟨k + 1, r, by omega, hdr2, by simp at hle; omega, b3, hJ3⟩
          case measure => rw [boxLen_of b3, hbl]; simp; omega
        · gi_wp2
          refine bodyPost_ret (results_none rfl _ _ _) rfl ?_
          exact ⟨⟨_, rfl⟩, .inr hJx3⟩

/-- A box for the string, and the closure. -/
theorem lLines (s : List UInt8) (w : World) :
    Calls Tryz.prog 94 #[bs s] w fun e w' => e = .returned (.func (.func 136) #[] #[.pointer (some ⟨w.heap.size, 0, none⟩)]) ∧ w' = w.alloc (.cells #[bs s] 9) := by
  unfold bs
  go_enter Tryz.func94, Tryz.ntmps94
  go_wp2
  go_ret
  exact ⟨rfl, rfl⟩
theorem lCut (s p : List UInt8) (hl : s.length < 1000000) (w : World) :
    Calls Tryz.prog 95 #[bs s, bs p] w fun e w' => e = .returned (.tuple #[bs (Lib.trimSuffix s p), .bool (Lib.hasSuffix s p)]) ∧ w = w' :=
  (Any.strings_CutSuffix Tryz.lays104 ⟨s.toArray⟩ ⟨p.toArray⟩ w (by show s.toArray.size ≤ _; simp; omega)).mono fun _ _ ⟨he, hw⟩ => ⟨he, hw.symm⟩
theorem suf_yes (s : List UInt8) (c : UInt8) : Lib.hasSuffix (s ++ [c]) [c] = true ∧ Lib.trimSuffix (s ++ [c]) [c] = s := by
  have h : Lib.hasSuffix (s ++ [c]) [c] = true := by
    unfold Lib.hasSuffix
    rw [List.isSuffixOf_iff_suffix]
    exact ⟨s, rfl⟩
  refine ⟨h, ?_⟩
  unfold Lib.trimSuffix
  rw [if_pos h]
  simp
theorem suf_no {s : List UInt8} {c : UInt8} (h : ∀ t, s ≠ t ++ [c]) : Lib.hasSuffix s [c] = false ∧ Lib.trimSuffix s [c] = s := by
  have h : Lib.hasSuffix s [c] = false := by
    rw [Bool.eq_false_iff]
    intro e
    unfold Lib.hasSuffix at e
    rw [List.isSuffixOf_iff_suffix] at e
    obtain ⟨t, ht⟩ := e
    exact h t ht.symm
  refine ⟨h, ?_⟩
  unfold Lib.trimSuffix
  rw [if_neg (by rw [h]; simp)]
theorem suf_or (s : List UInt8) (c : UInt8) : (∃ t, s = t ++ [c]) ∨ ∀ t, s ≠ t ++ [c] := by
  by_cases h : ∃ t, s = t ++ [c]
  · exact .inl h
  · exact .inr fun t e => h ⟨t, e⟩
end Go.Proofs.YthdgehcghklflaaGreatDoor

/- A draft of a program: labels in a map, rows in a slice; addLabel, addRow, place. -/
namespace Go.Proofs.YthdgehcghklflaaGreatDoor
open Go.ChangeShapes Go.WideShapes Go.ChangeAt Go.RowKit
set_option linter.unusedVariables false

/-- A row: an instruction, the name of its place, its line. -/
abbrev Rw := Ins × List UInt8 × Int
/-- A row's cells. -/
def rowC (r : Rw) : List Value := [.int .i64 r.1.op, .int .i64 r.1.d, .int .i64 r.1.s, .int .i64 r.1.t, .int .i64 r.1.u, .int .i64 r.1.a, .int .u32 r.1.k, .int .i64 r.1.pl, bs r.2.1, .int .i64 r.2.2]
theorem rowC_len (r : Rw) : (rowC r).length = 10 := rfl
def rowsC (rs : List Rw) : List Value := rs.flatMap rowC
theorem rowsC_snoc (rs : List Rw) (r : Rw) : rowsC (rs ++ [r]) = rowsC rs ++ rowC r := by simp [rowsC]
theorem rowC_one (r : Rw) : ∀ u ∈ rowC r, u.oneCell' = true := by
  intro u hu
  simp only [rowC, List.mem_cons, List.not_mem_nil, or_false] at hu
  rcases hu with rfl | rfl | rfl | rfl | rfl | rfl | rfl | rfl | rfl | rfl <;> rfl

/-- Block p is a draft: labels ls in the map m, rows rs in a row of its own at lo or beyond. -/
def Dr (w : World) (p m lo : Nat) (ls : List (List UInt8 × Int)) (rs : List Rw) : Prop :=
  ∃ v, Bk w p 137 #[v, .map (some m)] ∧ Labs w m ls ∧ w.ownsRow lo 204 10 v rs.length (rowsC rs)
section
variable {w w' : World} {p m lo : Nat} {ls : List (List UInt8 × Int)} {rs : List Rw}
theorem Dr.within {S : Nat → Prop} (h : Dr w p m lo ls rs) (k : Within w w' S) (hp : ¬ S p) (hm : ¬ S m) (hl : ∀ b, S b → b < lo) : Dr w' p m lo ls rs := by
  obtain ⟨v, h1, h2, h3⟩ := h
  refine ⟨v, h1.within k hp, h2.within k hm, own_within h3 k fun g hg hs => ?_⟩
  have := (World.ownsRow.lt h3 g hg).1
  have := hl g hs
  omega
theorem Dr.lts (h : Dr w p m lo ls rs) : p < w.heap.size ∧ m < w.heap.size := by
  obtain ⟨v, h1, h2, h3⟩ := h
  exact ⟨h1.lt, h2.lt⟩
end

/-- What a draft's calls may change. -/
abbrev InDr (p m lo : Nat) : Nat → Prop := fun b => b = p ∨ b = m ∨ lo ≤ b

section
variable {w : World} {p m lo : Nat} {ls : List (List UInt8 × Int)} {rs : List Rw}
theorem cAddLabelNo (h : Dr w p m lo ls rs) (s : List UInt8) (hs : s.length ≤ 1000000) (hk : labB ls s = true) :
    Calls Tryz.prog 97 #[.pointer (some ⟨p, 0, none⟩), bs s] w fun e w' => e = .returned (.int .i64 2) ∧ w = w' := by
  obtain ⟨v, h1, h2, h3⟩ := h
  have hl := h2.look s hs
  rw [hk] at hl
  have c0 : w.cell? ⟨p, 0, none⟩ = some v := h1.cell 0
  have c1 : w.cell? ⟨p, 1, none⟩ = some (.map (some m)) := h1.cell 1
  unfold bs
  go_enter Tryz.func97, Tryz.ntmps97
  go_wp2
  go_ret
  exact ⟨rfl, rfl⟩

theorem cAddLabel (h : Dr w p m lo ls rs) (s : List UInt8) (hs : s.length ≤ 1000000) (hn : ls.length < 1000000) (hr : rs.length ≤ 64) (hk : labB ls s = false) :
    Calls Tryz.prog 97 #[.pointer (some ⟨p, 0, none⟩), bs s] w fun e w' => e = .returned (.int .i64 0) ∧ Dr w' p m lo (ls ++ [(s, (rs.length : Int))]) rs ∧ Within w w' (InDr p m lo) := by
  obtain ⟨v, h1, h2, h3⟩ := h
  have hl := h2.look s hs
  rw [hk] at hl
  obtain ⟨a, cap, rfl, hcap, hmax, _⟩ := own_is h3
  have c0 : w.cell? ⟨p, 0, none⟩ = some (.slice a rs.length cap) := h1.cell 0
  have c1 : w.cell? ⟨p, 1, none⟩ = some (.map (some m)) := h1.cell 1
  have h2d : Labs w.drew m ls := h2.same rfl
  obtain ⟨w1, hrun, hL, hO⟩ := h2d.add hn hs (p := (rs.length : Int)) (by omega) (by omega) hk
  have hmp := h2.not_bk h1
  have hw1 : Within w w1 (fun b => b = m) := by
    have : Within w.drew w1 (fun b => b = m) := .of_grown hO (by rintro i e; cases e; exact .inl rfl)
    exact ⟨this.os, this.tape, this.output, this.size, this.block⟩
  unfold bs
  go_enter Tryz.func97, Tryz.ntmps97
  go_wp2
  go_region
  go_wp2
  go_ret
  refine ⟨rfl, ⟨_, h1.within hw1 (fun e => hmp e.symm), hL, own_within h3 hw1 fun g hg e => ?_⟩, hw1.wide fun i hi _ => .inr (.inl hi)⟩
  obtain ⟨cs, hb⟩ := own_bk h3 hg
  exact h2.not_bk hb e.symm

/-- The value of a row. -/
def rvA (r : Rw) : Value := .agg #[.int .i64 r.1.op, .int .i64 r.1.d, .int .i64 r.1.s, .int .i64 r.1.t, .int .i64 r.1.u, .int .i64 r.1.a, .int .u32 r.1.k, .int .i64 r.1.pl, bs r.2.1, .int .i64 r.2.2]
theorem rowInfo : (Tryz.prog.info? 204).map (fun i => (i.zero, i.size, i.bytes)) = some (some (.agg #[.int .i64 0, .int .i64 0, .int .i64 0, .int .i64 0, .int .i64 0, .int .i64 0, .int .u32 0, .int .i64 0, bs [], .int .i64 0]), 10, 88) := by kernel_rfl

theorem cAddRowNo (h : Dr w p m lo ls rs) (hr : rs.length = 64) (r : Rw) :
    Calls Tryz.prog 99 #[.pointer (some ⟨p, 0, none⟩), rvA r] w fun e w' => e = .returned (.int .i64 9) ∧ Below w.heap.size w w' := by
  obtain ⟨v, h1, h2, h3⟩ := h
  obtain ⟨a, cap, rfl, hcap, hmax, _⟩ := own_is h3
  rw [hr] at h1
  obtain ⟨⟨op, d, s, t, u, a', k, pl⟩, nm, ln⟩ := r
  have hb : Below w.heap.size w (w.alloc (.cells #[.int .i64 op, .int .i64 d, .int .i64 s, .int .i64 t, .int .i64 u, .int .i64 a', .int .u32 k, .int .i64 pl, .string ⟨nm.toArray⟩, .int .i64 ln] 204)) := (Below.refl _ _).alloc (Nat.le_refl _) _
  have c0 : (w.alloc (.cells #[.int .i64 op, .int .i64 d, .int .i64 s, .int .i64 t, .int .i64 u, .int .i64 a', .int .u32 k, .int .i64 pl, .string ⟨nm.toArray⟩, .int .i64 ln] 204)).cell? ⟨p, 0, none⟩ = some (.slice a 64 cap) := (h1.alloc _).cell 0
  unfold rvA bs
  simp only
  go_enter Tryz.func99, Tryz.ntmps99
  go_wp2
  go_ret
  exact ⟨rfl, hb⟩

theorem row_end {w W w' : World} {v v2 : Value} {o : Obj} {r : Rw} (hW : Within w W (fun _ => False)) (q1 : Bk W p 137 #[v, .map (some m)]) (q2 : Labs W m ls) (q3 : W.ownsRow lo 204 10 v rs.length (rowsC rs))
    (hgr : (W.drew.alloc o).grownBy w' v.ownBlock) (hown : w'.ownsRow lo 204 10 v2 (rs.length + 1) (rowsC rs ++ rowC r)) :
    Dr (w'.setCell ⟨p, 0, none⟩ v2) p m lo ls (rs ++ [r]) ∧ Within w (w'.setCell ⟨p, 0, none⟩ v2) (InDr p m lo) := by
  have hmp := q2.not_bk q1
  have hA : Within W (W.drew.alloc o) (fun _ => False) := ((Within.refl W _).draws 1).alloc o
  have hB : Within (W.drew.alloc o) w' (fun b => some b = v.ownBlock) := .of_grown hgr (by rintro i e; exact .inl e.symm)
  have hC : Within W w' (fun b => some b = v.ownBlock) := (hA.wide (by simp)).then_ hB (by rintro i e; exact .inl e)
  have q1' : Bk w' p _ _ := q1.within hC fun e => by
    obtain ⟨cs, hb⟩ := own_bk q3 e.symm
    exact Bk.unlike hb q1 (by decide) rfl
  have q2' : Labs w' m ls := q2.within hC fun e => by
    obtain ⟨cs, hb⟩ := own_bk q3 e.symm
    exact q2.not_bk hb rfl
  refine ⟨⟨v2, q1'.put 0 v2, q2'.within ((Within.refl w' (fun b => b = p)).put p 0 v2 (.inl rfl)) hmp, ?_⟩, ?_⟩
  · rw [rowsC_snoc, List.length_append]
    refine own_within hown ((Within.refl w' (fun b => b = p)).put p 0 v2 (.inl rfl)) fun g hg e => ?_
    obtain ⟨cs, hb⟩ := own_bk hown hg
    exact Bk.unlike hb q1' (by decide) e
  · refine Within.put ((hW.wide (by simp)).then_ hC fun i e => .inl (.inr (.inr ?_))) p 0 v2 (.inl (.inl rfl))
    exact (World.ownsRow.lt q3 i e.symm).1

set_option maxHeartbeats 1000000 in
theorem cAddRow (h : Dr w p m lo ls rs) (hr : rs.length < 64) (hlo : lo ≤ w.heap.size) (r : Rw) :
    Calls Tryz.prog 99 #[.pointer (some ⟨p, 0, none⟩), rvA r] w fun e w' => e = .returned (.int .i64 0) ∧ Dr w' p m lo ls (rs ++ [r]) ∧ Within w w' (InDr p m lo) := by
  obtain ⟨v, h1, h2, h3⟩ := h
  obtain ⟨a, cap, rfl, hcap, hmax, _⟩ := own_is h3
  obtain ⟨⟨op, d, s, t, u, a', k, pl⟩, nm, ln⟩ := r
  have hw0 : Within w (w.alloc (.cells #[.int .i64 op, .int .i64 d, .int .i64 s, .int .i64 t, .int .i64 u, .int .i64 a', .int .u32 k, .int .i64 pl, .string ⟨nm.toArray⟩, .int .i64 ln] 204)) (fun _ => False) := (Within.refl _ _).alloc _
  have b0 := Bk.made w 204 #[.int .i64 op, .int .i64 d, .int .i64 s, .int .i64 t, .int .i64 u, .int .i64 a', .int .u32 k, .int .i64 pl, .string ⟨nm.toArray⟩, .int .i64 ln]
  have q1 := h1.within hw0 (by simp)
  have q2 := h2.within hw0 (by simp)
  have q3 := own_within h3 hw0 (by simp)
  have hlt : ((rs.length : Int) == 64) = false := by simp; omega
  have hst : Hid (w.heap.size < (w.alloc (.cells #[.int .i64 op, .int .i64 d, .int .i64 s, .int .i64 t, .int .i64 u, .int .i64 a', .int .u32 k, .int .i64 pl, .string ⟨nm.toArray⟩, .int .i64 ln] 204)).heap.size) := Lib.hid b0.lt
  unfold rvA bs
  simp only
  go_enter Tryz.func99, Tryz.ntmps99
  go_upto_region 1 with fail
  generalize hg : w.heap.size = g at *
  generalize w.alloc (.cells #[.int .i64 op, .int .i64 d, .int .i64 s, .int .i64 t, .int .i64 u, .int .i64 a', .int .u32 k, .int .i64 pl, .string ⟨nm.toArray⟩, .int .i64 ln] 204) = W at *
  have c0 : W.cell? ⟨p, 0, none⟩ = some (.slice a rs.length cap) := q1.cell 0
  have f0 := q1.free 0
  have hne : ∀ g, (Value.slice a rs.length cap).ownBlock = some g → g ≠ p := fun g' hg' e => by
    obtain ⟨cs, hb⟩ := own_bk q3 hg'
    exact Bk.unlike hb q1 (by decide) e
  go_wp2
  obtain ⟨e0, e1, e2, e3, e4, e5, e6, e7, e8, e9⟩ : W.cell? ⟨g, 0, none⟩ = some (.int .i64 op) ∧ W.cell? ⟨g, 1, none⟩ = some (.int .i64 d) ∧ W.cell? ⟨g, 2, none⟩ = some (.int .i64 s) ∧ W.cell? ⟨g, 3, none⟩ = some (.int .i64 t) ∧ W.cell? ⟨g, 4, none⟩ = some (.int .i64 u) ∧ W.cell? ⟨g, 5, none⟩ = some (.int .i64 a') ∧ W.cell? ⟨g, 6, none⟩ = some (.int .u32 k) ∧ W.cell? ⟨g, 7, none⟩ = some (.int .i64 pl) ∧ W.cell? ⟨g, 8, none⟩ = some (.string ⟨nm.toArray⟩) ∧ W.cell? ⟨g, 9, none⟩ = some (.int .i64 ln) :=
    ⟨b0.cell 0, b0.cell 1, b0.cell 2, b0.cell 3, b0.cell 4, b0.cell 5, b0.cell 6, b0.cell 7, b0.cell 8, b0.cell 9⟩
  have hA : (W.drew.alloc (.cells #[.int .i64 op, .int .i64 d, .int .i64 s, .int .i64 t, .int .i64 u, .int .i64 a', .int .u32 k, .int .i64 pl, .string ⟨nm.toArray⟩, .int .i64 ln] 204)).ownsRow lo 204 10 (.slice a rs.length cap) rs.length (rowsC rs) := World.ownsRow.alloc (w := W.drew) q3 _
  have hN := Bk.made W.drew 204 #[.int .i64 op, .int .i64 d, .int .i64 s, .int .i64 t, .int .i64 u, .int .i64 a', .int .u32 k, .int .i64 pl, .string ⟨nm.toArray⟩, .int .i64 ln]
  have hl2 : lo ≤ (W.drew.alloc (.cells #[.int .i64 op, .int .i64 d, .int .i64 s, .int .i64 t, .int .i64 u, .int .i64 a', .int .u32 k, .int .i64 pl, .string ⟨nm.toArray⟩, .int .i64 ln] 204)).heap.size := by
    have := hst.out
    rw [World.size_alloc]
    show lo ≤ W.heap.size + 1
    omega
  have HL2 := Lib.hid hl2
  have HN := Lib.hid (news_bk hN)
  have HA := Lib.hid hA
  have HNE : Hid (∀ b, some b = (Value.slice a rs.length cap).ownBlock → b ≠ p) := Lib.hid fun b e => hne b e.symm
  have HQ : ∀ (w' : World), (W.drew.alloc (.cells #[.int .i64 op, .int .i64 d, .int .i64 s, .int .i64 t, .int .i64 u, .int .i64 a', .int .u32 k, .int .i64 pl, .string ⟨nm.toArray⟩, .int .i64 ln] 204)).grownBy w' (Value.slice a rs.length cap).ownBlock → Bk w' p 137 #[.slice a rs.length cap, .map (some m)] :=
    fun w' hg => Bk.grown (Bk.alloc (w := W.drew) q1 _) hg fun e => hne p e.symm rfl
  have rb : ∀ o, (W.alloc o).cell? ⟨p, 0, none⟩ = some (.slice a rs.length cap) := fun o => (q1.alloc o).cell 0
  have HEND : Hid (∀ (w' : World) (v2 : Value), (W.drew.alloc (.cells #[.int .i64 op, .int .i64 d, .int .i64 s, .int .i64 t, .int .i64 u, .int .i64 a', .int .u32 k, .int .i64 pl, .string ⟨nm.toArray⟩, .int .i64 ln] 204)).grownBy w' (Value.slice a rs.length cap).ownBlock → w'.ownsRow lo 204 10 v2 (rs.length + 1) (rowsC rs ++ rowC (⟨op, d, s, t, u, a', k, pl⟩, nm, ln)) →
      Dr (w'.setCell ⟨p, 0, none⟩ v2) p m lo ls (rs ++ [(⟨op, d, s, t, u, a', k, pl⟩, nm, ln)]) ∧ Within w (w'.setCell ⟨p, 0, none⟩ v2) (InDr p m lo)) := Lib.hid fun w' v2 hg ho => row_end hw0 q1 q2 q3 hg ho
  clear hl2 hN hA
  go_region_law (refine step_own rfl (.tmp 15) (.tmp 17) 135 rfl _ 88 Tryz.underlying135 rowInfo rfl (by omega) (by omega) HA.out (by simp [Act.eval]) (rowC (⟨op, d, s, t, u, a', k, pl⟩, nm, ln)) rfl (rowC_one _) W.heap.size (by simp [Act.eval]) HN.out (by omega) HL2.out ?_; intro v' w' hown hgr hloc; have q1' := HQ w' hgr; have c0' : w'.cell? ⟨p, 0, none⟩ = some (.slice a rs.length cap) := q1'.cell 0; have f0' := q1'.free 0; obtain ⟨a2, cap2, rfl, _, _, _⟩ := own_is hown)
  all_goals (
    go_wp2
    go_ret
    exact ⟨rfl, HEND.out _ _ hgr hown⟩)

/-- What place answers. -/
def placeV (ls : List (List UInt8 × Int)) (s : List UInt8) (n : Int) : Value := if labB ls s = true ∧ labAt ls s ≠ n then .tuple #[.int .i64 (labAt ls s), .bool true] else .tuple #[.int .i64 0, .bool false]
theorem cPlace (h : Dr w p m lo ls rs) (s : List UInt8) (hs : s.length ≤ 1000000) :
    Calls Tryz.prog 100 #[.pointer (some ⟨p, 0, none⟩), bs s] w fun e w' => e = .returned (placeV ls s rs.length) ∧ w = w' := by
  obtain ⟨v, h1, h2, h3⟩ := h
  have hl := h2.look s hs
  obtain ⟨a, cap, rfl, hcap, hmax, _⟩ := own_is h3
  have c0 : w.cell? ⟨p, 0, none⟩ = some (.slice a rs.length cap) := h1.cell 0
  have c1 : w.cell? ⟨p, 1, none⟩ = some (.map (some m)) := h1.cell 1
  have HE : Hid (placeV ls s rs.length = if labB ls s = true ∧ labAt ls s ≠ (rs.length : Int) then .tuple #[.int .i64 (labAt ls s), .bool true] else .tuple #[.int .i64 0, .bool false]) := Lib.hid rfl
  generalize placeV ls s rs.length = res at *
  generalize labAt ls s = x at *
  generalize labB ls s = q at *
  generalize rs.length = n at *
  unfold bs
  cases q with
  | false =>
    go_enter Tryz.func100, Tryz.ntmps100
    go_wp2
    go_ret2
    exact ⟨by rw [HE.out]; rfl, rfl⟩
  | true =>
    by_cases e : x = (n : Int)
    · have e1 : (x == (n : Int)) = true := by simpa using e
      have E := Lib.hid e
      clear e
      go_enter Tryz.func100, Tryz.ntmps100
      go_wp2
      go_ret2
      exact ⟨by rw [HE.out, if_neg (by simp [E.out])]; rfl, rfl⟩
    · have e1 : (x == (n : Int)) = false := by simpa using e
      have E := Lib.hid e
      clear e
      go_enter Tryz.func100, Tryz.ntmps100
      go_wp2
      go_ret2
      exact ⟨by rw [HE.out, if_pos ⟨trivial, E.out⟩]; rfl, rfl⟩
end
end Go.Proofs.YthdgehcghklflaaGreatDoor

/- Programs in memory: a slice of instructions that lies anywhere; alike or not. -/
namespace Go.Proofs.YthdgehcghklflaaGreatDoor
open Go.ChangeShapes Go.WideShapes Go.ChangeAt Go.RowKit
set_option linter.unusedVariables false

/-- The slice at a has just the instructions l. -/
def Sli (w : World) (a : Option Addr) (l : List Ins) : Prop :=
  0 < l.length → ∃ b off, a = some ⟨b, off, none⟩ ∧ b < w.heap.size ∧ ∀ k i, l[k]? = some i → ∀ j, j < 8 → w.cell? ⟨b, off + k * 8 + j, none⟩ = (insC i)[j]?
/-- The value v is the program c; its instructions may lie anywhere. -/
def Pv (w : World) (v : Value) (c : Prg) : Prop := ∃ a cap, v = .agg #[.slice a c.l.length cap, .int .i64 c.lo, .int .i64 c.un] ∧ c.l.length ≤ cap ∧ cap ≤ maxLen ∧ (a = none → cap = 0) ∧ Sli w a c.l
section
variable {w w' : World} {a : Option Addr} {l : List Ins} {v : Value} {c : Prg}
theorem Sli.below (h : Sli w a l) (hb : Below w.heap.size w w') : Sli w' a l := by
  intro h0
  obtain ⟨b, off, e, hlt, hc⟩ := h h0
  exact ⟨b, off, e, Nat.lt_of_lt_of_le hlt hb.size, fun k i hk j hj => (hb.cell (p := ⟨b, off + k * 8 + j, none⟩) hlt).trans (hc k i hk j hj)⟩
theorem Pv.below (h : Pv w v c) (hb : Below w.heap.size w w') : Pv w' v c := by
  obtain ⟨a, cap, e, h1, h2, h4, h3⟩ := h
  exact ⟨a, cap, e, h1, h2, h4, h3.below hb⟩
theorem sli_own {t : TypeId} {base cap : Nat} (h : w.ownsRow base t 8 (.slice a l.length cap) l.length (progC l)) : Sli w a l := by
  intro h0
  obtain ⟨a2, cap2, e, _, _, hg⟩ := own_is h
  simp only [Value.slice.injEq] at e
  obtain ⟨rfl, -, rfl⟩ := e
  obtain ⟨g, rfl, _, _, hlt, _, hc⟩ := hg h0
  refine ⟨g, 0, rfl, hlt, fun k i hk j hj => ?_⟩
  have hkl := (List.getElem?_eq_some_iff.1 hk).1
  rw [Nat.zero_add, hc _ (by omega), progC_at hk hj]
theorem own_nil {t : TypeId} {base n cap size : Nat} {xs : List Value} (h : w.ownsRow base t size (.slice a n cap) n xs) (e : a = none) : cap = 0 := by
  subst e
  rcases h.2 with ⟨h, _⟩ | ⟨g, c, cur, h, _⟩
  · injection h
  · injection h with h; cases h
/-- Instruction k's cells. -/
theorem Sli.at_ (h : Sli w a l) {k : Nat} {i : Ins} (hk : l[k]? = some i) : ∃ b off, a = some ⟨b, off, none⟩ ∧ b < w.heap.size ∧ w.cell? ⟨b, off + k * 8, none⟩ = some (.int .i64 i.op) ∧ w.cell? ⟨b, off + k * 8 + 1, none⟩ = some (.int .i64 i.d) ∧ w.cell? ⟨b, off + k * 8 + 2, none⟩ = some (.int .i64 i.s) ∧ w.cell? ⟨b, off + k * 8 + 3, none⟩ = some (.int .i64 i.t) ∧
    w.cell? ⟨b, off + k * 8 + 4, none⟩ = some (.int .i64 i.u) ∧ w.cell? ⟨b, off + k * 8 + 5, none⟩ = some (.int .i64 i.a) ∧ w.cell? ⟨b, off + k * 8 + 6, none⟩ = some (.int .u32 i.k) ∧ w.cell? ⟨b, off + k * 8 + 7, none⟩ = some (.int .i64 i.pl) := by
  have hkl := (List.getElem?_eq_some_iff.1 hk).1
  obtain ⟨b, off, e, hlt, hc⟩ := h (by omega)
  exact ⟨b, off, e, hlt, hc k i hk 0 (by omega), hc k i hk 1 (by omega), hc k i hk 2 (by omega), hc k i hk 3 (by omega), hc k i hk 4 (by omega), hc k i hk 5 (by omega), hc k i hk 6 (by omega), hc k i hk 7 (by omega)⟩
end

/-- Alike or not. -/
def sameL : List Ins → List Ins → Bool
  | [], [] => true
  | i :: l, j :: m => eqI i j && sameL l m
  | _, _ => false
theorem sameL_iff : ∀ l m : List Ins, sameL l m = true ↔ l = m
  | [], [] => by simp [sameL]
  | [], _ :: _ => by simp [sameL]
  | _ :: _, [] => by simp [sameL]
  | i :: l, j :: m => by simp [sameL, eqI_iff, sameL_iff l m]
theorem sameL_len {l m : List Ins} (h : l.length ≠ m.length) : sameL l m = false := by
  rw [Bool.eq_false_iff]
  intro e
  exact h (by rw [(sameL_iff l m).1 e])
def sameP (c d : Prg) : Bool := decide (c.lo = d.lo) && (decide (c.un = d.un) && sameL c.l d.l)
theorem sameP_iff (c d : Prg) : sameP c d = true ↔ c = d := by
  obtain ⟨l, lo, un⟩ := c
  obtain ⟨m, lo2, un2⟩ := d
  simp [sameP, sameL_iff]
  constructor
  · rintro ⟨h1, h2, h3⟩; exact ⟨h3, h1, h2⟩
  · rintro ⟨h1, h2, h3⟩; exact ⟨h2, h3, h1⟩
theorem sameL_drop (l m : List Ins) (k : Nat) (hk : k < l.length) (hm : k < m.length) : sameL (l.drop k) (m.drop k) = (eqI l[k] m[k] && sameL (l.drop (k + 1)) (m.drop (k + 1))) := by
  rw [List.drop_eq_getElem_cons hk, List.drop_eq_getElem_cons hm, sameL]
end Go.Proofs.YthdgehcghklflaaGreatDoor

/- InstU, InstV, one behind the other. -/
/- The document's Digits, r. -/
namespace Go.Proofs.YthdgehcghklflaaGreatDoor
open Go.ChangeShapes Go.WideShapes Go.ChangeAt Go.RowKit
set_option linter.unusedVariables false

/-- A register's word, with the blank ahead. -/
def rL (n : Nat) : List UInt8 := [32, 114] ++ Lib.decDigits n
theorem rR (n : Nat) (w : World) (hn : n < 5000000000) : Calls Tryz.prog 165 #[.int .i64 n] w fun e w' => e = .returned (.string ⟨(rL n).toArray⟩) ∧ Below w.heap.size w w' := by
  have HI := Lib.hid (rDigits n w hn)
  have hl := dec_len n hn
  have hcat := run_cat [32, 114] (Lib.decDigits n) (by simp; omega)
  unfold rL
  generalize Lib.decDigits n = l at *
  go_enter Tryz.func165, Tryz.ntmps165
  go_wp2_with fail
  refine HI.out.mono ?_
  rintro e y ⟨rfl, hy⟩
  unfold bs
  go_wp2
  go_ret
  exact ⟨rfl, hy⟩
end Go.Proofs.YthdgehcghklflaaGreatDoor

/- The document's texts, Op by Op, as lists of bytes. -/
namespace Go.Proofs.YthdgehcghklflaaGreatDoor
open Go.ChangeShapes Go.WideShapes Go.ChangeAt Go.RowKit
set_option linter.unusedVariables false

theorem rL_len (n : Nat) (h : n < 5000000000) : (rL n).length ≤ 40 := by
  have := dec_len n h
  unfold rL
  simp
  omega
theorem txt_1 (dn sn tn un an kn pn : Nat) : textL ⟨1, dn, sn, tn, un, an, kn, pn⟩ = nmL 1 ++ ((rL dn) ++ (32 :: Lib.decDigits kn)) := by
  simp [textL, hsL, partsL, partL, getI, rL, itoa_nat]
theorem txt_2 (dn sn tn un an kn pn : Nat) : textL ⟨2, dn, sn, tn, un, an, kn, pn⟩ = nmL 2 ++ ((rL dn) ++ (rL sn)) := by
  simp [textL, hsL, partsL, partL, getI, rL, itoa_nat]
theorem txt_3 (dn sn tn un an kn pn : Nat) : textL ⟨3, dn, sn, tn, un, an, kn, pn⟩ = nmL 3 ++ (((rL dn) ++ (rL sn)) ++ (32 :: Lib.decDigits kn)) := by
  simp [textL, hsL, partsL, partL, getI, rL, itoa_nat]
theorem txt_4 (dn sn tn un an kn pn : Nat) : textL ⟨4, dn, sn, tn, un, an, kn, pn⟩ = nmL 4 ++ (((rL dn) ++ (rL sn)) ++ (32 :: Lib.decDigits kn)) := by
  simp [textL, hsL, partsL, partL, getI, rL, itoa_nat]
theorem txt_5 (dn sn tn un an kn pn : Nat) : textL ⟨5, dn, sn, tn, un, an, kn, pn⟩ = nmL 5 ++ (((rL dn) ++ (rL sn)) ++ (32 :: Lib.decDigits kn)) := by
  simp [textL, hsL, partsL, partL, getI, rL, itoa_nat]
theorem txt_6 (dn sn tn un an kn pn : Nat) : textL ⟨6, dn, sn, tn, un, an, kn, pn⟩ = nmL 6 ++ (((rL dn) ++ (rL sn)) ++ (32 :: Lib.decDigits kn)) := by
  simp [textL, hsL, partsL, partL, getI, rL, itoa_nat]
theorem txt_7 (dn sn tn un an kn pn : Nat) : textL ⟨7, dn, sn, tn, un, an, kn, pn⟩ = nmL 7 ++ (((rL dn) ++ (rL sn)) ++ (rL tn)) := by
  simp [textL, hsL, partsL, partL, getI, rL, itoa_nat]
theorem txt_8 (dn sn tn un an kn pn : Nat) : textL ⟨8, dn, sn, tn, un, an, kn, pn⟩ = nmL 8 ++ (((rL sn) ++ (rL tn)) ++ (32 :: Lib.decDigits pn)) := by
  simp [textL, hsL, partsL, partL, getI, rL, itoa_nat]
theorem txt_9 (dn sn tn un an kn pn : Nat) : textL ⟨9, dn, sn, tn, un, an, kn, pn⟩ = nmL 9 ++ (((rL sn) ++ (rL tn)) ++ (32 :: Lib.decDigits pn)) := by
  simp [textL, hsL, partsL, partL, getI, rL, itoa_nat]
theorem txt_10 (dn sn tn un an kn pn : Nat) : textL ⟨10, dn, sn, tn, un, an, kn, pn⟩ = nmL 10 ++ (32 :: Lib.decDigits pn) := by
  simp [textL, hsL, partsL, partL, getI, itoa_nat]
theorem txt_11 (dn sn tn un an kn pn : Nat) : textL ⟨11, dn, sn, tn, un, an, kn, pn⟩ = nmL 11 ++ (rL dn) := by
  simp [textL, hsL, partsL, partL, getI, rL, itoa_nat]
theorem txt_22 (dn sn tn un an kn pn : Nat) : textL ⟨22, dn, sn, tn, un, an, kn, pn⟩ = nmL 22 ++ (rL dn) := by
  simp [textL, hsL, partsL, partL, getI, rL, itoa_nat]
theorem txt_12 (dn sn tn un an kn pn : Nat) : textL ⟨12, dn, sn, tn, un, an, kn, pn⟩ = nmL 12 ++ (32 :: Lib.decDigits kn) := by
  simp [textL, hsL, partsL, partL, getI, itoa_nat]
theorem txt_13 (dn sn tn un an kn pn : Nat) : textL ⟨13, dn, sn, tn, un, an, kn, pn⟩ = nmL 13 ++ (32 :: Lib.decDigits kn) := by
  simp [textL, hsL, partsL, partL, getI, itoa_nat]
theorem txt_16 (dn sn tn un an kn pn : Nat) : textL ⟨16, dn, sn, tn, un, an, kn, pn⟩ = nmL 16 ++ (((rL dn) ++ (32 :: Lib.decDigits an)) ++ (rL sn)) := by
  simp [textL, hsL, partsL, partL, getI, rL, itoa_nat]
theorem txt_17 (dn sn tn un an kn pn : Nat) : textL ⟨17, dn, sn, tn, un, an, kn, pn⟩ = nmL 17 ++ (((32 :: Lib.decDigits an) ++ (rL sn)) ++ (rL tn)) := by
  simp [textL, hsL, partsL, partL, getI, rL, itoa_nat]
theorem txt_18 (dn sn tn un an kn pn : Nat) : textL ⟨18, dn, sn, tn, un, an, kn, pn⟩ = nmL 18 ++ ((((rL dn) ++ (32 :: Lib.decDigits an)) ++ (rL sn)) ++ (rL tn)) := by
  simp [textL, hsL, partsL, partL, getI, rL, itoa_nat]
theorem txt_19 (dn sn tn un an kn pn : Nat) : textL ⟨19, dn, sn, tn, un, an, kn, pn⟩ = nmL 19 ++ (((((rL dn) ++ (32 :: Lib.decDigits an)) ++ (rL sn)) ++ (rL tn)) ++ (rL un)) := by
  simp [textL, hsL, partsL, partL, getI, rL, itoa_nat]
theorem txt_20 (dn sn tn un an kn pn : Nat) : textL ⟨20, dn, sn, tn, un, an, kn, pn⟩ = nmL 20 ++ ((((rL dn) ++ (32 :: Lib.decDigits an)) ++ (rL sn)) ++ (32 :: Lib.decDigits kn)) := by
  simp [textL, hsL, partsL, partL, getI, rL, itoa_nat]
theorem txt_23 (dn sn tn un an kn pn : Nat) : textL ⟨23, dn, sn, tn, un, an, kn, pn⟩ = nmL 23 ++ (rL sn) := by
  simp [textL, hsL, partsL, partL, getI, rL, itoa_nat]
end Go.Proofs.YthdgehcghklflaaGreatDoor

/- The document's Right, of some Ops. -/
namespace Go.Proofs.YthdgehcghklflaaGreatDoor
open Go.ChangeShapes Go.WideShapes Go.ChangeAt Go.RowKit
set_option linter.unusedVariables false

set_option maxHeartbeats 8000000 in
set_option maxRecDepth 100000 in
theorem rRightA (op d s t u a k pl p : Int) (hop : op = 1 ∨ op = 10 ∨ op = 11 ∨ op = 22 ∨ op = 12 ∨ op = 13 ∨ op = 23) (r : Regs ⟨op, d, s, t, u, a, k, pl⟩) (k0 : 0 ≤ k) (k1 : k < 4294967296) (w : World) :
    Calls Tryz.prog 66 #[iv ⟨op, d, s, t, u, a, k, pl⟩, .int .i64 p] w fun e w' => e = .returned (.bool (rightB ⟨op, d, s, t, u, a, k, pl⟩ p)) ∧ Below w.heap.size w w' := by
  obtain ⟨hd, hs, ht, hu, ha⟩ := r
  simp only at hd hs ht hu ha
  have HN := Lib.hid (fun W => rName op W)
  have hnm : (nmL op).isEmpty = false := by rcases hop with rfl | rfl | rfl | rfl | rfl | rfl | rfl <;> rfl
  generalize nmL op = nm at *
  generalize hrr : rightB ⟨op, d, s, t, u, a, k, pl⟩ p = rr at *
  have HRR := Lib.hid hrr
  clear hrr
  unfold iv
  go_enter Tryz.func66, Tryz.ntmps66
  go_wp2_with fail
  refine (HN.out _).mono ?_
  rintro e x ⟨rfl, hx⟩
  obtain ⟨hJ, hb⟩ := boxedJ hx
  clear hx
  have hlt : w.heap.size < x.heap.size := Bk.lt hJ
  have hne : w.heap.size ≠ x.heap.size := Nat.ne_of_lt hlt
  obtain ⟨c0, c1, c2, c3, c4, c5, c6, c7⟩ := hJ.cells
  simp only at c0 c1 c2 c3 c4 c5 c6 c7
  unfold bs
  go_upto_region 5 with (go_at_call 105; refine (rRegYes _ (by omega) (by omega) _).mono ?_; rintro e w' ⟨rfl, rfl⟩)
  rcases hop with rfl | rfl | rfl | rfl | rfl | rfl | rfl
  · have hq := run_eqJ ⟨1, d, 0, 0, 0, 0, k, 0⟩ ⟨1, d, s, t, u, a, k, pl⟩
    generalize hB : eqI ⟨1, d, 0, 0, 0, 0, k, 0⟩ ⟨1, d, s, t, u, a, k, pl⟩ = B at hq
    have HB := Lib.hid hB
    clear hB
    unfold iv at hq
    simp only at hq
    have E := Lib.hid (right_1 d s t u a k pl p hd hs ht hu ha k0 k1)
    cases B
    all_goals
      go_wp2
      go_region
      all_goals go_wp2
      all_goals
        go_ret
        refine ⟨ret_bool ?_, by first | exact hb.alloc (Nat.le_of_lt hlt) _ | exact (hb.alloc (Nat.le_of_lt hlt) _).drew⟩
        rw [HRR.out.symm, E.out, HB.out] <;> first | rfl | (simp <;> omega) | omega
  · have hq := run_eqJ ⟨10, 0, 0, 0, 0, 0, 0, pl⟩ ⟨10, d, s, t, u, a, k, pl⟩
    generalize hB : eqI ⟨10, 0, 0, 0, 0, 0, 0, pl⟩ ⟨10, d, s, t, u, a, k, pl⟩ = B at hq
    have HB := Lib.hid hB
    clear hB
    unfold iv at hq
    simp only at hq
    have E := Lib.hid (right_10 d s t u a k pl p hd hs ht hu ha k0 k1)
    cases B
    all_goals
      go_wp2
      all_goals
        go_ret
        refine ⟨ret_bool ?_, by first | exact hb.alloc (Nat.le_of_lt hlt) _ | exact (hb.alloc (Nat.le_of_lt hlt) _).drew⟩
        rw [HRR.out.symm, E.out, HB.out] <;> first | rfl | (simp <;> omega) | omega
  · have hq := run_eqJ ⟨11, d, 0, 0, 0, 0, 0, 0⟩ ⟨11, d, s, t, u, a, k, pl⟩
    generalize hB : eqI ⟨11, d, 0, 0, 0, 0, 0, 0⟩ ⟨11, d, s, t, u, a, k, pl⟩ = B at hq
    have HB := Lib.hid hB
    clear hB
    unfold iv at hq
    simp only at hq
    have E := Lib.hid (right_11 d s t u a k pl p hd hs ht hu ha k0 k1)
    cases B
    all_goals
      go_wp2
      all_goals
        go_ret
        refine ⟨ret_bool ?_, by first | exact hb.alloc (Nat.le_of_lt hlt) _ | exact (hb.alloc (Nat.le_of_lt hlt) _).drew⟩
        rw [HRR.out.symm, E.out, HB.out] <;> first | rfl | (simp <;> omega) | omega
  · have hq := run_eqJ ⟨22, d, 0, 0, 0, 0, 0, 0⟩ ⟨22, d, s, t, u, a, k, pl⟩
    generalize hB : eqI ⟨22, d, 0, 0, 0, 0, 0, 0⟩ ⟨22, d, s, t, u, a, k, pl⟩ = B at hq
    have HB := Lib.hid hB
    clear hB
    unfold iv at hq
    simp only at hq
    have E := Lib.hid (right_22 d s t u a k pl p hd hs ht hu ha k0 k1)
    cases B
    all_goals
      go_wp2
      all_goals
        go_ret
        refine ⟨ret_bool ?_, by first | exact hb.alloc (Nat.le_of_lt hlt) _ | exact (hb.alloc (Nat.le_of_lt hlt) _).drew⟩
        rw [HRR.out.symm, E.out, HB.out] <;> first | rfl | (simp <;> omega) | omega
  · have hq := run_eqJ ⟨12, 0, 0, 0, 0, 0, k, 0⟩ ⟨12, d, s, t, u, a, k, pl⟩
    generalize hB : eqI ⟨12, 0, 0, 0, 0, 0, k, 0⟩ ⟨12, d, s, t, u, a, k, pl⟩ = B at hq
    have HB := Lib.hid hB
    clear hB
    unfold iv at hq
    simp only at hq
    have E := Lib.hid (right_12 d s t u a k pl p hd hs ht hu ha k0 k1)
    cases B
    all_goals
      go_wp2
      all_goals
        go_ret
        refine ⟨ret_bool ?_, by first | exact hb.alloc (Nat.le_of_lt hlt) _ | exact (hb.alloc (Nat.le_of_lt hlt) _).drew⟩
        rw [HRR.out.symm, E.out, HB.out] <;> first | rfl | (simp <;> omega) | omega
  · have hq := run_eqJ ⟨13, 0, 0, 0, 0, 0, k, 0⟩ ⟨13, d, s, t, u, a, k, pl⟩
    generalize hB : eqI ⟨13, 0, 0, 0, 0, 0, k, 0⟩ ⟨13, d, s, t, u, a, k, pl⟩ = B at hq
    have HB := Lib.hid hB
    clear hB
    unfold iv at hq
    simp only at hq
    have E := Lib.hid (right_13 d s t u a k pl p hd hs ht hu ha k0 k1)
    cases B
    all_goals
      go_wp2
      all_goals
        go_ret
        refine ⟨ret_bool ?_, by first | exact hb.alloc (Nat.le_of_lt hlt) _ | exact (hb.alloc (Nat.le_of_lt hlt) _).drew⟩
        rw [HRR.out.symm, E.out, HB.out] <;> first | rfl | (simp <;> omega) | omega
  · have hq := run_eqJ ⟨23, 0, s, 0, 0, 0, 0, 0⟩ ⟨23, d, s, t, u, a, k, pl⟩
    generalize hB : eqI ⟨23, 0, s, 0, 0, 0, 0, 0⟩ ⟨23, d, s, t, u, a, k, pl⟩ = B at hq
    have HB := Lib.hid hB
    clear hB
    unfold iv at hq
    simp only at hq
    have E := Lib.hid (right_23 d s t u a k pl p hd hs ht hu ha k0 k1)
    cases B
    all_goals
      go_wp2
      all_goals
        go_ret
        refine ⟨ret_bool ?_, by first | exact hb.alloc (Nat.le_of_lt hlt) _ | exact (hb.alloc (Nat.le_of_lt hlt) _).drew⟩
        rw [HRR.out.symm, E.out, HB.out] <;> first | rfl | (simp <;> omega) | omega


end Go.Proofs.YthdgehcghklflaaGreatDoor

/- The document's Right, of some Ops. -/
namespace Go.Proofs.YthdgehcghklflaaGreatDoor
open Go.ChangeShapes Go.WideShapes Go.ChangeAt Go.RowKit
set_option linter.unusedVariables false

set_option maxHeartbeats 8000000 in
set_option maxRecDepth 100000 in
theorem rRightB (op d s t u a k pl p : Int) (hop : op = 20 ∨ op = 21) (r : Regs ⟨op, d, s, t, u, a, k, pl⟩) (k0 : 0 ≤ k) (k1 : k < 4294967296) (w : World) :
    Calls Tryz.prog 66 #[iv ⟨op, d, s, t, u, a, k, pl⟩, .int .i64 p] w fun e w' => e = .returned (.bool (rightB ⟨op, d, s, t, u, a, k, pl⟩ p)) ∧ Below w.heap.size w w' := by
  obtain ⟨hd, hs, ht, hu, ha⟩ := r
  simp only at hd hs ht hu ha
  have HN := Lib.hid (fun W => rName op W)
  have hnm : (nmL op).isEmpty = false := by rcases hop with rfl | rfl <;> rfl
  generalize nmL op = nm at *
  generalize hrr : rightB ⟨op, d, s, t, u, a, k, pl⟩ p = rr at *
  have HRR := Lib.hid hrr
  clear hrr
  unfold iv
  go_enter Tryz.func66, Tryz.ntmps66
  go_wp2_with fail
  refine (HN.out _).mono ?_
  rintro e x ⟨rfl, hx⟩
  obtain ⟨hJ, hb⟩ := boxedJ hx
  clear hx
  have hlt : w.heap.size < x.heap.size := Bk.lt hJ
  have hne : w.heap.size ≠ x.heap.size := Nat.ne_of_lt hlt
  obtain ⟨c0, c1, c2, c3, c4, c5, c6, c7⟩ := hJ.cells
  simp only at c0 c1 c2 c3 c4 c5 c6 c7
  unfold bs
  go_upto_region 5 with (go_at_call 105; refine (rRegYes _ (by omega) (by omega) _).mono ?_; rintro e w' ⟨rfl, rfl⟩)
  rcases hop with rfl | rfl
  · have hq := run_eqJ ⟨20, d, s, 0, 0, a, k, 0⟩ ⟨20, d, s, t, u, a, k, pl⟩
    generalize hB : eqI ⟨20, d, s, 0, 0, a, k, 0⟩ ⟨20, d, s, t, u, a, k, pl⟩ = B at hq
    have HB := Lib.hid hB
    clear hB
    unfold iv at hq
    simp only at hq
    have E := Lib.hid (right_20 d s t u a k pl p hd hs ht hu ha k0 k1)
    cases B
    all_goals
      go_wp2
      go_region
      all_goals go_wp2
      all_goals
        go_ret
        refine ⟨ret_bool ?_, by first | exact hb.alloc (Nat.le_of_lt hlt) _ | exact (hb.alloc (Nat.le_of_lt hlt) _).drew⟩
        rw [HRR.out.symm, E.out, HB.out] <;> first | rfl | (simp <;> omega) | omega | (rw [decide_eq_true (show k ≤ 1 by omega), decide_eq_true (show -1 ≤ pl by omega), show (pl == -1) = decide (pl = -1) from rfl]; simp)
  · have hq := run_eqJ ⟨21, d, s, t, 0, a, k, pl⟩ ⟨21, d, s, t, u, a, k, pl⟩
    generalize hB : eqI ⟨21, d, s, t, 0, a, k, pl⟩ ⟨21, d, s, t, u, a, k, pl⟩ = B at hq
    have HB := Lib.hid hB
    clear hB
    unfold iv at hq
    simp only at hq
    have E := Lib.hid (right_21 d s t u a k pl p hd hs ht hu ha k0 k1)
    cases B
    all_goals
      go_wp2
      go_region_held3 (fun w' => w'.cell? ⟨w.heap.size, 1, none⟩ = some (.int .i64 d) ∧ w'.cell? ⟨w.heap.size, 5, none⟩ = some (.int .i64 a) ∧ w'.cell? ⟨w.heap.size, 2, none⟩ = some (.int .i64 s) ∧ w'.cell? ⟨w.heap.size, 3, none⟩ = some (.int .i64 t) ∧ w'.cell? ⟨w.heap.size, 6, none⟩ = some (.int .u32 k) ∧ w'.cell? ⟨w.heap.size, 7, none⟩ = some (.int .i64 pl)) (go_keep) ((fail))
      all_goals go_wp2
      all_goals
        go_ret
        refine ⟨ret_bool ?_, by first | exact hb.alloc (Nat.le_of_lt hlt) _ | exact (hb.alloc (Nat.le_of_lt hlt) _).drew⟩
        rw [HRR.out.symm, E.out, HB.out] <;> first | rfl | (simp <;> omega) | omega | (rw [decide_eq_true (show k ≤ 1 by omega), decide_eq_true (show -1 ≤ pl by omega), show (pl == -1) = decide (pl = -1) from rfl]; simp)


end Go.Proofs.YthdgehcghklflaaGreatDoor

/- The document's Right, of some Ops. -/
namespace Go.Proofs.YthdgehcghklflaaGreatDoor
open Go.ChangeShapes Go.WideShapes Go.ChangeAt Go.RowKit
set_option linter.unusedVariables false

set_option maxHeartbeats 8000000 in
set_option maxRecDepth 100000 in
theorem rRightC (op d s t u a k pl p : Int) (hop : op = 2 ∨ op = 3 ∨ op = 4 ∨ op = 7) (r : Regs ⟨op, d, s, t, u, a, k, pl⟩) (k0 : 0 ≤ k) (k1 : k < 4294967296) (w : World) :
    Calls Tryz.prog 66 #[iv ⟨op, d, s, t, u, a, k, pl⟩, .int .i64 p] w fun e w' => e = .returned (.bool (rightB ⟨op, d, s, t, u, a, k, pl⟩ p)) ∧ Below w.heap.size w w' := by
  obtain ⟨hd, hs, ht, hu, ha⟩ := r
  simp only at hd hs ht hu ha
  have HN := Lib.hid (fun W => rName op W)
  have hnm : (nmL op).isEmpty = false := by rcases hop with rfl | rfl | rfl | rfl <;> rfl
  generalize nmL op = nm at *
  generalize hrr : rightB ⟨op, d, s, t, u, a, k, pl⟩ p = rr at *
  have HRR := Lib.hid hrr
  clear hrr
  unfold iv
  go_enter Tryz.func66, Tryz.ntmps66
  go_wp2_with fail
  refine (HN.out _).mono ?_
  rintro e x ⟨rfl, hx⟩
  obtain ⟨hJ, hb⟩ := boxedJ hx
  clear hx
  have hlt : w.heap.size < x.heap.size := Bk.lt hJ
  have hne : w.heap.size ≠ x.heap.size := Nat.ne_of_lt hlt
  obtain ⟨c0, c1, c2, c3, c4, c5, c6, c7⟩ := hJ.cells
  simp only at c0 c1 c2 c3 c4 c5 c6 c7
  unfold bs
  go_upto_region 5 with (go_at_call 105; refine (rRegYes _ (by omega) (by omega) _).mono ?_; rintro e w' ⟨rfl, rfl⟩)
  rcases hop with rfl | rfl | rfl | rfl
  · have hq := run_eqJ ⟨2, d, s, 0, 0, 0, 0, 0⟩ ⟨2, d, s, t, u, a, k, pl⟩
    generalize hB : eqI ⟨2, d, s, 0, 0, 0, 0, 0⟩ ⟨2, d, s, t, u, a, k, pl⟩ = B at hq
    have HB := Lib.hid hB
    clear hB
    unfold iv at hq
    simp only at hq
    have E := Lib.hid (right_2 d s t u a k pl p hd hs ht hu ha k0 k1)
    cases B
    all_goals
      go_wp2
      go_region
      all_goals go_wp2
      all_goals
        go_ret
        refine ⟨ret_bool ?_, by first | exact hb.alloc (Nat.le_of_lt hlt) _ | exact (hb.alloc (Nat.le_of_lt hlt) _).drew⟩
        rw [HRR.out.symm, E.out, HB.out] <;> first | rfl | (simp <;> omega) | omega
  · have hq := run_eqJ ⟨3, d, s, 0, 0, 0, k, 0⟩ ⟨3, d, s, t, u, a, k, pl⟩
    generalize hB : eqI ⟨3, d, s, 0, 0, 0, k, 0⟩ ⟨3, d, s, t, u, a, k, pl⟩ = B at hq
    have HB := Lib.hid hB
    clear hB
    unfold iv at hq
    simp only at hq
    have E := Lib.hid (right_3 d s t u a k pl p hd hs ht hu ha k0 k1)
    cases B
    all_goals
      go_wp2
      go_region
      all_goals go_wp2
      all_goals
        go_ret
        refine ⟨ret_bool ?_, by first | exact hb.alloc (Nat.le_of_lt hlt) _ | exact (hb.alloc (Nat.le_of_lt hlt) _).drew⟩
        rw [HRR.out.symm, E.out, HB.out] <;> first | rfl | (simp <;> omega) | omega
  · have hq := run_eqJ ⟨4, d, s, 0, 0, 0, k, 0⟩ ⟨4, d, s, t, u, a, k, pl⟩
    generalize hB : eqI ⟨4, d, s, 0, 0, 0, k, 0⟩ ⟨4, d, s, t, u, a, k, pl⟩ = B at hq
    have HB := Lib.hid hB
    clear hB
    unfold iv at hq
    simp only at hq
    have E := Lib.hid (right_4 d s t u a k pl p hd hs ht hu ha k0 k1)
    cases B
    all_goals
      go_wp2
      go_region
      all_goals go_wp2
      all_goals
        go_ret
        refine ⟨ret_bool ?_, by first | exact hb.alloc (Nat.le_of_lt hlt) _ | exact (hb.alloc (Nat.le_of_lt hlt) _).drew⟩
        rw [HRR.out.symm, E.out, HB.out] <;> first | rfl | (simp <;> omega) | omega
  · have hq := run_eqJ ⟨7, d, s, t, 0, 0, 0, 0⟩ ⟨7, d, s, t, u, a, k, pl⟩
    generalize hB : eqI ⟨7, d, s, t, 0, 0, 0, 0⟩ ⟨7, d, s, t, u, a, k, pl⟩ = B at hq
    have HB := Lib.hid hB
    clear hB
    unfold iv at hq
    simp only at hq
    have E := Lib.hid (right_7 d s t u a k pl p hd hs ht hu ha k0 k1)
    cases B
    all_goals
      go_wp2
      go_region
      all_goals go_wp2
      all_goals
        go_ret
        refine ⟨ret_bool ?_, by first | exact hb.alloc (Nat.le_of_lt hlt) _ | exact (hb.alloc (Nat.le_of_lt hlt) _).drew⟩
        rw [HRR.out.symm, E.out, HB.out] <;> first | rfl | (simp <;> omega) | omega


end Go.Proofs.YthdgehcghklflaaGreatDoor

/- The document's Right, of some Ops. -/
namespace Go.Proofs.YthdgehcghklflaaGreatDoor
open Go.ChangeShapes Go.WideShapes Go.ChangeAt Go.RowKit
set_option linter.unusedVariables false

set_option maxHeartbeats 8000000 in
set_option maxRecDepth 100000 in
theorem rRightD (op d s t u a k pl p : Int) (hop : op = 5 ∨ op = 6 ∨ op = 8 ∨ op = 9) (r : Regs ⟨op, d, s, t, u, a, k, pl⟩) (k0 : 0 ≤ k) (k1 : k < 4294967296) (w : World) :
    Calls Tryz.prog 66 #[iv ⟨op, d, s, t, u, a, k, pl⟩, .int .i64 p] w fun e w' => e = .returned (.bool (rightB ⟨op, d, s, t, u, a, k, pl⟩ p)) ∧ Below w.heap.size w w' := by
  obtain ⟨hd, hs, ht, hu, ha⟩ := r
  simp only at hd hs ht hu ha
  have HN := Lib.hid (fun W => rName op W)
  have hnm : (nmL op).isEmpty = false := by rcases hop with rfl | rfl | rfl | rfl <;> rfl
  generalize nmL op = nm at *
  generalize hrr : rightB ⟨op, d, s, t, u, a, k, pl⟩ p = rr at *
  have HRR := Lib.hid hrr
  clear hrr
  unfold iv
  go_enter Tryz.func66, Tryz.ntmps66
  go_wp2_with fail
  refine (HN.out _).mono ?_
  rintro e x ⟨rfl, hx⟩
  obtain ⟨hJ, hb⟩ := boxedJ hx
  clear hx
  have hlt : w.heap.size < x.heap.size := Bk.lt hJ
  have hne : w.heap.size ≠ x.heap.size := Nat.ne_of_lt hlt
  obtain ⟨c0, c1, c2, c3, c4, c5, c6, c7⟩ := hJ.cells
  simp only at c0 c1 c2 c3 c4 c5 c6 c7
  unfold bs
  go_upto_region 5 with (go_at_call 105; refine (rRegYes _ (by omega) (by omega) _).mono ?_; rintro e w' ⟨rfl, rfl⟩)
  rcases hop with rfl | rfl | rfl | rfl
  · have hq := run_eqJ ⟨5, d, s, 0, 0, 0, k, 0⟩ ⟨5, d, s, t, u, a, k, pl⟩
    generalize hB : eqI ⟨5, d, s, 0, 0, 0, k, 0⟩ ⟨5, d, s, t, u, a, k, pl⟩ = B at hq
    have HB := Lib.hid hB
    clear hB
    unfold iv at hq
    simp only at hq
    have E := Lib.hid (right_5 d s t u a k pl p hd hs ht hu ha k0 k1)
    cases B
    all_goals
      go_wp2
      go_region
      all_goals go_wp2
      all_goals
        go_ret
        refine ⟨ret_bool ?_, by first | exact hb.alloc (Nat.le_of_lt hlt) _ | exact (hb.alloc (Nat.le_of_lt hlt) _).drew⟩
        rw [HRR.out.symm, E.out, HB.out] <;> first | rfl | (simp <;> omega) | omega
  · have hq := run_eqJ ⟨6, d, s, 0, 0, 0, k, 0⟩ ⟨6, d, s, t, u, a, k, pl⟩
    generalize hB : eqI ⟨6, d, s, 0, 0, 0, k, 0⟩ ⟨6, d, s, t, u, a, k, pl⟩ = B at hq
    have HB := Lib.hid hB
    clear hB
    unfold iv at hq
    simp only at hq
    have E := Lib.hid (right_6 d s t u a k pl p hd hs ht hu ha k0 k1)
    cases B
    all_goals
      go_wp2
      go_region
      all_goals go_wp2
      all_goals
        go_ret
        refine ⟨ret_bool ?_, by first | exact hb.alloc (Nat.le_of_lt hlt) _ | exact (hb.alloc (Nat.le_of_lt hlt) _).drew⟩
        rw [HRR.out.symm, E.out, HB.out] <;> first | rfl | (simp <;> omega) | omega
  · have hq := run_eqJ ⟨8, 0, s, t, 0, 0, 0, pl⟩ ⟨8, d, s, t, u, a, k, pl⟩
    generalize hB : eqI ⟨8, 0, s, t, 0, 0, 0, pl⟩ ⟨8, d, s, t, u, a, k, pl⟩ = B at hq
    have HB := Lib.hid hB
    clear hB
    unfold iv at hq
    simp only at hq
    have E := Lib.hid (right_8 d s t u a k pl p hd hs ht hu ha k0 k1)
    cases B
    all_goals
      go_wp2
      go_region
      all_goals go_wp2
      all_goals
        go_ret
        refine ⟨ret_bool ?_, by first | exact hb.alloc (Nat.le_of_lt hlt) _ | exact (hb.alloc (Nat.le_of_lt hlt) _).drew⟩
        rw [HRR.out.symm, E.out, HB.out] <;> first | rfl | (simp <;> omega) | omega
  · have hq := run_eqJ ⟨9, 0, s, t, 0, 0, 0, pl⟩ ⟨9, d, s, t, u, a, k, pl⟩
    generalize hB : eqI ⟨9, 0, s, t, 0, 0, 0, pl⟩ ⟨9, d, s, t, u, a, k, pl⟩ = B at hq
    have HB := Lib.hid hB
    clear hB
    unfold iv at hq
    simp only at hq
    have E := Lib.hid (right_9 d s t u a k pl p hd hs ht hu ha k0 k1)
    cases B
    all_goals
      go_wp2
      go_region
      all_goals go_wp2
      all_goals
        go_ret
        refine ⟨ret_bool ?_, by first | exact hb.alloc (Nat.le_of_lt hlt) _ | exact (hb.alloc (Nat.le_of_lt hlt) _).drew⟩
        rw [HRR.out.symm, E.out, HB.out] <;> first | rfl | (simp <;> omega) | omega


end Go.Proofs.YthdgehcghklflaaGreatDoor

/- The document's Right, of some Ops. -/
namespace Go.Proofs.YthdgehcghklflaaGreatDoor
open Go.ChangeShapes Go.WideShapes Go.ChangeAt Go.RowKit
set_option linter.unusedVariables false

set_option maxHeartbeats 8000000 in
set_option maxRecDepth 100000 in
theorem rRightF (op d s t u a k pl p : Int) (hop : op = 16 ∨ op = 18) (r : Regs ⟨op, d, s, t, u, a, k, pl⟩) (k0 : 0 ≤ k) (k1 : k < 4294967296) (w : World) :
    Calls Tryz.prog 66 #[iv ⟨op, d, s, t, u, a, k, pl⟩, .int .i64 p] w fun e w' => e = .returned (.bool (rightB ⟨op, d, s, t, u, a, k, pl⟩ p)) ∧ Below w.heap.size w w' := by
  obtain ⟨hd, hs, ht, hu, ha⟩ := r
  simp only at hd hs ht hu ha
  have HN := Lib.hid (fun W => rName op W)
  have hnm : (nmL op).isEmpty = false := by rcases hop with rfl | rfl <;> rfl
  generalize nmL op = nm at *
  generalize hrr : rightB ⟨op, d, s, t, u, a, k, pl⟩ p = rr at *
  have HRR := Lib.hid hrr
  clear hrr
  unfold iv
  go_enter Tryz.func66, Tryz.ntmps66
  go_wp2_with fail
  refine (HN.out _).mono ?_
  rintro e x ⟨rfl, hx⟩
  obtain ⟨hJ, hb⟩ := boxedJ hx
  clear hx
  have hlt : w.heap.size < x.heap.size := Bk.lt hJ
  have hne : w.heap.size ≠ x.heap.size := Nat.ne_of_lt hlt
  obtain ⟨c0, c1, c2, c3, c4, c5, c6, c7⟩ := hJ.cells
  simp only at c0 c1 c2 c3 c4 c5 c6 c7
  unfold bs
  go_upto_region 5 with (go_at_call 105; refine (rRegYes _ (by omega) (by omega) _).mono ?_; rintro e w' ⟨rfl, rfl⟩)
  rcases hop with rfl | rfl
  · have hq := run_eqJ ⟨16, d, s, 0, 0, a, 0, 0⟩ ⟨16, d, s, t, u, a, k, pl⟩
    generalize hB : eqI ⟨16, d, s, 0, 0, a, 0, 0⟩ ⟨16, d, s, t, u, a, k, pl⟩ = B at hq
    have HB := Lib.hid hB
    clear hB
    unfold iv at hq
    simp only at hq
    have E := Lib.hid (right_16 d s t u a k pl p hd hs ht hu ha k0 k1)
    cases B
    all_goals
      go_wp2
      go_region
      all_goals go_wp2
      all_goals
        go_ret
        refine ⟨ret_bool ?_, by first | exact hb.alloc (Nat.le_of_lt hlt) _ | exact (hb.alloc (Nat.le_of_lt hlt) _).drew⟩
        rw [HRR.out.symm, E.out, HB.out] <;> first | rfl | (simp <;> omega) | omega
  · have hq := run_eqJ ⟨18, d, s, t, 0, a, 0, 0⟩ ⟨18, d, s, t, u, a, k, pl⟩
    generalize hB : eqI ⟨18, d, s, t, 0, a, 0, 0⟩ ⟨18, d, s, t, u, a, k, pl⟩ = B at hq
    have HB := Lib.hid hB
    clear hB
    unfold iv at hq
    simp only at hq
    have E := Lib.hid (right_18 d s t u a k pl p hd hs ht hu ha k0 k1)
    cases B
    all_goals
      go_wp2
      go_region
      all_goals go_wp2
      all_goals
        go_ret
        refine ⟨ret_bool ?_, by first | exact hb.alloc (Nat.le_of_lt hlt) _ | exact (hb.alloc (Nat.le_of_lt hlt) _).drew⟩
        rw [HRR.out.symm, E.out, HB.out] <;> first | rfl | (simp <;> omega) | omega


end Go.Proofs.YthdgehcghklflaaGreatDoor

/- The document's Right, of some Ops. -/
namespace Go.Proofs.YthdgehcghklflaaGreatDoor
open Go.ChangeShapes Go.WideShapes Go.ChangeAt Go.RowKit
set_option linter.unusedVariables false

set_option maxHeartbeats 8000000 in
set_option maxRecDepth 100000 in
theorem rRightG (op d s t u a k pl p : Int) (hop : op = 17 ∨ op = 19) (r : Regs ⟨op, d, s, t, u, a, k, pl⟩) (k0 : 0 ≤ k) (k1 : k < 4294967296) (w : World) :
    Calls Tryz.prog 66 #[iv ⟨op, d, s, t, u, a, k, pl⟩, .int .i64 p] w fun e w' => e = .returned (.bool (rightB ⟨op, d, s, t, u, a, k, pl⟩ p)) ∧ Below w.heap.size w w' := by
  obtain ⟨hd, hs, ht, hu, ha⟩ := r
  simp only at hd hs ht hu ha
  have HN := Lib.hid (fun W => rName op W)
  have hnm : (nmL op).isEmpty = false := by rcases hop with rfl | rfl <;> rfl
  generalize nmL op = nm at *
  generalize hrr : rightB ⟨op, d, s, t, u, a, k, pl⟩ p = rr at *
  have HRR := Lib.hid hrr
  clear hrr
  unfold iv
  go_enter Tryz.func66, Tryz.ntmps66
  go_wp2_with fail
  refine (HN.out _).mono ?_
  rintro e x ⟨rfl, hx⟩
  obtain ⟨hJ, hb⟩ := boxedJ hx
  clear hx
  have hlt : w.heap.size < x.heap.size := Bk.lt hJ
  have hne : w.heap.size ≠ x.heap.size := Nat.ne_of_lt hlt
  obtain ⟨c0, c1, c2, c3, c4, c5, c6, c7⟩ := hJ.cells
  simp only at c0 c1 c2 c3 c4 c5 c6 c7
  unfold bs
  go_upto_region 5 with (go_at_call 105; refine (rRegYes _ (by omega) (by omega) _).mono ?_; rintro e w' ⟨rfl, rfl⟩)
  rcases hop with rfl | rfl
  · have hq := run_eqJ ⟨17, 0, s, t, 0, a, 0, 0⟩ ⟨17, d, s, t, u, a, k, pl⟩
    generalize hB : eqI ⟨17, 0, s, t, 0, a, 0, 0⟩ ⟨17, d, s, t, u, a, k, pl⟩ = B at hq
    have HB := Lib.hid hB
    clear hB
    unfold iv at hq
    simp only at hq
    have E := Lib.hid (right_17 d s t u a k pl p hd hs ht hu ha k0 k1)
    cases B
    all_goals
      go_wp2
      go_region
      all_goals go_wp2
      all_goals
        go_ret
        refine ⟨ret_bool ?_, by first | exact hb.alloc (Nat.le_of_lt hlt) _ | exact (hb.alloc (Nat.le_of_lt hlt) _).drew⟩
        rw [HRR.out.symm, E.out, HB.out] <;> first | rfl | (simp <;> omega) | omega
  · have hq := run_eqJ ⟨19, d, s, t, u, a, 0, 0⟩ ⟨19, d, s, t, u, a, k, pl⟩
    generalize hB : eqI ⟨19, d, s, t, u, a, 0, 0⟩ ⟨19, d, s, t, u, a, k, pl⟩ = B at hq
    have HB := Lib.hid hB
    clear hB
    unfold iv at hq
    simp only at hq
    have E := Lib.hid (right_19 d s t u a k pl p hd hs ht hu ha k0 k1)
    cases B
    all_goals
      go_wp2
      go_region
      all_goals go_wp2
      all_goals
        go_ret
        refine ⟨ret_bool ?_, by first | exact hb.alloc (Nat.le_of_lt hlt) _ | exact (hb.alloc (Nat.le_of_lt hlt) _).drew⟩
        rw [HRR.out.symm, E.out, HB.out] <;> first | rfl | (simp <;> omega) | omega


end Go.Proofs.YthdgehcghklflaaGreatDoor

/- The law's Ref: the document's program. -/
namespace Go.Proofs.YthdgehcghklflaaGreatDoor
open Go.ChangeShapes Go.WideShapes Go.ChangeAt Go.RowKit
set_option linter.unusedVariables false

theorem refInfo : (Tryz.prog.info? 125).map (fun i => (i.zero, i.size, i.bytes)) = some (some (.agg #[.int .i64 0, .int .i64 0, .int .i64 0, .int .i64 0, .int .i64 0, .int .i64 0, .int .u32 0, .int .i64 0]), 8, 64) := by kernel_rfl
theorem take_snoc {l : List Ins} {k : Nat} (h : k < l.length) : l.take (k + 1) = l.take k ++ [l[k]] := by simp

/-- Behind one more instruction. -/
theorem ref_end {w x y w' : World} {o : Obj} {lo un : Int} {k : Nat} {l : List Ins} {v v' : Value} {i : Ins} {R O : Nat} {rs : Array Value} (hb : Below w.heap.size w x) (hO : Bk x O 35 #[v, .int .i64 lo, .int .i64 un]) (hR : Bk x R 35 rs) (hne : R ≠ O) (hwO : w.heap.size ≤ O)
    (hv : x.ownsRow w.heap.size 125 8 v k (progC l)) (hy : Below x.heap.size x y) (hw : w'.ownsRow w.heap.size 125 8 v' (k + 1) (progC l ++ insC i)) (hg : (y.alloc o).grownBy w' v.ownBlock) :
    Below w.heap.size w (w'.setCell ⟨O, 0, none⟩ v') ∧ Bk (w'.setCell ⟨O, 0, none⟩ v') O 35 #[v', .int .i64 lo, .int .i64 un] ∧ Bk (w'.setCell ⟨O, 0, none⟩ v') R 35 rs ∧ (w'.setCell ⟨O, 0, none⟩ v').ownsRow w.heap.size 125 8 v' (k + 1) (progC (l ++ [i])) := by
  have hA : Within x (y.alloc o) (fun _ => False) := (within_of_below hy).alloc o
  have hB : Within (y.alloc o) w' (fun b => some b = v.ownBlock) := .of_grown hg (by rintro i e; exact .inl e.symm)
  have hC : Within x w' (fun b => some b = v.ownBlock) := (hA.wide (by simp)).then_ hB (by rintro i e; exact .inl e)
  have un_ : ∀ {g : Nat} {cs : Array Value}, Bk x g 35 cs → Bk w' g 35 cs := fun hk => hk.within hC fun e => by
    obtain ⟨cs, hcs⟩ := own_bk hv e.symm
    exact Bk.unlike hcs hk (by decide) rfl
  have hO2 := un_ hO
  have hR2 := un_ hR
  have hb2 : Below w.heap.size w w' := by
    refine hb.trans ⟨hC.os, hC.tape, hC.output, hC.size, fun i hi => hC.block i (Nat.lt_of_lt_of_le hi hb.size) fun e => ?_⟩
    have := (World.ownsRow.lt hv i e.symm).1
    omega
  refine ⟨hb2.setCell hwO _, hO2.put 0 v', hR2.off hne _, ?_⟩
  rw [progC_snoc]
  refine own_within hw ((Within.refl w' (fun b => b = O)).put O 0 v' (.inl rfl)) fun b e e2 => ?_
  obtain ⟨cs, hcs⟩ := own_bk hw e
  exact Bk.unlike hcs hO2 (by decide) e2

set_option maxHeartbeats 1000000 in
theorem lRefO (c : Prg) (v : Value) (w : World) (hv : Pv w v c) (hl : c.l.length ≤ 1000) :
    Calls Tryz.prog 31 #[v] w fun e w' => ∃ sl, e = .returned (.agg #[sl, .int .i64 c.lo, .int .i64 c.un]) ∧ w'.ownsRow w.heap.size 125 8 sl c.l.length (progC c.l) ∧ Below w.heap.size w w' := by
  obtain ⟨a, ca, rfl, hc1, hc2, _, ha⟩ := hv
  obtain ⟨l, lo, un⟩ := c
  simp only at hl hc1 ha ⊢
  have q0 := ((Bk.made w 25 #[.slice a l.length ca, .int .i64 lo, .int .i64 un]).alloc (.cells #[.slice none 0 0, .int .i64 0, .int .i64 0] 35))
  have q1 := Bk.made (w.alloc (.cells #[.slice a l.length ca, .int .i64 lo, .int .i64 un] 25)) 35 #[.slice none 0 0, .int .i64 0, .int .i64 0]
  rw [World.size_alloc] at q1
  have b0 : Below w.heap.size w ((w.alloc (.cells #[.slice a l.length ca, .int .i64 lo, .int .i64 un] 25)).alloc (.cells #[.slice none 0 0, .int .i64 0, .int .i64 0] 35)) := ((Below.refl _ _).alloc (Nat.le_refl _) _).alloc (by simp) _
  go_enter Tryz.func31, Tryz.ntmps31
  go_upto_region 1 with fail
  generalize (w.alloc (.cells #[.slice a l.length ca, .int .i64 lo, .int .i64 un] 25)).alloc (.cells #[.slice none 0 0, .int .i64 0, .int .i64 0] 35) = x at *
  obtain ⟨x0, x1, x2⟩ : x.cell? ⟨w.heap.size, 0, none⟩ = some (.slice a l.length ca) ∧ x.cell? ⟨w.heap.size, 1, none⟩ = some (.int .i64 lo) ∧ x.cell? ⟨w.heap.size, 2, none⟩ = some (.int .i64 un) := ⟨q0.cell 0, q0.cell 1, q0.cell 2⟩
  go_upto_region 2 with fail
  have O0 := Bk.made x 35 #[.slice none 0 0, .int .i64 lo, .int .i64 un]
  have hxw : w.heap.size + 1 < x.heap.size := q1.lt
  replace q0 := q0.alloc (.cells #[.slice none 0 0, .int .i64 lo, .int .i64 un] 35)
  replace q1 := q1.alloc (.cells #[.slice none 0 0, .int .i64 lo, .int .i64 un] 35)
  replace b0 := b0.alloc (o := .cells #[.slice none 0 0, .int .i64 lo, .int .i64 un] 35) b0.size
  generalize x.heap.size = O at *
  generalize x.alloc (.cells #[.slice none 0 0, .int .i64 lo, .int .i64 un] 35) = x at *
  have z0 : x.cell? ⟨w.heap.size, 0, none⟩ = some (.slice a l.length ca) := q0.cell 0
  clear x0 x1 x2 q0
  go_wp2
  go_loopw [14] (fun i wr => ∃ (k : Nat) (v : Value), i = .int .i64 k ∧ k ≤ l.length ∧ Below w.heap.size w wr ∧ Bk wr O 35 #[v, .int .i64 lo, .int .i64 un] ∧ Bk wr (w.heap.size + 1) 35 #[.slice none 0 0, .int .i64 0, .int .i64 0] ∧ wr.ownsRow w.heap.size 125 8 v k (progC (l.take k))) (fun i _ => l.length - (intOf i).toNat)
  case atStart => exact ⟨0, .slice none 0 0, rfl, Nat.zero_le _, b0, O0, q1, World.ownsRow_nil _ _ _ _⟩
  case round =>
    obtain ⟨k, v, rfl, hk, hb, hO, hR, hv⟩ := hrel
    clear z0 O0 q1 b0
    by_cases hlt : k < l.length
    · have hki : (k : Int) < l.length := by omega
      obtain ⟨g, off, rfl, hgl, e0, e1, e2, e3, e4, e5, e6, e7⟩ := (ha.below hb).at_ (List.getElem?_eq_getElem hlt)
      have HT := Lib.hid (take_snoc hlt)
      generalize l[k] = i at *
      have HF := Lib.hid (fun W => rRef i W)
      obtain ⟨op, d, s, t, u, a', k', pl⟩ := i
      simp only at e0 e1 e2 e3 e4 e5 e6 e7
      unfold iv at HF
      simp only at HF
      obtain ⟨a2, cap2, rfl, hcap2, hmax2, _⟩ := own_is hv
      go_upto_region 5 with fail
      have m2 := Ib.made wr op d s t u a' k' pl
      replace hb := hb.alloc (o := .cells #[.int .i64 op, .int .i64 d, .int .i64 s, .int .i64 t, .int .i64 u, .int .i64 a', .int .u32 k', .int .i64 pl] 119) hb.size
      replace hO := hO.alloc (.cells #[.int .i64 op, .int .i64 d, .int .i64 s, .int .i64 t, .int .i64 u, .int .i64 a', .int .u32 k', .int .i64 pl] 119)
      replace hR := hR.alloc (.cells #[.int .i64 op, .int .i64 d, .int .i64 s, .int .i64 t, .int .i64 u, .int .i64 a', .int .u32 k', .int .i64 pl] 119)
      replace hv := World.ownsRow.alloc hv (.cells #[.int .i64 op, .int .i64 d, .int .i64 s, .int .i64 t, .int .i64 u, .int .i64 a', .int .u32 k', .int .i64 pl] 119)
      clear e0 e1 e2 e3 e4 e5 e6 e7
      generalize wr.heap.size = q at *
      generalize wr.alloc (.cells #[.int .i64 op, .int .i64 d, .int .i64 s, .int .i64 t, .int .i64 u, .int .i64 a', .int .u32 k', .int .i64 pl] 119) = x at *
      obtain ⟨e0, e1, e2, e3, e4, e5, e6, e7⟩ := m2.cells
      simp only at e0 e1 e2 e3 e4 e5 e6 e7
      have v0 : x.cell? ⟨O, 0, none⟩ = some (.slice a2 k cap2) := hO.cell 0
      have HV0 : Hid (∀ y, Below x.heap.size x y → y.cell? ⟨O, 0, none⟩ = some (.slice a2 k cap2)) := Lib.hid fun y hy => (hy.cell (p := ⟨O, 0, none⟩) hO.lt).trans v0
      have HV1 : Hid (∀ y, Below x.heap.size x y → ∀ o, (y.alloc o).cell? ⟨O, 0, none⟩ = some (.slice a2 k cap2)) := Lib.hid fun y hy o => (Bk.alloc ((hy.block _ hO.lt).trans hO) o).cell 0
      have HOW : Hid (∀ y, Below x.heap.size x y → (y.alloc (.cells #[.int .i64 op, .int .i64 d, .int .i64 s, .int .i64 t, .int .i64 u, .int .i64 a', .int .u32 k', .int .i64 pl] 125)).ownsRow w.heap.size 125 8 (.slice a2 k cap2) k (progC (l.take k))) := Lib.hid fun y hy => World.ownsRow.alloc (own_within hv (within_of_below hy) (by simp)) _
      have HNW : Hid (∀ y : World, ∀ (j : Nat) (uu : Value), [Value.int .i64 op, .int .i64 d, .int .i64 s, .int .i64 t, .int .i64 u, .int .i64 a', .int .u32 k', .int .i64 pl][j]? = some uu → (y.alloc (.cells #[.int .i64 op, .int .i64 d, .int .i64 s, .int .i64 t, .int .i64 u, .int .i64 a', .int .u32 k', .int .i64 pl] 125)).cell? ((⟨y.heap.size, 0, none⟩ : Addr).add j) = some uu) := Lib.hid fun y => news_bk (Bk.made y 125 #[.int .i64 op, .int .i64 d, .int .i64 s, .int .i64 t, .int .i64 u, .int .i64 a', .int .u32 k', .int .i64 pl])
      have HBS : Hid (∀ y, Below x.heap.size x y → w.heap.size ≤ (y.alloc (.cells #[.int .i64 op, .int .i64 d, .int .i64 s, .int .i64 t, .int .i64 u, .int .i64 a', .int .u32 k', .int .i64 pl] 125)).heap.size) := Lib.hid fun y hy => by rw [World.size_alloc]; have := hb.size; have := hy.size; omega
      have HEND : Hid (∀ y, Below x.heap.size x y → ∀ (w' : World) (v' : Value), w'.ownsRow w.heap.size 125 8 v' (k + 1) (progC (l.take k) ++ insC ⟨op, d, s, t, u, a', k', pl⟩) → (y.alloc (.cells #[.int .i64 op, .int .i64 d, .int .i64 s, .int .i64 t, .int .i64 u, .int .i64 a', .int .u32 k', .int .i64 pl] 125)).grownBy w' (Value.slice a2 k cap2).ownBlock →
        Below w.heap.size w (w'.setCell ⟨O, 0, none⟩ v') ∧ Bk (w'.setCell ⟨O, 0, none⟩ v') O 35 #[v', .int .i64 lo, .int .i64 un] ∧ Bk (w'.setCell ⟨O, 0, none⟩ v') (w.heap.size + 1) 35 #[.slice none 0 0, .int .i64 0, .int .i64 0] ∧ (w'.setCell ⟨O, 0, none⟩ v').ownsRow w.heap.size 125 8 v' (k + 1) (progC (l.take (k + 1)))) :=
        Lib.hid fun y hy w' v' h1 h2 => by rw [HT.out]; exact ref_end hb hO hR (by omega) (by omega) hv hy h1 h2
      have HKO : Hid (∀ y, Below x.heap.size x y → ∀ (w' : World), (y.alloc (.cells #[.int .i64 op, .int .i64 d, .int .i64 s, .int .i64 t, .int .i64 u, .int .i64 a', .int .u32 k', .int .i64 pl] 125)).grownBy w' (Value.slice a2 k cap2).ownBlock → Bk w' O 35 #[.slice a2 k cap2, .int .i64 lo, .int .i64 un]) := Lib.hid fun y hy w' hg =>
        Bk.grown (Bk.alloc ((hy.block _ hO.lt).trans hO) _) hg fun e => by
          obtain ⟨cs, hcs⟩ := own_bk hv e.symm
          exact Bk.unlike hcs hO (by decide) rfl
      clear hO hR hv hb m2 ha HT
      go_region_law (first
        | (have hy9 := hy; refine step_own rfl (.tmp 19) (.tmp 22) 33 rfl _ 64 Tryz.underlying33 refInfo rfl (by omega) (by omega) (HOW.out y hy) (by simp [Act.eval]) (insC ⟨op, d, s, t, u, a', k', pl⟩) rfl (insC_one _) y.heap.size (by simp [Act.eval]) (HNW.out y) (by omega) (HBS.out y hy) ?_; intro v' w' hown hgr hloc; have hko := HKO.out y hy w' hgr; have ck0 : w'.cell? ⟨O, 0, none⟩ = some (.slice a2 k cap2) := hko.cell 0; have cf0 := hko.free 0; obtain ⟨a3, cap3, rfl, _, _, _⟩ := own_is hown)
        | (go_simp; go_at_call 65; refine (HF.out _).mono ?_; rintro e y ⟨rfl, hy0⟩; have hy : Below x.heap.size x y := below_of_drew hy0; have hyv := HV0.out y hy; have hyo := HV1.out y hy))
      all_goals (
        have HS := Lib.hid (HEND.out y hy w' _ hown hgr)
        clear HOW HNW HBS HEND HKO HV0 HV1 HF hgr hown hloc
        go_wp2
        obtain ⟨s1, s2, s3, s4⟩ := HS.out
        go_roundw
        case rel => exact ⟨k + 1, _, by go_num, by omega, s1, s2, s3, s4⟩
        case measure =>
          show l.length - ((k : Int) + 1).toNat < l.length - (k : Int).toNat
          omega)
    · obtain rfl : k = l.length := by omega
      have hki : ¬ (l.length : Int) < l.length := by omega
      rw [List.take_length] at hv
      obtain ⟨a2, cap2, rfl, hcap2, hmax2, _⟩ := own_is hv
      obtain ⟨y0, y1, y2⟩ : wr.cell? ⟨O, 0, none⟩ = some (.slice a2 l.length cap2) ∧ wr.cell? ⟨O, 1, none⟩ = some (.int .i64 lo) ∧ wr.cell? ⟨O, 2, none⟩ = some (.int .i64 un) := ⟨hO.cell 0, hO.cell 1, hO.cell 2⟩
      obtain ⟨z0, z1, z2⟩ : wr.cell? ⟨w.heap.size + 1, 0, none⟩ = some (.slice none 0 0) ∧ wr.cell? ⟨w.heap.size + 1, 1, none⟩ = some (.int .i64 0) ∧ wr.cell? ⟨w.heap.size + 1, 2, none⟩ = some (.int .i64 0) := ⟨hR.cell 0, hR.cell 1, hR.cell 2⟩
      have zf := hR.free
      clear ha
      go_wp2
      have h9 := put3_bk hR (.slice a2 l.length cap2) (.int .i64 lo) (.int .i64 un)
      have b9 := put3_below hb (by show w.heap.size ≤ w.heap.size + 1; omega) (.slice a2 l.length cap2) (.int .i64 lo) (.int .i64 un)
      have o9 : (put3 wr (w.heap.size + 1) (.slice a2 l.length cap2) (.int .i64 lo) (.int .i64 un)).ownsRow w.heap.size 125 8 (.slice a2 l.length cap2) l.length (progC l) := own_within hv ((((Within.refl wr (fun b => b = w.heap.size + 1)).put (w.heap.size + 1) 0 (.slice a2 l.length cap2) (.inl rfl)).put (w.heap.size + 1) 1 (.int .i64 lo) (.inl rfl)).put (w.heap.size + 1) 2 (.int .i64 un) (.inl rfl)) (fun b e e2 => by
        obtain ⟨cs, hcs⟩ := own_bk hv e
        exact Bk.unlike hcs hR (by decide) e2)
      generalize hv9 : (((wr.setCell ⟨w.heap.size + 1, 0, none⟩ (.slice a2 l.length cap2)).setCell ⟨w.heap.size + 1, 1, none⟩ (.int .i64 lo)).setCell ⟨w.heap.size + 1, 2, none⟩ (.int .i64 un)) = v9
      replace hv9 : put3 wr (w.heap.size + 1) (.slice a2 l.length cap2) (.int .i64 lo) (.int .i64 un) = v9 := hv9
      rw [hv9] at h9 b9 o9
      obtain ⟨q0, q1, q2⟩ : v9.cell? ⟨w.heap.size + 1, 0, none⟩ = some (.slice a2 l.length cap2) ∧ v9.cell? ⟨w.heap.size + 1, 1, none⟩ = some (.int .i64 lo) ∧ v9.cell? ⟨w.heap.size + 1, 2, none⟩ = some (.int .i64 un) := ⟨h9.cell 0, h9.cell 1, h9.cell 2⟩
      refine bodyPost_ret (v := .agg #[.slice a2 l.length cap2, .int .i64 lo, .int .i64 un]) (by simp [results, Tryz.results31, go_sem, q0, q1, q2]) rfl ⟨.slice a2 l.length cap2, rfl, o9, b9⟩
theorem own_pv {w : World} {base : Nat} {t : TypeId} {sl : Value} {c : Prg} (h : w.ownsRow base t 8 sl c.l.length (progC c.l)) : Pv w (.agg #[sl, .int .i64 c.lo, .int .i64 c.un]) c := by
  obtain ⟨a, cap, rfl, h1, h2, _⟩ := own_is h
  exact ⟨a, cap, rfl, h1, h2, own_nil h, sli_own h⟩
end Go.Proofs.YthdgehcghklflaaGreatDoor
