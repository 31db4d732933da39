/- The lines of a text, each with its end; strings.Lines, strings.CutSuffix. -/
import Derived.Test.YtjhdpolaapbihaaDoorRow
import Derived.Test.YtjhdpolaapbihaaDoorInstL
import Derived.Test.YtjhdpolaapbihaaDoorWdB
import Derived.BigRegionIn
namespace Go.Proofs.YtjhdpolaapbihaaDoor
open Go.ChangeShapes Go.WideShapes Go.ChangeAt Go.RowKit Go.Shelf
attribute [local go_sem] Oper.semAt_some
set_option linter.unusedVariables false

/-- A sign ahead of the first line. -/
def onto (c : UInt8) : List (List UInt8) → List (List UInt8)
  | [] => [[c]]
  | x :: xs => (c :: x) :: xs
/-- The lines of a text, each with its end, if it has one. -/
def linesL : List UInt8 → List (List UInt8)
  | [] => []
  | c :: r => if c = 10 then [10] :: linesL r else onto c (linesL r)
/-- Line k. A plain definition, so that a walk leaves it alone. -/
def lineAt (text : List UInt8) (k : Nat) : List UInt8 := (linesL text).getD k []
theorem lines_more : ∀ (s r : List UInt8), Nl s → linesL (s ++ 10 :: r) = (s ++ [10]) :: linesL r
  | [], r, _ => by simp [linesL]
  | c :: s, r, h => by
    have ih := lines_more s r fun d hd => h d (List.mem_cons_of_mem _ hd)
    show linesL (c :: (s ++ 10 :: r)) = _
    rw [linesL, if_neg (h c List.mem_cons_self), ih]
    rfl
theorem lines_last : ∀ s : List UInt8, Nl s → s ≠ [] → linesL s = [s]
  | [], _, h => absurd rfl h
  | [c], h, _ => by simp [linesL, h c List.mem_cons_self, onto]
  | c :: d :: s, h, _ => by
    have ih := lines_last (d :: s) (fun x hx => h x (List.mem_cons_of_mem _ hx)) (by simp)
    rw [linesL, if_neg (h c List.mem_cons_self), ih]
    rfl
theorem lines_len : ∀ t : List UInt8, (linesL t).length ≤ t.length
  | [] => Nat.le_refl _
  | c :: t => by
    have ih := lines_len t
    rw [linesL]
    split
    · simp; omega
    · cases h : linesL t with
      | nil => simp [onto]
      | cons x y => rw [h] at ih; simp [onto] at ih ⊢; omega
theorem first_nl : ∀ t : List UInt8, Nl t ∨ ∃ s r, Nl s ∧ t = s ++ 10 :: r
  | [] => .inl (by unfold Nl; simp)
  | c :: t => by
    by_cases hc : c = 10
    · exact .inr ⟨[], t, by unfold Nl; simp, by rw [hc]; rfl⟩
    rcases first_nl t with h | ⟨s, r, hs, rfl⟩
    · exact .inl fun d hd => by
        rcases List.mem_cons.1 hd with rfl | hd
        · exact hc
        · exact h d hd
    · exact .inr ⟨c :: s, r, fun d hd => by
        rcases List.mem_cons.1 hd with rfl | hd
        · exact hc
        · exact hs d hd, rfl⟩
theorem index_no : ∀ t : List UInt8, Nl t → Lib.indexByte t 10 = -1
  | [], _ => rfl
  | c :: t, h => by
    have ih := index_no t fun d hd => h d (List.mem_cons_of_mem _ hd)
    have hc : (c == 10) = false := by simpa using h c List.mem_cons_self
    rw [Lib.indexByte, hc, ih]
    simp
theorem index_yes : ∀ s r : List UInt8, Nl s → Lib.indexByte (s ++ 10 :: r) 10 = s.length
  | [], r, _ => by simp [Lib.indexByte]
  | c :: s, r, h => by
    have ih := index_yes s r fun d hd => h d (List.mem_cons_of_mem _ hd)
    have hc : (c == 10) = false := by simpa using h c List.mem_cons_self
    show Lib.indexByte (c :: (s ++ 10 :: r)) 10 = _
    rw [Lib.indexByte, hc, ih]
    have : ((s.length : Int) == -1) = false := by simp
    simp [this]

theorem lIndex (s : List UInt8) (w : World) :
    Calls Tryd.prog 35 #[bs s, .int .u8 10] w fun e w' => e = .returned (.int .i64 (Lib.indexByte s 10)) ∧ w = w' :=
  (Any.strings_IndexByte Tryd.lays137 ⟨s.toArray⟩ 10 w).mono fun _ _ ⟨he, hw⟩ => ⟨he, hw.symm⟩

theorem run_lo (s r : List UInt8) (w : World) : (Instr.slice 9 (.string ⟨(s ++ 10 :: r).toArray⟩) none (some (.int .i64 ((s.length : Int) + 1))) none).run Tryd.prog w = .ok (.string ⟨(s ++ [10]).toArray⟩) w := by
  have hu := Tryd.underlying9
  go_simp
  rw [if_pos ⟨by omega, by omega⟩]
  refine congrArg (fun x => Result.ok (Value.string x) w) (ByteArray.ext ?_)
  rw [ByteArray.data_extract]
  apply Array.ext'
  simp
  rw [show s ++ 10 :: r = (s ++ [10]) ++ r by simp, show s.length + 1 = (s ++ [10]).length by simp, List.take_left]
theorem run_hi (s r : List UInt8) (w : World) : (Instr.slice 9 (.string ⟨(s ++ 10 :: r).toArray⟩) (some (.int .i64 ((s.length : Int) + 1))) none none).run Tryd.prog w = .ok (.string ⟨r.toArray⟩) w := by
  have hu := Tryd.underlying9
  go_simp
  rw [if_pos ⟨by omega, by omega⟩]
  refine congrArg (fun x => Result.ok (Value.string x) w) (ByteArray.ext ?_)
  rw [ByteArray.data_extract]
  apply Array.ext'
  simp
  exact List.take_of_length_le (by omega)
/-- How long the string in a box is. -/
def boxLen (w : World) (b : Nat) : Nat := match w.cell? ⟨b, 0, none⟩ with
  | some (.string s) => s.size
  | _ => 0
theorem boxLen_of {w : World} {b : Nat} {t : TypeId} {s : List UInt8} (h : Bk w b t #[bs s]) : boxLen w b = s.length := by
  unfold boxLen
  rw [h.cell 0]
  show s.toArray.size = _
  simp

set_option maxHeartbeats 1000000 in
theorem it_lines (text : List UInt8) (b l : Nat) (W1 : World) (hb : Bk W1 b 9 #[bs text]) (hlen : text.length < 1000000000) :
    Iter Tryd.prog 34 #[.pointer (some ⟨b, 0, none⟩)] (fun k => #[bs (lineAt text k)]) (linesL text).length l W1 (fun x => x = b) := by
  intro J Jx hJ hJx hY h0
  refine callsIn_of_wp Tryd.func34 rfl trivial ?_ rfl
  simp only [Tryd.ntmps34, List.size_toArray, List.length_cons, List.length_nil, Nat.reduceAdd, Nat.reduceSub, Array.replicate_succ, Array.replicate_zero, List.push_toArray, List.append_toArray, List.nil_append, List.cons_append]
  gi_wp2
  gi_loopw [3] (fun p wr => ∃ (k : Nat) (t : List UInt8), k ≤ (linesL text).length ∧ (linesL text).drop k = linesL t ∧ t.length ≤ text.length ∧ Bk wr b 9 #[bs t] ∧ J k wr) (fun p wr => boxLen wr b)
  case atStart => exact ⟨0, text, Nat.zero_le _, rfl, Nat.le_refl _, hb, h0⟩
  case round =>
    obtain ⟨k, t, hkl, hdr, hle, hbk, hj⟩ := hrel
    have hbl := boxLen_of hbk
    have hc0 : wr.cell? ⟨b, 0, none⟩ = some (.string ⟨t.toArray⟩) := hbk.cell 0
    have hfr := hbk.free 0
    by_cases ht : t = []
    · subst ht
      have hk : k = (linesL text).length := by
        have := congrArg List.length hdr
        simp [linesL] at this
        omega
      subst hk
      gi_wp2
      go_end0
      exact ⟨⟨_, rfl⟩, .inl hj⟩
    · have hpos : (0 : Int) < t.length := by
        have := List.length_pos_iff.2 ht
        omega
      have HI := Lib.hid (fun W => callsIn_wide (n := 0) |>.2 (lIndex t W))
      rcases first_nl t with hn | ⟨s, r, hn, rfl⟩
      · have hk1 : k < (linesL text).length := by
          have := congrArg List.length hdr
          rw [lines_last t hn ht] at this
          simp at this
          omega
        have hk2 : (linesL text).length = k + 1 := by
          have := congrArg List.length hdr
          rw [lines_last t hn ht] at this
          simp at this
          omega
        have hline : lineAt text k = t := by
          unfold lineAt
          have := congrArg List.head? hdr
          rw [lines_last t hn ht] at this
          simp [List.head?_drop] at this
          simp [List.getD_eq_getElem?_getD, this]
        have hi := index_no t hn
        have w1 : Within wr (wr.setCell ⟨b, 0, none⟩ (.string ⟨#[]⟩)) (fun x => x = b) := (Within.refl _ _).put b 0 _ (.inl rfl)
        have b1 : Bk (wr.setCell ⟨b, 0, none⟩ (.string ⟨#[]⟩)) b 9 #[bs []] := hbk.put 0 _
        have hj1 := hJ k _ _ hj w1
        obtain ⟨fn, tmps, assign, body, hy, hR⟩ := hY k _ hk1 hj1 (by rintro x rfl; exact b1.lt)
        rw [hline] at hy
        unfold bs at hy
        gi_wp2
        refine ⟨trivial, rfl, ?_⟩
        refine (HI.out _).mono ?_
        rintro e w' ⟨rfl, rfl⟩
        rw [hi]
        gi_wp2
        refine ⟨rfl, hR.mono ?_⟩
        rintro e W3 ⟨hh, (⟨rfl, hJ3⟩ | ⟨rfl, hJx3⟩)⟩
        · gi_wp2
          have b3 : Bk W3 b 9 #[bs []] := (hh.2 b rfl).trans b1
          go_roundw
          case rel => exact ⟨k + 1, [], by omega, by rw [List.drop_of_length_le (by omega)]; rfl, by simp, b3, hJ3⟩
          case measure => rw [boxLen_of b3, hbl]; simp; omega
        · gi_wp2
          refine bodyPost_ret (results_none rfl _ _ _) rfl ?_
          exact ⟨⟨_, rfl⟩, .inr hJx3⟩
      · have hk1 : k < (linesL text).length := by
          have := congrArg List.length hdr
          rw [lines_more s r hn] at this
          simp at this
          omega
        have hdr2 : (linesL text).drop (k + 1) = linesL r := by
          have := congrArg List.tail hdr
          rw [lines_more s r hn] at this
          simpa [List.tail_drop] using this
        have hline : lineAt text k = s ++ [10] := by
          unfold lineAt
          have := congrArg List.head? hdr
          rw [lines_more s r hn] at this
          simp [List.head?_drop] at this
          simp [List.getD_eq_getElem?_getD, this]
        have hi := index_yes s r hn
        have hi0 : (0 : Int) ≤ s.length := by omega
        have hwr : wrap64 ((s.length : Int) + 1) = (s.length : Int) + 1 := by
          simp at hle
          unfold wrap64
          omega
        have hcut1 : ∀ w, (Instr.slice 9 (.string ⟨(s ++ 10 :: r).toArray⟩) none (some (.int .i64 ((s.length : Int) + 1))) none).run Tryd.prog w = .ok (.string ⟨(s ++ [10]).toArray⟩) w := fun w => run_lo s r w
        have hcut2 : ∀ w, (Instr.slice 9 (.string ⟨(s ++ 10 :: r).toArray⟩) (some (.int .i64 ((s.length : Int) + 1))) none none).run Tryd.prog w = .ok (.string ⟨r.toArray⟩) w := fun w => run_hi s r w
        gi_wp2
        refine ⟨trivial, rfl, ?_⟩
        refine (HI.out _).mono ?_
        rintro e w' ⟨rfl, rfl⟩
        rw [hi]
        gi_wp2
        gi_region
        have w0 : Within wr (wr.setCell ⟨b, 0, none⟩ (.string ⟨r.toArray⟩)) (fun x => x = b) := (Within.refl _ _).put b 0 _ (.inl rfl)
        have w1 : Within wr (wr.setCell ⟨b, 0, none⟩ (.string ⟨r.toArray⟩)).drew (fun x => x = b) := ⟨w0.os, w0.tape, w0.output, w0.size, w0.block⟩
        clear w0
        have b1 : Bk (wr.setCell ⟨b, 0, none⟩ (.string ⟨r.toArray⟩)).drew b 9 #[bs r] := hbk.put 0 (.string ⟨r.toArray⟩)
        generalize (wr.setCell ⟨b, 0, none⟩ (.string ⟨r.toArray⟩)).drew = W2 at *
        have hj1 := hJ k _ _ hj w1
        obtain ⟨fn, tmps, assign, body, hy, hR⟩ := hY k _ hk1 hj1 (by rintro x rfl; exact b1.lt)
        rw [hline] at hy
        unfold bs at hy
        gi_wp2
        refine ⟨rfl, hR.mono ?_⟩
        rintro e W3 ⟨hh, (⟨rfl, hJ3⟩ | ⟨rfl, hJx3⟩)⟩
        · gi_wp2
          have b3 : Bk W3 b 9 #[bs r] := (hh.2 b rfl).trans b1
          go_roundw
          case rel => exact ⟨k + 1, r, by omega, hdr2, by simp at hle; omega, b3, hJ3⟩
          case measure => rw [boxLen_of b3, hbl]; simp; omega
        · gi_wp2
          refine bodyPost_ret (results_none rfl _ _ _) rfl ?_
          exact ⟨⟨_, rfl⟩, .inr hJx3⟩

/-- A box for the string, and the closure. -/
theorem lLines (s : List UInt8) (w : World) :
    Calls Tryd.prog 27 #[bs s] w fun e w' => e = .returned (.func (.func 34) #[] #[.pointer (some ⟨w.heap.size, 0, none⟩)]) ∧ w' = w.alloc (.cells #[bs s] 9) := by
  unfold bs
  go_enter Tryd.func27, Tryd.ntmps27
  go_wp2
  go_ret
  exact ⟨rfl, rfl⟩
theorem lCut (s p : List UInt8) (hl : s.length < 1000000) (w : World) :
    Calls Tryd.prog 28 #[bs s, bs p] w fun e w' => e = .returned (.tuple #[bs (Lib.trimSuffix s p), .bool (Lib.hasSuffix s p)]) ∧ w = w' :=
  (Any.strings_CutSuffix Tryd.lays104 ⟨s.toArray⟩ ⟨p.toArray⟩ w (by show s.toArray.size ≤ _; simp; omega)).mono fun _ _ ⟨he, hw⟩ => ⟨he, hw.symm⟩
theorem suf_yes (s : List UInt8) (c : UInt8) : Lib.hasSuffix (s ++ [c]) [c] = true ∧ Lib.trimSuffix (s ++ [c]) [c] = s := by
  have h : Lib.hasSuffix (s ++ [c]) [c] = true := by
    unfold Lib.hasSuffix
    rw [List.isSuffixOf_iff_suffix]
    exact ⟨s, rfl⟩
  refine ⟨h, ?_⟩
  unfold Lib.trimSuffix
  rw [if_pos h]
  simp
theorem suf_no {s : List UInt8} {c : UInt8} (h : ∀ t, s ≠ t ++ [c]) : Lib.hasSuffix s [c] = false ∧ Lib.trimSuffix s [c] = s := by
  have h : Lib.hasSuffix s [c] = false := by
    rw [Bool.eq_false_iff]
    intro e
    unfold Lib.hasSuffix at e
    rw [List.isSuffixOf_iff_suffix] at e
    obtain ⟨t, ht⟩ := e
    exact h t ht.symm
  refine ⟨h, ?_⟩
  unfold Lib.trimSuffix
  rw [if_neg (by rw [h]; simp)]
theorem suf_or (s : List UInt8) (c : UInt8) : (∃ t, s = t ++ [c]) ∨ ∀ t, s ≠ t ++ [c] := by
  by_cases h : ∃ t, s = t ++ [c]
  · exact .inl h
  · exact .inr fun t e => h ⟨t, e⟩
end Go.Proofs.YtjhdpolaapbihaaDoor
