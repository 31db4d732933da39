/- The lines of a text, each with its end, and strings.Lines. -/
import Derived.Test.YteohnkilchkhkaaGreatDoorRow
import Derived.Test.YteohnkilchkhkaaGreatDoorInstL
import Derived.Test.YteohnkilchkhkaaGreatDoorInstY
import Derived.Test.YteohnkilchkhkaaGreatDoorAsmM
import Derived.BigRegionIn
namespace Go.Proofs.YteohnkilchkhkaaGreatDoor
open Go.ChangeShapes Go.WideShapes Go.ChangeAt Go.RowKit Go.Shelf
attribute [local go_sem] Oper.semAt_some
set_option linter.unusedVariables false

/-- A sign ahead of the first line. -/
def onto (c : UInt8) : List (List UInt8) → List (List UInt8)
  | [] => [[c]]
  | x :: xs => (c :: x) :: xs
/-- The lines of a text, each with its end, if it has one. -/
def linesL : List UInt8 → List (List UInt8)
  | [] => []
  | c :: r => if c = 10 then [10] :: linesL r else onto c (linesL r)
/-- Line k. A plain definition, so that a walk leaves it alone. -/
def lineAt (text : List UInt8) (k : Nat) : List UInt8 := (linesL text).getD k []
theorem lines_more : ∀ (s r : List UInt8), Nl s → linesL (s ++ 10 :: r) = (s ++ [10]) :: linesL r
  | [], r, _ => by simp [linesL]
  | c :: s, r, h => by
    have ih := lines_more s r fun d hd => h d (List.mem_cons_of_mem _ hd)
    show linesL (c :: (s ++ 10 :: r)) = _
    rw [linesL, if_neg (h c List.mem_cons_self), ih]
    rfl
theorem lines_last : ∀ s : List UInt8, Nl s → s ≠ [] → linesL s = [s]
  | [], _, h => absurd rfl h
  | [c], h, _ => by simp [linesL, h c List.mem_cons_self, onto]
  | c :: d :: s, h, _ => by
    have ih := lines_last (d :: s) (fun x hx => h x (List.mem_cons_of_mem _ hx)) (by simp)
    rw [linesL, if_neg (h c List.mem_cons_self), ih]
    rfl
theorem lines_len : ∀ t : List UInt8, (linesL t).length ≤ t.length
  | [] => Nat.le_refl _
  | c :: t => by
    have ih := lines_len t
    rw [linesL]
    split
    · simp; omega
    · cases h : linesL t with
      | nil => simp [onto]
      | cons x y => rw [h] at ih; simp [onto] at ih ⊢; omega
theorem first_nl : ∀ t : List UInt8, Nl t ∨ ∃ s r, Nl s ∧ t = s ++ 10 :: r
  | [] => .inl (by unfold Nl; simp)
  | c :: t => by
    by_cases hc : c = 10
    · exact .inr ⟨[], t, by unfold Nl; simp, by rw [hc]; rfl⟩
    rcases first_nl t with h | ⟨s, r, hs, rfl⟩
    · exact .inl fun d hd => by
        rcases List.mem_cons.1 hd with rfl | hd
        · exact hc
        · exact h d hd
    · exact .inr ⟨c :: s, r, fun d hd => by
        rcases List.mem_cons.1 hd with rfl | hd
        · exact hc
        · exact hs d hd, rfl⟩
theorem index_no : ∀ t : List UInt8, Nl t → Lib.indexByte t 10 = -1
  | [], _ => rfl
  | c :: t, h => by
    have ih := index_no t fun d hd => h d (List.mem_cons_of_mem _ hd)
    have hc : (c == 10) = false := by simpa using h c List.mem_cons_self
    rw [Lib.indexByte, hc, ih]
    simp
theorem index_yes : ∀ s r : List UInt8, Nl s → Lib.indexByte (s ++ 10 :: r) 10 = s.length
  | [], r, _ => by simp [Lib.indexByte]
  | c :: s, r, h => by
    have ih := index_yes s r fun d hd => h d (List.mem_cons_of_mem _ hd)
    have hc : (c == 10) = false := by simpa using h c List.mem_cons_self
    show Lib.indexByte (c :: (s ++ 10 :: r)) 10 = _
    rw [Lib.indexByte, hc, ih]
    have : ((s.length : Int) == -1) = false := by simp
    simp [this]

theorem lIndex (s : List UInt8) (w : World) :
    Calls Tryz.prog 59 #[bs s, .int .u8 10] w fun e w' => e = .returned (.int .i64 (Lib.indexByte s 10)) ∧ w = w' :=
  (Any.strings_IndexByte Tryz.lays137 ⟨s.toArray⟩ 10 w).mono fun _ _ ⟨he, hw⟩ => ⟨he, hw.symm⟩

theorem run_lo (s r : List UInt8) (w : World) : (Instr.slice 9 (.string ⟨(s ++ 10 :: r).toArray⟩) none (some (.int .i64 ((s.length : Int) + 1))) none).run Tryz.prog w = .ok (.string ⟨(s ++ [10]).toArray⟩) w := by
  have hu := Tryz.underlying9
  go_simp
  rw [if_pos ⟨by omega, by omega⟩]
  refine congrArg (fun x => Result.ok (Value.string x) w) (ByteArray.ext ?_)
  rw [ByteArray.data_extract]
  apply Array.ext'
  simp
  rw [show s ++ 10 :: r = (s ++ [10]) ++ r by simp, show s.length + 1 = (s ++ [10]).length by simp, List.take_left]
theorem run_hi (s r : List UInt8) (w : World) : (Instr.slice 9 (.string ⟨(s ++ 10 :: r).toArray⟩) (some (.int .i64 ((s.length : Int) + 1))) none none).run Tryz.prog w = .ok (.string ⟨r.toArray⟩) w := by
  have hu := Tryz.underlying9
  go_simp
  rw [if_pos ⟨by omega, by omega⟩]
  refine congrArg (fun x => Result.ok (Value.string x) w) (ByteArray.ext ?_)
  rw [ByteArray.data_extract]
  apply Array.ext'
  simp
  exact List.take_of_length_le (by omega)
/-- How long the string in a box is. -/
def boxLen (w : World) (b : Nat) : Nat := match w.cell? ⟨b, 0, none⟩ with
  | some (.string s) => s.size
  | _ => 0
theorem boxLen_of {w : World} {b : Nat} {t : TypeId} {s : List UInt8} (h : Bk w b t #[bs s]) : boxLen w b = s.length := by
  unfold boxLen
  rw [h.cell 0]
  show s.toArray.size = _
  simp

set_option maxHeartbeats 1000000 in
theorem it_lines (text : List UInt8) (b l : Nat) (W1 : World) (hb : Bk W1 b 9 #[bs text]) (hlen : text.length < 1000000000) :
    Iter Tryz.prog 58 #[.pointer (some ⟨b, 0, none⟩)] (fun k => #[bs (lineAt text k)]) (linesL text).length l W1 (fun x => x = b) := by
  intro J Jx hJ hJx hY h0
  refine callsIn_of_wp Tryz.func58 rfl trivial ?_ rfl
  simp only [Tryz.ntmps58, List.size_toArray, List.length_cons, List.length_nil, Nat.reduceAdd, Nat.reduceSub, Array.replicate_succ, Array.replicate_zero, List.push_toArray, List.append_toArray, List.nil_append, List.cons_append]
  gi_wp2
  gi_loopw [3] (fun p wr => ∃ (k : Nat) (t : List UInt8), k ≤ (linesL text).length ∧ (linesL text).drop k = linesL t ∧ t.length ≤ text.length ∧ Bk wr b 9 #[bs t] ∧ J k wr) (fun p wr => boxLen wr b)
  case atStart => exact ⟨0, text, Nat.zero_le _, rfl, Nat.le_refl _, hb, h0⟩
  case round =>
    obtain ⟨k, t, hkl, hdr, hle, hbk, hj⟩ := hrel
    have hbl := boxLen_of hbk
    have hc0 : wr.cell? ⟨b, 0, none⟩ = some (.string ⟨t.toArray⟩) := hbk.cell 0
    have hfr := hbk.free 0
    by_cases ht : t = []
    · subst ht
      have hk : k = (linesL text).length := by
        have := congrArg List.length hdr
        simp [linesL] at this
        omega
      subst hk
      gi_wp2
      go_end0
      exact ⟨⟨_, rfl⟩, .inl hj⟩
    · have hpos : (0 : Int) < t.length := by
        have := List.length_pos_iff.2 ht
        omega
      have HI := Lib.hid (fun W => callsIn_wide (n := 0) |>.2 (lIndex t W))
      rcases first_nl t with hn | ⟨s, r, hn, rfl⟩
      · have hk1 : k < (linesL text).length := by
          have := congrArg List.length hdr
          rw [lines_last t hn ht] at this
          simp at this
          omega
        have hk2 : (linesL text).length = k + 1 := by
          have := congrArg List.length hdr
          rw [lines_last t hn ht] at this
          simp at this
          omega
        have hline : lineAt text k = t := by
          unfold lineAt
          have := congrArg List.head? hdr
          rw [lines_last t hn ht] at this
          simp [List.head?_drop] at this
          simp [List.getD_eq_getElem?_getD, this]
        have hi := index_no t hn
        have w1 : Within wr (wr.setCell ⟨b, 0, none⟩ (.string ⟨#[]⟩)) (fun x => x = b) := (Within.refl _ _).put b 0 _ (.inl rfl)
        have b1 : Bk (wr.setCell ⟨b, 0, none⟩ (.string ⟨#[]⟩)) b 9 #[bs []] := hbk.put 0 _
        have hj1 := hJ k _ _ hj w1
        obtain ⟨fn, tmps, assign, body, hy, hR⟩ := hY k _ hk1 hj1 (by rintro x rfl; exact b1.lt)
        rw [hline] at hy
        unfold bs at hy
        gi_wp2
        refine ⟨trivial, rfl, ?_⟩
        refine (HI.out _).mono ?_
        rintro e w' ⟨rfl, rfl⟩
        rw [hi]
        gi_wp2
        refine ⟨rfl, hR.mono ?_⟩
        rintro e W3 ⟨hh, (⟨rfl, hJ3⟩ | ⟨rfl, hJx3⟩)⟩
        · gi_wp2
          have b3 : Bk W3 b 9 #[bs []] := (hh.2 b rfl).trans b1
          go_roundw
          case rel => exact ⟨k + 1, [], by omega, by rw [List.drop_of_length_le (by omega)]; rfl, by simp, b3, hJ3⟩
          case measure => rw [boxLen_of b3, hbl]; simp; omega
        · gi_wp2
          refine bodyPost_ret (results_none rfl _ _ _) rfl ?_
          exact ⟨⟨_, rfl⟩, .inr hJx3⟩
      · have hk1 : k < (linesL text).length := by
          have := congrArg List.length hdr
          rw [lines_more s r hn] at this
          simp at this
          omega
        have hdr2 : (linesL text).drop (k + 1) = linesL r := by
          have := congrArg List.tail hdr
          rw [lines_more s r hn] at this
          simpa [List.tail_drop] using this
        have hline : lineAt text k = s ++ [10] := by
          unfold lineAt
          have := congrArg List.head? hdr
          rw [lines_more s r hn] at this
          simp [List.head?_drop] at this
          simp [List.getD_eq_getElem?_getD, this]
        have hi := index_yes s r hn
        have hi0 : (0 : Int) ≤ s.length := by omega
        have hwr : wrap64 ((s.length : Int) + 1) = (s.length : Int) + 1 := by
          simp at hle
          unfold wrap64
          omega
        have hcut1 : ∀ w, (Instr.slice 9 (.string ⟨(s ++ 10 :: r).toArray⟩) none (some (.int .i64 ((s.length : Int) + 1))) none).run Tryz.prog w = .ok (.string ⟨(s ++ [10]).toArray⟩) w := fun w => run_lo s r w
        have hcut2 : ∀ w, (Instr.slice 9 (.string ⟨(s ++ 10 :: r).toArray⟩) (some (.int .i64 ((s.length : Int) + 1))) none none).run Tryz.prog w = .ok (.string ⟨r.toArray⟩) w := fun w => run_hi s r w
        gi_wp2
        refine ⟨trivial, rfl, ?_⟩
        refine (HI.out _).mono ?_
        rintro e w' ⟨rfl, rfl⟩
        rw [hi]
        gi_wp2
        gi_region
        have w0 : Within wr (wr.setCell ⟨b, 0, none⟩ (.string ⟨r.toArray⟩)) (fun x => x = b) := (Within.refl _ _).put b 0 _ (.inl rfl)
        have w1 : Within wr (wr.setCell ⟨b, 0, none⟩ (.string ⟨r.toArray⟩)).drew (fun x => x = b) := ⟨w0.os, w0.tape, w0.output, w0.size, w0.block⟩
        clear w0
        have b1 : Bk (wr.setCell ⟨b, 0, none⟩ (.string ⟨r.toArray⟩)).drew b 9 #[bs r] := hbk.put 0 (.string ⟨r.toArray⟩)
        generalize (wr.setCell ⟨b, 0, none⟩ (.string ⟨r.toArray⟩)).drew = W2 at *
        have hj1 := hJ k _ _ hj w1
        obtain ⟨fn, tmps, assign, body, hy, hR⟩ := hY k _ hk1 hj1 (by rintro x rfl; exact b1.lt)
        rw [hline] at hy
        unfold bs at hy
        gi_wp2
        refine ⟨rfl, hR.mono ?_⟩
        rintro e W3 ⟨hh, (⟨rfl, hJ3⟩ | ⟨rfl, hJx3⟩)⟩
        · gi_wp2
          have b3 : Bk W3 b 9 #[bs r] := (hh.2 b rfl).trans b1
          go_roundw
          case rel => exact ⟨k + 1, r, by omega, hdr2, by simp at hle; omega, b3, hJ3⟩
          case measure => rw [boxLen_of b3, hbl]; simp; omega
        · gi_wp2
          refine bodyPost_ret (results_none rfl _ _ _) rfl ?_
          exact ⟨⟨_, rfl⟩, .inr hJx3⟩

/-- A box for the string, and the closure. -/
theorem lLines (s : List UInt8) (w : World) :
    Calls Tryz.prog 36 #[bs s] w fun e w' => e = .returned (.func (.func 58) #[] #[.pointer (some ⟨w.heap.size, 0, none⟩)]) ∧ w' = w.alloc (.cells #[bs s] 9) := by
  unfold bs
  go_enter Tryz.func36, Tryz.ntmps36
  go_wp2
  go_ret
  exact ⟨rfl, rfl⟩
theorem cNumbered (s : List UInt8) (w : World) :
    Calls Tryz.prog 16 #[bs s] w fun e w' => e = .returned (.func (.func 35) #[] #[.pointer (some ⟨w.heap.size, 0, none⟩)]) ∧ w' = w.alloc (.cells #[bs s] 9) := by
  unfold bs
  go_enter Tryz.func16, Tryz.ntmps16
  go_wp2
  go_ret
  exact ⟨rfl, rfl⟩

set_option maxHeartbeats 1000000 in
/-- The lines with their numbers, from 1 on. -/
theorem it_numbered (text : List UInt8) (b l : Nat) (W1 : World) (hb : Bk W1 b 9 #[bs text]) (hlen : text.length < 1000000000) :
    Iter Tryz.prog 35 #[.pointer (some ⟨b, 0, none⟩)] (fun k => #[.int .i64 ((k : Int) + 1), bs (lineAt text k)]) (linesL text).length l W1 (fun x => W1.heap.size ≤ x ∧ x < W1.heap.size + 5) := by
  intro J Jx hJ hJx hY h0
  have hc0 : W1.cell? ⟨b, 0, none⟩ = some (.string ⟨text.toArray⟩) := hb.cell 0
  have HL := Lib.hid (fun W => callsIn_wide (n := 0) |>.2 (lLines text W))
  refine callsIn_of_wp_marks Tryz.func35 rfl trivial ?_ rfl
  simp only [Tryz.ntmps35, List.size_toArray, List.length_cons, List.length_nil, Nat.reduceAdd, Nat.reduceSub, Array.replicate_succ, Array.replicate_zero, List.push_toArray, List.append_toArray, List.nil_append, List.cons_append]
  have y2 := Bk.alloc (Bk.made W1 85 #[.func (.yield l) #[] #[]]) (.cells #[.int .i64 0] 3)
  have n2 := Bk.made (W1.alloc (.cells #[.func (.yield l) #[] #[]] 85)) 3 #[.int .i64 0]
  have t2 := Bk.alloc (Bk.alloc hb (.cells #[.func (.yield l) #[] #[]] 85)) (.cells #[.int .i64 0] 3)
  have w2 : Within W1 ((W1.alloc (.cells #[.func (.yield l) #[] #[]] 85)).alloc (.cells #[.int .i64 0] 3)) (fun _ => False) := ((Within.refl _ _).alloc _).alloc _
  have s2 : ((W1.alloc (.cells #[.func (.yield l) #[] #[]] 85)).alloc (.cells #[.int .i64 0] 3)).heap.size = W1.heap.size + 2 := by simp
  rw [World.size_alloc] at n2
  have hc2 : ((W1.alloc (.cells #[.func (.yield l) #[] #[]] 85)).alloc (.cells #[.int .i64 0] 3)).cell? ⟨b, 0, none⟩ = some (.string ⟨text.toArray⟩) := t2.cell 0
  gi_wp2
  generalize (W1.alloc (.cells #[.func (.yield l) #[] #[]] 85)).alloc (.cells #[.int .i64 0] 3) = W2 at *
  refine ⟨trivial, rfl, ?_⟩
  refine (HL.out _).mono ?_
  rintro e W3 ⟨rfl, rfl⟩
  have y3 := y2.alloc (.cells #[bs text] 9)
  have n3 := n2.alloc (.cells #[bs text] 9)
  have t3 := Bk.made W2 9 #[bs text]
  have s3 : (W2.alloc (.cells #[bs text] 9)).heap.size = W1.heap.size + 3 := by simp [s2]
  have w3 : Within W1 (W2.alloc (.cells #[bs text] 9)) (fun _ => False) := w2.alloc _
  rw [s2] at t3 ⊢
  generalize W2.alloc (.cells #[bs text] 9) = W3 at *
  clear hc2 t2 n2 y2 w2 s2 W2 HL hc0
  gi_wp2
  have e0 : W3.heap.size = W1.heap.size + 3 := s3
  refine wpIn_range (gf := 58) (lb := #[.pointer (some ⟨W1.heap.size + 2, 0, none⟩)]) rfl (enters_of Tryz.func58 (by kernel_rfl) rfl)
    (encs := fun k => #[bs (lineAt text k)]) (N := (linesL text).length) (T := fun x => x = W1.heap.size + 2) (fun _ => rfl) (by omega) (by omega)
    (fun W4 hb4 hz4 => it_lines text _ _ W4 ((hb4.block _ (by omega)).trans t3) hlen)
    (fun k W => J k W ∧ Bk W W1.heap.size 85 #[.func (.yield l) #[] #[]] ∧ Bk W (W1.heap.size + 1) 3 #[.int .i64 k])
    (fun c W => c = .ret ∧ Jx W) ?calm ?calmx ⟨hJ 0 _ _ h0 (w3.wide (by simp)), y3, n3⟩
    (fun k => { tmps := #[.func (.yield l) #[] #[], .pointer (some ⟨b, 0, none⟩), .pointer (some ⟨W1.heap.size, 0, none⟩), .pointer (some ⟨W1.heap.size + 1, 0, none⟩), .string ⟨(lineAt text k).toArray⟩, .string ⟨text.toArray⟩,
      .func (.func 58) #[] #[.pointer (some ⟨W1.heap.size + 2, 0, none⟩)], .string ⟨(lineAt text k).toArray⟩, undef, undef, undef, undef, undef, undef, undef], defers := [] }) ?assign ?body ?done ?stop
  case calm =>
    rintro k A B ⟨j, y, n⟩ hw
    exact ⟨hJ k A B j (hw.wide (by rintro i (rfl | rfl | rfl) _ <;> omega)), y.within hw (by omega), n.within hw (by omega)⟩
  case calmx =>
    rintro c A B ⟨rfl, j⟩ hw
    exact ⟨rfl, hJx A B j (hw.wide (by rintro i (rfl | rfl | rfl) _ <;> omega))⟩
  case assign =>
    intro l2 k W K hK
    unfold bs
    gi_wp2
    exact hK
  case body =>
    rintro l2 k W hk ⟨hj, hy, hn⟩ hT
    have hkl : k < 1000000000 := Nat.lt_of_lt_of_le hk (Nat.le_trans (lines_len text) (Nat.le_of_lt hlen))
    have hwr : wrap64 ((k : Int) + 1) = (k : Int) + 1 := by unfold wrap64; omega
    have cn : W.cell? ⟨W1.heap.size + 1, 0, none⟩ = some (.int .i64 k) := hn.cell 0
    have fn := hn.free 0
    have w1 : Within W (W.setCell ⟨W1.heap.size + 1, 0, none⟩ (.int .i64 ((k : Int) + 1))) (fun x => x = W1.heap.size + 1) := (Within.refl _ _).put _ 0 _ (.inl rfl)
    have n1 : Bk (W.setCell ⟨W1.heap.size + 1, 0, none⟩ (.int .i64 ((k : Int) + 1))) (W1.heap.size + 1) 3 #[.int .i64 ((k : Int) + 1)] := hn.put 0 _
    have y1 := hy.within w1 (by omega)
    have hj1 := hJ k _ _ hj (w1.wide (by rintro i rfl _; omega))
    obtain ⟨fn2, tmps, assign, body, hyy, hR⟩ := hY k _ hk hj1 (by intro x hx; have := w1.size; have := hT (W3.heap.size + 1) (.inr (.inl rfl)); omega)
    unfold bs at hyy
    have cy : (W.setCell ⟨W1.heap.size + 1, 0, none⟩ (.int .i64 ((k : Int) + 1))).cell? ⟨W1.heap.size, 0, none⟩ = some (.func (.yield l) #[] #[]) := y1.cell 0
    have cn1 : (W.setCell ⟨W1.heap.size + 1, 0, none⟩ (.int .i64 ((k : Int) + 1))).cell? ⟨W1.heap.size + 1, 0, none⟩ = some (.int .i64 ((k : Int) + 1)) := n1.cell 0
    gi_wp2
    refine ⟨rfl, RoundIn.mono (F := Fence.wide) hR ?_⟩
    rintro e W5 ⟨hh, hQ⟩
    have hT5 : Held (fun x => x = W3.heap.size ∨ x = W3.heap.size + 1 ∨ x = W1.heap.size + 2) W W5 := by
      refine ⟨Nat.le_trans w1.size hh.1, ?_⟩
      rintro x (rfl | rfl | rfl)
      · exact (hh.2 _ ⟨by omega, by omega⟩).trans (w1.block _ (hT _ (.inl rfl)) (by omega))
      · exact (hh.2 _ ⟨by omega, by omega⟩).trans (w1.block _ (hT _ (.inr (.inl rfl))) (by omega))
      · exact (hh.2 _ ⟨by omega, by omega⟩).trans (w1.block _ (hT _ (.inr (.inr rfl))) (by omega))
    rcases hQ with ⟨rfl, hJ5⟩ | ⟨rfl, hJx5⟩
    · gi_wp2
      exact ⟨hT5, hJ5, (hh.2 _ ⟨by omega, by omega⟩).trans y1, (hh.2 _ ⟨by omega, by omega⟩).trans n1⟩
    · gi_wp2
      exact ⟨hT5, rfl, hJx5⟩
  case done =>
    rintro W ⟨hj, _, _⟩ hd
    gi_wp2
    refine ⟨by simp, .inl ⟨_, _, rfl, run_takeDeferred hd, ?_⟩⟩
    exact ⟨_, results_none rfl _ _ _, ⟨_, rfl⟩, .inl (hJ _ _ _ hj (within_putObj _ _ _ _ ⟨by omega, by omega⟩))⟩
  case stop =>
    rintro c W ⟨rfl, hj⟩ hd
    gi_wp2
    refine ⟨by simp, .inl ⟨_, _, rfl, run_takeDeferred hd, ?_⟩⟩
    exact ⟨_, results_none rfl _ _ _, ⟨_, rfl⟩, .inr (hJx _ _ hj (within_putObj _ _ _ _ ⟨by omega, by omega⟩))⟩
end Go.Proofs.YteohnkilchkhkaaGreatDoor
