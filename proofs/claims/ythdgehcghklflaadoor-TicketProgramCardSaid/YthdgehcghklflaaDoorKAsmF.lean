/- AsmF, TkA, TkG, TkI. -/
import Derived.Test.YthdgehcghklflaaDoorKTkC
import Derived.Test.YthdgehcghklflaaDoorKAsmM
import Derived.Test.YthdgehcghklflaaDoorKMem
import Derived.Test.YthdgehcghklflaaDoorKPrgM
import Derived.Test.YthdgehcghklflaaDoorKInstP
import Derived.Deep.Onto
import Derived.BigRegion
import Derived.Deep.Cut
import Derived.Deep.RegionHeld3
import Derived.Deep.RegionLaw
import Derived.Laws.IdiomStrings
import Derived.Deep.CutRange
import Derived.Deep.CutBlock
import Derived.Deep.DeepCutAuto
import Derived.Deep.LoopGhost
/- AsmF, AsmG, one behind the other. -/
/- asm.Assemble. -/
namespace Go.Proofs.YthdgehcghklflaaDoor
open Go.ChangeShapes Go.WideShapes Go.ChangeAt Go.RowKit Go.Shelf
attribute [local go_sem] Oper.semAt_some
set_option linter.unusedVariables false

theorem go_add (s r : List UInt8) (h : Nl s) (n : Int) (ls : List (List UInt8 × Int)) (rs : List Rw) :
    asmGo (s ++ 10 :: r) n ls rs = if (addL s n ls rs).1 = 0 then asmGo r (n + 1) (addL s n ls rs).2.1 (addL s n ls rs).2.2 else (Prg.zero, n, (addL s n ls rs).1) := by
  rw [asmGo_line s r h]
  unfold addL labB
  by_cases h1 : lbB s = true
  · rw [if_pos h1, if_pos h1]
    by_cases h2 : (ls.any fun x => x.1 == s.dropLast) = true
    · rw [if_pos h2, if_pos h2]; simp
    · rw [if_neg h2, if_neg h2]; simp
  · rw [if_neg h1, if_neg h1]
    cases hl : lineL s with
    | none => simp
    | some q =>
      obtain ⟨i, nm⟩ := q
      simp only
      by_cases h3 : 64 ≤ rs.length
      · simp [h3]
      · simp [h3]

/-- What labels and rows are behind some lines. -/
structure LinesOk (ls : List (List UInt8 × Int)) (rs : List Rw) (k : Nat) : Prop where
  lab : LabOk ls rs.length
  few : rs.length ≤ 64
  names : ∀ r ∈ rs, r.2.1.length ≤ 16
  many : ls.length ≤ k
theorem name_len {s : List UInt8} (h : nameB s = true) : s.length ≤ 16 := by
  unfold nameB at h
  simp only [Bool.and_eq_true, decide_eq_true_eq] at h
  exact h.2.1
theorem line_name {s : List UInt8} {i : Ins} {nm : List UInt8} (h : lineL s = some (i, nm)) : nm.length ≤ 16 := by
  unfold lineL at h
  repeat' split at h
  all_goals first
    | (cases h; done)
    | (cases h; simp; done)
    | (cases h; exact name_len (by rename_i hh; exact hh.2))
theorem LinesOk.add {ls : List (List UInt8 × Int)} {rs : List Rw} {k : Nat} (h : LinesOk ls rs k) (s : List UInt8) (n : Int) (h0 : (addL s n ls rs).1 = 0) : LinesOk (addL s n ls rs).2.1 (addL s n ls rs).2.2 (k + 1) := by
  unfold addL at *
  split at h0
  · rename_i h1
    rw [if_pos h1]
    split at h0
    · cases h0
    · rename_i h2
      rw [if_neg h2]
      refine ⟨⟨?_, ?_⟩, h.few, h.names, by have := h.many; simp; omega⟩
      · rw [List.map_append, List.nodup_append]
        refine ⟨h.lab.1, by simp, ?_⟩
        intro a ha b hb e
        simp at hb
        subst hb
        subst e
        refine h2 ?_
        unfold labB
        rw [List.any_eq_true]
        obtain ⟨x, hx, e⟩ := List.mem_map.1 ha
        exact ⟨x, hx, by simpa using e⟩
      · intro x hx
        rcases List.mem_append.1 hx with hx | hx
        · exact h.lab.2 x hx
        · simp at hx
          subst hx
          simp
  · rename_i h1
    rw [if_neg h1]
    cases hl : lineL s with
    | none => rw [hl] at h0; cases h0
    | some q =>
      obtain ⟨i, nm⟩ := q
      rw [hl] at h0
      simp only at h0 ⊢
      split at h0
      · cases h0
      · rename_i h3
        rw [if_neg h3]
        refine ⟨⟨h.lab.1, fun x hx => ?_⟩, by simp; omega, fun r hr => ?_, by have := h.many; simp; omega⟩
        · have := h.lab.2 x hx
          simp
          omega
        · rcases List.mem_append.1 hr with hr | hr
          · exact h.names r hr
          · simp at hr
            subst hr
            exact line_name hl

/-- What Assemble leaves. -/
def Asmd (w : World) (text : List UInt8) (e : Ending) (w' : World) : Prop :=
  ∃ v, e = .returned (.tuple #[v, .int .i64 (asmL text).2.1, .int .i64 (asmL text).2.2]) ∧ Pg w' w.heap.size v (asmL text).1 ∧ Below w.heap.size w w'

theorem below_of_within {B : Nat} {A W : World} {S : Nat → Prop} (h : Within A W S) (hs : ∀ b, S b → B ≤ b) (hB : B ≤ A.heap.size := by omega) : Below B A W := ⟨h.os, h.tape, h.output, h.size, fun i hi => h.block i (by omega) (fun e => by have := hs i e; omega)⟩
theorem asm_start (w W : World) (hW : W = (((((w.alloc (.cells #[.slice none 0 0, .int .i64 0, .int .i64 0] 27)).alloc (.cells #[.int .i64 0] 3)).alloc (.cells #[.int .i64 0] 32)).alloc (.map #[] 0)).alloc (.cells #[.slice none 0 0, .map (some (w.heap.size + 1 + 1 + 1))] 52))) :
    Below w.heap.size w W ∧ W.heap.size = w.heap.size + 5 ∧ Bk W w.heap.size 27 #[.slice none 0 0, .int .i64 0, .int .i64 0] ∧ Bk W (w.heap.size + 1) 3 #[.int .i64 0] ∧ Bk W (w.heap.size + 2) 32 #[.int .i64 0] ∧ ∀ lo, Dr W (w.heap.size + 4) (w.heap.size + 3) lo [] [] := by
  have h1 := Bk.made w 27 #[.slice none 0 0, .int .i64 0, .int .i64 0]
  generalize e1 : w.alloc (.cells #[.slice none 0 0, .int .i64 0, .int .i64 0] 27) = w1 at *
  have z1 : w1.heap.size = w.heap.size + 1 := by rw [← e1]; simp
  have h2 := Bk.made w1 3 #[.int .i64 0]
  generalize e2 : w1.alloc (.cells #[.int .i64 0] 3) = w2 at *
  have z2 : w2.heap.size = w.heap.size + 2 := by rw [← e2]; simp [z1]
  have h3 := Bk.made w2 32 #[.int .i64 0]
  generalize e3 : w2.alloc (.cells #[.int .i64 0] 32) = w3 at *
  have z3 : w3.heap.size = w.heap.size + 3 := by rw [← e3]; simp [z2]
  have h4 := Labs.made w3
  generalize e4 : w3.alloc (.map #[] 0) = w4 at *
  have z4 : w4.heap.size = w.heap.size + 4 := by rw [← e4]; simp [z3]
  have h5 := Bk.made w4 52 #[.slice none 0 0, .map (some (w.heap.size + 1 + 1 + 1))]
  rw [← hW] at h5
  have k1 : Within w1 w2 (fun _ => False) := by rw [← e2]; exact (Within.refl _ _).alloc _
  have k2 : Within w2 w3 (fun _ => False) := by rw [← e3]; exact (Within.refl _ _).alloc _
  have k3 : Within w3 w4 (fun _ => False) := by rw [← e4]; exact (Within.refl _ _).alloc _
  have k4 : Within w4 W (fun _ => False) := by rw [hW]; exact (Within.refl _ _).alloc _
  have k0 : Within w w1 (fun _ => False) := by rw [← e1]; exact (Within.refl _ _).alloc _
  have k14 := ((k1.then_ k2 (by simp)).then_ k3 (by simp)).then_ k4 (by simp)
  have k24 := (k2.then_ k3 (by simp)).then_ k4 (by simp)
  have k34 := k3.then_ k4 (by simp)
  rw [z1] at h2
  rw [z2] at h3
  rw [z3] at h4
  rw [z4] at h5
  refine ⟨(k0.then_ k14 (by simp)).below (by simp), by rw [hW]; simp [z4], h1.within k14 (by simp), h2.within k24 (by simp), h3.within k34 (by simp), fun lo => ⟨.slice none 0 0, h5, h4.within k4 (by simp), World.ownsRow_nil _ _ _ _⟩⟩

/-- Between two lines: so many have come. -/
def asmI (w : World) (text : List UInt8) (k : Nat) (W : World) : Prop :=
  ∃ (ls : List (List UInt8 × Int)) (rs : List Rw) (t : List UInt8), Below w.heap.size w W ∧ Bk W w.heap.size 27 #[.slice none 0 0, .int .i64 0, .int .i64 0] ∧ Bk W (w.heap.size + 1) 3 #[.int .i64 0] ∧ Bk W (w.heap.size + 2) 32 #[.int .i64 0] ∧
    Dr W (w.heap.size + 4) (w.heap.size + 3) (w.heap.size + 13) ls rs ∧ LinesOk ls rs k ∧ (linesL text).drop k = linesL t ∧ t.length ≤ text.length ∧ asmL text = asmGo t ((k : Int) + 1) ls rs
/-- A line isn't right. -/
def asmX (w : World) (text : List UInt8) (c : Code) (W : World) : Prop :=
  c = .ret ∧ ∃ ln e : Int, Below w.heap.size w W ∧ Bk W w.heap.size 27 #[.slice none 0 0, .int .i64 0, .int .i64 0] ∧ Bk W (w.heap.size + 1) 3 #[.int .i64 ln] ∧ Bk W (w.heap.size + 2) 32 #[.int .i64 e] ∧ asmL text = (Prg.zero, ln, e)
theorem asm_calm {w : World} {text : List UInt8} : ∀ k, Calm (fun b => b = w.heap.size + 6 ∨ b = w.heap.size + 6 + 1 ∨ w.heap.size + 8 ≤ b ∧ b < w.heap.size + 13) (asmI w text k) := by
  rintro k A B ⟨ls, rs, t, b2, q0, q1, q2, hD, hO, hdr, htl, hgo⟩ hw
  have hA := b2.size
  exact ⟨ls, rs, t, b2.trans (below_of_within hw (by rintro b (rfl | rfl | h) <;> omega)), q0.within hw (by omega), q1.within hw (by omega), q2.within hw (by omega), hD.within hw (by omega) (by omega) (by rintro b (rfl | rfl | h) <;> omega), hO, hdr, htl, hgo⟩
theorem asm_calmx {w : World} {text : List UInt8} : ∀ c, Calm (fun b => b = w.heap.size + 6 ∨ b = w.heap.size + 6 + 1 ∨ w.heap.size + 8 ≤ b ∧ b < w.heap.size + 13) (asmX w text c) := by
  rintro c A B ⟨rfl, ln, e, b2, q0, q1, q2, hgo⟩ hw
  have hA := b2.size
  exact ⟨rfl, ln, e, b2.trans (below_of_within hw (by rintro b (rfl | rfl | h) <;> omega)), q0.within hw (by omega), q1.within hw (by omega), q2.within hw (by omega), hgo⟩

/-- The results are others. -/
def put5 (W : World) (g : Nat) (sl a b ln e : Value) : World := ((((W.setCell ⟨g, 0, none⟩ sl).setCell ⟨g, 1, none⟩ a).setCell ⟨g, 2, none⟩ b).setCell ⟨g + 1, 0, none⟩ ln).setCell ⟨g + 2, 0, none⟩ e
theorem put5_is {w W : World} {x0 x1 x2 y z : Value} (b2 : Below w.heap.size w W) (q0 : Bk W w.heap.size 27 #[x0, x1, x2]) (q1 : Bk W (w.heap.size + 1) 3 #[y]) (q2 : Bk W (w.heap.size + 2) 32 #[z]) (sl a b ln e : Value) :
    Below w.heap.size w (put5 W w.heap.size sl a b ln e) ∧ Bk (put5 W w.heap.size sl a b ln e) w.heap.size 27 #[sl, a, b] ∧ Bk (put5 W w.heap.size sl a b ln e) (w.heap.size + 1) 3 #[ln] ∧ Bk (put5 W w.heap.size sl a b ln e) (w.heap.size + 2) 32 #[e] ∧
      Within W (put5 W w.heap.size sl a b ln e) (fun b => b = w.heap.size ∨ b = w.heap.size + 1 ∨ b = w.heap.size + 2) := by
  have h0 := put3_bk q0 sl a b
  have k0 : Within W (put3 W w.heap.size sl a b) (fun b => b = w.heap.size) := (((Within.refl W (fun b => b = w.heap.size)).put w.heap.size 0 sl (.inl rfl)).put w.heap.size 1 a (.inl rfl)).put w.heap.size 2 b (.inl rfl)
  have h1 := q1.within k0 (by omega)
  have h2 := q2.within k0 (by omega)
  have b0 := put3_below b2 (Nat.le_refl _) sl a b
  have e9 : put5 W w.heap.size sl a b ln e = ((put3 W w.heap.size sl a b).setCell ⟨w.heap.size + 1, 0, none⟩ ln).setCell ⟨w.heap.size + 2, 0, none⟩ e := rfl
  rw [e9]
  generalize put3 W w.heap.size sl a b = V at *
  refine ⟨(b0.setCell (by show w.heap.size ≤ w.heap.size + 1; omega) _).setCell (by show w.heap.size ≤ w.heap.size + 2; omega) _, (h0.off (by show w.heap.size ≠ w.heap.size + 1; omega) _).off (by show w.heap.size ≠ w.heap.size + 2; omega) _,
    (h1.put 0 ln).off (by show w.heap.size + 1 ≠ w.heap.size + 2; omega) _, (h2.off (by show w.heap.size + 2 ≠ w.heap.size + 1; omega) _).put 0 e, ?_⟩
  exact ((k0.wide fun i hi _ => .inl hi).put (w.heap.size + 1) 0 ln (.inl (.inr (.inl rfl)))).put (w.heap.size + 2) 0 e (.inl (.inr (.inr rfl)))

set_option maxHeartbeats 1000000 in
theorem cAssemble (text : List UInt8) (hl : text.length < 80000) (w : World) (L : Lb w) : Calls Tryd.prog 8 #[bs text] w (Asmd w text) := by
  refine (callsIn_wide (n := 0)).1 ?_
  refine callsIn_of_wp_marks Tryd.func8 rfl trivial ?_ rfl
  unfold bs
  simp only [Tryd.ntmps8, List.size_toArray, List.length_cons, List.length_nil, Nat.reduceAdd, Nat.reduceSub, Array.replicate_succ, Array.replicate_zero, List.push_toArray, List.append_toArray, List.nil_append, List.cons_append]
  have hmm := @run_makeMap Tryd.prog
  have HNB := Lib.hid (fun W => (callsIn_wide (n := 0)).2 (cNumbered text W))
  gi_wp2
  refine ⟨trivial, rfl, ?_⟩
  obtain ⟨b0, s0, r0, r1, r2, d0⟩ := asm_start w _ rfl
  generalize ((((((w.alloc (.cells #[.slice none 0 0, .int .i64 0, .int .i64 0] 27)).alloc (.cells #[.int .i64 0] 3)).alloc (.cells #[.int .i64 0] 32)).alloc (.map #[] 0)).alloc (.cells #[.slice none 0 0, .map (some (w.heap.size + 1 + 1 + 1))] 52))) = W0 at *
  refine (HNB.out _).mono ?_
  rintro e W1 ⟨rfl, rfl⟩
  have t1 := Bk.made W0 9 #[bs text]
  have h1 : Within W0 (W0.alloc (.cells #[bs text] 9)) (fun _ => False) := (Within.refl _ _).alloc _
  have s1 : (W0.alloc (.cells #[bs text] 9)).heap.size = w.heap.size + 6 := by simp [s0]
  rw [s0] at t1 ⊢
  replace b0 := b0.trans (below_of_within h1 (B := w.heap.size) (by simp))
  replace r0 := r0.within h1 (by simp)
  replace r1 := r1.within h1 (by simp)
  replace r2 := r2.within h1 (by simp)
  replace d0 := (d0 (w.heap.size + 13)).within h1 (by simp) (by simp) (by simp)
  generalize W0.alloc (.cells #[bs text] 9) = W1 at *
  clear h1 s0 HNB hmm W0
  gi_wp2
  have HI := Lib.hid (asm_calm (w := w) (text := text))
  have HX := Lib.hid (asm_calmx (w := w) (text := text))
  refine wpIn_range (gf := 16) (lb := #[.pointer (some ⟨w.heap.size + 5, 0, none⟩)]) rfl (enters_of Tryd.func16 (by kernel_rfl) rfl)
    (encs := fun k => #[.int .i64 ((k : Int) + 1), bs (lineAt text k)]) (N := (linesL text).length) (T := fun x => w.heap.size + 8 ≤ x ∧ x < w.heap.size + 13) (fun _ => rfl) (by omega) (by omega)
    ?seq (asmI w text) (asmX w text) (by rw [s1]; exact HI.out) (by rw [s1]; exact HX.out) ⟨[], [], text, b0, r0, r1, r2, d0, ⟨⟨by simp, by simp⟩, by simp, by simp, by simp⟩, rfl, Nat.le_refl _, asmGo_all text⟩
    (fun k => { tmps := #[.string ⟨text.toArray⟩, undef, .pointer (some ⟨w.heap.size, 0, none⟩), .pointer (some ⟨w.heap.size + 1, 0, none⟩), .pointer (some ⟨w.heap.size + 2, 0, none⟩), .pointer (some ⟨w.heap.size + 4, 0, none⟩), .int .i64 ((k : Int) + 1), .string ⟨(lineAt text k).toArray⟩, undef, .map (some (w.heap.size + 3)), .agg #[.slice none 0 0, .map (some (w.heap.size + 3))], .string ⟨text.toArray⟩,
      .func (.func 16) #[] #[.pointer (some ⟨w.heap.size + 5, 0, none⟩)], .int .i64 ((k : Int) + 1), .string ⟨(lineAt text k).toArray⟩, undef, undef, undef, undef, undef, undef, undef, undef, undef, undef, undef, undef], defers := [] }) ?assign ?body ?done ?stop
  case seq =>
    intro W4 hb4 hz4
    have hz : W4.heap.size = w.heap.size + 8 := by omega
    have := it_numbered text (w.heap.size + 5) (W1.heap.size + 1) W4 ((hb4.block _ (by omega)).trans t1) (by omega)
    rw [hz] at this
    exact this
  case assign =>
    intro l2 k W K hK
    unfold bs
    gi_wp2
    exact hK
  case body =>
    rintro l2 k W hk ⟨ls, rs, t, b2, q0, q1, q2, hD, hO, hdr, htl, hgo⟩ hT
    simp only [s1] at hT ⊢
    have hsz : w.heap.size + 13 ≤ W.heap.size := hT (w.heap.size + 12) (.inr (.inr ⟨by omega, by omega⟩))
    have hne : t ≠ [] := by
      rintro rfl
      have := congrArg List.length hdr
      simp [linesL] at this
      omega
    have hkl : k < 1000000 := Nat.lt_of_lt_of_le hk (Nat.le_trans (lines_len text) (by omega))
    obtain ⟨v0, v1, v2, v3, v4⟩ : W.cell? ⟨w.heap.size, 0, none⟩ = some (.slice none 0 0) ∧ W.cell? ⟨w.heap.size, 1, none⟩ = some (.int .i64 0) ∧ W.cell? ⟨w.heap.size, 2, none⟩ = some (.int .i64 0) ∧ W.cell? ⟨w.heap.size + 1, 0, none⟩ = some (.int .i64 0) ∧ W.cell? ⟨w.heap.size + 2, 0, none⟩ = some (.int .i64 0) := ⟨q0.cell 0, q0.cell 1, q0.cell 2, q1.cell 0, q2.cell 0⟩
    have g0 := q0.free
    have g1 := q1.free 0
    have g2 := q2.free 0
    rcases first_nl t with hn | ⟨s, r, hn, rfl⟩
    · have hline : lineAt text k = t := by
        have := congrArg List.head? hdr
        rw [lines_last t hn hne] at this
        simp [List.head?_drop] at this
        simp [lineAt, List.getD_eq_getElem?_getD, this]
      have hres : asmL text = (Prg.zero, (k : Int) + 1, 8) := by rw [hgo, asmGo_end t hn, if_pos hne]
      have HA := Lib.hid (CallsIn.inRound l2 ((callsIn_wide (n := 0)).2 (cAddEnd hD t (fun u e => hn 10 (by rw [e]; simp) rfl) (by omega) ((k : Int) + 1))))
      rw [hline]
      obtain ⟨p0, p1, p2, p3, p4⟩ := put5_is b2 q0 q1 q2 (.slice none 0 0) (.int .i64 0) (.int .i64 0) (.int .i64 ((k : Int) + 1)) (.int .i64 8)
      clear hgo hdr hD hO HI HX
      gi_wp2
      refine ⟨trivial, rfl, HA.out.mono ?_⟩
      rintro e W5 ⟨rfl, rfl⟩
      gi_wp2
      exact ⟨Held.of_within p4 (fun b hb => ⟨hT b hb, by omega⟩), rfl, (k : Int) + 1, 8, p0, p1, p2, p3, hres⟩
    · have hline : lineAt text k = s ++ [10] := by
        have := congrArg List.head? hdr
        rw [lines_more s r hn] at this
        simp [List.head?_drop] at this
        simp [lineAt, List.getD_eq_getElem?_getD, this]
      have hdr2 : (linesL text).drop (k + 1) = linesL r := by
        have := congrArg List.tail hdr
        rw [lines_more s r hn] at this
        simpa [List.tail_drop] using this
      have hle : s.length + (r.length + 1) ≤ text.length := by simpa using htl
      rw [go_add s r hn] at hgo
      have HA := Lib.hid (CallsIn.inRound l2 ((callsIn_wide (n := 0)).2 (cAddA hD hsz (L.below b2) s (by omega) ((k : Int) + 1) (by have := hO.many; omega) hO.few)))
      have HK : Hid ((addL s ((k : Int) + 1) ls rs).1 = 0 → LinesOk (addL s ((k : Int) + 1) ls rs).2.1 (addL s ((k : Int) + 1) ls rs).2.2 (k + 1)) := Lib.hid fun e => hO.add s _ e
      have HG := Lib.hid hgo
      rw [hline]
      clear hgo hdr hD hO HI HX
      generalize addL s ((k : Int) + 1) ls rs = ad at *
      obtain ⟨er, ls2, rs2⟩ := ad
      gi_wp2
      refine ⟨trivial, rfl, HA.out.mono ?_⟩
      rintro e W5 ⟨rfl, hD5, hW5⟩
      simp only at hD5 hW5 HK HG ⊢
      clear HA v0 v1 v2 v3 v4 g0 g1 g2
      replace b2 := b2.trans (below_of_within hW5 (B := w.heap.size) (by rintro b (rfl | rfl | h) <;> omega))
      replace q0 := q0.within hW5 (by rintro (h | h | h) <;> omega)
      replace q1 := q1.within hW5 (by rintro (h | h | h) <;> omega)
      replace q2 := q2.within hW5 (by rintro (h | h | h) <;> omega)
      have hH : Held (fun b => b = w.heap.size + 6 ∨ b = w.heap.size + 6 + 1 ∨ w.heap.size + 8 ≤ b ∧ b < w.heap.size + 13) W W5 := Held.of_within hW5 (fun b hb => ⟨hT b hb, by rintro (h | h | h) <;> omega⟩)
      by_cases her : er = 0
      · subst her
        gi_wp2
        refine ⟨hH, ls2, rs2, r, b2, q0, q1, q2, hD5, HK.out (by trivial), hdr2, by omega, ?_⟩
        rw [HG.out]
        simp
      · have her2 : (er != 0) = true := by simpa using her
        have hres : asmL text = (Prg.zero, (k : Int) + 1, er) := by rw [HG.out, if_neg her]
        obtain ⟨v0, v1, v2, v3, v4⟩ : W5.cell? ⟨w.heap.size, 0, none⟩ = some (.slice none 0 0) ∧ W5.cell? ⟨w.heap.size, 1, none⟩ = some (.int .i64 0) ∧ W5.cell? ⟨w.heap.size, 2, none⟩ = some (.int .i64 0) ∧ W5.cell? ⟨w.heap.size + 1, 0, none⟩ = some (.int .i64 0) ∧ W5.cell? ⟨w.heap.size + 2, 0, none⟩ = some (.int .i64 0) := ⟨q0.cell 0, q0.cell 1, q0.cell 2, q1.cell 0, q2.cell 0⟩
        have g0 := q0.free
        have g1 := q1.free 0
        have g2 := q2.free 0
        obtain ⟨p0, p1, p2, p3, p4⟩ := put5_is b2 q0 q1 q2 (.slice none 0 0) (.int .i64 0) (.int .i64 0) (.int .i64 ((k : Int) + 1)) (.int .i64 er)
        clear HK HG hD5 her
        gi_wp2
        exact ⟨hH.trans (Held.of_within p4 (fun b hb => ⟨Nat.lt_of_lt_of_le (hT b hb) hH.1, by omega⟩)), rfl, (k : Int) + 1, er, p0, p1, p2, p3, hres⟩
  case done =>
    rintro W ⟨ls, rs, t, b2, q0, q1, q2, hD, hO, hdr, htl, hgo⟩ hd
    have ht : t = [] := by
      rw [List.drop_of_length_le (Nat.le_refl _)] at hdr
      cases t with
      | nil => rfl
      | cons c u =>
        exfalso
        rcases first_nl (c :: u) with hn | ⟨s, r, hn, e⟩
        · rw [lines_last _ hn (by simp)] at hdr; cases hdr
        · rw [e, lines_more s r hn] at hdr; cases hdr
    subst ht
    rw [asmGo_end [] (by unfold Nl; simp), if_neg (by simp)] at hgo
    have HC := Lib.hid ((callsIn_wide (n := 0)).2 (cCode hD hO.few hO.lab hO.names))
    rw [← hgo] at HC
    clear hgo hD hO hdr htl
    gi_wp2
    refine ⟨trivial, rfl, HC.out.mono ?_⟩
    rintro e W5 ⟨v, rfl, ⟨sl, rfl, hP⟩, hB⟩
    have hz := b2.size
    have hlt := q2.lt
    have hdl := (Array.getElem?_eq_some_iff.1 hd).1
    replace q0 : Bk W5 _ _ _ := (hB.block _ q0.lt).trans q0
    replace q1 : Bk W5 _ _ _ := (hB.block _ q1.lt).trans q1
    replace q2 : Bk W5 _ _ _ := (hB.block _ q2.lt).trans q2
    replace hd := (hB.block _ hdl).trans hd
    replace b2 := b2.trans (hB.mono hz)
    obtain ⟨v0, v1, v2, v3, v4⟩ : W5.cell? ⟨w.heap.size, 0, none⟩ = some (.slice none 0 0) ∧ W5.cell? ⟨w.heap.size, 1, none⟩ = some (.int .i64 0) ∧ W5.cell? ⟨w.heap.size, 2, none⟩ = some (.int .i64 0) ∧ W5.cell? ⟨w.heap.size + 1, 0, none⟩ = some (.int .i64 0) ∧ W5.cell? ⟨w.heap.size + 1 + 1, 0, none⟩ = some (.int .i64 0) := ⟨q0.cell 0, q0.cell 1, q0.cell 2, q1.cell 0, q2.cell 0⟩
    have g0 := q0.free
    have g1 := q1.free 0
    have g2 : W5.frozen? ⟨w.heap.size + 1 + 1, 0, none⟩ = false := q2.free 0
    obtain ⟨sa, scap, rfl, _, _, _⟩ := own_is hP
    rw [s1] at hd
    have HR : Hid (Asmd w text = fun e w' => ∃ v, e = .returned (.tuple #[v, .int .i64 (asmL text).2.1, .int .i64 (asmL text).2.2]) ∧ Pg w' w.heap.size v (asmL text).1 ∧ Below w.heap.size w w') := Lib.hid rfl
    generalize asmL text = res at *
    obtain ⟨⟨l, plo, pun⟩, ln, er⟩ := res
    simp only at hP q0 q1 q2 v0 v1 v2 v3 v4 g0 g1 g2 hd b2 ⊢
    obtain ⟨p0, p1, p2, p3, p4⟩ := put5_is b2 q0 q1 q2 (.slice sa l.length scap) (.int .i64 plo) (.int .i64 pun) (.int .i64 ln) (.int .i64 er)
    have hP2 := own_within hP p4 (fun b e e2 => by
      obtain ⟨cs, hcs⟩ := own_bk hP e
      rcases e2 with rfl | rfl | rfl
      · exact Bk.unlike hcs q0 (by decide) rfl
      · exact Bk.unlike hcs q1 (by decide) rfl
      · exact Bk.unlike hcs q2 (by decide) rfl)
    have hd2 := (p4.block _ (Array.getElem?_eq_some_iff.1 hd).1 (by omega)).trans hd
    replace hP2 := World.ownsRow.mono (base' := w.heap.size) hP2 hz
    gi_wp2
    generalize hv : ((((W5.setCell ⟨w.heap.size, 0, none⟩ (.slice sa l.length scap)).setCell ⟨w.heap.size, 1, none⟩ (.int .i64 plo)).setCell ⟨w.heap.size, 2, none⟩ (.int .i64 pun)).setCell ⟨w.heap.size + 1, 0, none⟩ (.int .i64 ln)).setCell ⟨w.heap.size + 1 + 1, 0, none⟩ (.int .i64 er) = V
    replace hv : put5 W5 w.heap.size (.slice sa l.length scap) (.int .i64 plo) (.int .i64 pun) (.int .i64 ln) (.int .i64 er) = V := hv
    rw [hv] at p0 p1 p2 p3 p4 hP2 hd2
    refine ⟨by simp, .inl ⟨_, _, rfl, run_takeDeferred hd2, ?_⟩⟩
    have hpo := within_putObj V (w.heap.size + 6) (.deferred none) (fun b => b = w.heap.size + 6) rfl
    replace p1 := p1.within hpo (by omega)
    replace p2 := p2.within hpo (by omega)
    replace p3 := p3.within hpo (by omega)
    replace hP2 := own_within hP2 hpo (fun b e e2 => by
      obtain ⟨cs, hcs⟩ := own_bk hP2 e
      rw [e2] at hcs
      unfold Bk at hcs
      rw [hd2] at hcs
      cases hcs)
    replace p0 := p0.trans (below_of_within hpo (B := w.heap.size) (by rintro b rfl; omega) p0.size)
    generalize V.putObj (w.heap.size + 6) (.deferred none) = V2 at *
    obtain ⟨y0, y1, y2, y3, y4⟩ : V2.cell? ⟨w.heap.size, 0, none⟩ = some (.slice sa l.length scap) ∧ V2.cell? ⟨w.heap.size, 1, none⟩ = some (.int .i64 plo) ∧ V2.cell? ⟨w.heap.size, 2, none⟩ = some (.int .i64 pun) ∧ V2.cell? ⟨w.heap.size + 1, 0, none⟩ = some (.int .i64 ln) ∧ V2.cell? ⟨w.heap.size + 1 + 1, 0, none⟩ = some (.int .i64 er) := ⟨p1.cell 0, p1.cell 1, p1.cell 2, p2.cell 0, p3.cell 0⟩
    refine ⟨.tuple #[.agg #[.slice sa l.length scap, .int .i64 plo, .int .i64 pun], .int .i64 ln, .int .i64 er], by simp [results, Tryd.results8, go_sem, y0, y1, y2, y3, y4], ?_⟩
    rw [HR.out]
    exact ⟨_, rfl, ⟨_, rfl, hP2⟩, p0⟩
  case stop =>
    rintro c W ⟨rfl, ln, er, b2, q0, q1, q2, hgo⟩ hd
    gi_wp2
    refine ⟨by simp, .inl ⟨_, _, rfl, run_takeDeferred hd, ?_⟩⟩
    have hpo := within_putObj W W1.heap.size (.deferred none) (fun b => b = W1.heap.size) rfl
    replace q0 := q0.within hpo (by omega)
    replace q1 := q1.within hpo (by omega)
    replace q2 := q2.within hpo (by omega)
    have p0 := b2.trans (below_of_within hpo (B := w.heap.size) (by rintro b rfl; omega) b2.size)
    generalize W.putObj W1.heap.size (.deferred none) = V2 at *
    obtain ⟨y0, y1, y2, y3, y4⟩ : V2.cell? ⟨w.heap.size, 0, none⟩ = some (.slice none 0 0) ∧ V2.cell? ⟨w.heap.size, 1, none⟩ = some (.int .i64 0) ∧ V2.cell? ⟨w.heap.size, 2, none⟩ = some (.int .i64 0) ∧ V2.cell? ⟨w.heap.size + 1, 0, none⟩ = some (.int .i64 ln) ∧ V2.cell? ⟨w.heap.size + 1 + 1, 0, none⟩ = some (.int .i64 er) := ⟨q0.cell 0, q0.cell 1, q0.cell 2, q1.cell 0, q2.cell 0⟩
    refine ⟨.tuple #[.agg #[.slice none 0 0, .int .i64 0, .int .i64 0], .int .i64 ln, .int .i64 er], by simp [results, Tryd.results8, go_sem, y0, y1, y2, y3, y4], ?_⟩
    unfold Asmd
    rw [hgo]
    exact ⟨_, rfl, ⟨_, rfl, World.ownsRow_nil _ _ _ _⟩, p0⟩
end Go.Proofs.YthdgehcghklflaaDoor

/- The laws' awake. -/
namespace Go.Proofs.YthdgehcghklflaaDoor
open Go.ChangeShapes Go.WideShapes Go.ChangeAt Go.RowKit
set_option linter.unusedVariables false

end Go.Proofs.YthdgehcghklflaaDoor

/- Both Specs of the ticket lock, for any number of threads; the law's awake. -/
namespace Go.Proofs.YthdgehcghklflaaDoor
set_option maxRecDepth 100000
open Go.ChangeShapes Go.WideShapes Go.ChangeAt Go.RowKit
set_option linter.unusedVariables false

theorem tk_asmC (w : World) (L : Lb w) : Calls Tryd.prog 8 #[bs tkText] w (AsmC w) := by
  have h := cAssemble tkText tk_small w L
  unfold Asmd at h
  rw [tk_asm] at h
  exact h
theorem cSpec (N : Nat) (st : Int) (w : World) (L : Lb w) (h1 : 1 ≤ N) (h64 : N ≤ 64) (h0 : 0 ≤ st) (h2 : st < 4294967296) :
    Calls Tryd.prog 4 #[.int .i64 N, .int .u32 st] w fun e w' => ∃ v, e = .returned (.tuple #[v, .int .i64 0]) ∧ Sv w' v tkP [1, 1] [st, st] (tkR N) 0 ∧ Below w.heap.size w w' :=
  cSpecW N st w h1 h64 h0 h2 (fun W hW => tk_asmC W (L.below hW))
def spZ : Value := .agg #[.slice none 0 0, .int .i64 0, .int .i64 0, .slice none 0 0, .slice none 0 0, .int .i64 0, .slice none 0 0]
theorem cSpecNo (n st : Int) (w : World) (hn : ¬ (1 ≤ n ∧ n ≤ 64)) :
    Calls Tryd.prog 4 #[.int .i64 n, .int .u32 st] w fun e w' => e = .returned (.tuple #[spZ, .int .i64 5]) ∧ Below w.heap.size w w' := by
  have b0 : Below w.heap.size w (w.alloc (.cells #[.slice none 0 0, .int .i64 0, .int .i64 0, .slice none 0 0, .slice none 0 0, .int .i64 0, .slice none 0 0] 31)) := (Below.refl _ _).alloc (Nat.le_refl _) _
  unfold spZ
  have q0 := Bk.made w 31 #[.slice none 0 0, .int .i64 0, .int .i64 0, .slice none 0 0, .slice none 0 0, .int .i64 0, .slice none 0 0]
  by_cases h1 : n < 1
  · go_enter Tryd.func4, Tryd.ntmps4
    go_upto_region 2 with fail
    generalize w.alloc (.cells #[.slice none 0 0, .int .i64 0, .int .i64 0, .slice none 0 0, .slice none 0 0, .int .i64 0, .slice none 0 0] 31) = y at *
    have KK := Lib.hid (And.intro (put7_bk q0 (.slice none 0 0) (.int .i64 0) (.int .i64 0) (.slice none 0 0) (.slice none 0 0) (.int .i64 0) (.slice none 0 0)) (put7_below b0 (Nat.le_refl _) (.slice none 0 0) (.int .i64 0) (.int .i64 0) (.slice none 0 0) (.slice none 0 0) (.int .i64 0) (.slice none 0 0)))
    obtain ⟨y0, y1, y2, y3, y4, y5, y6⟩ : y.cell? ⟨w.heap.size, 0, none⟩ = some (.slice none 0 0) ∧ y.cell? ⟨w.heap.size, 1, none⟩ = some (.int .i64 0) ∧ y.cell? ⟨w.heap.size, 2, none⟩ = some (.int .i64 0) ∧ y.cell? ⟨w.heap.size, 3, none⟩ = some (.slice none 0 0) ∧ y.cell? ⟨w.heap.size, 4, none⟩ = some (.slice none 0 0) ∧ y.cell? ⟨w.heap.size, 5, none⟩ = some (.int .i64 0) ∧ y.cell? ⟨w.heap.size, 6, none⟩ = some (.slice none 0 0) := ⟨q0.cell 0, q0.cell 1, q0.cell 2, q0.cell 3, q0.cell 4, q0.cell 5, q0.cell 6⟩
    have zf := Bk.free q0
    clear q0 b0
    go_wp
    clear y0 y1 y2 y3 y4 y5 y6 zf
    generalize hv : (((((((y.setCell ⟨w.heap.size, 0, none⟩ (.slice none 0 0)).setCell ⟨w.heap.size, 1, none⟩ (.int .i64 0)).setCell ⟨w.heap.size, 2, none⟩ (.int .i64 0)).setCell ⟨w.heap.size, 3, none⟩ (.slice none 0 0)).setCell ⟨w.heap.size, 4, none⟩ (.slice none 0 0)).setCell ⟨w.heap.size, 5, none⟩ (.int .i64 0)).setCell ⟨w.heap.size, 6, none⟩ (.slice none 0 0)) = x9
    replace hv : put7 y w.heap.size (.slice none 0 0) (.int .i64 0) (.int .i64 0) (.slice none 0 0) (.slice none 0 0) (.int .i64 0) (.slice none 0 0) = x9 := hv
    rw [hv] at KK
    obtain ⟨hq, b9⟩ := KK.out
    obtain ⟨y0, y1, y2, y3, y4, y5, y6⟩ : x9.cell? ⟨w.heap.size, 0, none⟩ = some (.slice none 0 0) ∧ x9.cell? ⟨w.heap.size, 1, none⟩ = some (.int .i64 0) ∧ x9.cell? ⟨w.heap.size, 2, none⟩ = some (.int .i64 0) ∧ x9.cell? ⟨w.heap.size, 3, none⟩ = some (.slice none 0 0) ∧ x9.cell? ⟨w.heap.size, 4, none⟩ = some (.slice none 0 0) ∧ x9.cell? ⟨w.heap.size, 5, none⟩ = some (.int .i64 0) ∧ x9.cell? ⟨w.heap.size, 6, none⟩ = some (.slice none 0 0) := ⟨hq.cell 0, hq.cell 1, hq.cell 2, hq.cell 3, hq.cell 4, hq.cell 5, hq.cell 6⟩
    exact bodyPost_ret (v := .tuple #[.agg #[.slice none 0 0, .int .i64 0, .int .i64 0, .slice none 0 0, .slice none 0 0, .int .i64 0, .slice none 0 0], .int .i64 5]) (by simp [results, Tryd.results4, go_sem, y0, y1, y2, y3, y4, y5, y6]) rfl ⟨rfl, b9⟩
  · have h2 : 64 < n := by omega
    clear hn
    go_enter Tryd.func4, Tryd.ntmps4
    go_upto_region 2 with fail
    generalize w.alloc (.cells #[.slice none 0 0, .int .i64 0, .int .i64 0, .slice none 0 0, .slice none 0 0, .int .i64 0, .slice none 0 0] 31) = y at *
    have KK := Lib.hid (And.intro (put7_bk q0 (.slice none 0 0) (.int .i64 0) (.int .i64 0) (.slice none 0 0) (.slice none 0 0) (.int .i64 0) (.slice none 0 0)) (put7_below b0 (Nat.le_refl _) (.slice none 0 0) (.int .i64 0) (.int .i64 0) (.slice none 0 0) (.slice none 0 0) (.int .i64 0) (.slice none 0 0)))
    obtain ⟨y0, y1, y2, y3, y4, y5, y6⟩ : y.cell? ⟨w.heap.size, 0, none⟩ = some (.slice none 0 0) ∧ y.cell? ⟨w.heap.size, 1, none⟩ = some (.int .i64 0) ∧ y.cell? ⟨w.heap.size, 2, none⟩ = some (.int .i64 0) ∧ y.cell? ⟨w.heap.size, 3, none⟩ = some (.slice none 0 0) ∧ y.cell? ⟨w.heap.size, 4, none⟩ = some (.slice none 0 0) ∧ y.cell? ⟨w.heap.size, 5, none⟩ = some (.int .i64 0) ∧ y.cell? ⟨w.heap.size, 6, none⟩ = some (.slice none 0 0) := ⟨q0.cell 0, q0.cell 1, q0.cell 2, q0.cell 3, q0.cell 4, q0.cell 5, q0.cell 6⟩
    have zf := Bk.free q0
    clear q0 b0
    go_wp
    clear y0 y1 y2 y3 y4 y5 y6 zf
    generalize hv : (((((((y.setCell ⟨w.heap.size, 0, none⟩ (.slice none 0 0)).setCell ⟨w.heap.size, 1, none⟩ (.int .i64 0)).setCell ⟨w.heap.size, 2, none⟩ (.int .i64 0)).setCell ⟨w.heap.size, 3, none⟩ (.slice none 0 0)).setCell ⟨w.heap.size, 4, none⟩ (.slice none 0 0)).setCell ⟨w.heap.size, 5, none⟩ (.int .i64 0)).setCell ⟨w.heap.size, 6, none⟩ (.slice none 0 0)) = x9
    replace hv : put7 y w.heap.size (.slice none 0 0) (.int .i64 0) (.int .i64 0) (.slice none 0 0) (.slice none 0 0) (.int .i64 0) (.slice none 0 0) = x9 := hv
    rw [hv] at KK
    obtain ⟨hq, b9⟩ := KK.out
    obtain ⟨y0, y1, y2, y3, y4, y5, y6⟩ : x9.cell? ⟨w.heap.size, 0, none⟩ = some (.slice none 0 0) ∧ x9.cell? ⟨w.heap.size, 1, none⟩ = some (.int .i64 0) ∧ x9.cell? ⟨w.heap.size, 2, none⟩ = some (.int .i64 0) ∧ x9.cell? ⟨w.heap.size, 3, none⟩ = some (.slice none 0 0) ∧ x9.cell? ⟨w.heap.size, 4, none⟩ = some (.slice none 0 0) ∧ x9.cell? ⟨w.heap.size, 5, none⟩ = some (.int .i64 0) ∧ x9.cell? ⟨w.heap.size, 6, none⟩ = some (.slice none 0 0) := ⟨hq.cell 0, hq.cell 1, hq.cell 2, hq.cell 3, hq.cell 4, hq.cell 5, hq.cell 6⟩
    exact bodyPost_ret (v := .tuple #[.agg #[.slice none 0 0, .int .i64 0, .int .i64 0, .slice none 0 0, .slice none 0 0, .int .i64 0, .slice none 0 0], .int .i64 5]) (by simp [results, Tryd.results4, go_sem, y0, y1, y2, y3, y4, y5, y6]) rfl ⟨rfl, b9⟩
set_option maxHeartbeats 1000000 in
theorem lAwake14 (w : World) (L : Lb w) : Calls Tryd.prog 5 #[] w fun e w' => e = .returned (.bool true) ∧ Below w.heap.size w w' := by
  have HP := Lib.hid (cSpec 2 5 w L (by decide) (by decide) (by decide) (by decide))
  go_enter Tryd.func5, Tryd.ntmps5
  go_wp2_with fail
  refine HP.out.mono ?_
  rintro e x ⟨v, rfl, ⟨aL, cL, aS, cS, aI, cI, aR, cR, rfl, -⟩, hx⟩
  have hb : Below w.heap.size w (x.alloc (.cells #[.slice aL tkP.l.length cL, .int .i64 tkP.lo, .int .i64 tkP.un, .slice aS 2 cS, .slice aI 2 cI, .int .i64 0, .slice aR 2 cR] 31)) := hx.alloc hx.size _
  have hK := Bk.made x 31 #[.slice aL tkP.l.length cL, .int .i64 tkP.lo, .int .i64 tkP.un, .slice aS 2 cS, .slice aI 2 cI, .int .i64 0, .slice aR 2 cR]
  rw [show tkP.l.length = 9 from rfl, show tkP.lo = 0 from rfl, show tkP.un = 5 from rfl] at *
  rw [show ([1, 1] : List Int).length = 2 from rfl, show ([5, 5] : List Int).length = 2 from rfl, show (tkR 2).length = 2 from rfl]
  clear HP hx
  go_upto_region 2 with fail
  generalize x.heap.size = q at *
  generalize x.alloc (.cells #[.slice aL 9 cL, .int .i64 0, .int .i64 5, .slice aS 2 cS, .slice aI 2 cI, .int .i64 0, .slice aR 2 cR] 31) = y at *
  obtain ⟨y0, y6⟩ : y.cell? ⟨q, 0, none⟩ = some (.slice aL 9 cL) ∧ y.cell? ⟨q, 6, none⟩ = some (.slice aR 2 cR) := ⟨hK.cell 0, hK.cell 6⟩
  clear hK
  go_wp2
  go_ret
  exact ⟨rfl, hb⟩
end Go.Proofs.YthdgehcghklflaaDoor

/- Specs to be compared. -/
namespace Go.Proofs.YthdgehcghklflaaDoor
set_option maxRecDepth 100000
open Go.ChangeShapes Go.WideShapes Go.ChangeAt Go.RowKit
set_option linter.unusedVariables false

theorem Rv.spv {base : Nat} {w : World} {v : Value} {c : Prg} {zs init r7 : List Int} {each : Int} (h : Rv base w v c zs init r7 each) : SpV w v c zs init r7 each := by
  obtain ⟨sl, aS, cS, aI, cI, aR, cR, rfl, h1, h2, h3, h4, h5⟩ := h
  obtain ⟨aL, cL, rfl, -⟩ := own_is h1
  exact ⟨aL, cL, aS, cS, aI, cI, aR, cR, rfl, own_pv h1, h2, h3, h4, h5⟩
theorem SpV.below {w w' : World} {v : Value} {c : Prg} {zs init r7 : List Int} {each : Int} (h : SpV w v c zs init r7 each) (hb : Below w.heap.size w w') : SpV w' v c zs init r7 each := by
  obtain ⟨aL, cL, aS, cS, aI, cI, aR, cR, e, h1, h2, h3, h4, h5⟩ := h
  exact ⟨aL, cL, aS, cS, aI, cI, aR, cR, e, h1.below hb, h2.below hb, h3.below hb, h4.below hb, h5⟩
theorem given_nil0 (k : IntKind) (w : World) (a : Option Addr) : Given k w a [] := fun h => by simp at h
/-- Specs alike. -/
theorem same_spec (w : World) (v u : Value) (c : Prg) (zs init r7 : List Int) (each : Int) (hv : SpV w v c zs init r7 each) (hu : SpV w u c zs init r7 each) (hc : c.l.length ≤ 100000) :
    Calls Tryd.prog 6 #[v, u] w fun e w' => e = .returned (.bool true) ∧ Below w.heap.size w w' := by
  have h := rSameSpec w v u c c zs init r7 zs init r7 each each hv hu hc
  rw [decide_eq_true rfl, decide_eq_true rfl, decide_eq_true rfl, decide_eq_true rfl, (sameP_iff c c).2 rfl] at h
  exact h
end Go.Proofs.YthdgehcghklflaaDoor

/- The frame of TicketProgram: two locks, opened. -/
namespace Go.Proofs.YthdgehcghklflaaDoor
set_option maxRecDepth 100000
open Go.Joins Go.ChangeShapes Go.WideShapes Go.ChangeAt Go.RowKit Go.Deep
set_option linter.unusedVariables false

theorem open_two {H : Type} {enc : TypeId × Value → H} {W : World} {base b0 : Nat} {sp : Nat → Bool} {held : Bool} {r : Reach} {v : Value} {d : DataW H} {ps : List MemPlace}
    (hv : Value.okWide Tryd.prog W r b0 24 v) (h : DataW.Trod enc Tryd.prog W base sp held 24 v d ps) :
    ∃ (n m st o : Int), v = .agg #[.int .i64 n, .int .i64 m, .int .u32 st, .int .u32 o] ∧ (0 ≤ st ∧ st < 4294967296) ∧ (0 ≤ o ∧ o < 4294967296) := by
  obtain ⟨c0, c1, c2, c3, y0, y1, y2, y3, m, rfl, _, hs2, hy0, hy1, hy2, hy3⟩ := Joins.open_agg4 Tryd.underlying24 (by kernel_rfl) (by kernel_rfl) hv h
  obtain ⟨x0, e0, _, w0⟩ := DataW.trod_int Tryd.underlying3 hy0
  obtain ⟨x1, e1, _, w1⟩ := DataW.trod_int Tryd.underlying3 hy1
  obtain ⟨x2, e2, _, w2⟩ := DataW.trod_int Tryd.underlying22 hy2
  obtain ⟨x3, e3, _, w3⟩ := DataW.trod_int Tryd.underlying22 hy3
  simp only [List.cons.injEq, and_true] at e0 e1 e2 e3
  subst e0 e1 e2 e3
  simp [Lit.wf, IntKind.min, IntKind.max, IntKind.bits, IntKind.signed] at w2 w3
  exact ⟨x0, x1, x2, x3, rfl, ⟨by omega, by omega⟩, by omega, by omega⟩
/-- A program alone, as a part of a spec. -/
def CdV (c : Prg) (v : Value) (w : World) : Prop := ∃ a cap, v = .agg #[.slice a c.l.length cap, .int .i64 c.lo, .int .i64 c.un] ∧ Pv w v c
theorem CdV.below {c : Prg} {v : Value} {w w' : World} (h : CdV c v w) (hb : Below w.heap.size w w') : CdV c v w' := by
  obtain ⟨a, cap, e, h1⟩ := h
  exact ⟨a, cap, e, h1.below hb⟩
theorem spv_code {w : World} {a : Option Addr} {cap : Nat} {c : Prg} (h : Pv w (.agg #[.slice a c.l.length cap, .int .i64 c.lo, .int .i64 c.un]) c) : SpV w (.agg #[.slice a c.l.length cap, .int .i64 c.lo, .int .i64 c.un, .slice none 0 0, .slice none 0 0, .int .i64 0, .slice none 0 0]) c [] [] [] 0 :=
  ⟨a, cap, none, 0, none, 0, none, 0, rfl, h, given_nil0 _ _ _, given_nil0 _ _ _, given_nil0 _ _ _, by simp, by simp, by simp⟩
end Go.Proofs.YthdgehcghklflaaDoor
