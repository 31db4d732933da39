/- What the document's Assemble has in memory between two bytes of its text: a program of its own, labels, names, lines, each in a row of its own. No walk stands here. -/
import Derived.Test.YteohnkilchkhkaaGreatDoorAsmY
import Derived.Test.YteohnkilchkhkaaGreatDoorPrg
import Derived.Test.YteohnkilchkhkaaGreatDoorRefP
import Derived.Test.YteohnkilchkhkaaGreatDoorAsmF
namespace Go.Proofs.YteohnkilchkhkaaGreatDoor
open Go.ChangeShapes Go.WideShapes Go.ChangeAt Go.RowKit
set_option linter.unusedVariables false

/-- A label's cells. -/
def labC (x : List UInt8 × Int) : List Value := [bs x.1, .int .i64 x.2]
theorem labC_len (x : List UInt8 × Int) : (labC x).length = 2 := rfl
def labsC (ls : List (List UInt8 × Int)) : List Value := ls.flatMap labC
theorem labsC_snoc (ls : List (List UInt8 × Int)) (x : List UInt8 × Int) : labsC (ls ++ [x]) = labsC ls ++ labC x := by simp [labsC]
theorem labsC_at {ls : List (List UInt8 × Int)} {k : Nat} {x : List UInt8 × Int} (h : ls[k]? = some x) {j : Nat} (hj : j < 2) : (labsC ls)[k * 2 + j]? = (labC x)[j]? := flat_at labC 2 labC_len ls k j x h hj
theorem labC_one (x : List UInt8 × Int) : ∀ u ∈ labC x, u.oneCell' = true := by
  intro u hu
  simp only [labC, List.mem_cons, List.not_mem_nil, or_false] at hu
  rcases hu with rfl | rfl <;> rfl
theorem labInfo : (Tryz.prog.info? 61).map (fun i => (i.zero, i.size, i.bytes)) = some (some (.agg #[bs [], .int .i64 0]), 2, 24) := by kernel_rfl
theorem strInfo : (Tryz.prog.info? 9).map (fun i => (i.zero, i.size, i.bytes)) = some (some (bs []), 1, 16) := by kernel_rfl
theorem intInfo : (Tryz.prog.info? 3).map (fun i => (i.zero, i.size, i.bytes)) = some (some (.int .i64 0), 1, 8) := by kernel_rfl

/-- The result is a program of nothing; the program of its own has the instructions is; labels ls, names ns, lines ks. -/
structure AAt (w W : World) (is : List Ins) (ls : List (List UInt8 × Int)) (ns : List (List UInt8)) (ks : List Int) (vi vl vn vk : Value) : Prop where
  b : Below w.heap.size w W
  r : Bk W w.heap.size 31 #[.slice none 0 0, .int .i64 0, .int .i64 0]
  o : Bk W (w.heap.size + 1) 31 #[vi, .int .i64 0, .int .i64 0]
  i : W.ownsRow w.heap.size 62 8 vi is.length (progC is)
  l : W.ownsRow w.heap.size 61 2 vl ls.length (labsC ls)
  n : W.ownsRow w.heap.size 9 1 vn ns.length (ns.map bs)
  k : W.ownsRow w.heap.size 3 1 vk ks.length (ks.map (Value.int .i64))

section
variable {w W X w' : World} {is : List Ins} {ls : List (List UInt8 × Int)} {ns : List (List UInt8)} {ks : List Int} {vi vl vn vk v' : Value}

/-- A row of another type is elsewhere. -/
theorem own_unlike {base n size n2 size2 base2 : Nat} {t t2 : TypeId} {v v2 : Value} {xs ys : List Value} (h : W.ownsRow base t size v n xs) (h2 : W.ownsRow base2 t2 size2 v2 n2 ys) (ht : t ≠ t2) : ∀ g, v.ownBlock = some g → ¬ some g = v2.ownBlock := fun g e e2 => by
  obtain ⟨cs, hc⟩ := own_bk h e
  obtain ⟨cs2, hc2⟩ := own_bk h2 e2.symm
  exact Bk.unlike hc hc2 ht rfl
theorem own_unbk {base n size g : Nat} {t t2 : TypeId} {v : Value} {xs : List Value} {cs : Array Value} (h : W.ownsRow base t size v n xs) (h2 : Bk W g t2 cs) (ht : t ≠ t2) : ¬ some g = v.ownBlock := fun e => by
  obtain ⟨cs2, hc2⟩ := own_bk h e.symm
  exact Bk.unlike hc2 h2 ht rfl

theorem AAt.below (h : AAt w W is ls ns ks vi vl vn vk) (hb : Below W.heap.size W X) : AAt w X is ls ns ks vi vl vn vk :=
  ⟨h.b.trans (hb.mono h.b.size), (hb.block _ h.r.lt).trans h.r, (hb.block _ h.o.lt).trans h.o, own_within h.i (within_of_below hb) (by simp), own_within h.l (within_of_below hb) (by simp), own_within h.n (within_of_below hb) (by simp), own_within h.k (within_of_below hb) (by simp)⟩

theorem grown_row {v : Value} (hX : Below W.heap.size W X) (hg : X.grownBy w' v.ownBlock) : Within W w' (fun b => some b = v.ownBlock) :=
  ((within_of_below hX).wide (by simp)).then_ (.of_grown (S := fun b => some b = v.ownBlock) hg (by rintro i e; exact .inl e.symm)) (by rintro i e; exact .inl e)

theorem row_below {v : Value} {base n size : Nat} {t : TypeId} {xs : List Value} (hb : Below base w W) (hs : base ≤ W.heap.size) (h : W.ownsRow base t size v n xs) (hW : Within W w' (fun b => some b = v.ownBlock)) : Below base w w' :=
  hb.trans (below_of_within hW (B := base) (fun b e => (World.ownsRow.lt h b e.symm).1) hs)

/-- One label more. -/
theorem AAt.lab (h : AAt w W is ls ns ks vi vl vn vk) (hX : Below W.heap.size W X) (hg : X.grownBy w' vl.ownBlock) {x : List UInt8 × Int} (ho : w'.ownsRow w.heap.size 61 2 v' (ls.length + 1) (labsC ls ++ labC x)) : AAt w w' is (ls ++ [x]) ns ks vi v' vn vk := by
  have hW := grown_row hX hg
  exact ⟨row_below h.b h.b.size h.l hW, h.r.within hW (own_unbk h.l h.r (by decide)), h.o.within hW (own_unbk h.l h.o (by decide)), own_within h.i hW (own_unlike h.i h.l (by decide)), by rw [labsC_snoc, List.length_append]; exact ho, own_within h.n hW (own_unlike h.n h.l (by decide)), own_within h.k hW (own_unlike h.k h.l (by decide))⟩
/-- One name more. -/
theorem AAt.nam (h : AAt w W is ls ns ks vi vl vn vk) (hX : Below W.heap.size W X) (hg : X.grownBy w' vn.ownBlock) {x : List UInt8} (ho : w'.ownsRow w.heap.size 9 1 v' (ns.length + 1) (ns.map bs ++ [bs x])) : AAt w w' is ls (ns ++ [x]) ks vi vl v' vk := by
  have hW := grown_row hX hg
  exact ⟨row_below h.b h.b.size h.n hW, h.r.within hW (own_unbk h.n h.r (by decide)), h.o.within hW (own_unbk h.n h.o (by decide)), own_within h.i hW (own_unlike h.i h.n (by decide)), own_within h.l hW (own_unlike h.l h.n (by decide)), by rw [List.map_append, List.length_append]; exact ho, own_within h.k hW (own_unlike h.k h.n (by decide))⟩
/-- One line more. -/
theorem AAt.lin (h : AAt w W is ls ns ks vi vl vn vk) (hX : Below W.heap.size W X) (hg : X.grownBy w' vk.ownBlock) {x : Int} (ho : w'.ownsRow w.heap.size 3 1 v' (ks.length + 1) (ks.map (Value.int .i64) ++ [.int .i64 x])) : AAt w w' is ls ns (ks ++ [x]) vi vl vn v' := by
  have hW := grown_row hX hg
  exact ⟨row_below h.b h.b.size h.k hW, h.r.within hW (own_unbk h.k h.r (by decide)), h.o.within hW (own_unbk h.k h.o (by decide)), own_within h.i hW (own_unlike h.i h.k (by decide)), own_within h.l hW (own_unlike h.l h.k (by decide)), own_within h.n hW (own_unlike h.n h.k (by decide)), by rw [List.map_append, List.length_append]; exact ho⟩
/-- One instruction more: behind its append, ahead of its store; behind both. -/
theorem AAt.mid (h : AAt w W is ls ns ks vi vl vn vk) (hX : Below W.heap.size W X) (hg : X.grownBy w' vi.ownBlock) : Bk w' (w.heap.size + 1) 31 #[vi, .int .i64 0, .int .i64 0] :=
  h.o.within (grown_row hX hg) (own_unbk h.i h.o (by decide))
theorem AAt.ins (h : AAt w W is ls ns ks vi vl vn vk) (hX : Below W.heap.size W X) (hg : X.grownBy w' vi.ownBlock) {x : Ins} (ho : w'.ownsRow w.heap.size 62 8 v' (is.length + 1) (progC is ++ insC x)) : AAt w (w'.setCell ⟨w.heap.size + 1, 0, none⟩ v') (is ++ [x]) ls ns ks v' vl vn vk := by
  have hW := grown_row hX hg
  have hB := row_below h.b h.b.size h.i hW
  have h2 : Within w' (w'.setCell ⟨w.heap.size + 1, 0, none⟩ v') (fun b => b = w.heap.size + 1) := (Within.refl w' _).put _ _ _ (.inl rfl)
  have hr := h.r.within hW (own_unbk h.i h.r (by decide))
  have hO := h.o.within hW (own_unbk h.i h.o (by decide))
  have hl := own_within h.l hW (own_unlike h.l h.i (by decide))
  have hn := own_within h.n hW (own_unlike h.n h.i (by decide))
  have hk := own_within h.k hW (own_unlike h.k h.i (by decide))
  refine ⟨hB.setCell (by show w.heap.size ≤ w.heap.size + 1; omega) _, hr.within h2 (by omega), hO.put 0 v', ?_, own_within hl h2 ?_, own_within hn h2 ?_, own_within hk h2 ?_⟩
  · rw [progC_snoc, List.length_append]
    refine own_within ho h2 ?_
    rintro g e rfl
    exact own_unbk ho hO (by decide) e.symm
  · rintro g e rfl
    exact own_unbk hl hO (by decide) e.symm
  · rintro g e rfl
    exact own_unbk hn hO (by decide) e.symm
  · rintro g e rfl
    exact own_unbk hk hO (by decide) e.symm

theorem AAt.ls_at (h : AAt w W is ls ns ks vi vl vn vk) : ∃ a cap, vl = .slice a ls.length cap ∧ ls.length ≤ cap ∧ cap ≤ maxLen ∧ LsAt W a ls := by
  obtain ⟨a, cap, rfl, h1, h2, hg⟩ := own_is h.l
  refine ⟨a, cap, rfl, h1, h2, fun j x hx => ?_⟩
  have hj := (List.getElem?_eq_some_iff.1 hx).1
  obtain ⟨g, rfl, _, _, hlt, _, hc⟩ := hg (by omega)
  refine ⟨g, rfl, hlt, ?_, ?_⟩
  · have := hc (j * 2) (by omega)
    rw [this]
    have := labsC_at hx (j := 0) (by omega)
    rw [Nat.add_zero] at this
    rw [this]
    rfl
  · have := hc (j * 2 + 1) (by omega)
    rw [this, labsC_at hx (j := 1) (by omega)]
    rfl
end

/-- An element of a row of one-cell values. -/
theorem one_at {W : World} {base n m cap : Nat} {t : TypeId} {a : Option Addr} {xs : List Value} (h : W.ownsRow base t 1 (.slice a m cap) n xs) {j : Nat} {u : Value} (hj : xs[j]? = some u) : ∃ g, a = some ⟨g, 0, none⟩ ∧ g < W.heap.size ∧ W.cell? ⟨g, j, none⟩ = some u := by
  have hl := h.1
  have hlt := (List.getElem?_eq_some_iff.1 hj).1
  obtain ⟨a2, cap2, e, _, _, hg⟩ := own_is h
  simp only [Value.slice.injEq] at e
  obtain ⟨rfl, -, -⟩ := e
  obtain ⟨g, rfl, _, _, hgl, _, hc⟩ := hg (by omega)
  exact ⟨g, rfl, hgl, by rw [hc j (by omega), hj]⟩
theorem progC_set : ∀ (l : List Ins) (j : Nat) (i : Ins) (p : Int), l[j]? = some i → progC (l.set j { i with pl := p }) = (progC l).set (j * 8 + 7) (.int .i64 p)
  | [], j, i, p, h => by simp at h
  | x :: l, 0, i, p, h => by
    simp at h
    subst h
    rfl
  | x :: l, j + 1, i, p, h => by
    have ih := progC_set l j i p (by simpa using h)
    have e : (j + 1) * 8 + 7 = 8 + (j * 8 + 7) := by omega
    show insC x ++ progC (l.set j { i with pl := p }) = (insC x ++ progC l).set ((j + 1) * 8 + 7) _
    rw [ih, e, List.set_append_right _ _ (by rw [insC_len]; omega), insC_len]
    congr 2
    omega
/-- Where an instruction's place lies; it is another. -/
theorem AAt.place {w W : World} {is : List Ins} {ls : List (List UInt8 × Int)} {ns : List (List UInt8)} {ks : List Int} {vl vn vk : Value} {a : Option Addr} {n cap : Nat} (h : AAt w W is ls ns ks (.slice a n cap) vl vn vk) {j : Nat} {i : Ins} (hj : is[j]? = some i) : ∃ g, a = some ⟨g, 0, none⟩ ∧ g < W.heap.size ∧ w.heap.size ≤ g ∧ W.cell? ⟨g, j * 8 + 7, none⟩ = some (.int .i64 i.pl) ∧ (∀ o, W.frozen? ⟨g, o, none⟩ = false) := by
  have hlt := (List.getElem?_eq_some_iff.1 hj).1
  obtain ⟨a2, cap2, e, _, _, hg⟩ := own_is h.i
  simp only [Value.slice.injEq] at e
  obtain ⟨rfl, -, -⟩ := e
  obtain ⟨g, rfl, _, hge, hgl, hf, hc⟩ := hg (by omega)
  refine ⟨g, rfl, hgl, hge, ?_, hf⟩
  rw [hc _ (by omega), progC_at hj (by omega)]
  rfl
theorem AAt.to_ {w W : World} {is : List Ins} {ls : List (List UInt8 × Int)} {ns : List (List UInt8)} {ks : List Int} {vl vn vk : Value} {g n cap : Nat} (h : AAt w W is ls ns ks (.slice (some ⟨g, 0, none⟩) n cap) vl vn vk) {j : Nat} {i : Ins} (hj : is[j]? = some i) (p : Int) :
    AAt w (W.setCell ⟨g, j * 8 + 7, none⟩ (.int .i64 p)) (is.set j { i with pl := p }) ls ns ks (.slice (some ⟨g, 0, none⟩) n cap) vl vn vk := by
  have hn : n = is.length := by
    obtain ⟨a2, cap2, e, _, _, _⟩ := own_is h.i
    simp only [Value.slice.injEq] at e
    exact e.2.1
  subst hn
  have h2 : Within W (W.setCell ⟨g, j * 8 + 7, none⟩ (.int .i64 p)) (fun b => some b = (Value.slice (some ⟨g, 0, none⟩) is.length cap).ownBlock) := (Within.refl W _).put _ _ _ (.inl rfl)
  refine ⟨row_below h.b h.b.size h.i h2, h.r.within h2 (own_unbk h.i h.r (by decide)), h.o.within h2 (own_unbk h.i h.o (by decide)), ?_, own_within h.l h2 (own_unlike h.l h.i (by decide)), own_within h.n h2 (own_unlike h.n h.i (by decide)), own_within h.k h2 (own_unlike h.k h.i (by decide))⟩
  rw [progC_set is j i p hj, List.length_set]
  exact (World.ownsRow.stored h.i (j * 8 + 7) (.int .i64 p)).1

-- bytes of a text, up to an end of line

/-- What has been read: the first ln lines, up to byte fr; no end of line between fr and k. -/
structure LpA (text : List UInt8) (fr k ln : Nat) (ls : List (List UInt8 × Int)) (rs : List (Ins × List UInt8 × Int)) : Prop where
  fk : fr ≤ k
  lk : ln ≤ k
  few : rs.length ≤ 64
  many : ls.length ≤ k
  no : Nl ((text.take k).drop fr)
  go : asmL text = asmGo (text.drop fr) ((ln : Int) + 1) ls rs
section
variable {text : List UInt8} {fr k ln : Nat} {ls : List (List UInt8 × Int)} {rs : List (Ins × List UInt8 × Int)}
theorem cut_snoc (h : fr ≤ k) (hk : k < text.length) : (text.take (k + 1)).drop fr = (text.take k).drop fr ++ [text[k]] := by
  have e : text.take (k + 1) = text.take k ++ [text[k]] := by simp
  rw [e, List.drop_append, List.length_take, Nat.min_eq_left (by omega), show fr - k = 0 by omega]
  rfl
theorem cut_split (h : fr ≤ k) (hk : k < text.length) : text.drop fr = (text.take k).drop fr ++ text[k] :: text.drop (k + 1) := by
  have e : text = text.take k ++ text[k] :: text.drop (k + 1) := by
    rw [List.getElem_cons_drop hk, List.take_append_drop]
  have e2 : text.drop fr = (text.take k ++ text[k] :: text.drop (k + 1)).drop fr := congrArg (List.drop fr) e
  rw [e2, List.drop_append, List.length_take, Nat.min_eq_left (by omega), show fr - k = 0 by omega]
  rfl
theorem LpA.on (h : LpA text fr k ln ls rs) (hk : k < text.length) (hc : text[k] ≠ 10) : LpA text fr (k + 1) ln ls rs := by
  refine ⟨by have := h.fk; omega, by have := h.lk; omega, h.few, by have := h.many; omega, ?_, h.go⟩
  rw [cut_snoc h.fk hk]
  exact Nl.app h.no (fun c hc' => by simp at hc'; subst hc'; exact hc)
/-- At an end of line. -/
theorem LpA.line (h : LpA text fr k ln ls rs) (hk : k < text.length) (hc : text[k] = 10) : asmL text = asmGo ((text.take k).drop fr ++ 10 :: text.drop (k + 1)) ((ln : Int) + 1) ls rs := by
  rw [h.go, cut_split h.fk hk, hc]
theorem LpA.next (h : LpA text fr k ln ls rs) (hk : k < text.length) {ls2 : List (List UInt8 × Int)} {rs2 : List (Ins × List UInt8 × Int)} (hf : rs2.length ≤ 64) (hm : ls2.length ≤ ls.length + 1) (hg : asmL text = asmGo (text.drop (k + 1)) ((ln : Int) + 1 + 1) ls2 rs2) : LpA text (k + 1) (k + 1) (ln + 1) ls2 rs2 := by
  refine ⟨Nat.le_refl _, by have := h.lk; omega, hf, by have := h.many; omega, ?_, by rw [hg]; push_cast; rfl⟩
  intro c hc
  rw [List.drop_of_length_le (by simp; omega)] at hc
  cases hc
theorem LpA.twice (h : LpA text fr k ln ls rs) (hk : k < text.length) (hc : text[k] = 10) (hl : lbB ((text.take k).drop fr) = true) (ha : (ls.any fun x => x.1 == ((text.take k).drop fr).dropLast) = true) : asmL text = (Prg.zero, (ln : Int) + 1, 2) := by
  rw [h.line hk hc, asmGo_line _ _ h.no, if_pos hl, if_pos ha]
theorem LpA.label (h : LpA text fr k ln ls rs) (hk : k < text.length) (hc : text[k] = 10) (hl : lbB ((text.take k).drop fr) = true) (ha : (ls.any fun x => x.1 == ((text.take k).drop fr).dropLast) = false) : LpA text (k + 1) (k + 1) (ln + 1) (ls ++ [(((text.take k).drop fr).dropLast, (rs.length : Int))]) rs :=
  h.next hk h.few (by simp) (by rw [h.line hk hc, asmGo_line _ _ h.no, if_pos hl, if_neg (by rw [ha]; simp)])
theorem LpA.none_ (h : LpA text fr k ln ls rs) (hk : k < text.length) (hc : text[k] = 10) (hl : lbB ((text.take k).drop fr) = false) (hn : lineL ((text.take k).drop fr) = none) : asmL text = (Prg.zero, (ln : Int) + 1, 8) := by
  rw [h.line hk hc, asmGo_line _ _ h.no, if_neg (by rw [hl]; simp), hn]
theorem LpA.big (h : LpA text fr k ln ls rs) (hk : k < text.length) (hc : text[k] = 10) (hl : lbB ((text.take k).drop fr) = false) {i : Ins} {nm : List UInt8} (hn : lineL ((text.take k).drop fr) = some (i, nm)) (hb : 64 ≤ rs.length) : asmL text = (Prg.zero, (ln : Int) + 1, 9) := by
  rw [h.line hk hc, asmGo_line _ _ h.no, if_neg (by rw [hl]; simp), hn]
  simp only
  rw [if_pos hb]
theorem LpA.row (h : LpA text fr k ln ls rs) (hk : k < text.length) (hc : text[k] = 10) (hl : lbB ((text.take k).drop fr) = false) {i : Ins} {nm : List UInt8} (hn : lineL ((text.take k).drop fr) = some (i, nm)) (hb : rs.length < 64) : LpA text (k + 1) (k + 1) (ln + 1) ls (rs ++ [(i, nm, (ln : Int) + 1)]) :=
  h.next hk (by simp; omega) (by omega) (by
    rw [h.line hk hc, asmGo_line _ _ h.no, if_neg (by rw [hl]; simp), hn]
    simp only
    rw [if_neg (by omega)])
theorem LpA.short (h : LpA text fr text.length ln ls rs) (hf : fr < text.length) : asmL text = (Prg.zero, (ln : Int) + 1, 8) := by
  have hn := h.no
  rw [List.take_length] at hn
  rw [h.go, asmGo_end _ hn, if_pos (by intro e; have := congrArg List.length e; simp at this; omega)]
theorem LpA.end_ (h : LpA text fr text.length ln ls rs) (hf : ¬ fr < text.length) : asmL text = finishL ls rs := by
  have hn := h.no
  rw [List.take_length] at hn
  rw [h.go, asmGo_end _ hn, if_neg (by rw [List.drop_of_length_le (by omega)]; simp)]
end

/-- What the document's Assemble leaves. -/
def Asmr (w : World) (text : List UInt8) (e : Ending) (w' : World) : Prop :=
  ∃ v, e = .returned (.tuple #[v, .int .i64 (asmL text).2.1, .int .i64 (asmL text).2.2]) ∧ Pv w' v (asmL text).1 ∧ Below w.heap.size w w'
theorem asmr_no {w w' : World} {text : List UInt8} {n e : Int} (h : asmL text = (Prg.zero, n, e)) (hb : Below w.heap.size w w') : Asmr w text (.returned (.tuple #[.agg #[.slice none 0 0, .int .i64 0, .int .i64 0], .int .i64 n, .int .i64 e])) w' := by
  unfold Asmr
  rw [h]
  exact ⟨_, rfl, ⟨none, 0, rfl, by simp [Prg.zero], by simp, fun _ => rfl, fun h => by simp [Prg.zero] at h⟩, hb⟩
end Go.Proofs.YteohnkilchkhkaaGreatDoor
