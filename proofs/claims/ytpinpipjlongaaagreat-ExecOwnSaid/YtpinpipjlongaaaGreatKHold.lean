/- Hold, InstB, PrgM, Ints, HandleB, Ring, InstR. -/
import Derived.Test.YtpinpipjlongaaaGreatKMem
import Derived.Deep.RegionLaw
import Derived.Laws.BitsAllLaws
import Derived.Deep.QuietTactic
import Derived.BigQuiet
import Derived.StillTailTactics
import Derived.Deep.RegionHeld3
import Derived.RegionTactic
import Derived.Laws.Pointers
import Derived.Maps.OwnSet
import Derived.Deep.WholeRow
import Derived.Laws.Tables
/- A region that draws its order and holds one store into a block that it has made itself, at whatever place: over any program. -/
namespace Go.Proofs.YtpinpipjlongaaaGreat
open Go.ChangeShapes Go.WideShapes Go.ChangeAt Go.RowKit
set_option linter.unusedVariables false

/-- What one operation leaves: as 'leaves', but of the world nothing is asked. -/
def leavesK (P : Program) (K : Value → World → Prop) : Result Next → Prop
  | .ok (.value v) W' => K v W'
  | .ok .skip W' => K undef W'
  | .ok (.enter f args) W' => Calls P f args W' fun e W2 => ∃ v, e = .returned v ∧ K v W2
  | _ => False
def leavesIf (P : Program) (ops : Array Oper) (K : Value → World → Prop) (o : Oper) (a : Act) (W : World) : Prop :=
  if Region.wanted o (yielded ops a.tmps) = true then leavesK P K ((execOp a.eval o).run P W) else K undef W
theorem leavesIf_of {P : Program} {ops : Array Oper} {F : Value → World → Prop} {K : Value → World → Prop} {o : Oper} {a : Act} {W : World} (h : leavesOp P ops F o a W) (hK : ∀ v W', F v W' → Below W.heap.size W W' → K v W') : leavesIf P ops K o a W := by
  unfold leavesOp at h
  unfold leavesIf
  by_cases hw : Region.wanted o (yielded ops a.tmps) = true
  · rw [if_pos hw] at h ⊢
    generalize (execOp a.eval o).run P W = r at *
    cases r with
    | ok x W' =>
      cases x <;> simp only [leaves, leavesK] at h ⊢
      · exact hK _ _ h.1 h.2
      · exact hK _ _ h.1 h.2
      · exact h.mono fun e W2 ⟨v, he, h1, h2⟩ => ⟨v, he, hK _ _ h1 h2⟩
    | halt x W' => simp only [leaves] at h
  · rw [if_neg hw] at h ⊢
    exact hK _ _ h (Below.refl _ _)
theorem leavesIf_free {P : Program} {ops : Array Oper} {K : Value → World → Prop} {o : Oper} {a : Act} {W : World} (hg : o.guard = none) (h : leavesK P K ((execOp a.eval o).run P W)) : leavesIf P ops K o a W := by
  unfold leavesIf
  rw [if_pos (by simp [Region.wanted, hg])]
  exact h
theorem leavesIf_mono {P : Program} {ops : Array Oper} {K K' : Value → World → Prop} {o : Oper} {a : Act} {W : World} (h : leavesIf P ops K o a W) (hK : ∀ v W', K v W' → K' v W') : leavesIf P ops K' o a W := by
  unfold leavesIf at *
  by_cases hw : Region.wanted o (yielded ops a.tmps) = true
  · rw [if_pos hw] at h ⊢
    generalize (execOp a.eval o).run P W = r at *
    cases r with
    | ok x W' =>
      cases x <;> simp only [leavesK] at h ⊢
      · exact hK _ _ h
      · exact hK _ _ h
      · exact h.mono fun e W2 ⟨v, he, h1⟩ => ⟨v, he, hK _ _ h1⟩
    | halt x W' => simp only [leavesK] at h
  · rw [if_neg hw] at h ⊢
    exact hK _ _ h

theorem wp_region_holds {P : Program} {ops : Array Oper} {Q : Exit → Act → World → Prop} {id : Nat} {a : Act} {w : World} (hm : P.follows .mixedOrders = true) (hr : relyB ops = true) (I : (Nat → Bool) → (Nat → Value) → World → Prop)
    (h0 : I (fun _ => false) (fun _ => undef) w.drew)
    (hop : ∀ i o, ops[i]? = some o → ∀ (d : Nat → Bool) (vs : Nat → Value) W, I d vs W → d i = false → (∀ j ∈ depsOf ops i, d j = true) → leavesIf P ops (fun v W' => I (fun j => if j = i then true else d j) (fun j => if j = i then v else vs j) W') o (frameOf ops a (fun _ => true) vs) W)
    (hend : ∀ (d : Nat → Bool) (vs : Nat → Value) W, I d vs W → (∀ i, i < ops.size → d i = true) → Q .normal (frameOf ops a (fun _ => true) vs) W) : (Code.region id ops true).wp P Q a w := by
  have hR : ∀ i o, ops[i]? = some o → noSel o.op = true ∧ (∀ t ∈ o.looksAt ops, ∀ j, ownOf ops t = some j → j ∈ depsOf ops i) ∧ (∀ x, o.dst = some x → ownOf ops x = some i) ∧ ∀ j ∈ depsOf ops i, j < i := by
    intro i o ho
    have hi : i < ops.size := (Array.getElem?_eq_some_iff.1 ho).1
    unfold relyB at hr
    have h := List.all_eq_true.1 hr i (List.mem_range.2 hi)
    rw [ho] at h
    simp only [Bool.and_eq_true] at h
    refine ⟨h.1.1.1, fun t ht j hj => ?_, fun x hx => ?_, fun j hj => ?_⟩
    · have := List.all_eq_true.1 h.1.1.2 t ht
      rw [hj] at this
      simpa using this
    · have := h.1.2
      rw [hx] at this
      simpa using this
    · have := List.all_eq_true.1 h.2 j hj
      simpa using this
  have hN : ∀ t i o, ops[i]? = some o → ownOf ops t = some i → o.dst = some t := by
    intro t i o ho h
    have := List.find?_some h
    simp only [dstOf, ho, Option.bind_some, beq_iff_eq] at this
    exact this
  refine wp_region_inv hm (fun listed a' W => ∃ vs : Nat → Value, listed.size = ops.size ∧ a' = frameOf ops a (fun i => listed.getD i false) vs ∧ I (fun i => listed.getD i false) vs W) ?_ ?_ ?_
  · have e : (fun i => (Array.replicate ops.size false).getD i false) = fun _ => false := by
      funext i
      rw [Array.getD_eq_getD_getElem?, Array.getElem?_replicate]
      split <;> rfl
    refine ⟨fun _ => undef, by simp, ?_, ?_⟩
    · rw [e, frame_none]
    · rw [e]; exact h0
  · rintro listed a' W i ⟨vs, hsz, rfl, hI⟩ hi
    have hfree := ready_free hi
    have hready := hi
    unfold Region.ready at hready
    rw [List.mem_filter, List.mem_range] at hready
    obtain ⟨hlt, hc⟩ := hready
    simp only [Bool.and_eq_true] at hc
    have hc2 := hc.2
    have ho : ops[i]? = some ops[i] := Array.getElem?_eq_getElem hlt
    rw [ho] at hc2
    simp only [Option.map_some, Option.getD_some] at hc2
    rw [← Array.all_toList, List.all_eq_true] at hc2
    generalize ops[i] = o at *
    obtain ⟨r1, r2, r3, r4⟩ := hR i o ho
    have hdep : ∀ j ∈ depsOf ops i, listed.getD j false = true := by
      intro j hj
      unfold depsOf at hj
      rw [ho] at hj
      simp only [List.mem_map, List.mem_filter] at hj
      obtain ⟨e, ⟨he, hb⟩, rfl⟩ := hj
      have := hc2 e he
      simpa [hb] using this
    obtain ⟨s1, s2⟩ := frame_same ops a (fun i => listed.getD i false) vs o r1 fun t ht j hj => hdep j (r2 t ht j hj)
    have hif : listed.getD i false = false := by
      rw [Array.getD_eq_getD_getElem?, ← Array.getElem?_toList, hfree]; rfl
    have hl := hop i o ho (fun i => listed.getD i false) vs W hI hif hdep
    have eg : (fun j => (listed.setIfInBounds i true).getD j false) = fun j => if j = i then true else listed.getD j false := by
      funext j
      rw [Array.getD_eq_getD_getElem?, Array.getElem?_setIfInBounds, Array.getD_eq_getD_getElem?]
      by_cases e : j = i
      · subst e
        simp [hsz, hlt]
      · rw [if_neg (fun e2 => e e2.symm), if_neg e]
    have next : ∀ v W', I (fun j => if j = i then true else listed.getD j false) (fun j => if j = i then v else vs j) W' → ∃ vs' : Nat → Value, (listed.setIfInBounds i true).size = ops.size ∧ (frameOf ops a (fun i => listed.getD i false) vs).put o.dst v = frameOf ops a (fun j => (listed.setIfInBounds i true).getD j false) vs' ∧ I (fun j => (listed.setIfInBounds i true).getD j false) vs' W' := by
      intro v W' hK
      refine ⟨fun j => if j = i then v else vs j, by simpa using hsz, ?_, ?_⟩
      · rw [eg]
        exact frame_put ops a _ vs i o ho r3 (fun t ht => hN t i o ho ht) hif v
      · rw [eg]; exact hK
    unfold wpOp
    rw [ho]
    simp only
    unfold leavesIf at hl
    rw [s2]
    by_cases hw : Region.wanted o (yielded ops (frameOf ops a (fun _ => true) vs).tmps) = true
    · rw [if_pos hw] at hl ⊢
      refine .inl ?_
      unfold Oper.wp
      rw [s1]
      generalize (execOp (frameOf ops a (fun _ => true) vs).eval o).run P W = r at *
      cases r with
      | ok x W' =>
        cases x <;> simp only [leavesK] at hl
        · rw [Oper.upon_value]; exact next _ _ hl
        · rw [Oper.upon_skip]; exact next _ _ hl
        · rw [Oper.upon_enter]
          refine hl.mono ?_
          rintro e W2 ⟨v, rfl, h1⟩
          exact next _ _ h1
      | halt x W' => simp only [leavesK] at hl
    · rw [if_neg hw] at hl ⊢
      exact next _ _ hl
  · rintro listed a' W ⟨vs, hsz, rfl, hI⟩ he
    have hall : ∀ n i, i < n → i < ops.size → listed.getD i false = true := by
      intro n
      induction n with
      | zero => intro i h; omega
      | succ n ih =>
        intro i h hi
        by_cases hin : i < n
        · exact ih i hin hi
        · obtain rfl : i = n := by omega
          cases hl : listed.getD i false with
          | true => rfl
          | false =>
            exfalso
            have hm2 : i ∈ Region.ready .any ops listed := by
              unfold Region.ready
              rw [List.mem_filter, List.mem_range]
              refine ⟨hi, ?_⟩
              have ho : ops[i]? = some ops[i] := Array.getElem?_eq_getElem hi
              have hd := (hR i _ ho).2.2.2
              rw [ho]
              simp only [Option.map_some, Option.getD_some, Bool.and_eq_true]
              constructor
              · rw [Array.getD_eq_getD_getElem?] at hl ⊢
                rw [Array.getElem?_eq_getElem (by omega)] at hl ⊢
                simp at hl ⊢
                exact hl
              · rw [← Array.all_toList, List.all_eq_true]
                intro e he
                by_cases hb : Region.binds .any e = true
                · have hmem : e.on ∈ depsOf ops i := by
                    unfold depsOf
                    rw [ho]
                    simp only [List.mem_map, List.mem_filter]
                    exact ⟨e, ⟨he, hb⟩, rfl⟩
                  have hlt := hd _ hmem
                  rw [ih e.on hlt (by omega)]
                  simp
                · simp [hb]
            rw [he] at hm2
            cases hm2
    have e : frameOf ops a (fun i => listed.getD i false) vs = frameOf ops a (fun _ => true) vs := by
      have key : (frameOf ops a (fun i => listed.getD i false) vs).tmps = (frameOf ops a (fun _ => true) vs).tmps := by
        apply Array.ext_getElem?
        intro t
        rw [frame_at, frame_at]
        cases h2 : ownOf ops t with
        | none => rfl
        | some i =>
          have hlt : i < ops.size := List.mem_range.1 (List.mem_of_find?_eq_some h2)
          simp [hall (i + 1) i (by omega) hlt]
      have e1 : frameOf ops a (fun i => listed.getD i false) vs = ⟨(frameOf ops a (fun i => listed.getD i false) vs).tmps, a.defers⟩ := rfl
      have e2 : frameOf ops a (fun _ => true) vs = ⟨(frameOf ops a (fun _ => true) vs).tmps, a.defers⟩ := rfl
      rw [e1, e2, key]
    rw [e]
    exact hend _ vs W hI fun i hi => hall (i + 1) i (by omega) hi

/-- .. operation by operation, but for some. -/
def eachBut (P : Program) (ops : Array Oper) (F : Nat → Value → World → Prop) (lit : (Nat → Value) → Act) (w : World) (sk : Nat → Bool) : List Oper → Nat → Prop
  | [], _ => True
  | o :: rest, i => (sk i = false → ∀ (vs : Nat → Value) W, Below w.heap.size w W → (∀ j ∈ depsOf ops i, sk j = false → F j (vs j) W) → leavesOp P ops (F i) o (lit vs) W) ∧ eachBut P ops F lit w sk rest (i + 1)
theorem eachBut_at {P : Program} {ops : Array Oper} {F : Nat → Value → World → Prop} {lit : (Nat → Value) → Act} {w : World} {sk : Nat → Bool} : ∀ (l : List Oper) (n : Nat), eachBut P ops F lit w sk l n → ∀ i o, l[i]? = some o → sk (n + i) = false → ∀ (vs : Nat → Value) W, Below w.heap.size w W → (∀ j ∈ depsOf ops (n + i), sk j = false → F j (vs j) W) → leavesOp P ops (F (n + i)) o (lit vs) W
  | [], n, _, i, o, h => by simp at h
  | x :: l, n, hx, 0, o, h => by
    simp at h
    subst h
    exact hx.1
  | x :: l, n, hx, i + 1, o, h => by
    have := eachBut_at l (n + 1) hx.2 i o (by simpa using h)
    rw [show n + 1 + i = n + (i + 1) by omega] at this
    exact this

/-- Operation na makes a block of cells cs0, operation ns stores into it (what it is then: 'put', 'done'); all others leave what F says, and change nothing. -/
theorem wp_region_put {P : Program} {l : List Oper} {Q : Exit → Act → World → Prop} {id : Nat} {a : Act} {w : World} (na ns : Nat) (t : TypeId) (cs0 : Array Value) (put : World → Nat → World) (done : World → Nat → Prop) (lit : (Nat → Value) → Act) (F : Nat → Value → World → Prop)
    (hm : P.follows .mixedOrders = true) (hr : relyB l.toArray = true) (hns : (na != ns && (depsOf l.toArray ns).contains na) = true) (hlen : (decide (na < l.length) && decide (ns < l.length)) = true) (hlit : ∀ vs, frameOf l.toArray a (fun _ => true) vs = lit vs)
    (hst : ∀ i v W W', F i v W → Below W.heap.size W W' → F i v W')
    (hst2 : ∀ i v W b, F i v W → Bk W b t cs0 → F i v (put W b))
    (hd1 : ∀ W W' b, done W b → Below W.heap.size W W' → done W' b)
    (hbel : ∀ W b, w.heap.size ≤ b → Below w.heap.size w W → Below w.heap.size w (put W b))
    (hdone : ∀ W b, Bk W b t cs0 → done (put W b) b)
    (hnew : ∀ o, l[na]? = some o → ∀ (vs : Nat → Value) W, Below w.heap.size w W → leavesOp P l.toArray (fun v W' => ∃ b, v = .pointer (some ⟨b, 0, none⟩) ∧ w.heap.size ≤ b ∧ Bk W' b t cs0) o (lit vs) W)
    (hsto : ∀ o, l[ns]? = some o → ∀ (vs : Nat → Value) W b, Below w.heap.size w W → (∀ j ∈ depsOf l.toArray ns, (decide (j = na) || decide (j = ns)) = false → F j (vs j) W) → vs na = .pointer (some ⟨b, 0, none⟩) → Bk W b t cs0 → leavesIf P l.toArray (fun _ W' => W' = put W b) o (lit vs) W)
    (hop : eachBut P l.toArray F lit w (fun j => decide (j = na) || decide (j = ns)) l 0)
    (hend : ∀ (vs : Nat → Value) W b, Below w.heap.size w W → (∀ i, i < l.length → (decide (i = na) || decide (i = ns)) = false → F i (vs i) W) → vs na = .pointer (some ⟨b, 0, none⟩) → w.heap.size ≤ b → done W b → Q .normal (lit vs) W) : (Code.region id l.toArray true).wp P Q a w := by
  simp only [Bool.and_eq_true, bne_iff_ne, ne_eq, List.contains_iff_mem, decide_eq_true_eq] at hns hlen
  obtain ⟨hne, hdn⟩ := hns
  refine wp_region_holds hm hr (fun d vs W => Below w.heap.size w W ∧ (∀ i, d i = true → (decide (i = na) || decide (i = ns)) = false → F i (vs i) W) ∧ (d na = true → ∃ b, vs na = .pointer (some ⟨b, 0, none⟩) ∧ w.heap.size ≤ b ∧ ((d ns = false ∧ Bk W b t cs0) ∨ (d ns = true ∧ done W b))) ∧ (d ns = true → d na = true)) ?_ ?_ ?_
  · exact ⟨(Below.refl _ _).drew, (fun i h => by cases h), (fun h => by cases h), (fun h => by cases h)⟩
  · rintro i o ho d vs W ⟨hB, hF, hA, hS⟩ hdi hdep
    have ho' : l[i]? = some o := by simpa using ho
    rw [hlit]
    by_cases hina : i = na
    · subst hina
      have hdns : d ns = false := by
        cases e : d ns with
        | false => rfl
        | true => rw [hS e] at hdi; cases hdi
      refine leavesIf_of (hnew o ho' vs W hB) ?_
      rintro v W' ⟨b, hv, hb, hk⟩ hbw
      dsimp only
      refine ⟨hB.trans (hbw.mono hB.size), fun j hj hsk => ?_, fun _ => ⟨b, by rw [if_pos rfl]; exact hv, hb, .inl ⟨by rw [if_neg (fun e => hne e.symm)]; exact hdns, hk⟩⟩, fun _ => by rw [if_pos rfl]⟩
      have hji : j ≠ i := fun e => by subst e; simp at hsk
      rw [if_neg hji] at hj ⊢
      exact hst j _ _ _ (hF j hj hsk) hbw
    · by_cases hins : i = ns
      · subst hins
        have hdna := hdep na hdn
        obtain ⟨b, hv, hb, ⟨_, hk⟩ | ⟨h, _⟩⟩ := hA hdna
        · refine leavesIf_mono (hsto o ho' vs W b hB (fun j hj hsk => hF j (hdep j hj) hsk) hv hk) ?_
          rintro v W' rfl
          dsimp only
          refine ⟨hbel W b hb hB, fun j hj hsk => ?_, fun _ => ⟨b, by rw [if_neg hne]; exact hv, hb, .inr ⟨by rw [if_pos rfl], hdone W b hk⟩⟩, fun _ => by rw [if_neg hne]; exact hdna⟩
          have hji : j ≠ i := fun e => by subst e; simp at hsk
          rw [if_neg hji] at hj ⊢
          exact hst2 j _ _ _ (hF j hj hsk) hk
        · rw [hdi] at h; cases h
      · have hsk0 : (decide (i = na) || decide (i = ns)) = false := by simp [hina, hins]
        have := eachBut_at l 0 hop i o ho' (by rw [Nat.zero_add]; exact hsk0) vs W hB (by rw [Nat.zero_add]; exact fun j hj hsk => hF j (hdep j hj) hsk)
        rw [Nat.zero_add] at this
        refine leavesIf_of this ?_
        intro v W' hv hbw
        dsimp only
        refine ⟨hB.trans (hbw.mono hB.size), fun j hj hsk => ?_, fun h => ?_, fun h => ?_⟩
        · by_cases e : j = i
          · subst e; rw [if_pos rfl]; exact hv
          · rw [if_neg e] at hj ⊢
            exact hst j _ _ _ (hF j hj hsk) hbw
        · rw [if_neg (fun e => hina e.symm)] at h ⊢
          obtain ⟨b, h1, h2, h3⟩ := hA h
          rw [if_neg (fun e => hins e.symm)]
          refine ⟨b, h1, h2, ?_⟩
          rcases h3 with ⟨h3, h4⟩ | ⟨h3, h4⟩
          · exact .inl ⟨h3, (hbw.block b h4.lt).trans h4⟩
          · exact .inr ⟨h3, hd1 _ _ _ h4 hbw⟩
        · rw [if_neg (fun e => hins e.symm)] at h
          rw [if_neg (fun e => hina e.symm)]
          exact hS h
  · rintro d vs W ⟨hB, hF, hA, hS⟩ hall
    rw [hlit]
    obtain ⟨b, h1, h2, ⟨h3, _⟩ | ⟨_, h4⟩⟩ := hA (hall na (by simpa using hlen.1))
    · rw [hall ns (by simpa using hlen.2)] at h3; cases h3
    · exact hend vs W b hB (fun i hi hsk => hF i (hall i (by simpa using hi)) hsk) h1 h2 h4
/-- What a mixed table says stands behind a change, if its parts do. -/
theorem mixT_keep {R : World → World → Prop} {ps : List (Nat × (Value → World → Prop))} {l : List Value} (h : ∀ x ∈ ps, ∀ v W W', x.2 v W → R W W' → x.2 v W') : ∀ i v W W', mixT ps l i v W → R W W' → mixT ps l i v W' := by
  intro i v W W' hm hb
  unfold mixT at *
  cases hl : ps.lookup i with
  | none => rw [hl] at hm; exact hm
  | some p =>
    rw [hl] at hm
    have : (i, p) ∈ ps := by
      clear hm h
      induction ps with
      | nil => cases hl
      | cons x ps ih =>
        obtain ⟨k, q⟩ := x
        rw [List.lookup_cons] at hl
        by_cases e : i = k
        · subst e; simp at hl; subst hl; exact List.mem_cons_self
        · have e2 : (i == k) = false := by simpa using e
          rw [e2] at hl
          exact List.mem_cons_of_mem _ (ih hl)
    exact h _ this v W W' hm hb
end Go.Proofs.YtpinpipjlongaaaGreat

/- inst.Right. -/
namespace Go.Proofs.YtpinpipjlongaaaGreat
open Go.ChangeShapes Go.WideShapes Go.ChangeAt Go.RowKit
set_option linter.unusedVariables false

theorem run_eqI (i j : Ins) (w : World) : (binOp .eql 45 (iv i) (iv j)).run Tryz.prog w = .ok (.bool (eqI i j)) w := by
  unfold iv
  have hu := Tryz.underlying45
  go_simp
  unfold eqI
  repeat' split
  all_goals simp [*]

/-- Block g is the instruction i. -/
def Ib (w : World) (g : Nat) (i : Ins) : Prop := Bk w g 45 #[.int .i64 i.op, .int .i64 i.d, .int .i64 i.s, .int .i64 i.t, .int .i64 i.u, .int .i64 i.a, .int .u32 i.k, .int .i64 i.pl]
theorem Ib.cells {w : World} {g : Nat} {i : Ins} (h : Ib w g i) :
    w.cell? ⟨g, 0, none⟩ = some (.int .i64 i.op) ∧ w.cell? ⟨g, 1, none⟩ = some (.int .i64 i.d) ∧ w.cell? ⟨g, 2, none⟩ = some (.int .i64 i.s) ∧ w.cell? ⟨g, 3, none⟩ = some (.int .i64 i.t) ∧
    w.cell? ⟨g, 4, none⟩ = some (.int .i64 i.u) ∧ w.cell? ⟨g, 5, none⟩ = some (.int .i64 i.a) ∧ w.cell? ⟨g, 6, none⟩ = some (.int .u32 i.k) ∧ w.cell? ⟨g, 7, none⟩ = some (.int .i64 i.pl) :=
  ⟨Bk.cell h 0, Bk.cell h 1, Bk.cell h 2, Bk.cell h 3, Bk.cell h 4, Bk.cell h 5, Bk.cell h 6, Bk.cell h 7⟩
theorem Ib.below {w w' : World} {g : Nat} {i : Ins} (h : Ib w g i) (hb : Below w.heap.size w w') : Ib w' g i := (hb.block g (Bk.lt h)).trans h

theorem Ib.grw {w : World} {b : Nat} {i : Ins} (h : Ib w b i) :
    (∀ g : Grw w, g.x.cell? ⟨b, 0, none⟩ = some (.int .i64 i.op)) ∧ (∀ g : Grw w, g.x.cell? ⟨b, 1, none⟩ = some (.int .i64 i.d)) ∧ (∀ g : Grw w, g.x.cell? ⟨b, 2, none⟩ = some (.int .i64 i.s)) ∧ (∀ g : Grw w, g.x.cell? ⟨b, 3, none⟩ = some (.int .i64 i.t)) ∧
    (∀ g : Grw w, g.x.cell? ⟨b, 4, none⟩ = some (.int .i64 i.u)) ∧ (∀ g : Grw w, g.x.cell? ⟨b, 5, none⟩ = some (.int .i64 i.a)) ∧ (∀ g : Grw w, g.x.cell? ⟨b, 6, none⟩ = some (.int .u32 i.k)) ∧ (∀ g : Grw w, g.x.cell? ⟨b, 7, none⟩ = some (.int .i64 i.pl)) := by
  obtain ⟨c0, c1, c2, c3, c4, c5, c6, c7⟩ := h.cells
  exact ⟨fun g => g.cell c0, fun g => g.cell c1, fun g => g.cell c2, fun g => g.cell c3, fun g => g.cell c4, fun g => g.cell c5, fun g => g.cell c6, fun g => g.cell c7⟩

theorem Ib.made (w : World) (op d s t u a k pl : Int) : Ib (w.alloc (.cells #[.int .i64 op, .int .i64 d, .int .i64 s, .int .i64 t, .int .i64 u, .int .i64 a, .int .u32 k, .int .i64 pl] 45)) w.heap.size ⟨op, d, s, t, u, a, k, pl⟩ := Bk.made _ _ _
/-- Block g is stored into, field by field. -/
def put8 (y : World) (g : Nat) (i : Ins) : World := ((((((((y.setCell ⟨g, 0, none⟩ (.int .i64 i.op)).setCell ⟨g, 1, none⟩ (.int .i64 i.d)).setCell ⟨g, 2, none⟩ (.int .i64 i.s)).setCell ⟨g, 3, none⟩ (.int .i64 i.t)).setCell ⟨g, 4, none⟩ (.int .i64 i.u)).setCell ⟨g, 5, none⟩ (.int .i64 i.a)).setCell ⟨g, 6, none⟩ (.int .u32 i.k)).setCell ⟨g, 7, none⟩ (.int .i64 i.pl))
theorem put8_ib {y : World} {g : Nat} {i j : Ins} (h : Ib y g j) : Ib (put8 y g i) g i := by
  have h8 := (((((((Bk.put h 0 (.int .i64 i.op)).put 1 (.int .i64 i.d)).put 2 (.int .i64 i.s)).put 3 (.int .i64 i.t)).put 4 (.int .i64 i.u)).put 5 (.int .i64 i.a)).put 6 (.int .u32 i.k)).put 7 (.int .i64 i.pl)
  unfold put8 Ib
  simpa only [List.setIfInBounds_toArray, List.set_cons_zero, List.set_cons_succ] using h8
theorem put8_off {y : World} {g b : Nat} {i : Ins} {t : TypeId} {cs : Array Value} (h : Bk y b t cs) (hne : b ≠ g) : Bk (put8 y g i) b t cs :=
  (((((((h.off hne _).off hne _).off hne _).off hne _).off hne _).off hne _).off hne _).off hne _
theorem put8_below {B : Nat} {w y : World} {g : Nat} {i : Ins} (h : Below B w y) (hg : B ≤ g) : Below B w (put8 y g i) :=
  (((((((h.setCell hg _).setCell hg _).setCell hg _).setCell hg _).setCell hg _).setCell hg _).setCell hg _).setCell hg _

theorem clr_snoc (i : Ins) (l : List UInt8) (n : Nat) (h : n < l.length) : clr i (l.take (n + 1)) = setI (clr i (l.take n)) (l.getD n 0).toNat 0 := by
  unfold clr
  rw [List.take_succ_eq_append_getElem h, List.foldl_append]
  simp [h]

theorem run_ltr (hs : List UInt8) (n : Nat) (h : n < hs.length) (w : World) : (Instr.index 9 (.string ⟨hs.toArray⟩) (.int .i64 n)).run Tryz.prog w = .ok (.int .u8 ((hs.getD n 0).toNat : Int)) w := by
  have hu := Tryz.underlying9
  have h2 : (n : Int) < (hs.length : Int) := by omega
  go_simp
  rfl

theorem all_snoc (f : UInt8 → Bool) (l : List UInt8) (n : Nat) (h : n < l.length) : (l.take (n + 1)).all f = ((l.take n).all f && f (l.getD n 0)) := by
  rw [List.take_succ_eq_append_getElem h, List.all_append]
  simp [h]
theorem all_no (f : UInt8 → Bool) (l : List UInt8) (n : Nat) (h : n < l.length) (hf : f (l.getD n 0) = false) : l.all f = false := by
  rw [Bool.eq_false_iff]
  intro ha
  have := List.all_eq_true.1 ha (l.getD n 0) (by simp [h])
  rw [hf] at this
  cases this

/-- The world at the head of a round of Right. -/
structure RightAt (w : World) (i : Ins) (hs : List UInt8) (p : Int) (n : Nat) (x : World) : Prop where
  below : Below w.heap.size w x
  box : Ib x w.heap.size i
  left : Ib x (w.heap.size + 1) (clr i (hs.take n))
  ok : (hs.take n).all (fun c => inB i p c.toNat) = true

set_option maxHeartbeats 1000000 in
theorem cRight (i : Ins) (p : Int) (k0 : 0 ≤ i.k) (k1 : i.k < 4294967296) (w : World) :
    Calls Tryz.prog 42 #[iv i, .int .i64 p] w fun e w' => e = .returned (.bool (rightB i p)) ∧ Below w.heap.size w w' := by
  have hL := hs_ltr i.op
  have h6 := hs_len i.op
  have ER : rightB i p = (!(hsL i.op).isEmpty && ((hsL i.op).all (fun c => inB i p c.toNat) && isZ (clr i (hsL i.op)))) := rfl
  have H0 := Lib.hid (cForm i.op)
  generalize hsL i.op = hs at hL h6 ER H0
  have HL := Lib.hid hL
  have HR := Lib.hid ER
  clear hL ER
  obtain ⟨op, d, s, t, u, a, k, pl⟩ := i
  simp only at k0 k1 H0
  unfold iv
  go_enter Tryz.func42, Tryz.ntmps42
  go_wp2_with fail
  refine (H0.out _).mono ?_
  rintro e w' ⟨rfl, rfl⟩
  unfold bs
  by_cases he : hs = []
  · subst he
    go_wp2
    go_ret
    exact ⟨ret_bool HR.out.symm, (Below.refl _ _).alloc (Nat.le_refl _) _⟩
  have hne : hs.isEmpty = false := by simpa using he
  go_wp2
  go_loopw [24] (fun v x => ∃ n : Nat, n ≤ hs.length ∧ v = .int .i64 n ∧ RightAt w ⟨op, d, s, t, u, a, k, pl⟩ hs p n x) (fun v _ => hs.length - (intOf v).toNat)
  case atStart => 
    refine ⟨0, Nat.zero_le _, rfl, ?_, ?_, ?_, rfl⟩
    · exact (((Below.refl _ _).alloc (Nat.le_refl _) _).alloc (by simp) _)
    · exact (Bk.made _ _ _).alloc _
    · have := Bk.made (w.alloc (.cells #[.int .i64 op, .int .i64 d, .int .i64 s, .int .i64 t, .int .i64 u, .int .i64 a, .int .u32 k, .int .i64 pl] 45)) 45 #[.int .i64 0, .int .i64 d, .int .i64 s, .int .i64 t, .int .i64 u, .int .i64 a, .int .u32 k, .int .i64 pl]
      rw [show (w.alloc (.cells #[.int .i64 op, .int .i64 d, .int .i64 s, .int .i64 t, .int .i64 u, .int .i64 a, .int .u32 k, .int .i64 pl] 45)).heap.size = w.heap.size + 1 by simp] at this
      exact this
  case round =>
    obtain ⟨n, hn, rfl, R⟩ := hrel
    obtain ⟨hb, hI, hZ, hok⟩ := R
    generalize wr = x at *
    have hlt1 : w.heap.size < x.heap.size := Bk.lt hI
    have hlt2 : w.heap.size + 1 < x.heap.size := Bk.lt hZ
    by_cases hlt : n < hs.length
    · have hidx := run_ltr hs n hlt
      have hc : Ltr ((hs.getD n 0).toNat : Int) := HL.out _ (by simp [hlt])
      generalize hcc : ((hs.getD n 0).toNat : Int) = c at hidx hc
      obtain ⟨g0, -⟩ := hI.grw
      have HC := Lib.hid hcc
      clear hcc
      go_wp2_with fail
      refine wp_region_grow (by kernel_rfl) (by kernel_rfl) ?_
      repeat (go_big_quiet_step ((go_at_call 68; exact grw_same (cBounds _ _ _ hc _))))
      refine wpQuiet_nil ?_
      rintro y ⟨⟨_, hy⟩, rfl⟩
      replace hb := hb.trans (hy.mono (Nat.le_of_lt hlt1))
      replace hI := hI.below hy
      replace hZ := hZ.below hy
      replace hlt1 : w.heap.size < y.heap.size := Bk.lt hI
      replace hlt2 : w.heap.size + 1 < y.heap.size := Bk.lt hZ
      clear g0 hy x
      obtain ⟨g0, g1, g2, g3, g4, g5, g6, g7⟩ := hI.grw
      simp only at g0 g1 g2 g3 g4 g5 g6 g7
      go_wp2_with fail
      refine wp_region_grow (by kernel_rfl) (by kernel_rfl) ?_
      repeat (go_big_quiet_step ((go_at_call 69; exact grw_call (cGet ⟨op, d, s, t, u, a, k, pl⟩ _ hc k0 k1 _))))
      refine wpQuiet_nil ?_
      rintro x ⟨⟨_, hx⟩, rfl⟩
      replace hb := hb.trans (hx.mono (Nat.le_of_lt hlt1))
      replace hI := hI.below hx
      replace hZ := hZ.below hx
      replace hlt1 : w.heap.size < x.heap.size := Bk.lt hI
      replace hlt2 : w.heap.size + 1 < x.heap.size := Bk.lt hZ
      clear g0 g1 g2 g3 g4 g5 g6 g7 hx y
      by_cases hlo : getI ⟨op, d, s, t, u, a, k, pl⟩ c < lowI op c
      · go_wp2
        go_ret
        refine ⟨ret_bool ?_, hb⟩
        rw [HR.out, all_no _ _ n hlt (by rw [HC.out]; simp [inB]; intro h; omega)]; simp
      have hlo' : decide (getI ⟨op, d, s, t, u, a, k, pl⟩ c < lowI op c) = false := by simpa using hlo
      by_cases hhi : endI op c p ≤ getI ⟨op, d, s, t, u, a, k, pl⟩ c
      · go_wp2
        go_ret
        refine ⟨ret_bool ?_, hb⟩
        rw [HR.out, all_no _ _ n hlt (by rw [HC.out]; simp [inB]; intro h; omega)]; simp
      have hhi' : decide (getI ⟨op, d, s, t, u, a, k, pl⟩ c ≥ endI op c p) = false := by simpa using hhi
      generalize hZZ : clr ⟨op, d, s, t, u, a, k, pl⟩ (hs.take n) = z at hZ
      have HZ := Lib.hid hZZ
      clear hZZ
      obtain ⟨zop, zd, zs, zt, zu, za, zk, zpl⟩ := z
      obtain ⟨c0, c1, c2, c3, c4, c5, c6, c7⟩ := hZ.cells
      simp only at c0 c1 c2 c3 c4 c5 c6 c7
      go_wp2_with fail
      go_region_law (first | (go_simp; go_at_call 70; refine (cSet ⟨zop, zd, zs, zt, zu, za, zk, zpl⟩ _ 0 hc _).mono ?_; rintro e y ⟨rfl, hy⟩; replace hy := below_of_drew hy; obtain ⟨d0, d1, d2, d3, d4, d5, d6, d7⟩ := (hZ.below hy).cells; have hf := Bk.free (hZ.below hy); generalize hz2 : setI ⟨zop, zd, zs, zt, zu, za, zk, zpl⟩ c 0 = z2; have HZ2 := Lib.hid hz2; clear hz2; obtain ⟨yop, yd, ys, yt, yu, ya, yk, ypl⟩ := z2; unfold iv))
      all_goals
        generalize hv : ((((((((y.setCell ⟨w.heap.size + 1, 0, none⟩ (.int .i64 yop)).setCell ⟨w.heap.size + 1, 1, none⟩ (.int .i64 yd)).setCell ⟨w.heap.size + 1, 2, none⟩ (.int .i64 ys)).setCell ⟨w.heap.size + 1, 3, none⟩ (.int .i64 yt)).setCell ⟨w.heap.size + 1, 4, none⟩ (.int .i64 yu)).setCell ⟨w.heap.size + 1, 5, none⟩ (.int .i64 ya)).setCell ⟨w.heap.size + 1, 6, none⟩ (.int .u32 yk)).setCell ⟨w.heap.size + 1, 7, none⟩ (.int .i64 ypl)) = v
        have hv2 : put8 y (w.heap.size + 1) ⟨yop, yd, ys, yt, yu, ya, yk, ypl⟩ = v := hv
        clear hv
        have hA := put8_ib (i := ⟨yop, yd, ys, yt, yu, ya, yk, ypl⟩) (hZ.below hy)
        have hB := put8_off (i := ⟨yop, yd, ys, yt, yu, ya, yk, ypl⟩) (hI.below hy) (show w.heap.size ≠ w.heap.size + 1 by omega)
        have hC := put8_below (i := ⟨yop, yd, ys, yt, yu, ya, yk, ypl⟩) (hb.trans (hy.mono (Nat.le_of_lt hlt1))) (show w.heap.size ≤ w.heap.size + 1 by omega)
        rw [hv2] at hA hB hC
        clear hv2 d0 d1 d2 d3 d4 d5 d6 d7 hf c0 c1 c2 c3 c4 c5 c6 c7 hidx
        have hn1 : (n : Int) + 1 ≤ 6 := by omega
        go_wp2
        go_roundw
        case rel =>
          refine ⟨n + 1, by omega, by go_num, hC, hB, ?_, ?_⟩
          · rw [clr_snoc _ _ _ hlt, HZ.out, HC.out, HZ2.out]; exact hA
          · rw [all_snoc _ _ _ hlt, HC.out, hok]; simp [inB]; omega
        case measure => simp [intOf]; omega
    · obtain rfl : n = hs.length := by omega
      generalize hZZ : clr ⟨op, d, s, t, u, a, k, pl⟩ (hs.take hs.length) = z at hZ
      obtain ⟨zop, zd, zs, zt, zu, za, zk, zpl⟩ := z
      obtain ⟨c0, c1, c2, c3, c4, c5, c6, c7⟩ := hZ.cells
      simp only at c0 c1 c2 c3 c4 c5 c6 c7
      rw [List.take_length] at hZZ hok
      have HZ := Lib.hid hZZ
      have HO := Lib.hid hok
      clear hZZ hok
      have hq := run_eqI ⟨zop, zd, zs, zt, zu, za, zk, zpl⟩ Ins.zero
      generalize hB : eqI ⟨zop, zd, zs, zt, zu, za, zk, zpl⟩ Ins.zero = B at hq
      have HB := Lib.hid hB
      clear hB
      unfold iv Ins.zero at hq
      simp only at hq
      go_wp2
      go_ret
      refine ⟨ret_bool ?_, hb⟩
      rw [HR.out, HO.out, HZ.out, isZ_eq, HB.out, hne]; rfl
end Go.Proofs.YtpinpipjlongaaaGreat

/- Programs: a list of instructions and two places; their cells. -/
namespace Go.Proofs.YtpinpipjlongaaaGreat
open Go.ChangeShapes Go.WideShapes Go.ChangeAt Go.RowKit
set_option linter.unusedVariables false

/-- A program. -/
structure Prg where
  l : List Ins
  lo : Int
  un : Int
def Prg.zero : Prg := ⟨[], 0, 0⟩

/-- May a program be? -/
def prgB (c : Prg) : Bool := decide (1 ≤ c.l.length) && (decide (c.l.length ≤ 64) && (decide (0 ≤ c.lo) && (decide (0 ≤ c.un) && (decide (c.lo < c.l.length) && (decide (c.un < c.l.length) && c.l.all fun i => rightB i c.l.length)))))

/-- A program is right, in the program's own order. -/
theorem prgB_is (c : Prg) (h1 : 1 ≤ c.l.length) (h2 : c.l.length ≤ 64) : prgB c = ((c.l.all fun i => rightB i c.l.length) && ((decide (0 ≤ c.lo) && decide (c.lo < c.l.length)) && (decide (0 ≤ c.un) && decide (c.un < c.l.length)))) := by
  unfold prgB
  simp only [h1, h2, decide_true, Bool.true_and]
  generalize (c.l.all fun i => rightB i c.l.length) = x
  generalize decide (0 ≤ c.lo) = a
  generalize decide (0 ≤ c.un) = b
  generalize decide (c.lo < c.l.length) = d
  generalize decide (c.un < c.l.length) = e
  cases a <;> cases b <;> cases d <;> cases e <;> cases x <;> rfl
theorem prgB_few {c : Prg} (h : ¬ (1 ≤ c.l.length ∧ c.l.length ≤ 64)) : prgB c = false := by
  unfold prgB
  by_cases h1 : 1 ≤ c.l.length
  · have h2 : ¬ c.l.length ≤ 64 := fun h2 => h ⟨h1, h2⟩
    simp [h2]
  · simp [h1]

/-- An instruction's cells; a program's. -/
def insC (i : Ins) : List Value := [.int .i64 i.op, .int .i64 i.d, .int .i64 i.s, .int .i64 i.t, .int .i64 i.u, .int .i64 i.a, .int .u32 i.k, .int .i64 i.pl]
theorem insC_len (i : Ins) : (insC i).length = 8 := rfl
def progC (l : List Ins) : List Value := l.flatMap insC
theorem progC_snoc (l : List Ins) (i : Ins) : progC (l ++ [i]) = progC l ++ insC i := by simp [progC]
theorem progC_len : ∀ l : List Ins, (progC l).length = l.length * 8
  | [] => rfl
  | i :: l => by
    have := progC_len l
    unfold progC at *
    simp [this, insC_len]
    omega
theorem insC_one (i : Ins) : ∀ u ∈ insC i, u.oneCell' = true := by
  intro u hu
  simp only [insC, List.mem_cons, List.not_mem_nil, or_false] at hu
  rcases hu with rfl | rfl | rfl | rfl | rfl | rfl | rfl | rfl <;> rfl
theorem insInfo : (Tryz.prog.info? 45).map (fun i => (i.zero, i.size, i.bytes)) = some (some (.agg #[.int .i64 0, .int .i64 0, .int .i64 0, .int .i64 0, .int .i64 0, .int .i64 0, .int .u32 0, .int .i64 0]), 8, 64) := by kernel_rfl

/-- Element k of lists laid one behind the other, each as long. -/
theorem flat_at {α : Type} (f : α → List Value) (n : Nat) (hf : ∀ x, (f x).length = n) : ∀ (l : List α) (k j : Nat) (x : α), l[k]? = some x → j < n → (l.flatMap f)[k * n + j]? = (f x)[j]?
  | [], k, j, x, h, _ => by simp at h
  | y :: l, 0, j, x, h, hj => by
    simp at h
    subst h
    simp [List.getElem?_append, hf, hj]
  | y :: l, k + 1, j, x, h, hj => by
    have ih := flat_at f n hf l k j x (by simpa using h) hj
    rw [← ih]
    have e : (k + 1) * n + j = n + (k * n + j) := by rw [Nat.add_mul]; omega
    rw [e, List.flatMap_cons, List.getElem?_append_right (by rw [hf]; omega), hf]
    congr 1
    omega
theorem progC_at {l : List Ins} {k : Nat} {i : Ins} (h : l[k]? = some i) {j : Nat} (hj : j < 8) : (progC l)[k * 8 + j]? = (insC i)[j]? := flat_at insC 8 insC_len l k j i h hj

/-- The value v is a program; its instructions lie in a row of their own, at base or beyond. -/
def Pg (w : World) (base : Nat) (v : Value) (c : Prg) : Prop := ∃ sl, v = .agg #[sl, .int .i64 c.lo, .int .i64 c.un] ∧ w.ownsRow base 45 8 sl c.l.length (progC c.l)
theorem within_of_below {w w' : World} (h : Below w.heap.size w w') : Within w w' (fun _ => False) := ⟨h.os, h.tape, h.output, h.size, fun i hi _ => h.block i hi⟩
/-- Three cells of a block are others. -/
def put3 (y : World) (g : Nat) (a b c : Value) : World := ((y.setCell ⟨g, 0, none⟩ a).setCell ⟨g, 1, none⟩ b).setCell ⟨g, 2, none⟩ c
theorem put3_bk {y : World} {g : Nat} {t : TypeId} {x0 x1 x2 : Value} (h : Bk y g t #[x0, x1, x2]) (a b c : Value) : Bk (put3 y g a b c) g t #[a, b, c] := by
  have h8 := ((h.put 0 a).put 1 b).put 2 c
  unfold put3
  simpa only [List.setIfInBounds_toArray, List.set_cons_zero, List.set_cons_succ] using h8
theorem put3_below {B : Nat} {w y : World} {g : Nat} (h : Below B w y) (hg : B ≤ g) (a b c : Value) : Below B w (put3 y g a b c) := ((h.setCell hg _).setCell hg _).setCell hg _

end Go.Proofs.YtpinpipjlongaaaGreat

/- A slice that the call itself has made, of ints: its row, and what becomes of it. Over any program. -/
namespace Go.Proofs.YtpinpipjlongaaaGreat
open Go.ChangeShapes Go.WideShapes Go.ChangeAt Go.RowKit

section
variable {w w' : World} {q cap : Nat} {xs : List Int}
end
theorem intinfo : (Tryz.prog.info? 3).map (fun i => (i.zero, i.size, i.bytes)) = some (some (.int .i64 0), 1, 8) := by kernel_rfl
end Go.Proofs.YtpinpipjlongaaaGreat

/- What each function of layer 1 (handle), and of the document's own answers to it, returns: one contract a function, for every word (a number from 0 to 2^32 - 1), every index and every generation. For the layers above: over the text on rows; a function that the seat hasn't is left out. -/
namespace Go.Proofs.YtpinpipjlongaaaGreat
set_option maxRecDepth 100000
open Go.ChangeShapes Go.WideShapes Go.ChangeAt Go.RowKit

theorem and12 (x : Int) (h0 : 0 ≤ x) (h1 : x < 4294967296) : bits .and .u32 x 4095 = x % 4096 := by
  rw [u32_and x 4095 h0 h1 (by omega) (by omega), show (4095 : Int).toNat = 4095 from rfl, nat_mask12]; omega
theorem and18 (x : Int) (h0 : 0 ≤ x) (h1 : x < 4294967296) : bits .and .u32 x 262143 = x % 262144 := by
  rw [u32_and x 262143 h0 h1 (by omega) (by omega), show (262143 : Int).toNat = 262143 from rfl, nat_mask18]; omega
theorem or12 (g i : Int) (g0 : 0 ≤ g) (g1 : g < 262144) (i0 : 0 ≤ i) (i1 : i < 4096) : bits .or .u32 (g * 4096) i = g * 4096 + i := by
  rw [u32_or _ _ (by omega) (by omega) (by omega) (by omega), nat_join 12 _ _ (by omega) (by omega)]; omega

theorem hIndex (h : Int) (h0 : 0 ≤ h) (h1 : h < 4294967296) (w : World) :
    Calls Tryz.prog 82 #[.int .u32 h] w fun e w' => e = .returned (.int .i64 (h % 4096)) ∧ w = w' := by
  go_enter Tryz.func82, Tryz.ntmps82
  go_wp2
  go_ret
  exact ⟨ret_int (by rw [and12 h h0 h1, IntWalk.wrap64_in _ (by omega)]), rfl⟩



theorem hPack (i g : Int) (i0 : 0 ≤ i) (i1 : i < 4096) (g0 : 0 ≤ g) (g1 : g < 262144) (w : World) :
    Calls Tryz.prog 97 #[.int .u32 i, .int .u32 g] w fun e w' => e = .returned (.int .u32 (g * 4096 + i)) ∧ w = w' := by
  go_enter Tryz.func97, Tryz.ntmps97
  go_wp2
  go_ret
  exact ⟨ret_int (or12 g i g0 g1 i0 i1), rfl⟩

theorem hNext (h : Int) (h0 : 0 ≤ h) (h1 : h < 4294967296) (w : World) :
    Calls Tryz.prog 81 #[.int .u32 h] w fun e w' => e = .returned (.int .u32 ((h / 4096 + 1) % 262144 * 4096 + h % 4096)) ∧ w = w' := by
  go_enter Tryz.func81, Tryz.ntmps81
  go_wp2_with fail
  rw [and12 h h0 h1, and18 (h / 4096 + 1) (by omega) (by omega)]
  refine (hPack _ _ (by omega) (by omega) (by omega) (by omega) _).mono ?_
  rintro e w' ⟨rfl, rfl⟩
  go_wp2
  go_ret
  exact ⟨rfl, rfl⟩

theorem rIndex (h : Int) (h0 : 0 ≤ h) (h1 : h < 4294967296) (w : World) :
    Calls Tryz.prog 60 #[.int .u32 h] w fun e w' => e = .returned (.int .i64 (h % 4096)) ∧ w = w' := by
  go_enter Tryz.func60, Tryz.ntmps60
  go_wp2
  go_ret
  exact ⟨ret_int (by first | rfl | omega), rfl⟩

theorem rGen (h : Int) (h0 : 0 ≤ h) (h1 : h < 4294967296) (w : World) :
    Calls Tryz.prog 61 #[.int .u32 h] w fun e w' => e = .returned (.int .i64 (h / 4096 % 262144)) ∧ w = w' := by
  go_enter Tryz.func61, Tryz.ntmps61
  go_wp2
  go_ret
  exact ⟨ret_int (by first | rfl | omega), rfl⟩

theorem rNext (h : Int) (h0 : 0 ≤ h) (h1 : h < 4294967296) (w : World) :
    Calls Tryz.prog 62 #[.int .u32 h] w fun e w' => e = .returned (.int .u32 ((h / 4096 + 1) % 262144 * 4096 + h % 4096)) ∧ w = w' := by
  have hg0 : 0 ≤ h / 4096 % 262144 := by omega
  have hg1 : h / 4096 % 262144 < 262144 := by omega
  have hi0 : 0 ≤ h % 4096 := by omega
  have hi1 : h % 4096 < 4096 := by omega
  by_cases hl : h / 4096 % 262144 < 262143
  · have hb : (h / 4096 % 262144 + 1 == (262144 : Int)) = false := by simp; omega
    go_enter Tryz.func62, Tryz.ntmps62
    go_wp2_with (first | (go_at_call 61; refine (rGen _ h0 h1 _).mono ?_; rintro e w' ⟨rfl, rfl⟩) | (go_at_call 60; refine (rIndex _ h0 h1 _).mono ?_; rintro e w' ⟨rfl, rfl⟩))
    go_ret
    exact ⟨ret_int (by clear hb; first | omega | (go_unwrap; omega)), rfl⟩
  · have hb : (h / 4096 % 262144 + 1 == (262144 : Int)) = true := by simp; omega
    go_enter Tryz.func62, Tryz.ntmps62
    go_wp2_with (first | (go_at_call 61; refine (rGen _ h0 h1 _).mono ?_; rintro e w' ⟨rfl, rfl⟩) | (go_at_call 60; refine (rIndex _ h0 h1 _).mono ?_; rintro e w' ⟨rfl, rfl⟩))
    go_ret
    exact ⟨ret_int (by clear hb; first | omega | (go_unwrap; omega)), rfl⟩

theorem hNewGood (i g : Int) (i0 : 0 ≤ i) (i1 : i < 4096) (g0 : 0 ≤ g) (g1 : g < 262144) (w : World) :
    Calls Tryz.prog 74 #[.int .i64 i, .int .i64 g] w fun e w' => e = .returned (.tuple #[.int .u32 (g * 4096 + i), .int .i64 0]) ∧ w = w' := by
  go_enter Tryz.func74, Tryz.ntmps74
  go_wp2_with fail
  refine (hPack _ _ (by omega) (by omega) (by omega) (by omega) _).mono ?_
  rintro e w' ⟨rfl, rfl⟩
  go_wp2
  go_ret2
  exact ⟨rfl, rfl⟩

theorem rNewGood (i g : Int) (i0 : 0 ≤ i) (i1 : i < 4096) (g0 : 0 ≤ g) (g1 : g < 262144) (w : World) :
    Calls Tryz.prog 91 #[.int .i64 i, .int .i64 g] w fun e w' => e = .returned (.tuple #[.int .u32 (g * 4096 + i), .bool true]) ∧ w = w' := by
  go_enter Tryz.func91, Tryz.ntmps91
  go_wp2
  go_ret2
  exact ⟨rfl, rfl⟩
end Go.Proofs.YtpinpipjlongaaaGreat

/- RingWord, RingWordB, Set, one behind the other. -/
/- What each function of layer 3 (ring) returns at values of one cell (here: uint32), and what the ring is then: one contract a function, for every ring and every value. -/
namespace Go.Proofs.YtpinpipjlongaaaGreat.RWord
set_option maxRecDepth 100000
open Go.ChangeShapes Go.WideShapes Go.ChangeAt Go.RowKit

/-- A value, as the cell that it is. -/
abbrev C (x : Int) : Value := .int .u32 x
/-- Where a value lies that has i others ahead of it. -/
def plc (f i n : Nat) : Nat := (f + i) % n
theorem plc_lt {f i n : Nat} (h : 0 < n) : plc f i n < n := Nat.mod_lt _ h
theorem plc_is {f i n : Nat} (hf : f < n) (hi : i ≤ n) : plc f i n = if f + i < n then f + i else f + i - n := by
  unfold plc
  split
  · exact Nat.mod_eq_of_lt (by omega)
  · rw [Nat.mod_eq_sub_mod (by omega)]; exact Nat.mod_eq_of_lt (by omega)
theorem plc_zero {i n : Nat} (hi : i < n) : plc 0 i n = i := by unfold plc; rw [Nat.zero_add]; exact Nat.mod_eq_of_lt hi
theorem plc_ne {f i j n : Nat} (hf : f < n) (hi : i < j) (hj : j < n) : plc f i n ≠ plc f j n := by
  rw [plc_is hf (by omega), plc_is hf (by omega)]; split <;> split <;> omega
theorem plc_next {f i n : Nat} (hf : f < n) (hi : i + 1 ≤ n) : plc (plc f 1 n) i n = plc f (i + 1) n := by
  rw [plc_is (f := plc f 1 n) (plc_lt (by omega)) (by omega), plc_is (i := i + 1) hf hi, plc_is (i := 1) hf (by omega)]
  repeat' split
  all_goals omega
theorem plc_first {f n : Nat} (hf : f < n) : plc f 0 n = f := by rw [plc_is hf (by omega), if_pos (by omega)]; rfl

def Hd (w : World) (p : Nat) (a : Option Addr) (n f c r : Nat) : Prop := Bk w p 179 #[.slice a n n, .int .i64 f, .int .i64 c, .int .i64 r]

section
variable {w : World} {p : Nat} {a : Option Addr} {n f c r : Nat}
theorem Hd.c0 (h : Hd w p a n f c r) : w.cell? ⟨p, 0, none⟩ = some (.slice a n n) := by rw [Bk.cell h]; rfl
theorem Hd.c1 (h : Hd w p a n f c r) : w.cell? ⟨p, 1, none⟩ = some (.int .i64 f) := by rw [Bk.cell h]; rfl
theorem Hd.c2 (h : Hd w p a n f c r) : w.cell? ⟨p, 2, none⟩ = some (.int .i64 c) := by rw [Bk.cell h]; rfl
theorem Hd.c3 (h : Hd w p a n f c r) : w.cell? ⟨p, 3, none⟩ = some (.int .i64 r) := by rw [Bk.cell h]; rfl

theorem place_any (h : Hd w p a n f c r) (hn : 0 < n) (hf : f ≤ 4096) (hm : n ≤ 4096) (i : Nat) (hi : i ≤ 4096) :
    Calls Tryz.prog 99 #[.pointer (some ⟨p, 0, none⟩), .int .i64 i] w fun e w' => e = .returned (.int .i64 (plc f i n)) ∧ ∃ m, w' = w.drewN m := by
  have c0 := h.c0
  have c1 := h.c1
  have hz : ¬ (n : Int) = 0 := by omega
  go_enter Tryz.func99, Tryz.ntmps99
  go_wp2
  go_quiet (fail)
  go_wp2
  go_ret
  exact ⟨ret_int (by simp [plc]), _, rfl⟩


theorem room_any (h : Hd w p a n f c r) (hc : c ≤ r) (hr : r ≤ 4096) :
    Calls Tryz.prog 93 #[.pointer (some ⟨p, 0, none⟩)] w fun e w' => e = .returned (.int .i64 ((r - c : Nat) : Int)) ∧ ∃ m, w' = w.drewN m := by
  have c2 := h.c2
  have c3 := h.c3
  go_enter Tryz.func93, Tryz.ntmps93
  go_wp2
  go_quiet (fail)
  go_wp2
  go_ret
  exact ⟨ret_int (by omega), _, rfl⟩

end

/-- What a ring is in memory: the struct is block p; the places, where there are any, are block g; cs is what lies there, vs are the values. -/
structure In (w : World) (p : Nat) (og : Option Nat) (n f room : Nat) (cs vs : List Int) : Prop where
  hd : Hd w p (og.map fun g => ⟨g, 0, none⟩) n f vs.length room
  row : ∀ g, og = some g → Bk w g 43 (rowOf C cs)
  len : cs.length = n
  fits : vs.length ≤ n
  most : n ≤ room
  few : room ≤ 4096
  at_ : ∀ i, i < vs.length → nthO 0 vs i = nthO 0 cs (plc f i n)
  some_ : ∀ g, og = some g → f < n
  none_ : og = none → n = 0 ∧ f = 0

/-- A ring: room for so many, the values vs. -/
def Rg (w : World) (p : Nat) (og : Option Nat) (room : Nat) (vs : List Int) : Prop := ∃ n f cs, In w p og n f room cs vs

section
variable {w w' : World} {p : Nat} {og : Option Nat} {n f room : Nat} {cs vs : List Int}
theorem In.draws (h : In w p og n f room cs vs) (k : Nat) : In (w.drewN k) p og n f room cs vs := ⟨h.hd, h.row, h.len, h.fits, h.most, h.few, h.at_, h.some_, h.none_⟩
theorem In.same (h : In w p og n f room cs vs) (e : w'.heap = w.heap) : In w' p og n f room cs vs :=
  ⟨by have := h.hd; unfold Hd Bk at *; rw [e]; exact this, fun g k => by have := h.row g k; unfold Bk at *; rw [e]; exact this, h.len, h.fits, h.most, h.few, h.at_, h.some_, h.none_⟩
theorem In.kept {S : Nat → Prop} (h : In w p og n f room cs vs) (k : Within w w' S) (h1 : ¬ S p) (h2 : ∀ g, og = some g → ¬ S g) : In w' p og n f room cs vs :=
  ⟨Bk.within h.hd k h1, fun g e => Bk.within (h.row g e) k (h2 g e), h.len, h.fits, h.most, h.few, h.at_, h.some_, h.none_⟩
theorem In.ne {g : Nat} (h : In w p og n f room cs vs) (e : og = some g) : p ≠ g := Bk.unlike h.hd (h.row g e) (by decide)
theorem In.lt {g : Nat} (h : In w p og n f room cs vs) (e : og = some g) : g < w.heap.size := (h.row g e).lt
theorem Rg.draws (h : Rg w p og room vs) (k : Nat) : Rg (w.drewN k) p og room vs := by obtain ⟨n, f, cs, h⟩ := h; exact ⟨n, f, cs, h.draws k⟩
theorem Rg.kept {S : Nat → Prop} (h : Rg w p og room vs) (k : Within w w' S) (h1 : ¬ S p) (h2 : ∀ g, og = some g → ¬ S g) : Rg w' p og room vs := by
  obtain ⟨n, f, cs, h⟩ := h; exact ⟨n, f, cs, h.kept k h1 h2⟩
theorem Rg.len_le (h : Rg w p og room vs) : vs.length ≤ room ∧ room ≤ 4096 := by
  obtain ⟨n, f, cs, h⟩ := h; exact ⟨Nat.le_trans h.fits h.most, h.few⟩
theorem Rg.p_lt (h : Rg w p og room vs) : p < w.heap.size := by obtain ⟨n, f, cs, h⟩ := h; exact Bk.lt h.hd
theorem Rg.g_lt {g : Nat} (h : Rg w p og room vs) (e : og = some g) : g < w.heap.size := by obtain ⟨n, f, cs, h⟩ := h; exact h.lt e

/-- One more, last: in the free place behind the last one. -/
theorem In.more {g : Nat} (h : In w p (some g) n f room cs vs) (hv : vs.length < n) (v : Int) :
    In ((w.setCell ⟨g, plc f vs.length n, none⟩ (C v)).setCell ⟨p, 2, none⟩ (.int .i64 ((vs.length + 1 : Nat) : Int))) p (some g) n f room (cs.set (plc f vs.length n) v) (vs ++ [v]) := by
  have hf := h.some_ g rfl
  have hl := h.len
  refine ⟨?_, ?_, by simpa using hl, by simp; omega, h.most, h.few, ?_, h.some_, h.none_⟩
  · have h1 := Bk.put (Bk.off h.hd (p := ⟨g, plc f vs.length n, none⟩) (h.ne rfl) (C v)) 2 (.int .i64 ((vs.length + 1 : Nat) : Int))
    unfold Hd
    rw [List.length_append]
    exact h1
  · intro g' e
    obtain rfl : g = g' := by injection e
    have h1 := (h.row g rfl).put (plc f vs.length n) (C v)
    rw [rowOf_set] at h1
    exact h1.off (p := ⟨p, 2, none⟩) (h.ne rfl).symm _
  · intro i hi
    simp only [List.length_append, List.length_cons, List.length_nil, Nat.zero_add] at hi
    rw [nthO_set (by rw [hl]; exact plc_lt (by omega))]
    by_cases e : i = vs.length
    · subst e; rw [if_pos rfl, nthO_append_eq]
    · rw [if_neg (plc_ne hf (by omega) hv).symm, nthO_append_lt (by omega)]
      exact h.at_ i (by omega)

/-- The first one out. -/
theorem In.less {g : Nat} {v : Int} (h : In w p (some g) n f room cs (v :: vs)) :
    In (((w.setCell ⟨g, f, none⟩ (C 0)).setCell ⟨p, 1, none⟩ (.int .i64 (plc f 1 n))).setCell ⟨p, 2, none⟩ (.int .i64 vs.length)) p (some g) n (plc f 1 n) room (cs.set f 0) vs := by
  have hf := h.some_ g rfl
  have hl := h.len
  have hfit := h.fits
  simp only [List.length_cons] at hfit
  refine ⟨?_, ?_, by simpa using hl, by omega, h.most, h.few, ?_, fun _ _ => plc_lt (by omega), fun e => (by cases e)⟩
  · have h1 := Bk.put (Bk.put (Bk.off h.hd (p := ⟨g, f, none⟩) (h.ne rfl) (C 0)) 1 (.int .i64 (plc f 1 n))) 2 (.int .i64 vs.length)
    exact h1
  · intro g' e
    obtain rfl : g = g' := by injection e
    have h1 := (h.row g rfl).put f (C 0)
    rw [rowOf_set] at h1
    exact (h1.off (p := ⟨p, 1, none⟩) (h.ne rfl).symm _).off (p := ⟨p, 2, none⟩) (h.ne rfl).symm _
  · intro i hi
    have h1 := h.at_ (i + 1) (by simp; omega)
    have h2 := plc_ne (n := n) hf (i := 0) (j := i + 1) (by omega) (by omega)
    rw [plc_first hf] at h2
    rw [plc_next hf (by omega), nthO_set (by rw [hl]; exact hf), if_neg h2, ← h1]
    simp [nthO]
end

section
variable {w : World} {p : Nat} {a : Option Addr} {n f r : Nat}
theorem lay_any {g q : Nat} {cs vs ds : List Int} (h : Hd w p (some ⟨g, 0, none⟩) n f vs.length r) (hrow : Bk w g 43 (rowOf C cs)) (hl : cs.length = n) (hn : 0 < n) (hf : f ≤ 4096) (hm : n ≤ 4096) 
    (hat : ∀ i, i < vs.length → nthO 0 vs i = nthO 0 cs (plc f i n)) (hq : Bk w q 43 (rowOf C ds)) (hd : vs.length ≤ ds.length) (hdm : ds.length ≤ 4096) (hqp : p ≠ q) (hqg : g ≠ q) :
    Calls Tryz.prog 106 #[.pointer (some ⟨p, 0, none⟩), .slice (some ⟨q, 0, none⟩) ds.length ds.length] w fun e w' => e = .returned (.tuple #[]) ∧ Bk w' q 43 (rowOf C (layTo vs ds vs.length)) ∧ Only w w' q := by
  have c2 := h.c2
  have HAT := Lib.hid hat
  have HL := Lib.hid hl
  clear hat hl
  go_enter Tryz.func106, Tryz.ntmps106
  go_wp2
  go_loopw [9] (fun i wr => ∃ k : Nat, k ≤ vs.length ∧ i = .int .i64 k ∧ Bk wr q 43 (rowOf C (layTo vs ds k)) ∧ Only w wr q) (fun i _ => vs.length - (intOf i).toNat)
  case atStart => exact ⟨0, Nat.zero_le _, rfl, by rw [layTo_0]; exact hq, grown_refl _ _⟩
  case round =>
    obtain ⟨k, hk, rfl, hb, hw⟩ := hrel
    by_cases hlt : k < vs.length
    · have h1 : Hd wr p (some ⟨g, 0, none⟩) n f vs.length r := Bk.grown h hw (by simp [hqp])
      have hg1 := Bk.grown hrow hw (by simp [hqg])
      have d0 := h1.c0
      have hpl : plc f k n < n := plc_lt hn
      have e1 : wr.cell? ⟨g, plc f k n, none⟩ = some (C (nthO 0 vs k)) := by rw [hg1.cell, rowOf_at (z := 0) C (by rw [HL.out]; exact hpl), HAT.out k hlt]
      have e2 : wr.cell? ⟨q, k, none⟩ = some (C (nthO 0 (layTo vs ds k) k)) := by rw [hb.cell, rowOf_at (z := 0) C (by rw [layTo_len _ _ _ (by omega) (by omega)]; omega)]
      have hz := hb.free k
      have b1 : (k : Int) < ds.length := by omega
      have b2 : k < ds.length := by omega
      have b3 : (plc f k n : Int) < n := by omega
      have k1 : ∀ (W : World) (u : Value) (i j : Nat), (W.setCell ⟨q, i, none⟩ u).cell? ⟨p, j, none⟩ = W.cell? ⟨p, j, none⟩ := fun W u i j => cell_off hqp
      have k2 : ∀ (W : World) (u : Value) (i j : Nat), (W.setCell ⟨q, i, none⟩ u).cell? ⟨g, j, none⟩ = W.cell? ⟨g, j, none⟩ := fun W u i j => cell_off hqg
      go_wp2
      go_region_held3 (fun w' => w'.cell? ⟨p, 0, none⟩ = some (Value.slice (some ⟨g, 0, none⟩) n n) ∧ w'.cell? ⟨g, plc f k n, none⟩ = some (C (nthO 0 vs k))) (go_keep)
        (first | (go_at_call 99; refine (place_any (w := wr.drew) h1 hn hf hm k (by omega)).mono ?_; rintro e w' ⟨rfl, m, rfl⟩))
      have hp := hb.put k (C (nthO 0 vs k))
      rw [rowOf_set, layTo_set vs ds k hlt b2] at hp
      clear k1 k2 e1 e2 d0 hz
      go_wp2
      go_roundw
      case rel => exact ⟨k + 1, by omega, by go_num, hp, grown_then (grown_draws hw _) (only_put _ _ _ _) (.inl rfl)⟩
      case measure => simp [intOf]; omega
    · obtain rfl : k = vs.length := by omega
      go_wp2
      go_end0
      exact ⟨rfl, hb, hw⟩

theorem lay_nil {q m : Nat} (h : Hd w p a n f 0 r) :
    Calls Tryz.prog 106 #[.pointer (some ⟨p, 0, none⟩), .slice (some ⟨q, 0, none⟩) m m] w fun e w' => e = .returned (.tuple #[]) ∧ w = w' := by
  have c2 := h.c2
  go_enter Tryz.func106, Tryz.ntmps106
  go_wp2
  go_loopw [9] (fun i wr => i = .int .i64 0 ∧ w = wr) (fun _ _ => 0)
  case atStart => exact ⟨rfl, rfl⟩
  case round =>
    obtain ⟨rfl, rfl⟩ := hrel
    go_wp2
    go_end0
    exact ⟨rfl, rfl⟩

theorem lay_in {og : Option Nat} {q : Nat} {cs vs ds : List Int} (h : In w p og n f r cs vs) (hq : Bk w q 43 (rowOf C ds)) (hd : vs.length ≤ ds.length) (hdm : ds.length ≤ 4096) (hqp : p ≠ q) (hqg : og ≠ some q) :
    Calls Tryz.prog 106 #[.pointer (some ⟨p, 0, none⟩), .slice (some ⟨q, 0, none⟩) ds.length ds.length] w fun e w' => e = .returned (.tuple #[]) ∧ Bk w' q 43 (rowOf C (layTo vs ds vs.length)) ∧ Only w w' q := by
  have hm := h.most
  have hf := h.few
  have hfit := h.fits
  cases og with
  | none =>
    obtain ⟨rfl, rfl⟩ := h.none_ rfl
    have e : vs = [] := List.eq_nil_of_length_eq_zero (by omega)
    subst e
    refine (lay_nil (q := q) (m := ds.length) h.hd).mono ?_
    rintro e w' ⟨rfl, rfl⟩
    exact ⟨rfl, by rw [List.length_nil, layTo_0]; exact hq, grown_refl _ _⟩
  | some g =>
    have hfn := h.some_ g rfl
    exact lay_any h.hd (h.row g rfl) h.len (by omega) (by omega) (by omega) h.at_ hq hd hdm hqp (fun e => hqg (by rw [e]))

/-- How room is held. -/
def held (x : Int) : Nat := if x < 0 then 0 else if 4096 < x then 4096 else x.toNat
theorem new_in (w : World) (t : Nat) (ht : t ≤ 4096) : In (w.alloc (.cells #[.slice none 0 0, .int .i64 0, .int .i64 0, .int .i64 (t : Nat)] 179)) w.heap.size none 0 0 t [] [] :=
  ⟨Bk.made _ _ _, fun _ h => (by cases h), rfl, Nat.le_refl _, Nat.zero_le _, ht, fun i h => absurd h (by simp), fun _ h => (by cases h), fun _ => ⟨rfl, rfl⟩⟩

theorem new_any (x : Int) (w : World) :
    Calls Tryz.prog 73 #[.int .i64 x] w fun e w' => e = .returned (.pointer (some ⟨w.heap.size, 0, none⟩)) ∧ Rg w' w.heap.size none (held x) [] ∧ w.grownBy w' none := by
  rcases (show x < 0 ∨ 4096 < x ∨ (0 ≤ x ∧ x ≤ 4096) by omega) with h | h | h
  · have e : held x = 0 := by unfold held; rw [if_pos h]
    rw [e]
    clear e
    go_enter Tryz.func73, Tryz.ntmps73
    go_wp2
    go_ret
    exact ⟨rfl, ⟨_, _, _, new_in w 0 (by omega)⟩, grown_made _ _ _⟩
  · have e : held x = 4096 := by unfold held; rw [if_neg (by omega), if_pos h]
    rw [e]
    have h0 : ¬ x < 0 := by omega
    clear e
    go_enter Tryz.func73, Tryz.ntmps73
    go_wp2
    go_ret
    exact ⟨rfl, ⟨_, _, _, new_in w 4096 (by omega)⟩, grown_made _ _ _⟩
  · have e : held x = x.toNat := by unfold held; rw [if_neg (by omega), if_neg (by omega)]
    rw [e]
    clear e
    obtain ⟨t, rfl⟩ := Int.eq_ofNat_of_zero_le h.1
    rw [Int.toNat_natCast]
    have h1 : ¬ (t : Int) < 0 := by omega
    have h2 : ¬ 4096 < (t : Int) := by omega
    go_enter Tryz.func73, Tryz.ntmps73
    go_wp2
    go_ret
    exact ⟨rfl, ⟨_, _, _, new_in w t (by omega)⟩, grown_made _ _ _⟩

theorem tinfo : (Tryz.prog.info? 43).map (fun i => (i.zero, i.size, i.bytes)) = some (some (C 0), 1, 4) := by kernel_rfl

/-- Behind grow: more places, from the first on. -/
def GrowPost (w : World) (p n r : Nat) (vs : List Int) (e : Ending) (w' : World) : Prop :=
  ∃ q N cs, e = .returned (.tuple #[]) ∧ In w' p (some q) N 0 r cs vs ∧ n < N ∧ w.heap.size ≤ q ∧ Within w w' (fun b => b = p)

def most2 (n r : Nat) : Nat := min (max (2 * n) 1) r
theorem grow_any {og : Option Nat} {cs vs : List Int} (h : In w p og n f r cs vs) (hv : vs.length = n) (hr : n < r) :
    Calls Tryz.prog 98 #[.pointer (some ⟨p, 0, none⟩)] w (GrowPost w p n r vs) := by
  have hf := h.few
  have hm := h.most
  have eN : (if (r : Int) < (if IntKind.i64.wrap (2 * (n : Int)) < 1 then 1 else IntKind.i64.wrap (2 * (n : Int))) then (r : Int) else if IntKind.i64.wrap (2 * (n : Int)) < 1 then 1 else IntKind.i64.wrap (2 * (n : Int))) = (most2 n r : Int) := by
    rw [IntWalk.i64_in _ (by omega)]; unfold most2; split <;> split <;> omega
  have hN : n < most2 n r ∧ most2 n r ≤ r := by unfold most2; omega
  generalize most2 n r = N at eN hN
  obtain ⟨i0, hi0, hz0, hz1, hz2⟩ := info_parts tinfo
  have hmk := fun W : World => run_make (P := Tryz.prog) W 26 43 i0 _ Tryz.underlying26 hi0 hz0 .i64 .i64 N N (by omega) (by omega) (by rw [hz2]; omega) (by omega)
  rw [hz1] at hmk
  clear hi0 hz0 hz1 hz2
  have c0 := h.hd.c0
  have c3 := h.hd.c3
  have EN := Lib.hid eN
  have HV := Lib.hid hv
  clear eN hv
  have hd := h.draws 1
  generalize og.map (fun g => (⟨g, 0, none⟩ : Addr)) = a at c0
  go_enter Tryz.func98, Tryz.ntmps98
  go_wp2
  go_still_tail 12, (by kernel_rfl)
  rw [EN.out]
  generalize (if IntKind.i64.wrap (2 * (n : Int)) < 1 then (1 : Int) else IntKind.i64.wrap (2 * (n : Int))) = x9
  change wpList _ _ _ _ _ (w.drewN 1)
  have hg1 : w.grownBy (w.drewN 1) none := grown_draws (grown_refl _ _) 1
  generalize w.drewN 1 = w1 at hd hg1 ⊢
  clear c0 c3
  go_wp2_with fail
  rw [show madeCells #[C 0] N = rowOf C (List.replicate N 0) from rowOf_made C 0 N]
  have hq := Bk.made w1 43 (rowOf C (List.replicate N 0))
  have hA := grown_made w1 (.cells (rowOf C (List.replicate N 0)) 43) none
  have hz : w1.heap.size < (w1.alloc (.cells (rowOf C (List.replicate N 0)) 43)).heap.size := by simp
  generalize w1.alloc (.cells (rowOf C (List.replicate N 0)) 43) = w2 at hq hA hz ⊢
  have hwA : Within w1 w2 (fun _ => False) := .of_grown hA (by simp)
  have h2 := hd.kept hwA (by simp) (by simp)
  have hpl := Bk.lt hd.hd
  have hgl : og ≠ some w1.heap.size := fun e => by have := hd.lt e; omega
  have hL := lay_in h2 hq (by rw [List.length_replicate, HV.out]; omega) (by rw [List.length_replicate]; omega) (by omega) hgl
  rw [List.length_replicate] at hL
  refine hL.mono ?_
  clear hL
  rintro e w3 ⟨rfl, hq3, hw3⟩
  have hw13 : Within w1 w3 (fun _ => False) := hwA.then_ (.of_grown (S := fun j => j = w1.heap.size) hw3 (by simp)) (by rintro i rfl; right; omega)
  have h3 := hd.kept hw13 (by simp) (by simp)
  have h3' := h3.hd
  have d0 := h3'.c0
  have d1 := h3'.c1
  have z0 := Bk.free h3' 0
  have z1 := Bk.free h3' 1
  have hne : p ≠ w1.heap.size := by omega
  have hw03 : Within w w3 (fun _ => False) := Within.then_ (.of_grown hg1 (by simp)) hw13 (by simp)
  have hs0 := hg1.size
  generalize w1.heap.size = q at *
  clear hq hA hz hwA h2 hpl hgl hw13 hw3 hg1 hd
  go_wp2
  go_end0
  refine ⟨q, N, layTo vs (List.replicate N 0) vs.length, rfl, ?_, hN.1, hs0, ?_⟩
  · refine ⟨?_, ?_, ?_, by rw [HV.out]; omega, hN.2, hf, ?_, ?_, ?_⟩
    · exact Bk.put (Bk.put h3' 0 _) 1 _
    · intro g' e
      obtain rfl : q = g' := by injection e
      exact (hq3.off (p := ⟨p, 0, none⟩) hne.symm _).off (p := ⟨p, 1, none⟩) hne.symm _
    · rw [layTo_len _ _ _ (Nat.le_refl _) (by rw [List.length_replicate, HV.out]; omega), List.length_replicate]
    · intro i hi
      have : i < N := by have := HV.out; omega
      rw [plc_zero this, layTo_at _ _ _ _ (Nat.le_refl _) hi]
    · intro _ _; omega
    · intro e; cases e
  · exact ((hw03.wide (S' := fun b => b = p) (by simp)).put p 0 _ (.inl rfl)).put p 1 _ (.inl rfl)

/-- Behind a Put: one more, last. -/
def PutPost (w : World) (p : Nat) (og : Option Nat) (r : Nat) (vs : List Int) (v : Int) (e : Ending) (w' : World) : Prop :=
  ∃ og', e = .returned (.bool true) ∧ Rg w' p og' r (vs ++ [v]) ∧ Moved w p og w' og'

theorem put_free {g : Nat} {cs vs : List Int} (h : In w p (some g) n f r cs vs) (hv : vs.length < n) (v : Int) :
    Calls Tryz.prog 75 #[.pointer (some ⟨p, 0, none⟩), C v] w (PutPost w p (some g) r vs v) := by
  have c0 := h.hd.c0
  have c2 := h.hd.c2
  have c3 := h.hd.c3
  simp only [Option.map_some] at c0
  have hf := h.few
  have hm := h.most
  have hfn := h.some_ g rfl
  have hM := h.more hv v
  generalize hc : vs.length = c at hv c2 hM
  have HC := Lib.hid hc
  clear hc
  have hne := h.ne rfl
  have t1 : decide ((r : Int) ≤ (c : Int)) = false := by simp; omega
  have t2 : ((c : Int) == (n : Int)) = false := by simp; omega
  have hpl : plc f c n < n := plc_lt (by omega)
  have b3 : (plc f c n : Int) < n := by omega
  have hl := h.len
  have e1 : w.cell? ⟨g, plc f c n, none⟩ = some (C (nthO 0 cs (plc f c n))) := by rw [(h.row g rfl).cell, rowOf_at (z := 0) C (by rw [hl]; exact hpl)]
  have z1 := (h.row g rfl).free (plc f c n)
  have z2 := Bk.free h.hd 2
  clear hl
  have k1 : ∀ (W : World) (u : Value) (i j : Nat), (W.setCell ⟨g, i, none⟩ u).cell? ⟨p, j, none⟩ = W.cell? ⟨p, j, none⟩ := fun W u i j => cell_off hne
  go_enter Tryz.func75, Tryz.ntmps75
  go_wp2
  go_quiet (fail)
  go_wp2
  go_quiet (fail)
  go_wp2
  go_region_held3 (fun w' => w'.cell? ⟨p, 0, none⟩ = some (Value.slice (some ⟨g, 0, none⟩) n n) ∧ w'.cell? ⟨p, 2, none⟩ = some (Value.int .i64 c)) (go_keep)
    (first | (go_at_call 99; refine (place_any (h.draws _).hd (by omega) (by omega) (by omega) c (by omega)).mono ?_; rintro e w' ⟨rfl, m, rfl⟩))
  go_wp2
  go_ret
  refine ⟨some g, rfl, ⟨n, f, _, hM.draws _⟩, .inl rfl, ?_⟩
  exact (((Within.refl w _).draws _).put g _ _ (.inl (.inr rfl))).put p _ _ (.inl (.inl rfl))
end
end Go.Proofs.YtpinpipjlongaaaGreat.RWord

/- Put, Take and All of layer 3 (ring) at values of one cell (here: uint32), whatever the ring holds. -/
namespace Go.Proofs.YtpinpipjlongaaaGreat.RWord
set_option maxRecDepth 100000
open Go.ChangeShapes Go.WideShapes Go.ChangeAt Go.RowKit
section
variable {w : World} {p : Nat} {a : Option Addr} {n f r : Nat}

theorem put_grow {og : Option Nat} {cs vs : List Int} (h : In w p og n f r cs vs) (hv : vs.length = n) (hr : n < r) (v : Int) :
    Calls Tryz.prog 75 #[.pointer (some ⟨p, 0, none⟩), C v] w (PutPost w p og r vs v) := by
  have c0 := h.hd.c0
  have c2 := h.hd.c2
  have c3 := h.hd.c3
  rw [hv] at c2
  have hf := h.few
  have HV := Lib.hid hv
  clear hv
  have t1 : decide ((r : Int) ≤ (n : Int)) = false := by simp; omega
  generalize og.map (fun g => (⟨g, 0, none⟩ : Addr)) = a at c0
  go_enter Tryz.func75, Tryz.ntmps75
  go_wp2
  go_quiet (fail)
  go_wp2
  go_quiet (fail)
  go_wp2_with fail
  refine (grow_any (h.draws _) HV.out hr).mono ?_
  rintro e w1 ⟨q, N, cs1, rfl, h1, hN, hq, hw1⟩
  have hq' : w.heap.size ≤ q := hq
  have hw1' : Within w w1 (fun b => b = p) := Within.then_ ((Within.refl w _).draws _) hw1 (fun i e => .inl e)
  clear c0 c2 c3 hw1 hq t1
  have c0 := h1.hd.c0
  have c2 := h1.hd.c2
  simp only [Option.map_some] at c0
  rw [HV.out] at c2
  have hm := h1.most
  have hM := h1.more (by rw [HV.out]; exact hN) v
  rw [HV.out] at hM
  have hne := h1.ne rfl
  have hpl : plc 0 n N < N := plc_lt (by omega)
  have b3 : (plc 0 n N : Int) < N := by omega
  have hl := h1.len
  have e1 : w1.cell? ⟨q, plc 0 n N, none⟩ = some (C (nthO 0 cs1 (plc 0 n N))) := by rw [(h1.row q rfl).cell, rowOf_at (z := 0) C (by rw [hl]; exact hpl)]
  have z1 := (h1.row q rfl).free (plc 0 n N)
  have z2 := Bk.free h1.hd 2
  clear hl
  have k1 : ∀ (W : World) (u : Value) (i j : Nat), (W.setCell ⟨q, i, none⟩ u).cell? ⟨p, j, none⟩ = W.cell? ⟨p, j, none⟩ := fun W u i j => cell_off hne
  go_wp2
  go_region_held3 (fun w' => w'.cell? ⟨p, 0, none⟩ = some (Value.slice (some ⟨q, 0, none⟩) N N) ∧ w'.cell? ⟨p, 2, none⟩ = some (Value.int .i64 n)) (go_keep)
    (first | (go_at_call 99; refine (place_any (w := w1.drew) h1.hd (by omega) (by omega) (by omega) n (by omega)).mono ?_; rintro e w' ⟨rfl, m, rfl⟩))
  go_wp2
  go_ret
  refine ⟨some q, rfl, ⟨N, 0, _, hM.draws _⟩, .inr ⟨q, rfl, hq'⟩, ?_⟩
  have hw2 : Within w w1 (fun b => b = p ∨ some b = og) := hw1'.wide (fun i e _ => .inl e)
  exact ((hw2.draws _).put q _ _ (.inr hq')).put p _ _ (.inl (.inl rfl))

theorem put_ok {og : Option Nat} {vs : List Int} (h : Rg w p og r vs) (hv : vs.length < r) (v : Int) :
    Calls Tryz.prog 75 #[.pointer (some ⟨p, 0, none⟩), C v] w (PutPost w p og r vs v) := by
  obtain ⟨n, f, cs, h⟩ := h
  by_cases e : vs.length = n
  · exact put_grow h e (by omega) v
  · have hfit := h.fits
    cases og with
    | none => obtain ⟨rfl, rfl⟩ := h.none_ rfl; omega
    | some g => exact put_free h (by omega) v
theorem room_rg {og : Option Nat} {vs : List Int} (h : Rg w p og r vs) :
    Calls Tryz.prog 93 #[.pointer (some ⟨p, 0, none⟩)] w fun e w' => e = .returned (.int .i64 ((r - vs.length : Nat) : Int)) ∧ ∃ m, w' = w.drewN m := by
  have hl := h.len_le
  obtain ⟨n, f, cs, h⟩ := h; exact room_any h.hd hl.1 hl.2

theorem take_no {og : Option Nat} (h : Rg w p og r []) :
    Calls Tryz.prog 78 #[.pointer (some ⟨p, 0, none⟩)] w fun e w' => e = .returned (.tuple #[C 0, .bool false]) ∧ w = w' := by
  obtain ⟨n, f, cs, h⟩ := h
  have c2 := h.hd.c2
  simp only [List.length_nil] at c2
  go_enter Tryz.func78, Tryz.ntmps78
  go_wp2
  go_ret2
  exact ⟨rfl, rfl⟩

/-- Behind a Take: the first one out. -/
def TakePost (w : World) (p : Nat) (og : Option Nat) (r : Nat) (v : Int) (vs : List Int) (e : Ending) (w' : World) : Prop :=
  e = .returned (.tuple #[C v, .bool true]) ∧ Rg w' p og r vs ∧ Within w w' (fun b => b = p ∨ some b = og)

theorem take_ok {og : Option Nat} {v : Int} {vs : List Int} (h : Rg w p og r (v :: vs)) :
    Calls Tryz.prog 78 #[.pointer (some ⟨p, 0, none⟩)] w (TakePost w p og r v vs) := by
  obtain ⟨n, f, cs, h⟩ := h
  have hfit := h.fits
  simp only [List.length_cons] at hfit
  cases og with
  | none => obtain ⟨rfl, rfl⟩ := h.none_ rfl; omega
  | some g =>
    have hfn := h.some_ g rfl
    have hm := h.most
    have hf := h.few
    have c0 := h.hd.c0
    have c1 := h.hd.c1
    have c2 := h.hd.c2
    simp only [Option.map_some] at c0
    simp only [List.length_cons] at c2
    have hL := h.less
    have hl := h.len
    have hat := h.at_ 0 (by simp)
    rw [plc_first hfn] at hat
    have hat' : nthO 0 cs f = v := by rw [← hat]; rfl
    have e1 : w.cell? ⟨g, f, none⟩ = some (C v) := by rw [(h.row g rfl).cell, rowOf_at (z := 0) C (by rw [hl]; exact hfn), hat']
    have b1 : (f : Int) < n := by omega
    have hne := h.ne rfl
    have z0 := (h.row g rfl).free f
    have z1 := Bk.free h.hd 1
    have z2 := Bk.free h.hd 2
    have h1 : Hd (w.setCell ⟨g, f, none⟩ (C 0)) p (some ⟨g, 0, none⟩) n f (vs.length + 1) r := Bk.off h.hd (p := ⟨g, f, none⟩) hne (C 0)
    clear hat hat' hl
    generalize vs.length = c at c2 hL h1 hfit
    have t2 : ((c + 1 : Nat) : Int) = (c : Int) + 1 := by omega
    rw [t2] at c2
    clear t2
    have k1 : ∀ (W : World) (u : Value) (i j : Nat), (W.setCell ⟨g, i, none⟩ u).cell? ⟨p, j, none⟩ = W.cell? ⟨p, j, none⟩ := fun W u i j => cell_off hne
    have t3 : ((c : Int) + 1 == 0) = false := by simp; omega
    go_enter Tryz.func78, Tryz.ntmps78
    go_wp2
    go_quiet (fail)
    go_wp2
    go_region_held3 (fun w' => w'.cell? ⟨p, 0, none⟩ = some (Value.slice (some ⟨g, 0, none⟩) n n) ∧ w'.cell? ⟨p, 1, none⟩ = some (Value.int .i64 f)) (go_keep) ((fail))
    go_wp2_with fail
    have h2 : Hd ((w.drewN (nq + 1)).setCell ⟨g, f, none⟩ (C 0)) p (some ⟨g, 0, none⟩) n f (c + 1) r := h1
    have hP := place_any h2 (by omega) (by omega) (by omega) 1 (by omega)
    refine hP.mono ?_
    clear hP
    rintro e w' ⟨rfl, m, rfl⟩
    go_wp2
    go_ret2
    refine ⟨rfl, ⟨n, _, _, hL.same rfl⟩, ?_⟩
    exact (((((Within.refl w _).draws _).put g _ _ (.inl (.inr rfl))).draws _).put p _ _ (.inl (.inl rfl))).put p _ _ (.inl (.inl rfl))

end
end Go.Proofs.YtpinpipjlongaaaGreat.RWord

/- A map from words to bools that the call itself has made: which words are in it, and how many; what a look-up, len, a store and delete do. Over any program that has such a map. -/
namespace Go.Proofs.YtpinpipjlongaaaGreat
set_option maxRecDepth 100000
open Go.ChangeShapes Go.WideShapes Go.ChangeAt Go.RowKit Go.Maps

theorem keyed32 : Keyed Tryz.prog 43 := int_keyed Tryz.underlying43
theorem wf32 {x : Int} (h0 : 0 ≤ x) (h1 : x < 4294967296) : (Lit.int .u32 x).wf = true := by
  simp [Lit.wf, IntKind.min, IntKind.max, IntKind.bits, IntKind.signed]; omega
theorem key32 {x : Int} (h0 : 0 ≤ x) (h1 : x < 4294967296) : keyOf Tryz.prog 43 (.int .u32 x) = some (.int .u32 x) := keyOf_int_mk Tryz.underlying43 (wf32 h0 h1)
theorem zeroBool (w : World) : (zeroValue 4).run Tryz.prog w = .ok (.bool false) w := by kernel_rfl
theorem isKey32 (x : Int) : WideAt.IsKeyLit (.int .u32 x) := by trivial
theorem lit32_ne {x y : Int} (h : y ≠ x) : (Lit.int .u32 y) ≠ .int .u32 x := fun e => h (by injection e)

/-- What one word is, is another. -/
def turn (os : Int → Bool) (x : Int) (v : Bool) : Int → Bool := fun y => if y = x then v else os y
theorem turn_same (os : Int → Bool) (x : Int) (v : Bool) : turn os x v x = v := by simp [turn]
theorem turn_other {os : Int → Bool} {x y : Int} {v : Bool} (h : y ≠ x) : turn os x v y = os y := by simp [turn, h]

/-- Block b is a map; os says which words are in it, each with true; they are c. -/
def Outs (w : World) (b : Nat) (os : Int → Bool) (c : Nat) : Prop :=
  ∃ D : DataW Unit, w.ownsMap Tryz.prog 43 (plainElem Tryz.prog 4) b c D ∧ size D = c ∧
    ∀ x, 0 ≤ x → x < 4294967296 → Maps.has D (.int .u32 x) = os x ∧ D.atKey (.int .u32 x) (.lit (.bool false)) = .lit (.bool (os x))

section
variable {w w' : World} {b c : Nat} {os : Int → Bool}
theorem ownsMap_tight {D : DataW Unit} {n : Nat} {k : TypeId} {R : Value → Option (DataW Unit × List MemPlace)} (h : w.ownsMap Tryz.prog k R b n D) : w.ownsMap Tryz.prog k R b (size D) D := by
  obtain ⟨es, clock, hb, F, hs, rfl⟩ := h
  exact ⟨es, clock, hb, F, by simp [Maps.size, length_sorted], rfl⟩
theorem Outs.lt (h : Outs w b os c) : b < w.heap.size := by obtain ⟨D, h, _⟩ := h; exact h.lt
theorem Outs.not_bk {g : Nat} {t : TypeId} {cs : Array Value} (h : Outs w b os c) (k : Bk w g t cs) : b ≠ g := by
  obtain ⟨D, ⟨es, clock, hb, _⟩, _⟩ := h
  intro e; subst e; unfold Bk at k; rw [hb] at k; cases k
theorem Outs.within {S : Nat → Prop} (h : Outs w b os c) (k : Within w w' S) (hn : ¬ S b) : Outs w' b os c := by
  have hl := h.lt
  obtain ⟨D, ⟨es, clock, hb, r⟩, r'⟩ := h
  exact ⟨D, ⟨es, clock, (k.block b hl hn).trans hb, r⟩, r'⟩
theorem Outs.drewN (h : Outs w b os c) (n : Nat) : Outs (w.drewN n) b os c := h
theorem Outs.made (w : World) : Outs (w.alloc (.map #[] 0)) w.heap.size (fun _ => false) 0 :=
  ⟨.map [], World.ownsMap_made w _ _ _, rfl, fun _ _ _ => ⟨rfl, rfl⟩⟩
theorem Outs.look (h : Outs w b os c) {x : Int} (h0 : 0 ≤ x) (h1 : x < 4294967296) : (Instr.lookup 121 (.map (some b)) (.int .u32 x) false).run Tryz.prog w = .ok (.bool (os x)) w := by
  obtain ⟨D, h, _, hk⟩ := h
  obtain ⟨v, ps, hrun, hv⟩ := h.lookup keyed32 Tryz.underlying121 (zeroBool w) (plainElem_bool Tryz.underlying4 false) (key32 h0 h1)
  rw [(hk x h0 h1).2] at hv
  rw [hrun]
  unfold plainElem at hv
  rw [Tryz.underlying4] at hv
  cases v <;> simp at hv
  rw [hv.1]
theorem Outs.len (h : Outs w b os c) (ty : TypeId) : (Builtin.len_ #[121] ty #[.map (some b)]).run Tryz.prog w = .ok (.int .i64 c) w := by
  obtain ⟨D, h, hs, _⟩ := h
  rw [← hs]
  exact h.len Tryz.underlying121 ty
theorem turn_has {D : DataW Unit} {os : Int → Bool} (hD : IsMap D) (hk : ∀ x, 0 ≤ x → x < 4294967296 → Maps.has D (.int .u32 x) = os x ∧ D.atKey (.int .u32 x) (.lit (.bool false)) = .lit (.bool (os x))) (k : Int) :
    ∀ x, 0 ≤ x → x < 4294967296 → Maps.has (D.put (.int .u32 k) (.lit (.bool true))) (.int .u32 x) = turn os k true x ∧ (D.put (.int .u32 k) (.lit (.bool true))).atKey (.int .u32 x) (.lit (.bool false)) = .lit (.bool (turn os k true x)) := by
  intro x h0 h1
  by_cases e : x = k
  · subst e; rw [turn_same]; exact ⟨has_put_same hD (isKey32 _) _, atKey_put_same hD (isKey32 _) _ _⟩
  · rw [turn_other e, has_put_other (lit32_ne e), atKey_put_other (lit32_ne e)]; exact hk x h0 h1
theorem turn_hasnt {D : DataW Unit} {os : Int → Bool} (hk : ∀ x, 0 ≤ x → x < 4294967296 → Maps.has D (.int .u32 x) = os x ∧ D.atKey (.int .u32 x) (.lit (.bool false)) = .lit (.bool (os x))) (k : Int) :
    ∀ x, 0 ≤ x → x < 4294967296 → Maps.has (D.del (.int .u32 k)) (.int .u32 x) = turn os k false x ∧ (D.del (.int .u32 k)).atKey (.int .u32 x) (.lit (.bool false)) = .lit (.bool (turn os k false x)) := by
  intro x h0 h1
  by_cases e : x = k
  · subst e; rw [turn_same]; exact ⟨has_del_same, atKey_del_same _⟩
  · rw [turn_other e, has_del_other (lit32_ne e), atKey_del_other (lit32_ne e)]; exact hk x h0 h1

/-- One more word. -/
theorem Outs.add (h : Outs w b os c) (hc : c < 1000000) {k : Int} (h0 : 0 ≤ k) (h1 : k < 4294967296) (hk : os k = false) :
    ∃ w', (Instr.mapUpdate 121 (.map (some b)) (.int .u32 k) (.bool true)).run Tryz.prog w = .ok () w' ∧ Outs w' b (turn os k true) (c + 1) ∧ Only w w' b := by
  obtain ⟨D, h, hs, hh⟩ := h
  obtain ⟨w', hrun, ho, hg⟩ := h.update keyed32 Tryz.underlying121 (by unfold maxLen; omega) (key32 h0 h1) (plainElem_bool (H := Unit) Tryz.underlying4 true)
  refine ⟨w', hrun, ⟨_, ho, ?_, turn_has h.isMap hh k⟩, hg⟩
  rw [size_put (h.tidy keyed32), (hh k h0 h1).1, hk, hs]; simp
end

section
variable {ops : Array Oper} {rest : List Oper} {o : Oper} {a : Act} {Q : Exit → Act → World → Prop} {w : World} {b c : Nat} {os : Int → Bool}
/-- One word fewer: delete, at the operation. -/
theorem wpOutsDrop (hg : o.guard = none) (m x : Operand) (hop : o.op = Op.call { callee := Callee.builtin Builtin.delete, args := #[m, x], argTypes := #[121, 43] })
    (hm : a.eval m = .map (some b)) (h : Outs w b os c) {k : Int} (h0 : 0 ≤ k) (h1 : k < 4294967296) (hx : a.eval x = .int .u32 k) (hk : os k = true)
    (hK : ∀ w', Outs w' b (turn os k false) (c - 1) → Only w w' b → wpList Tryz.prog ops Q rest (a.put o.dst (.tuple #[])) w') : wpList Tryz.prog ops Q (o :: rest) a w := by
  obtain ⟨D, h, hs, hh⟩ := h
  refine wpList_delete_own w hg m x 121 43 hop 4 keyed32 Tryz.underlying121 _ b c D hm h _ _ hx (key32 h0 h1) fun w' h' ht => ?_
  have hsz := size_del (k := .int .u32 k) (h.tidy keyed32)
  rw [(hh k h0 h1).1, hk, hs] at hsz
  have hsz' : size (D.del (.int .u32 k)) = c - 1 := by simp at hsz; omega
  refine hK w' ⟨_, ?_, hsz', turn_hasnt hh k⟩ ht.grown
  rw [← hsz']
  exact ownsMap_tight h'
end
end Go.Proofs.YtpinpipjlongaaaGreat

/- The document's instructions: Ref, Name, reg. -/
namespace Go.Proofs.YtpinpipjlongaaaGreat
open Go.ChangeShapes Go.WideShapes Go.ChangeAt Go.RowKit
set_option linter.unusedVariables false

theorem run_eqJ (i j : Ins) (w : World) : (binOp .eql 97 (iv i) (iv j)).run Tryz.prog w = .ok (.bool (eqI i j)) w := by
  unfold iv
  have hu := Tryz.underlying97
  go_simp
  unfold eqI
  repeat' split
  all_goals simp [*]

/-- Block g is the instruction i. -/
def Jb (w : World) (g : Nat) (i : Ins) : Prop := Bk w g 97 #[.int .i64 i.op, .int .i64 i.d, .int .i64 i.s, .int .i64 i.t, .int .i64 i.u, .int .i64 i.a, .int .u32 i.k, .int .i64 i.pl]
theorem Jb.cells {w : World} {g : Nat} {i : Ins} (h : Jb w g i) :
    w.cell? ⟨g, 0, none⟩ = some (.int .i64 i.op) ∧ w.cell? ⟨g, 1, none⟩ = some (.int .i64 i.d) ∧ w.cell? ⟨g, 2, none⟩ = some (.int .i64 i.s) ∧ w.cell? ⟨g, 3, none⟩ = some (.int .i64 i.t) ∧
    w.cell? ⟨g, 4, none⟩ = some (.int .i64 i.u) ∧ w.cell? ⟨g, 5, none⟩ = some (.int .i64 i.a) ∧ w.cell? ⟨g, 6, none⟩ = some (.int .u32 i.k) ∧ w.cell? ⟨g, 7, none⟩ = some (.int .i64 i.pl) :=
  ⟨Bk.cell h 0, Bk.cell h 1, Bk.cell h 2, Bk.cell h 3, Bk.cell h 4, Bk.cell h 5, Bk.cell h 6, Bk.cell h 7⟩
theorem Jb.below {w w' : World} {g : Nat} {i : Ins} (h : Jb w g i) (hb : Below w.heap.size w w') : Jb w' g i := (hb.block g (Bk.lt h)).trans h

theorem Jb.grw {w : World} {b : Nat} {i : Ins} (h : Jb w b i) :
    (∀ g : Grw w, g.x.cell? ⟨b, 0, none⟩ = some (.int .i64 i.op)) ∧ (∀ g : Grw w, g.x.cell? ⟨b, 1, none⟩ = some (.int .i64 i.d)) ∧ (∀ g : Grw w, g.x.cell? ⟨b, 2, none⟩ = some (.int .i64 i.s)) ∧ (∀ g : Grw w, g.x.cell? ⟨b, 3, none⟩ = some (.int .i64 i.t)) ∧
    (∀ g : Grw w, g.x.cell? ⟨b, 4, none⟩ = some (.int .i64 i.u)) ∧ (∀ g : Grw w, g.x.cell? ⟨b, 5, none⟩ = some (.int .i64 i.a)) ∧ (∀ g : Grw w, g.x.cell? ⟨b, 6, none⟩ = some (.int .u32 i.k)) ∧ (∀ g : Grw w, g.x.cell? ⟨b, 7, none⟩ = some (.int .i64 i.pl)) := by
  obtain ⟨c0, c1, c2, c3, c4, c5, c6, c7⟩ := h.cells
  exact ⟨fun g => g.cell c0, fun g => g.cell c1, fun g => g.cell c2, fun g => g.cell c3, fun g => g.cell c4, fun g => g.cell c5, fun g => g.cell c6, fun g => g.cell c7⟩

theorem Jb.made (w : World) (op d s t u a k pl : Int) : Jb (w.alloc (.cells #[.int .i64 op, .int .i64 d, .int .i64 s, .int .i64 t, .int .i64 u, .int .i64 a, .int .u32 k, .int .i64 pl] 97)) w.heap.size ⟨op, d, s, t, u, a, k, pl⟩ := Bk.made _ _ _
theorem boxedJ {w x : World} {op d s t u a k pl : Int} (h : Below (w.alloc (.cells #[.int .i64 op, .int .i64 d, .int .i64 s, .int .i64 t, .int .i64 u, .int .i64 a, .int .u32 k, .int .i64 pl] 97)).heap.size (w.alloc (.cells #[.int .i64 op, .int .i64 d, .int .i64 s, .int .i64 t, .int .i64 u, .int .i64 a, .int .u32 k, .int .i64 pl] 97)) x) : Jb x w.heap.size ⟨op, d, s, t, u, a, k, pl⟩ ∧ Below w.heap.size w x :=
  ⟨(Jb.made w op d s t u a k pl).below h, ((Below.refl _ _).alloc (Nat.le_refl _) _).trans (h.mono (by simp))⟩


theorem rRef (i : Ins) (w : World) :
    Calls Tryz.prog 41 #[iv i] w fun e w' => e = .returned (iv i) ∧ Below w.heap.size w w' := by
  obtain ⟨op, d, s, t, u, a, k, pl⟩ := i
  unfold iv
  go_enter Tryz.func41, Tryz.ntmps41
  go_wp2
  refine bodyPost_ret (v := .agg #[.int .i64 op, .int .i64 d, .int .i64 s, .int .i64 t, .int .i64 u, .int .i64 a, .int .u32 k, .int .i64 pl]) (by simp [results, Tryz.results41, go_sem]) rfl ⟨rfl, ?_⟩
  exact ((Below.refl _ _).alloc (Nat.le_refl _) _).alloc (by simp) _

theorem rRegYes (n : Int) (h0 : 0 ≤ n) (h1 : n ≤ 7) (w : World) : Calls Tryz.prog 66 #[.int .i64 n] w fun e w' => e = .returned (.bool true) ∧ w = w' := by
  go_enter Tryz.func66, Tryz.ntmps66
  go_wp2
  go_ret
  exact ⟨rfl, rfl⟩
theorem rRegNo (n : Int) (h : n < 0 ∨ 7 < n) (w : World) : Calls Tryz.prog 66 #[.int .i64 n] w fun e w' => e = .returned (.bool false) ∧ w = w' := by
  rcases h with h | h
  · have h2 : decide (n ≥ 0) = false := by simp; omega
    go_enter Tryz.func66, Tryz.ntmps66
    go_wp2
    go_ret
    exact ⟨rfl, rfl⟩
  · have h2 : decide (n ≤ 7) = false := by simp; omega
    have h3 : 0 ≤ n := by omega
    go_enter Tryz.func66, Tryz.ntmps66
    go_wp2
    go_ret
    exact ⟨rfl, rfl⟩


/-- The names, as the document lays them. -/
def namesA : Array Value := #[.string ⟨#[]⟩, .string ⟨#[99, 111, 110, 115, 116]⟩, .string ⟨#[109, 111, 118, 101]⟩, .string ⟨#[97, 100, 100, 107]⟩, .string ⟨#[97, 110, 100, 107]⟩, .string ⟨#[115, 104, 108]⟩, .string ⟨#[115, 104, 114]⟩, .string ⟨#[111, 114]⟩, .string ⟨#[98, 101, 113]⟩, .string ⟨#[98, 110, 101]⟩, .string ⟨#[106, 117, 109, 112]⟩, .string ⟨#[115, 101, 108, 102]⟩, .string ⟨#[109, 97, 114, 107]⟩, .string ⟨#[100, 111, 110, 101]⟩, .string ⟨#[]⟩, .string ⟨#[]⟩, .string ⟨#[108, 111, 97, 100]⟩, .string ⟨#[115, 116, 111, 114, 101]⟩, .string ⟨#[115, 119, 97, 112]⟩, .string ⟨#[99, 97, 115]⟩, .string ⟨#[102, 97, 100, 100]⟩, .string ⟨#[97, 119, 97, 105, 116]⟩, .string ⟨#[116, 97, 107, 101]⟩, .string ⟨#[102, 114, 101, 101]⟩]
theorem namesA_at : ∀ n : Nat, 1 ≤ n → n ≤ 23 → namesA[n]? = some (.string ⟨(nmL n).toArray⟩) := by
  intro n h1 h2
  have hn : n = 1 ∨ n = 2 ∨ n = 3 ∨ n = 4 ∨ n = 5 ∨ n = 6 ∨ n = 7 ∨ n = 8 ∨ n = 9 ∨ n = 10 ∨ n = 11 ∨ n = 12 ∨ n = 13 ∨ n = 14 ∨ n = 15 ∨ n = 16 ∨ n = 17 ∨ n = 18 ∨ n = 19 ∨ n = 20 ∨ n = 21 ∨ n = 22 ∨ n = 23 := by omega
  rcases hn with rfl | rfl | rfl | rfl | rfl | rfl | rfl | rfl | rfl | rfl | rfl | rfl | rfl | rfl | rfl | rfl | rfl | rfl | rfl | rfl | rfl | rfl | rfl <;> rfl

section
variable {P : Program} {ops : Array Oper} {rest : List Oper} {o : Oper} {a : Act} {w : World} {Q : Exit → Act → World → Prop}
theorem wpList_build_to (hg : o.guard = none) (t : TypeId) (parts : Array (Nat × Operand)) (ho : o.op = .build t parts) (cs : Array Value)
    (hf : P.built t (parts.map fun (i, x) => (i, a.eval x)).toList = some cs) (h : wpList P ops Q rest (a.put o.dst (.agg cs)) w) : wpList P ops Q (o :: rest) a w :=
  wpList_build hg t parts ho (by rw [hf]; rfl) (by rw [hf]; exact h)
theorem wpList_store_new (hgd : o.guard = none) (ty : TypeId) (x y : Operand) (ho : o.op = .store ty x y) (old cells : Array Value) (hx : a.eval x = .pointer (some ⟨w.heap.size, 0, none⟩)) (hy : a.eval y = .agg cells)
    (hi : (P.info? ty).map (·.size) = some cells.size) (hold : old.size = cells.size) (h1 : cells.all (·.oneCell') = true)
    (h : wpList P ops Q rest (a.put o.dst undef) (w.alloc (.cells cells ty))) : wpList P ops Q (o :: rest) a (w.alloc (.cells old ty)) :=
  wpList_store_row hgd ty x y ho w.heap.size cells hx hy ty old (heap_alloc_new w _) hi hold h1 (by rw [World.setRow_alloc_new]; exact h)
end

set_option maxRecDepth 100000 in
theorem rName (op : Int) (w : World) : Calls Tryz.prog 65 #[.int .i64 op] w fun e w' => e = .returned (bs (nmL op)) ∧ Below w.heap.size w w' := by
  by_cases h : op < 1 ∨ 23 < op
  · have E := Lib.hid (show nmL op = [] from (hs_none (by omega)).2)
    generalize nmL op = nm at *
    rcases h with h | h
    · go_enter Tryz.func65, Tryz.ntmps65
      go_wp2_with (first | (refine wpList_build_to rfl 173 _ rfl namesA (by kernel_rfl) ?_) | (refine wpList_store_new rfl 173 _ _ rfl _ namesA rfl rfl (by kernel_rfl) (by kernel_rfl) (by kernel_rfl) ?_))
      go_ret
      exact ⟨by rw [E.out]; rfl, (Below.refl _ _).alloc (Nat.le_refl _) _⟩
    · have h2 : decide (op < 1) = false := by simp; omega
      go_enter Tryz.func65, Tryz.ntmps65
      go_wp2_with (first | (refine wpList_build_to rfl 173 _ rfl namesA (by kernel_rfl) ?_) | (refine wpList_store_new rfl 173 _ _ rfl _ namesA rfl rfl (by kernel_rfl) (by kernel_rfl) (by kernel_rfl) ?_))
      go_ret
      exact ⟨by rw [E.out]; rfl, (Below.refl _ _).alloc (Nat.le_refl _) _⟩
  · obtain ⟨n, hn⟩ : ∃ n : Nat, op = n := ⟨op.toNat, by omega⟩
    subst hn
    have h1 : 1 ≤ n := by omega
    have h23 : n ≤ 23 := by omega
    have hc : (w.alloc (.cells namesA 173)).cell? ⟨w.heap.size, n, none⟩ = some (.string ⟨(nmL n).toArray⟩) := by
      rw [cell_of_row _ _ _ _ _ _ (heap_alloc_new w _)]
      exact namesA_at n h1 h23
    generalize nmL n = nm at *
    have d1 : decide ((n : Int) < 1) = false := by simp; omega
    have d2 : decide ((n : Int) > 23) = false := by simp; omega
    have d3 : (n : Int) < 24 := by omega
    clear h
    go_enter Tryz.func65, Tryz.ntmps65
    go_wp2_with (first | (refine wpList_build_to rfl 173 _ rfl namesA (by kernel_rfl) ?_) | (refine wpList_store_new rfl 173 _ _ rfl _ namesA rfl rfl (by kernel_rfl) (by kernel_rfl) (by kernel_rfl) ?_))
    go_ret
    exact ⟨rfl, (Below.refl _ _).alloc (Nat.le_refl _) _⟩

/-- Each register, and the area, is one. -/
structure Regs (i : Ins) : Prop where
  d : 0 ≤ i.d ∧ i.d ≤ 7
  s : 0 ≤ i.s ∧ i.s ≤ 7
  t : 0 ≤ i.t ∧ i.t ≤ 7
  u : 0 ≤ i.u ∧ i.u ≤ 7
  a : 0 ≤ i.a ∧ i.a ≤ 7
end Go.Proofs.YtpinpipjlongaaaGreat
