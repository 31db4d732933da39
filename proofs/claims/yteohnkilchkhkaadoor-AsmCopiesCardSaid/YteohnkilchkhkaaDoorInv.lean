/- A region that draws its order, by a word that holds whatever has been done: over any program. -/
import Derived.Test.YteohnkilchkhkaaDoorRow
import Derived.Orders
namespace Go.Proofs.YteohnkilchkhkaaDoor
open Go.ChangeShapes Go.WideShapes Go.ChangeAt Go.RowKit
set_option linter.unusedVariables false

/-- How many are still to be done. -/
def left (listed : Array Bool) : Nat := (listed.toList.filter fun b => !b).length
theorem left_set : ∀ (l : List Bool) (i : Nat), l[i]? = some false → ((l.set i true).filter fun b => !b).length + 1 = (l.filter fun b => !b).length
  | [], i, h => by simp at h
  | b :: l, 0, h => by simp at h; subst h; simp
  | b :: l, i + 1, h => by
    have ih := left_set l i (by simpa using h)
    cases b <;> simp at ih ⊢ <;> omega
theorem left_none : ∀ (l : List Bool) (i : Nat), (l.filter fun b => !b).length = 0 → l[i]? ≠ some false
  | [], i, h => by simp
  | b :: l, 0, h => by cases b <;> simp at h ⊢
  | b :: l, i + 1, h => by
    have ih := left_none l i (by cases b <;> simp at h ⊢; exact h)
    simpa using ih

section
variable {P : Program} {ops : Array Oper} {Q : Exit → Act → World → Prop}
theorem ready_free {listed : Array Bool} {i : Nat} (h : i ∈ Region.ready .any ops listed) : listed.toList[i]? = some false := by
  unfold Region.ready at h
  rw [List.mem_filter] at h
  have h2 := h.2
  simp only [Bool.and_eq_true, Bool.not_eq_true'] at h2
  have h3 := h2.1
  rw [Array.getElem?_toList]
  rw [Array.getD_eq_getD_getElem?] at h3
  cases e : listed[i]? with
  | none => rw [e] at h3; simp at h3
  | some b => rw [e] at h3; simp at h3; rw [h3]
theorem wpAny_inv (Inv : Array Bool → Act → World → Prop)
    (hstep : ∀ listed a w i, Inv listed a w → i ∈ Region.ready .any ops listed → wpOp P ops Q i (fun a' w' => Inv (listed.setIfInBounds i true) a' w') a w)
    (hend : ∀ listed a w, Inv listed a w → Region.ready .any ops listed = [] → Q .normal a w) :
    ∀ (fuel : Nat) (listed : Array Bool) (a : Act) (w : World), Inv listed a w → left listed ≤ fuel → wpAny P .any ops Q fuel listed a w
  | 0, listed, a, w, hi, hf => by
    have e : Region.ready .any ops listed = [] := by
      rw [List.eq_nil_iff_forall_not_mem]
      intro i h
      exact left_none listed.toList i (by unfold left at hf; omega) (ready_free h)
    exact ⟨e, hend _ _ _ hi e⟩
  | fuel + 1, listed, a, w, hi, hf => by
    refine ⟨fun e => hend _ _ _ hi e, fun i h => wpOp_mono (fun a' w' h2 => ?_) (hstep listed a w i hi h)⟩
    refine wpAny_inv Inv hstep hend fuel _ a' w' h2 ?_
    have := left_set listed.toList i (ready_free h)
    unfold left at hf ⊢
    rw [Array.toList_setIfInBounds]
    omega
theorem wp_region_inv {id : Nat} {a : Act} {w : World} (hm : P.follows .mixedOrders = true) (Inv : Array Bool → Act → World → Prop) (h0 : Inv (Array.replicate ops.size false) a w.drew)
    (hstep : ∀ listed a w i, Inv listed a w → i ∈ Region.ready .any ops listed → wpOp P ops Q i (fun a' w' => Inv (listed.setIfInBounds i true) a' w') a w)
    (hend : ∀ listed a w, Inv listed a w → Region.ready .any ops listed = [] → Q .normal a w) : (Code.region id ops true).wp P Q a w :=
  wp_region_any hm (wpAny_inv Inv hstep hend _ _ _ _ h0 (by unfold left; exact Nat.le_trans (List.length_filter_le _ _) (by simp)))
end

-- what each operation leaves, whatever else has been done

def dstOf (ops : Array Oper) (i : Nat) : Option Tmp := (ops[i]?).bind (·.dst)
/-- The operation that a slot is of. -/
def ownOf (ops : Array Oper) (t : Nat) : Option Nat := (List.range ops.size).find? fun i => dstOf ops i == some t
def depsOf (ops : Array Oper) (i : Nat) : List Nat := match ops[i]? with
  | some o => (o.after.toList.filter fun e => Region.binds .any e).map (·.on)
  | none => []
def noSel : Op → Bool
  | .select .. => false
  | _ => true
/-- What an operation looks at is what it waits for, or nothing of the region's; no slot is of two. -/
def relyB (ops : Array Oper) : Bool := (List.range ops.size).all fun i => match ops[i]? with
  | some o => noSel o.op && ((o.looksAt ops).all fun t => match ownOf ops t with
      | some j => (depsOf ops i).contains j
      | none => true) && (match o.dst with
      | some d => ownOf ops d == some i
      | none => true) && ((depsOf ops i).all fun j => decide (j < i))
  | none => false
def over (f : Nat → Option Value) : List Value → Nat → List Value
  | [], _ => []
  | x :: xs, t => (f t).getD x :: over f xs (t + 1)
theorem over_at (f : Nat → Option Value) : ∀ (xs : List Value) (t k : Nat), (over f xs t)[k]? = (xs[k]?).map fun x => (f (t + k)).getD x
  | [], t, k => by simp [over]
  | x :: xs, t, 0 => by simp [over]
  | x :: xs, t, k + 1 => by
    have ih := over_at f xs (t + 1) k
    simp [over, ih, Nat.add_assoc, Nat.add_comm 1 k]
/-- The frame, when those of d have been done. -/
def frameOf (ops : Array Oper) (a : Act) (d : Nat → Bool) (vs : Nat → Value) : Act :=
  { a with tmps := (over (fun t => match ownOf ops t with
      | some i => if d i = true then some (vs i) else none
      | none => none) a.tmps.toList 0).toArray }
theorem frame_at (ops : Array Oper) (a : Act) (d : Nat → Bool) (vs : Nat → Value) (t : Nat) : (frameOf ops a d vs).tmps[t]? = (a.tmps[t]?).map fun x => (match ownOf ops t with
      | some i => if d i = true then some (vs i) else none
      | none => none).getD x := by
  simp [frameOf, over_at]
theorem frame_none (ops : Array Oper) (a : Act) (vs : Nat → Value) : frameOf ops a (fun _ => false) vs = a := by
  obtain ⟨tmps, defers⟩ := a
  have e : (frameOf ops ⟨tmps, defers⟩ (fun _ => false) vs).tmps = tmps := by
    apply Array.ext_getElem?
    intro t
    rw [frame_at]
    cases h : tmps[t]? with
    | none => simp
    | some x => cases h2 : ownOf ops t <;> simp
  have e2 : frameOf ops ⟨tmps, defers⟩ (fun _ => false) vs = ⟨(frameOf ops ⟨tmps, defers⟩ (fun _ => false) vs).tmps, defers⟩ := rfl
  rw [e2, e]
theorem frame_put (ops : Array Oper) (a : Act) (d : Nat → Bool) (vs : Nat → Value) (i : Nat) (o : Oper) (ho : ops[i]? = some o) (hd : ∀ x, o.dst = some x → ownOf ops x = some i) (hn : ∀ t, ownOf ops t = some i → o.dst = some t) (hdi : d i = false) (v : Value) :
    (frameOf ops a d vs).put o.dst v = frameOf ops a (fun j => if j = i then true else d j) (fun j => if j = i then v else vs j) := by
  have key : ((frameOf ops a d vs).put o.dst v).tmps = (frameOf ops a (fun j => if j = i then true else d j) (fun j => if j = i then v else vs j)).tmps := by
    apply Array.ext_getElem?
    intro t
    rw [frame_at]
    cases hx : o.dst with
    | none =>
      show (frameOf ops a d vs).tmps[t]? = _
      rw [frame_at]
      cases h2 : ownOf ops t with
      | none => rfl
      | some j =>
        have hj : j ≠ i := fun e => by have := hn t (e ▸ h2); rw [hx] at this; cases this
        simp [hj]
    | some x =>
      show ((frameOf ops a d vs).tmps.setIfInBounds x v)[t]? = _
      rw [Array.getElem?_setIfInBounds]
      by_cases e : x = t
      · subst e
        rw [if_pos rfl, hd x hx]
        have hsz : (frameOf ops a d vs).tmps.size = a.tmps.size := by
          have l : ∀ (f : Nat → Option Value) (xs : List Value) (t : Nat), (over f xs t).length = xs.length := by
            intro f xs
            induction xs with
            | nil => intro t; rfl
            | cons x xs ih => intro t; simp [over, ih]
          simp [frameOf, l]
        rw [hsz]
        by_cases hlt : x < a.tmps.size
        · simp [hlt]
        · simp [hlt]
      · rw [if_neg e, frame_at]
        cases h2 : ownOf ops t with
        | none => rfl
        | some j =>
          have hj : j ≠ i := fun e3 => by have := hn t (e3 ▸ h2); rw [hx] at this; injection this with this; exact e this
          simp [hj]
  have e1 : (frameOf ops a d vs).put o.dst v = ⟨((frameOf ops a d vs).put o.dst v).tmps, a.defers⟩ := by cases o.dst <;> rfl
  have e2 : frameOf ops a (fun j => if j = i then true else d j) (fun j => if j = i then v else vs j) = ⟨(frameOf ops a (fun j => if j = i then true else d j) (fun j => if j = i then v else vs j)).tmps, a.defers⟩ := rfl
  rw [e1, e2, key]
/-- Where two frames agree on what an operation looks at, it does the same. -/
theorem frame_same (ops : Array Oper) (a : Act) (d : Nat → Bool) (vs : Nat → Value) (o : Oper) (hs : noSel o.op = true) (h : ∀ t ∈ o.looksAt ops, ∀ i, ownOf ops t = some i → d i = true) :
    execOp (frameOf ops a d vs).eval o = execOp (frameOf ops a (fun _ => true) vs).eval o ∧ Region.wanted o (yielded ops (frameOf ops a d vs).tmps) = Region.wanted o (yielded ops (frameOf ops a (fun _ => true) vs).tmps) := by
  have key : ∀ t ∈ o.looksAt ops, (frameOf ops a d vs).tmps[t]? = (frameOf ops a (fun _ => true) vs).tmps[t]? := by
    intro t ht
    rw [frame_at, frame_at]
    cases h2 : ownOf ops t with
    | none => rfl
    | some i => simp [h t ht i h2]
  constructor
  · refine execOp_congr o (fun cs b e => by rw [e] at hs; cases hs) fun x hx => ?_
    cases x with
    | tmp t =>
      have := key t (List.mem_append_left _ (List.mem_filterMap.2 ⟨.tmp t, by simpa using hx, rfl⟩))
      show (frameOf ops a d vs).tmps.getD t undef = (frameOf ops a (fun _ => true) vs).tmps.getD t undef
      rw [Array.getD_eq_getD_getElem?, Array.getD_eq_getD_getElem?, this]
    | _ => rfl
  · unfold Region.wanted
    cases hg : o.guard with
    | none => rfl
    | some g =>
      obtain ⟨g, want⟩ := g
      simp only
      have : yielded ops (frameOf ops a d vs).tmps g = yielded ops (frameOf ops a (fun _ => true) vs).tmps g := by
        unfold yielded
        cases hb : (ops[g]?).bind (·.dst) with
        | none => rfl
        | some t =>
          have := key t (by unfold Oper.looksAt; rw [hg]; simp only; rw [hb]; simp)
          simp only [Option.bind_some, this]
      rw [this]

/-- What one operation leaves, in a frame in which all have been done. -/
def leaves (P : Program) (F : Value → World → Prop) (W : World) : Result Next → Prop
  | .ok (.value v) W' => F v W' ∧ Below W.heap.size W W'
  | .ok .skip W' => F undef W' ∧ Below W.heap.size W W'
  | .ok (.enter f args) W' => Calls P f args W' fun e W2 => ∃ v, e = .returned v ∧ F v W2 ∧ Below W.heap.size W W2
  | _ => False
def leavesOp (P : Program) (ops : Array Oper) (F : Value → World → Prop) (o : Oper) (a : Act) (W : World) : Prop :=
  if Region.wanted o (yielded ops a.tmps) = true then leaves P F W ((execOp a.eval o).run P W) else F undef W

theorem leaves_free {P : Program} {ops : Array Oper} {F : Value → World → Prop} {o : Oper} {a : Act} {W : World} (hg : o.guard = none) (h : leaves P F W ((execOp a.eval o).run P W)) : leavesOp P ops F o a W := by
  unfold leavesOp
  rw [if_pos (by simp [Region.wanted, hg])]
  exact h
theorem leaves_guard {P : Program} {ops : Array Oper} {F : Value → World → Prop} {o : Oper} {a : Act} {W : World} {g : Nat} {want : Bool} (hg : o.guard = some (g, want)) (hy : yielded ops a.tmps g = some want) (h : leaves P F W ((execOp a.eval o).run P W)) : leavesOp P ops F o a W := by
  unfold leavesOp
  rw [if_pos (by simp [Region.wanted, hg, hy])]
  exact h
theorem wp_region_rely {P : Program} {ops : Array Oper} {Q : Exit → Act → World → Prop} {id : Nat} {a : Act} {w : World} (hm : P.follows .mixedOrders = true) (hr : relyB ops = true) (F : Nat → Value → World → Prop)
    (hst : ∀ i v W W', F i v W → Below W.heap.size W W' → F i v W')
    (hop : ∀ i o, ops[i]? = some o → ∀ (vs : Nat → Value) W, Below w.heap.size w W → (∀ j ∈ depsOf ops i, F j (vs j) W) → leavesOp P ops (F i) o (frameOf ops a (fun _ => true) vs) W)
    (hend : ∀ (vs : Nat → Value) W, Below w.heap.size w W → (∀ i, i < ops.size → F i (vs i) W) → Q .normal (frameOf ops a (fun _ => true) vs) W) : (Code.region id ops true).wp P Q a w := by
  have hR : ∀ i o, ops[i]? = some o → noSel o.op = true ∧ (∀ t ∈ o.looksAt ops, ∀ j, ownOf ops t = some j → j ∈ depsOf ops i) ∧ (∀ x, o.dst = some x → ownOf ops x = some i) ∧ ∀ j ∈ depsOf ops i, j < i := by
    intro i o ho
    have hi : i < ops.size := (Array.getElem?_eq_some_iff.1 ho).1
    unfold relyB at hr
    have h := List.all_eq_true.1 hr i (List.mem_range.2 hi)
    rw [ho] at h
    simp only [Bool.and_eq_true] at h
    refine ⟨h.1.1.1, fun t ht j hj => ?_, fun x hx => ?_, fun j hj => ?_⟩
    · have := List.all_eq_true.1 h.1.1.2 t ht
      rw [hj] at this
      simpa using this
    · have := h.1.2
      rw [hx] at this
      simpa using this
    · have := List.all_eq_true.1 h.2 j hj
      simpa using this
  have hN : ∀ t i o, ops[i]? = some o → ownOf ops t = some i → o.dst = some t := by
    intro t i o ho h
    have := List.find?_some h
    simp only [dstOf, ho, Option.bind_some, beq_iff_eq] at this
    exact this
  refine wp_region_inv hm (fun listed a' W => ∃ vs : Nat → Value, listed.size = ops.size ∧ a' = frameOf ops a (fun i => listed.getD i false) vs ∧ Below w.heap.size w W ∧ ∀ i, listed.getD i false = true → F i (vs i) W) ?_ ?_ ?_
  · refine ⟨fun _ => undef, by simp, ?_, (Below.refl _ _).drew, fun i h => ?_⟩
    · have e : (fun i => (Array.replicate ops.size false).getD i false) = fun _ => false := by
        funext i
        rw [Array.getD_eq_getD_getElem?, Array.getElem?_replicate]
        split <;> rfl
      rw [e, frame_none]
    · rw [Array.getD_eq_getD_getElem?, Array.getElem?_replicate] at h
      split at h <;> cases h
  · rintro listed a' W i ⟨vs, hsz, rfl, hB, hF⟩ hi
    have hfree := ready_free hi
    have hready := hi
    unfold Region.ready at hready
    rw [List.mem_filter, List.mem_range] at hready
    obtain ⟨hlt, hc⟩ := hready
    simp only [Bool.and_eq_true] at hc
    have hc2 := hc.2
    have ho : ops[i]? = some ops[i] := Array.getElem?_eq_getElem hlt
    rw [ho] at hc2
    simp only [Option.map_some, Option.getD_some] at hc2
    rw [← Array.all_toList, List.all_eq_true] at hc2
    generalize ops[i] = o at *
    obtain ⟨r1, r2, r3, r4⟩ := hR i o ho
    have hdep : ∀ j ∈ depsOf ops i, listed.getD j false = true := by
      intro j hj
      unfold depsOf at hj
      rw [ho] at hj
      simp only [List.mem_map, List.mem_filter] at hj
      obtain ⟨e, ⟨he, hb⟩, rfl⟩ := hj
      have := hc2 e he
      simpa [hb] using this
    obtain ⟨s1, s2⟩ := frame_same ops a (fun i => listed.getD i false) vs o r1 fun t ht j hj => hdep j (r2 t ht j hj)
    have hl := hop i o ho vs W hB fun j hj => hF j (hdep j hj)
    have hif : listed.getD i false = false := by
      rw [Array.getD_eq_getD_getElem?, ← Array.getElem?_toList, hfree]; rfl
    have next : ∀ v W', F i v W' → Below W.heap.size W W' → ∃ vs' : Nat → Value, (listed.setIfInBounds i true).size = ops.size ∧ (frameOf ops a (fun i => listed.getD i false) vs).put o.dst v = frameOf ops a (fun j => (listed.setIfInBounds i true).getD j false) vs' ∧ Below w.heap.size w W' ∧ ∀ j, (listed.setIfInBounds i true).getD j false = true → F j (vs' j) W' := by
      intro v W' hf hb
      have eg : (fun j => (listed.setIfInBounds i true).getD j false) = fun j => if j = i then true else listed.getD j false := by
        funext j
        rw [Array.getD_eq_getD_getElem?, Array.getElem?_setIfInBounds, Array.getD_eq_getD_getElem?]
        by_cases e : j = i
        · subst e
          simp [hsz, hlt]
        · rw [if_neg (fun e2 => e e2.symm), if_neg e]
      refine ⟨fun j => if j = i then v else vs j, by simpa using hsz, ?_, hB.trans (hb.mono hB.size), fun j hj => ?_⟩
      · rw [eg]
        exact frame_put ops a _ vs i o ho r3 (fun t ht => hN t i o ho ht) hif v
      · have hj2 := congrFun eg j
        rw [hj2] at hj
        show F j (if j = i then v else vs j) W'
        by_cases e : j = i
        · subst e; rw [if_pos rfl]; exact hf
        · rw [if_neg e] at hj ⊢
          exact hst j _ _ _ (hF j hj) hb
    unfold wpOp
    rw [ho]
    simp only
    unfold leavesOp at hl
    rw [s2]
    by_cases hw : Region.wanted o (yielded ops (frameOf ops a (fun _ => true) vs).tmps) = true
    · rw [if_pos hw] at hl ⊢
      refine .inl ?_
      unfold Oper.wp
      rw [s1]
      generalize (execOp (frameOf ops a (fun _ => true) vs).eval o).run P W = r at *
      cases r with
      | ok x W' =>
        cases x <;> simp only [leaves] at hl
        · rw [Oper.upon_value]; exact next _ _ hl.1 hl.2
        · rw [Oper.upon_skip]; exact next _ _ hl.1 hl.2
        · rw [Oper.upon_enter]
          refine hl.mono ?_
          rintro e W2 ⟨v, rfl, h1, h2⟩
          exact next _ _ h1 h2
      | halt x W' => simp only [leaves] at hl
    · rw [if_neg hw] at hl ⊢
      exact next _ _ hl (Below.refl _ _)
  · rintro listed a' W ⟨vs, hsz, rfl, hB, hF⟩ he
    have hall : ∀ n i, i < n → i < ops.size → listed.getD i false = true := by
      intro n
      induction n with
      | zero => intro i h; omega
      | succ n ih =>
        intro i h hi
        by_cases hin : i < n
        · exact ih i hin hi
        · obtain rfl : i = n := by omega
          cases hl : listed.getD i false with
          | true => rfl
          | false =>
            exfalso
            have hm2 : i ∈ Region.ready .any ops listed := by
              unfold Region.ready
              rw [List.mem_filter, List.mem_range]
              refine ⟨hi, ?_⟩
              have ho : ops[i]? = some ops[i] := Array.getElem?_eq_getElem hi
              have hd := (hR i _ ho).2.2.2
              rw [ho]
              simp only [Option.map_some, Option.getD_some, Bool.and_eq_true]
              constructor
              · rw [Array.getD_eq_getD_getElem?] at hl ⊢
                rw [Array.getElem?_eq_getElem (by omega)] at hl ⊢
                simp at hl ⊢
                exact hl
              · rw [← Array.all_toList, List.all_eq_true]
                intro e he
                by_cases hb : Region.binds .any e = true
                · have hmem : e.on ∈ depsOf ops i := by
                    unfold depsOf
                    rw [ho]
                    simp only [List.mem_map, List.mem_filter]
                    exact ⟨e, ⟨he, hb⟩, rfl⟩
                  have hlt := hd _ hmem
                  rw [ih e.on hlt (by omega)]
                  simp
                · simp [hb]
            rw [he] at hm2
            cases hm2
    have e : frameOf ops a (fun i => listed.getD i false) vs = frameOf ops a (fun _ => true) vs := by
      have key : (frameOf ops a (fun i => listed.getD i false) vs).tmps = (frameOf ops a (fun _ => true) vs).tmps := by
        apply Array.ext_getElem?
        intro t
        rw [frame_at, frame_at]
        cases h2 : ownOf ops t with
        | none => rfl
        | some i =>
          have hlt : i < ops.size := List.mem_range.1 (List.mem_of_find?_eq_some h2)
          simp [hall (i + 1) i (by omega) hlt]
      have e1 : frameOf ops a (fun i => listed.getD i false) vs = ⟨(frameOf ops a (fun i => listed.getD i false) vs).tmps, a.defers⟩ := rfl
      have e2 : frameOf ops a (fun _ => true) vs = ⟨(frameOf ops a (fun _ => true) vs).tmps, a.defers⟩ := rfl
      rw [e1, e2, key]
    rw [e]
    exact hend vs W hB fun i hi => hF i (hall (i + 1) i (by omega) hi)

/-- .. with the frame written out. -/
theorem wp_region_lit {P : Program} {ops : Array Oper} {Q : Exit → Act → World → Prop} {id : Nat} {a : Act} {w : World} (lit : (Nat → Value) → Act) (F : Nat → Value → World → Prop) (hm : P.follows .mixedOrders = true) (hr : relyB ops = true) (hlit : ∀ vs, frameOf ops a (fun _ => true) vs = lit vs)
    (hst : ∀ i v W W', F i v W → Below W.heap.size W W' → F i v W')
    (hop : ∀ i o, ops[i]? = some o → ∀ (vs : Nat → Value) W, Below w.heap.size w W → (∀ j ∈ depsOf ops i, F j (vs j) W) → leavesOp P ops (F i) o (lit vs) W)
    (hend : ∀ (vs : Nat → Value) W, Below w.heap.size w W → (∀ i, i < ops.size → F i (vs i) W) → Q .normal (lit vs) W) : (Code.region id ops true).wp P Q a w :=
  wp_region_rely hm hr F hst (fun i o ho vs W hB hd => by rw [hlit]; exact hop i o ho vs W hB hd) (fun vs W hB hF => by rw [hlit]; exact hend vs W hB hF)
/-- .. operation by operation. -/
def eachOp (P : Program) (ops : Array Oper) (F : Nat → Value → World → Prop) (lit : (Nat → Value) → Act) (w : World) : List Oper → Nat → Prop
  | [], _ => True
  | o :: rest, i => (∀ (vs : Nat → Value) W, Below w.heap.size w W → (∀ j ∈ depsOf ops i, F j (vs j) W) → leavesOp P ops (F i) o (lit vs) W) ∧ eachOp P ops F lit w rest (i + 1)
theorem eachOp_at {P : Program} {ops : Array Oper} {F : Nat → Value → World → Prop} {lit : (Nat → Value) → Act} {w : World} : ∀ (l : List Oper) (n : Nat), eachOp P ops F lit w l n → ∀ i o, l[i]? = some o → ∀ (vs : Nat → Value) W, Below w.heap.size w W → (∀ j ∈ depsOf ops (n + i), F j (vs j) W) → leavesOp P ops (F (n + i)) o (lit vs) W
  | [], n, _, i, o, h => by simp at h
  | x :: l, n, hx, 0, o, h => by
    simp at h
    subst h
    exact hx.1
  | x :: l, n, hx, i + 1, o, h => by
    have := eachOp_at l (n + 1) hx.2 i o (by simpa using h)
    rw [show n + 1 + i = n + (i + 1) by omega] at this
    exact this
theorem wp_region_each {P : Program} {l : List Oper} {Q : Exit → Act → World → Prop} {id : Nat} {a : Act} {w : World} (lit : (Nat → Value) → Act) (F : Nat → Value → World → Prop) (hm : P.follows .mixedOrders = true) (hr : relyB l.toArray = true) (hlit : ∀ vs, frameOf l.toArray a (fun _ => true) vs = lit vs)
    (hst : ∀ i v W W', F i v W → Below W.heap.size W W' → F i v W') (hop : eachOp P l.toArray F lit w l 0)
    (hend : ∀ (vs : Nat → Value) W, Below w.heap.size w W → (∀ i, i < l.length → F i (vs i) W) → Q .normal (lit vs) W) : (Code.region id l.toArray true).wp P Q a w :=
  wp_region_lit lit F hm hr hlit hst (fun i o ho vs W hB hd => by
    have := eachOp_at l 0 hop i o (by simpa using ho) vs W hB (by rw [Nat.zero_add]; exact hd)
    rw [Nat.zero_add] at this
    exact this) (fun vs W hB hF => hend vs W hB fun i hi => hF i (by simpa using hi))
end Go.Proofs.YteohnkilchkhkaaDoor
