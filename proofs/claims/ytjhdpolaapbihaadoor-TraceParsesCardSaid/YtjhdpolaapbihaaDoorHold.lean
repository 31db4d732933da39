/- A region that draws its order and holds one store into a block that it has made itself, at whatever place: over any program. -/
import Derived.Test.YtjhdpolaapbihaaDoorRow
namespace Go.Proofs.YtjhdpolaapbihaaDoor
open Go.ChangeShapes Go.WideShapes Go.ChangeAt Go.RowKit
set_option linter.unusedVariables false

/-- What one operation leaves: as 'leaves', but of the world nothing is asked. -/
def leavesK (P : Program) (K : Value → World → Prop) : Result Next → Prop
  | .ok (.value v) W' => K v W'
  | .ok .skip W' => K undef W'
  | .ok (.enter f args) W' => Calls P f args W' fun e W2 => ∃ v, e = .returned v ∧ K v W2
  | _ => False
def leavesIf (P : Program) (ops : Array Oper) (K : Value → World → Prop) (o : Oper) (a : Act) (W : World) : Prop :=
  if Region.wanted o (yielded ops a.tmps) = true then leavesK P K ((execOp a.eval o).run P W) else K undef W
theorem leavesIf_of {P : Program} {ops : Array Oper} {F : Value → World → Prop} {K : Value → World → Prop} {o : Oper} {a : Act} {W : World} (h : leavesOp P ops F o a W) (hK : ∀ v W', F v W' → Below W.heap.size W W' → K v W') : leavesIf P ops K o a W := by
  unfold leavesOp at h
  unfold leavesIf
  by_cases hw : Region.wanted o (yielded ops a.tmps) = true
  · rw [if_pos hw] at h ⊢
    generalize (execOp a.eval o).run P W = r at *
    cases r with
    | ok x W' =>
      cases x <;> simp only [leaves, leavesK] at h ⊢
      · exact hK _ _ h.1 h.2
      · exact hK _ _ h.1 h.2
      · exact h.mono fun e W2 ⟨v, he, h1, h2⟩ => ⟨v, he, hK _ _ h1 h2⟩
    | halt x W' => simp only [leaves] at h
  · rw [if_neg hw] at h ⊢
    exact hK _ _ h (Below.refl _ _)
theorem leavesIf_free {P : Program} {ops : Array Oper} {K : Value → World → Prop} {o : Oper} {a : Act} {W : World} (hg : o.guard = none) (h : leavesK P K ((execOp a.eval o).run P W)) : leavesIf P ops K o a W := by
  unfold leavesIf
  rw [if_pos (by simp [Region.wanted, hg])]
  exact h
theorem leavesIf_guard {P : Program} {ops : Array Oper} {K : Value → World → Prop} {o : Oper} {a : Act} {W : World} {g : Nat} {want : Bool} (hg : o.guard = some (g, want)) (hy : yielded ops a.tmps g = some want) (h : leavesK P K ((execOp a.eval o).run P W)) : leavesIf P ops K o a W := by
  unfold leavesIf
  rw [if_pos (by simp [Region.wanted, hg, hy])]
  exact h
theorem leavesIf_skip {P : Program} {ops : Array Oper} {K : Value → World → Prop} {o : Oper} {a : Act} {W : World} {g : Nat} {want : Bool} (hg : o.guard = some (g, want)) (hy : yielded ops a.tmps g = some (!want)) (h : K undef W) : leavesIf P ops K o a W := by
  unfold leavesIf
  rw [if_neg (by cases want <;> simp [Region.wanted, hg, hy])]
  exact h
theorem leavesIf_mono {P : Program} {ops : Array Oper} {K K' : Value → World → Prop} {o : Oper} {a : Act} {W : World} (h : leavesIf P ops K o a W) (hK : ∀ v W', K v W' → K' v W') : leavesIf P ops K' o a W := by
  unfold leavesIf at *
  by_cases hw : Region.wanted o (yielded ops a.tmps) = true
  · rw [if_pos hw] at h ⊢
    generalize (execOp a.eval o).run P W = r at *
    cases r with
    | ok x W' =>
      cases x <;> simp only [leavesK] at h ⊢
      · exact hK _ _ h
      · exact hK _ _ h
      · exact h.mono fun e W2 ⟨v, he, h1⟩ => ⟨v, he, hK _ _ h1⟩
    | halt x W' => simp only [leavesK] at h
  · rw [if_neg hw] at h ⊢
    exact hK _ _ h

theorem wp_region_holds {P : Program} {ops : Array Oper} {Q : Exit → Act → World → Prop} {id : Nat} {a : Act} {w : World} (hm : P.follows .mixedOrders = true) (hr : relyB ops = true) (I : (Nat → Bool) → (Nat → Value) → World → Prop)
    (h0 : I (fun _ => false) (fun _ => undef) w.drew)
    (hop : ∀ i o, ops[i]? = some o → ∀ (d : Nat → Bool) (vs : Nat → Value) W, I d vs W → d i = false → (∀ j ∈ depsOf ops i, d j = true) → leavesIf P ops (fun v W' => I (fun j => if j = i then true else d j) (fun j => if j = i then v else vs j) W') o (frameOf ops a (fun _ => true) vs) W)
    (hend : ∀ (d : Nat → Bool) (vs : Nat → Value) W, I d vs W → (∀ i, i < ops.size → d i = true) → Q .normal (frameOf ops a (fun _ => true) vs) W) : (Code.region id ops true).wp P Q a w := by
  have hR : ∀ i o, ops[i]? = some o → noSel o.op = true ∧ (∀ t ∈ o.looksAt ops, ∀ j, ownOf ops t = some j → j ∈ depsOf ops i) ∧ (∀ x, o.dst = some x → ownOf ops x = some i) ∧ ∀ j ∈ depsOf ops i, j < i := by
    intro i o ho
    have hi : i < ops.size := (Array.getElem?_eq_some_iff.1 ho).1
    unfold relyB at hr
    have h := List.all_eq_true.1 hr i (List.mem_range.2 hi)
    rw [ho] at h
    simp only [Bool.and_eq_true] at h
    refine ⟨h.1.1.1, fun t ht j hj => ?_, fun x hx => ?_, fun j hj => ?_⟩
    · have := List.all_eq_true.1 h.1.1.2 t ht
      rw [hj] at this
      simpa using this
    · have := h.1.2
      rw [hx] at this
      simpa using this
    · have := List.all_eq_true.1 h.2 j hj
      simpa using this
  have hN : ∀ t i o, ops[i]? = some o → ownOf ops t = some i → o.dst = some t := by
    intro t i o ho h
    have := List.find?_some h
    simp only [dstOf, ho, Option.bind_some, beq_iff_eq] at this
    exact this
  refine wp_region_inv hm (fun listed a' W => ∃ vs : Nat → Value, listed.size = ops.size ∧ a' = frameOf ops a (fun i => listed.getD i false) vs ∧ I (fun i => listed.getD i false) vs W) ?_ ?_ ?_
  · have e : (fun i => (Array.replicate ops.size false).getD i false) = fun _ => false := by
      funext i
      rw [Array.getD_eq_getD_getElem?, Array.getElem?_replicate]
      split <;> rfl
    refine ⟨fun _ => undef, by simp, ?_, ?_⟩
    · rw [e, frame_none]
    · rw [e]; exact h0
  · rintro listed a' W i ⟨vs, hsz, rfl, hI⟩ hi
    have hfree := ready_free hi
    have hready := hi
    unfold Region.ready at hready
    rw [List.mem_filter, List.mem_range] at hready
    obtain ⟨hlt, hc⟩ := hready
    simp only [Bool.and_eq_true] at hc
    have hc2 := hc.2
    have ho : ops[i]? = some ops[i] := Array.getElem?_eq_getElem hlt
    rw [ho] at hc2
    simp only [Option.map_some, Option.getD_some] at hc2
    rw [← Array.all_toList, List.all_eq_true] at hc2
    generalize ops[i] = o at *
    obtain ⟨r1, r2, r3, r4⟩ := hR i o ho
    have hdep : ∀ j ∈ depsOf ops i, listed.getD j false = true := by
      intro j hj
      unfold depsOf at hj
      rw [ho] at hj
      simp only [List.mem_map, List.mem_filter] at hj
      obtain ⟨e, ⟨he, hb⟩, rfl⟩ := hj
      have := hc2 e he
      simpa [hb] using this
    obtain ⟨s1, s2⟩ := frame_same ops a (fun i => listed.getD i false) vs o r1 fun t ht j hj => hdep j (r2 t ht j hj)
    have hif : listed.getD i false = false := by
      rw [Array.getD_eq_getD_getElem?, ← Array.getElem?_toList, hfree]; rfl
    have hl := hop i o ho (fun i => listed.getD i false) vs W hI hif hdep
    have eg : (fun j => (listed.setIfInBounds i true).getD j false) = fun j => if j = i then true else listed.getD j false := by
      funext j
      rw [Array.getD_eq_getD_getElem?, Array.getElem?_setIfInBounds, Array.getD_eq_getD_getElem?]
      by_cases e : j = i
      · subst e
        simp [hsz, hlt]
      · rw [if_neg (fun e2 => e e2.symm), if_neg e]
    have next : ∀ v W', I (fun j => if j = i then true else listed.getD j false) (fun j => if j = i then v else vs j) W' → ∃ vs' : Nat → Value, (listed.setIfInBounds i true).size = ops.size ∧ (frameOf ops a (fun i => listed.getD i false) vs).put o.dst v = frameOf ops a (fun j => (listed.setIfInBounds i true).getD j false) vs' ∧ I (fun j => (listed.setIfInBounds i true).getD j false) vs' W' := by
      intro v W' hK
      refine ⟨fun j => if j = i then v else vs j, by simpa using hsz, ?_, ?_⟩
      · rw [eg]
        exact frame_put ops a _ vs i o ho r3 (fun t ht => hN t i o ho ht) hif v
      · rw [eg]; exact hK
    unfold wpOp
    rw [ho]
    simp only
    unfold leavesIf at hl
    rw [s2]
    by_cases hw : Region.wanted o (yielded ops (frameOf ops a (fun _ => true) vs).tmps) = true
    · rw [if_pos hw] at hl ⊢
      refine .inl ?_
      unfold Oper.wp
      rw [s1]
      generalize (execOp (frameOf ops a (fun _ => true) vs).eval o).run P W = r at *
      cases r with
      | ok x W' =>
        cases x <;> simp only [leavesK] at hl
        · rw [Oper.upon_value]; exact next _ _ hl
        · rw [Oper.upon_skip]; exact next _ _ hl
        · rw [Oper.upon_enter]
          refine hl.mono ?_
          rintro e W2 ⟨v, rfl, h1⟩
          exact next _ _ h1
      | halt x W' => simp only [leavesK] at hl
    · rw [if_neg hw] at hl ⊢
      exact next _ _ hl
  · rintro listed a' W ⟨vs, hsz, rfl, hI⟩ he
    have hall : ∀ n i, i < n → i < ops.size → listed.getD i false = true := by
      intro n
      induction n with
      | zero => intro i h; omega
      | succ n ih =>
        intro i h hi
        by_cases hin : i < n
        · exact ih i hin hi
        · obtain rfl : i = n := by omega
          cases hl : listed.getD i false with
          | true => rfl
          | false =>
            exfalso
            have hm2 : i ∈ Region.ready .any ops listed := by
              unfold Region.ready
              rw [List.mem_filter, List.mem_range]
              refine ⟨hi, ?_⟩
              have ho : ops[i]? = some ops[i] := Array.getElem?_eq_getElem hi
              have hd := (hR i _ ho).2.2.2
              rw [ho]
              simp only [Option.map_some, Option.getD_some, Bool.and_eq_true]
              constructor
              · rw [Array.getD_eq_getD_getElem?] at hl ⊢
                rw [Array.getElem?_eq_getElem (by omega)] at hl ⊢
                simp at hl ⊢
                exact hl
              · rw [← Array.all_toList, List.all_eq_true]
                intro e he
                by_cases hb : Region.binds .any e = true
                · have hmem : e.on ∈ depsOf ops i := by
                    unfold depsOf
                    rw [ho]
                    simp only [List.mem_map, List.mem_filter]
                    exact ⟨e, ⟨he, hb⟩, rfl⟩
                  have hlt := hd _ hmem
                  rw [ih e.on hlt (by omega)]
                  simp
                · simp [hb]
            rw [he] at hm2
            cases hm2
    have e : frameOf ops a (fun i => listed.getD i false) vs = frameOf ops a (fun _ => true) vs := by
      have key : (frameOf ops a (fun i => listed.getD i false) vs).tmps = (frameOf ops a (fun _ => true) vs).tmps := by
        apply Array.ext_getElem?
        intro t
        rw [frame_at, frame_at]
        cases h2 : ownOf ops t with
        | none => rfl
        | some i =>
          have hlt : i < ops.size := List.mem_range.1 (List.mem_of_find?_eq_some h2)
          simp [hall (i + 1) i (by omega) hlt]
      have e1 : frameOf ops a (fun i => listed.getD i false) vs = ⟨(frameOf ops a (fun i => listed.getD i false) vs).tmps, a.defers⟩ := rfl
      have e2 : frameOf ops a (fun _ => true) vs = ⟨(frameOf ops a (fun _ => true) vs).tmps, a.defers⟩ := rfl
      rw [e1, e2, key]
    rw [e]
    exact hend _ vs W hI fun i hi => hall (i + 1) i (by omega) hi

/-- .. operation by operation, but for some. -/
def eachBut (P : Program) (ops : Array Oper) (F : Nat → Value → World → Prop) (lit : (Nat → Value) → Act) (w : World) (sk : Nat → Bool) : List Oper → Nat → Prop
  | [], _ => True
  | o :: rest, i => (sk i = false → ∀ (vs : Nat → Value) W, Below w.heap.size w W → (∀ j ∈ depsOf ops i, sk j = false → F j (vs j) W) → leavesOp P ops (F i) o (lit vs) W) ∧ eachBut P ops F lit w sk rest (i + 1)
theorem eachBut_at {P : Program} {ops : Array Oper} {F : Nat → Value → World → Prop} {lit : (Nat → Value) → Act} {w : World} {sk : Nat → Bool} : ∀ (l : List Oper) (n : Nat), eachBut P ops F lit w sk l n → ∀ i o, l[i]? = some o → sk (n + i) = false → ∀ (vs : Nat → Value) W, Below w.heap.size w W → (∀ j ∈ depsOf ops (n + i), sk j = false → F j (vs j) W) → leavesOp P ops (F (n + i)) o (lit vs) W
  | [], n, _, i, o, h => by simp at h
  | x :: l, n, hx, 0, o, h => by
    simp at h
    subst h
    exact hx.1
  | x :: l, n, hx, i + 1, o, h => by
    have := eachBut_at l (n + 1) hx.2 i o (by simpa using h)
    rw [show n + 1 + i = n + (i + 1) by omega] at this
    exact this

/-- Operation na makes a block of cells cs0, operation ns stores into it (what it is then: 'put', 'done'); all others leave what F says, and change nothing. -/
theorem wp_region_put {P : Program} {l : List Oper} {Q : Exit → Act → World → Prop} {id : Nat} {a : Act} {w : World} (na ns : Nat) (t : TypeId) (cs0 : Array Value) (put : World → Nat → World) (done : World → Nat → Prop) (lit : (Nat → Value) → Act) (F : Nat → Value → World → Prop)
    (hm : P.follows .mixedOrders = true) (hr : relyB l.toArray = true) (hns : (na != ns && (depsOf l.toArray ns).contains na) = true) (hlen : (decide (na < l.length) && decide (ns < l.length)) = true) (hlit : ∀ vs, frameOf l.toArray a (fun _ => true) vs = lit vs)
    (hst : ∀ i v W W', F i v W → Below W.heap.size W W' → F i v W')
    (hst2 : ∀ i v W b, F i v W → Bk W b t cs0 → F i v (put W b))
    (hd1 : ∀ W W' b, done W b → Below W.heap.size W W' → done W' b)
    (hbel : ∀ W b, w.heap.size ≤ b → Below w.heap.size w W → Below w.heap.size w (put W b))
    (hdone : ∀ W b, Bk W b t cs0 → done (put W b) b)
    (hnew : ∀ o, l[na]? = some o → ∀ (vs : Nat → Value) W, Below w.heap.size w W → leavesOp P l.toArray (fun v W' => ∃ b, v = .pointer (some ⟨b, 0, none⟩) ∧ w.heap.size ≤ b ∧ Bk W' b t cs0) o (lit vs) W)
    (hsto : ∀ o, l[ns]? = some o → ∀ (vs : Nat → Value) W b, Below w.heap.size w W → (∀ j ∈ depsOf l.toArray ns, (decide (j = na) || decide (j = ns)) = false → F j (vs j) W) → vs na = .pointer (some ⟨b, 0, none⟩) → Bk W b t cs0 → leavesIf P l.toArray (fun _ W' => W' = put W b) o (lit vs) W)
    (hop : eachBut P l.toArray F lit w (fun j => decide (j = na) || decide (j = ns)) l 0)
    (hend : ∀ (vs : Nat → Value) W b, Below w.heap.size w W → (∀ i, i < l.length → (decide (i = na) || decide (i = ns)) = false → F i (vs i) W) → vs na = .pointer (some ⟨b, 0, none⟩) → w.heap.size ≤ b → done W b → Q .normal (lit vs) W) : (Code.region id l.toArray true).wp P Q a w := by
  simp only [Bool.and_eq_true, bne_iff_ne, ne_eq, List.contains_iff_mem, decide_eq_true_eq] at hns hlen
  obtain ⟨hne, hdn⟩ := hns
  refine wp_region_holds hm hr (fun d vs W => Below w.heap.size w W ∧ (∀ i, d i = true → (decide (i = na) || decide (i = ns)) = false → F i (vs i) W) ∧ (d na = true → ∃ b, vs na = .pointer (some ⟨b, 0, none⟩) ∧ w.heap.size ≤ b ∧ ((d ns = false ∧ Bk W b t cs0) ∨ (d ns = true ∧ done W b))) ∧ (d ns = true → d na = true)) ?_ ?_ ?_
  · exact ⟨(Below.refl _ _).drew, (fun i h => by cases h), (fun h => by cases h), (fun h => by cases h)⟩
  · rintro i o ho d vs W ⟨hB, hF, hA, hS⟩ hdi hdep
    have ho' : l[i]? = some o := by simpa using ho
    rw [hlit]
    by_cases hina : i = na
    · subst hina
      have hdns : d ns = false := by
        cases e : d ns with
        | false => rfl
        | true => rw [hS e] at hdi; cases hdi
      refine leavesIf_of (hnew o ho' vs W hB) ?_
      rintro v W' ⟨b, hv, hb, hk⟩ hbw
      dsimp only
      refine ⟨hB.trans (hbw.mono hB.size), fun j hj hsk => ?_, fun _ => ⟨b, by rw [if_pos rfl]; exact hv, hb, .inl ⟨by rw [if_neg (fun e => hne e.symm)]; exact hdns, hk⟩⟩, fun _ => by rw [if_pos rfl]⟩
      have hji : j ≠ i := fun e => by subst e; simp at hsk
      rw [if_neg hji] at hj ⊢
      exact hst j _ _ _ (hF j hj hsk) hbw
    · by_cases hins : i = ns
      · subst hins
        have hdna := hdep na hdn
        obtain ⟨b, hv, hb, ⟨_, hk⟩ | ⟨h, _⟩⟩ := hA hdna
        · refine leavesIf_mono (hsto o ho' vs W b hB (fun j hj hsk => hF j (hdep j hj) hsk) hv hk) ?_
          rintro v W' rfl
          dsimp only
          refine ⟨hbel W b hb hB, fun j hj hsk => ?_, fun _ => ⟨b, by rw [if_neg hne]; exact hv, hb, .inr ⟨by rw [if_pos rfl], hdone W b hk⟩⟩, fun _ => by rw [if_neg hne]; exact hdna⟩
          have hji : j ≠ i := fun e => by subst e; simp at hsk
          rw [if_neg hji] at hj ⊢
          exact hst2 j _ _ _ (hF j hj hsk) hk
        · rw [hdi] at h; cases h
      · have hsk0 : (decide (i = na) || decide (i = ns)) = false := by simp [hina, hins]
        have := eachBut_at l 0 hop i o ho' (by rw [Nat.zero_add]; exact hsk0) vs W hB (by rw [Nat.zero_add]; exact fun j hj hsk => hF j (hdep j hj) hsk)
        rw [Nat.zero_add] at this
        refine leavesIf_of this ?_
        intro v W' hv hbw
        dsimp only
        refine ⟨hB.trans (hbw.mono hB.size), fun j hj hsk => ?_, fun h => ?_, fun h => ?_⟩
        · by_cases e : j = i
          · subst e; rw [if_pos rfl]; exact hv
          · rw [if_neg e] at hj ⊢
            exact hst j _ _ _ (hF j hj hsk) hbw
        · rw [if_neg (fun e => hina e.symm)] at h ⊢
          obtain ⟨b, h1, h2, h3⟩ := hA h
          rw [if_neg (fun e => hins e.symm)]
          refine ⟨b, h1, h2, ?_⟩
          rcases h3 with ⟨h3, h4⟩ | ⟨h3, h4⟩
          · exact .inl ⟨h3, (hbw.block b h4.lt).trans h4⟩
          · exact .inr ⟨h3, hd1 _ _ _ h4 hbw⟩
        · rw [if_neg (fun e => hins e.symm)] at h
          rw [if_neg (fun e => hina e.symm)]
          exact hS h
  · rintro d vs W ⟨hB, hF, hA, hS⟩ hall
    rw [hlit]
    obtain ⟨b, h1, h2, ⟨h3, _⟩ | ⟨_, h4⟩⟩ := hA (hall na (by simpa using hlen.1))
    · rw [hall ns (by simpa using hlen.2)] at h3; cases h3
    · exact hend vs W b hB (fun i hi hsk => hF i (hall i (by simpa using hi)) hsk) h1 h2 h4
/-- What a mixed table says stands behind a change, if its parts do. -/
theorem mixT_keep {R : World → World → Prop} {ps : List (Nat × (Value → World → Prop))} {l : List Value} (h : ∀ x ∈ ps, ∀ v W W', x.2 v W → R W W' → x.2 v W') : ∀ i v W W', mixT ps l i v W → R W W' → mixT ps l i v W' := by
  intro i v W W' hm hb
  unfold mixT at *
  cases hl : ps.lookup i with
  | none => rw [hl] at hm; exact hm
  | some p =>
    rw [hl] at hm
    have : (i, p) ∈ ps := by
      clear hm h
      induction ps with
      | nil => cases hl
      | cons x ps ih =>
        obtain ⟨k, q⟩ := x
        rw [List.lookup_cons] at hl
        by_cases e : i = k
        · subst e; simp at hl; subst hl; exact List.mem_cons_self
        · have e2 : (i == k) = false := by simpa using e
          rw [e2] at hl
          exact List.mem_cons_of_mem _ (ih hl)
    exact h _ this v W W' hm hb
end Go.Proofs.YtjhdpolaapbihaaDoor
