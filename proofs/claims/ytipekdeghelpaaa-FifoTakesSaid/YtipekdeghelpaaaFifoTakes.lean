/- For any number of threads and any entries: FifoTakes returns true: each entry that fits is done, all others are refused, and change nothing: the queue, the owner and all states are what the document says; no condition. -/
import Derived.Test.YtipekdeghelpaaaFfL
import Derived.Test.YtipekdeghelpaaaFfS
import Derived.WalkKit
import Derived.ProofKit
import Derived.OpenShut
import Derived.ChangeOld
import Derived.Deep.DeepCutAuto
namespace Go.Proofs.Ytipekdeghelpaaa.fifoTakes
open Go.ChangeShapes Go.WideShapes Go.ChangeAt Go.RowKit
set_option linter.unusedVariables false

/-- What was taken of so many entries. -/
def hadD (n : Int) (l : List En) (i : Nat) : List En := (l.take i).foldl (takeD n) []
theorem hadD_next (n : Int) (l : List En) (i : Nat) (h : i < l.length) : hadD n l (i + 1) = takeD n (hadD n l i) l[i] := by
  unfold hadD
  rw [take_at l i h, List.foldl_append]; rfl
theorem hadD_len (n : Int) (l : List En) : ∀ i, (hadD n l i).length ≤ i
  | 0 => by simp [hadD]
  | i + 1 => by
    by_cases h : i < l.length
    · rw [hadD_next n l i h]
      have := takeD_len n (hadD n l i) l[i]
      have := hadD_len n l i
      omega
    · have : l.take (i + 1) = l.take i := by rw [List.take_of_length_le (by omega), List.take_of_length_le (by omega)]
      unfold hadD
      rw [this]
      have := hadD_len n l i
      unfold hadD at this
      omega
theorem qlen_of {w : World} {p s : Nat} {v : Value} {n : Nat} {had : List En} (h : Fr w p s v n had) : (queueD had).length ≤ n := by
  obtain ⟨_, _, _, _, h2⟩ := h
  rw [← h2.q]; exact h2.qlen
/-- A lock's own blocks. -/
def PS (p s b : Nat) : Prop := b = p ∨ b = s
/-- All that there is: the lock, which the entries h1 fitted; the entries h2, in a row of their own; what has changed since y2. -/
structure At (w y2 : World) (p s m : Nat) (h1 h2 : List En) (v hv : Value) (wr : World) : Prop where
  fr : FrO w.heap.size wr p s v m h1
  vn : ∀ g, v.ownBlock = some g → y2.heap.size ≤ g
  en : EnO y2.heap.size 35 wr hv h2
  ok : Within y2 wr (PS p s)
  bel : Below w.heap.size w wr
  y2w : w.heap.size ≤ y2.heap.size
section
variable {w y2 wr u : World} {p s m : Nat} {h1 h2 h3 : List En} {v v' hv : Value}
theorem At.below (h : At w y2 p s m h1 h2 v hv wr) (hb : Below wr.heap.size wr u) : At w y2 p s m h1 h2 v hv u :=
  ⟨h.fr.below hb, h.vn, h.en.below hb, h.ok.then_ (within_of_below hb) (fun i hi => hi.elim), h.bel.trans (hb.mono h.bel.size), h.y2w⟩
theorem At.apart (h : At w y2 p s m h1 h2 v hv wr) : ∀ b, InFf p s v b → hv.ownBlock ≠ some b := by
  intro b hb e
  obtain ⟨cs, hk⟩ := own_bk h.en e
  obtain ⟨st, q, now, hf, _⟩ := h.fr.ok
  rcases hb with rfl | rfl | e2
  · exact Bk.unlike hk hf.bk (by decide) rfl
  · obtain ⟨cs2, hb2, _⟩ := hf.its.bk
    exact Bk.unlike hk hb2 (by decide) rfl
  · obtain ⟨cs2, hb2⟩ := hf.lst.bk e2
    exact Bk.unlike hk hb2 (by decide) rfl
theorem At.nb (h : At w y2 p s m h1 h2 v hv wr) {g : Nat} {x : En} (hN : Nb 35 wr g x) (k : Within wr u (InFf p s v)) : Nb 35 u g x := by
  refine Bk.within hN k (fun hb => ?_)
  obtain ⟨st, q, now, hf, _⟩ := h.fr.ok
  rcases hb with rfl | rfl | e2
  · exact Bk.unlike hN hf.bk (by decide) rfl
  · obtain ⟨cs2, hb2, _⟩ := hf.its.bk
    exact Bk.unlike hN hb2 (by decide) rfl
  · obtain ⟨cs2, hb2⟩ := hf.lst.bk e2
    exact Bk.unlike hN hb2 (by decide) rfl
theorem At.take (h : At w y2 p s m h1 h2 v hv wr) (ht : Taker w.heap.size wr p s v m h3 u v') : At w y2 p s m h3 h2 v' hv u := by
  refine ⟨ht.ok, fun g e => ?_, h.en.within ht.within (fun g e e2 => h.apart g e2 e), h.ok.then_ ht.within (fun i hi => ?_), below_within h.bel h.bel.size ht.within (fun i hi => h.fr.in_ge i hi), h.y2w⟩
  · rcases ht.own g e with e2 | e2
    · exact h.vn g e2
    · exact Nat.le_trans h.ok.size e2
  · rcases hi with e | e | e
    · exact .inl (.inl e)
    · exact .inl (.inr e)
    · exact .inr (h.vn i e)
theorem At.app {hv' : Value} {x : En} (h : At w y2 p s m h1 h2 v hv wr) (ho : u.ownsRow y2.heap.size 35 3 hv' (h2.length + 1) (ensC h2 ++ enC x)) (hg : (wr.alloc (.cells #[.int .i64 x.kind, .int .i64 x.th, .int .i64 x.now] 35)).grownBy u hv.ownBlock) : At w y2 p s m h1 (h2 ++ [x]) v hv' u := by
  have hw : Within wr u (fun b => hv.ownBlock = some b) := ((Within.refl wr (fun b => hv.ownBlock = some b)).alloc _).then_ (Within.of_grown (S := fun b => hv.ownBlock = some b) hg (fun i e => .inl e)) (fun i hi => .inl hi)
  refine ⟨h.fr.within hw (fun b hb e => h.apart b hb e), h.vn, ?_, h.ok.then_ hw (fun i hi => .inr (h.en.own_lt i hi).1), below_within h.bel h.bel.size hw (fun i hi => ?_), h.y2w⟩
  · unfold EnO
    rw [ensC_snoc, List.length_append]
    exact ho
  · have h2 := h.ok.size
    have h3 := (h.en.own_lt i hi).1
    have h4 := h.bel.size
    have h5 := h.y2w
    omega
end

set_option maxRecDepth 100000 in
set_option maxHeartbeats 4000000 in
theorem walk (n : Int) (l : List En) (a : Option Addr) (cap : Nat) (w : World) (w0 : (Lit.int .i64 n).wf = true) (S : EnS w a l) (f : ∀ x ∈ l, x.Wf) (hb0 : l.length ≤ maxLen) (hn0 : a = none → cap = 0) (hp : l.length ≤ cap) :
    Calls Try.prog 4 #[.int .i64 n, .slice a l.length cap] w fun e w' => e = .returned (.bool true) ∧ Below w.heap.size w w' := by
  have HA := Lib.hid (fun W => lAwake13 W)
  clear f w0 hn0 hp
  by_cases h80 : 80 < l.length
  · have d : decide ((l.length : Int) > 80) = true := decide_eq_true (by omega)
    have d' : decide (80 < l.length) = true := decide_eq_true h80
    clear h80 hb0
    go_enter Try.func4, Try.ntmps4
    go_wp2_with fail
    refine (HA.out w).mono ?_
    rintro e y ⟨rfl, hy⟩
    go_wp2
    go_ret
    exact ⟨rfl, hy⟩
  have d : decide ((l.length : Int) > 80) = false := decide_eq_false (by omega)
  have d' : decide (80 < l.length) = false := decide_eq_false h80
  by_cases hn : 1 ≤ n ∧ n ≤ 64
  · have d1 : decide (n < 1) = false := decide_eq_false (by omega)
    have d2 : decide (n > 64) = false := decide_eq_false (by omega)
    obtain ⟨m, rfl⟩ : ∃ m : Nat, n = (m : Int) := ⟨n.toNat, by omega⟩
    have HNew := Lib.hid (fNew m (by omega) (by omega) w)
    have HM64 := Lib.hid (show m ≤ 64 by omega)
    have HS := Lib.hid (fun W (hW : Below w.heap.size w W) => S.below hW)
    have HNx := Lib.hid (hadD_next (m : Int) l)
    have HLn := Lib.hid (hadD_len (m : Int) l)
    have HRf := Lib.hid (fun W (hW : Below w.heap.size w W) => lRef12 l a cap W (S.below hW) (by omega))
    have hl80 : l.length ≤ 80 := by omega
    clear S hb0 h80 hn
    go_enter Try.func4, Try.ntmps4
    go_wp2_with fail
    refine HNew.out.mono ?_
    rintro e y ⟨p, s, rfl, hF, hy⟩
    clear HNew
    go_wp2_with fail
    refine (HRf.out y hy).mono ?_
    rintro e y2 ⟨rv, rfl, hR, hy2⟩
    obtain ⟨a1, cap1, rfl, k1, k2, hS1⟩ := hR.is
    have hpl : p < y.heap.size := hF.ok.in_lt p (.inl rfl)
    have hsl : s < y.heap.size := hF.ok.in_lt s (.inr (.inl rfl))
    have HS1 : Hid (∀ W, Within y2 W (PS p s) → EnS W a1 l) := Lib.hid (fun W hW => by
      have := hR.within hW (fun g e e2 => by
        have := (hR.own_lt g e).1
        rcases e2 with e2 | e2 <;> omega)
      obtain ⟨a3, cap3, e3, _, _, h3⟩ := this.is
      injection e3 with e3 _ _
      rw [e3]; exact h3)
    have HAt : Hid (At w y2 p s m (hadD m l 0) (hadD m l 0) (.slice none 0 0) (.slice none 0 0) y2) := Lib.hid ⟨hF.below hy2, fun g e => (by cases e), EnO.nil _ _ _, Within.refl _ _, hy.trans (hy2.mono hy.size), (hy.trans (hy2.mono hy.size)).size⟩
    clear hF hR hS1 hy hy2 HRf hpl hsl k2
    go_wp2
    go_loopw [7, 50] (fun hv x wr => ∃ (i : Nat) (v : Value), x = .int .i64 i ∧ i ≤ l.length ∧ Hid (At w y2 p s m (hadD m l i) (hadD m l i) v hv wr)) (fun _ x _ => l.length - (intOf x).toNat)
    case atStart => exact ⟨0, _, rfl, Nat.zero_le _, HAt⟩
    case round =>
      obtain ⟨i, v, rfl, hi, HT⟩ := hrel
      by_cases hlt : i < l.length
      · have hii : (i : Int) < l.length := by omega
        have hR1 := HS1.out wr HT.out.ok
        obtain ⟨b, off, rfl, hbl, c0, c1, c2⟩ := hR1.at_ (List.getElem?_eq_getElem hlt)
        have hNb := Nb.made 35 wr l[i].kind l[i].th l[i].now
        have hTz := HT.out.below ((Below.refl _ wr).alloc (o := .cells #[.int .i64 l[i].kind, .int .i64 l[i].th, .int .i64 l[i].now] 35) (Nat.le_refl _))
        have HPz := Lib.hid (fun g e => (HT.out.en.own_lt g e).2)
        have HN2 := Lib.hid (HNx.out i hlt)
        have hln := HLn.out i
        have hln2 := HLn.out (i + 1)
        have HSa : Hid (∀ W, Below w.heap.size w W → ∃ b off, a = some ⟨b, off, none⟩ ∧ W.cell? ⟨b, off + i * 3, none⟩ = some (.int .i64 l[i].kind) ∧ W.cell? ⟨b, off + i * 3 + 1, none⟩ = some (.int .i64 l[i].th) ∧ W.cell? ⟨b, off + i * 3 + 2, none⟩ = some (.int .i64 l[i].now)) := Lib.hid (fun W hW => by
          obtain ⟨b, off, e, _, d0, d1, d2⟩ := (HS.out W hW).at_ (List.getElem?_eq_getElem hlt)
          exact ⟨b, off, e, d0, d1, d2⟩)
        generalize hHD : hadD (m : Int) l (i + 1) = had2 at *
        have HHD := Lib.hid hHD
        clear hHD
        generalize hadD (m : Int) l i = had at *
        generalize l[i] = x at *
        have HFi := Lib.hid (fun ah caph W (S1 : EnS W ah had) (h1 : had.length ≤ caph) (h2 : caph ≤ maxLen) => rFits m had ah caph x W S1 h1 h2 (by omega))
        have HTk := Lib.hid (fun W (hF : FrO w.heap.size W p s v m had) (hb : w.heap.size ≤ W.heap.size) => rTakeC hF hb HM64.out x)
        obtain ⟨o, ho⟩ : ∃ o, decide (fitsD m had x) = o := ⟨_, rfl⟩
        rw [ho] at HFi HTk
        have HOt : Hid (o = true → had2 = had ++ [x]) := Lib.hid (fun e => by rw [HN2.out]; unfold takeD; rw [if_pos (of_decide_eq_true (ho.trans e))])
        have HOf : Hid (o = false → had2 = had) := Lib.hid (fun e => by rw [HN2.out]; unfold takeD; rw [if_neg (of_decide_eq_false (ho.trans e))])
        rw [← HN2.out] at HTk
        obtain ⟨xk, xt, xn⟩ := x
        unfold enV at HFi HTk
        simp only at hTz hNb c0 c1 c2 HFi HTk HSa
        clear HT ho HN2 hR1
        go_upto_region 12 with fail
        generalize wr.alloc (.cells #[.int .i64 xk, .int .i64 xt, .int .i64 xn] 35) = z at *
        generalize wr.heap.size = pz at *
        obtain ⟨e0, e1, e2⟩ := hNb.cells
        simp only at e0 e1 e2
        obtain ⟨ah, caph, rfl, hc1, hc2, hSh⟩ := hTz.en.is
        clear c0 c1 c2
        go_wp2_with fail
        refine (HFi.out ah caph z hSh hc1 hc2).mono ?_
        rintro e z2 ⟨rfl, hz2⟩
        have hT2 := hTz.below hz2
        have hN2 := hNb.below hz2
        obtain ⟨ba, offa, rfl, d0, d1, d2⟩ := HSa.out z2 hT2.bel
        clear hTz hNb e0 e1 e2 hSh HFi
        go_wp2_with fail
        refine (HTk.out z2 hT2.fr hT2.bel.size).mono ?_
        rintro e z3 ⟨rfl, v', ht⟩
        have hT3 := hT2.take ht
        have hN3 := hT2.nb hN2 ht.within
        have hoo : (o != o) = false := by cases o <;> rfl
        obtain ⟨e0, e1, e2⟩ := hN3.cells
        simp only at e0 e1 e2
        clear ht HTk hN2 hT2 hz2 d0 d1 d2
        have HT3 := Lib.hid hT3
        have HN3 := Lib.hid hN3
        clear hT3 hN3
        go_upto_if 67 with fail
        go_cut [7] (fun hv2 wx => Hid (At w y2 p s m had2 had2 v' hv2 wx) ∧ Hid (Nb 35 wx pz ⟨xk, xt, xn⟩))
        case first =>
          clear HSa HS1 HS HNx HHD
          cases o with
          | false =>
            have HE := Lib.hid (HOf.out rfl)
            clear HOf HOt
            go_wp2
            go_meet
            case rel => exact ⟨by have := HT3.out; rw [HE.out] at this ⊢; exact Lib.hid this, HN3⟩
          | true =>
            have HE := Lib.hid (HOt.out rfl)
            have HO := Lib.hid (World.ownsRow.alloc HT3.out.en (.cells #[.int .i64 xk, .int .i64 xt, .int .i64 xn] 35))
            have HN := Lib.hid (news_bk (Nb.made 35 z3 xk xt xn))
            have HBS : Hid (y2.heap.size ≤ (z3.alloc (.cells #[.int .i64 xk, .int .i64 xt, .int .i64 xn] 35)).heap.size) := Lib.hid (by rw [World.size_alloc]; have := HT3.out.ok.size; omega)
            have HL : Hid (had.length < 100000) := Lib.hid (by omega)
            clear HOf HOt
            go_wp2_with (at_builtin; refine wpOwn rfl _ _ 27 rfl _ 24 Try.underlying27 entInfoR rfl (by omega) (by omega) HO.out rfl (enC ⟨xk, xt, xn⟩) rfl (enC_one _) z3.heap.size rfl HN.out HL.out HBS.out ?_; intro hv' w' hown hgr hloc)
            have hA2 := HT3.out.app (x := ⟨xk, xt, xn⟩) hown hgr
            have hw4 : Within z3 w' (fun b => (Value.slice ah had.length caph).ownBlock = some b) := ((Within.refl z3 (fun b => (Value.slice ah had.length caph).ownBlock = some b)).alloc _).then_ (Within.of_grown (S := fun b => (Value.slice ah had.length caph).ownBlock = some b) hgr (fun i e => .inl e)) (fun i hi => .inl hi)
            have hN4 : Nb 35 w' pz ⟨xk, xt, xn⟩ := Bk.within HN3.out hw4 (fun e => Nat.lt_irrefl _ (HPz.out _ e))
            rw [← HE.out] at hA2
            clear hown hgr hloc hw4
            go_meet
            case rel => exact ⟨Lib.hid hA2, Lib.hid hN4⟩
        case rest =>
          obtain ⟨HT4, HN4⟩ := hcut
          clear HT3 HN3 HOt HOf e0 e1 e2 HPz HSa hoo
          have hln3 : had2.length ≤ 80 := by omega
          obtain ⟨ah2, caph2, rfl, hc3, hc4, hSh2⟩ := HT4.out.en.is
          have HSh2 := Lib.hid (fun W hW => hSh2.below (w' := W) hW)
          clear hSh2
          have hql : (queueD had2).length ≤ 64 := Nat.le_trans (qlen_of HT4.out.fr.ok) HM64.out
          have HQ1 := Lib.hid (rQueueC HT4.out.fr.ok HM64.out)
          have HQ2 := Lib.hid (fun W hW => rQueue had2 ah2 caph2 W (HSh2.out W hW) hc3 hc4 (by omega))
          go_wp2_with fail
          refine HQ1.out.mono ?_
          rintro e y5 ⟨q1, rfl, hq1, hq1o, hy5⟩
          clear HQ1
          obtain ⟨aq1, cq1, rfl, hq1a, hq1b, _⟩ := hq1.is
          go_wp2_with fail
          refine (HQ2.out y5 hy5).mono ?_
          rintro e y6 ⟨q2, rfl, hq2, hq2o, hy6⟩
          clear HQ2
          obtain ⟨aq2, cq2, rfl, hq2a, hq2b, _⟩ := hq2.is
          have hq16 := hq1.within (within_of_below hy6) (fun _ _ h => h)
          have hy56 := hy5.trans (hy6.mono hy5.size)
          have HN6 := Lib.hid ((HN4.out).below hy56)
          have HLs : Hid (∃ xs : List Int, xs.length = (queueD had2).length ∧ Lst .i64 3 y6 (.slice aq1 (queueD had2).length cq1) xs ∧ ∀ j, 0 ≤ j → nth xs j = nth (queueD had2) j) := Lib.hid ⟨_, rfl, hq16, fun _ _ => rfl⟩
          have HQ26 := Lib.hid hq2
          have HQa : Hid (∀ g, aq1 = some ⟨g, 0, none⟩ → wc.heap.size ≤ g ∧ ∀ g2, aq2 = some ⟨g2, 0, none⟩ → g2 ≠ g) := Lib.hid (fun g e => ⟨hq1o g (by rw [e]; rfl), fun g2 e2 e3 => by
            have h1 := hq2o g2 (by rw [e2]; rfl)
            have h2 := hq1.lt (g := g) (by rw [e]; rfl)
            omega⟩)
          have HWc := Lib.hid hy56
          simp only [maxLen] at hq1b hq2b
          clear hq1 hq1o hq2 hq2o hq16 hy5 hy6 hy56
          generalize queueD had2 = q at *
          go_wp2
          go_loopw [83] (fun x wi => ∃ j : Nat, x = .int .i64 j ∧ j ≤ q.length ∧ Below wc.heap.size wc wi ∧ Hid (∃ xs : List Int, xs.length = q.length ∧ Lst .i64 3 wi (.slice aq1 q.length cq1) xs ∧ ∀ j', j ≤ j' → nth xs j' = nth q j') ∧ Hid (Lst .i64 3 wi (.slice aq2 q.length cq2) q)) (fun x _ => q.length - (intOf x).toNat)
          case atStart => exact ⟨0, rfl, Nat.zero_le _, HWc.out, HLs, HQ26⟩
          case round =>
            obtain ⟨j, rfl, hj, hbi, HX, HQi⟩ := hrel
            by_cases hjl : j < q.length
            · have hji : (j : Int) < q.length := by omega
              obtain ⟨xs, hx1, hx2, hx3⟩ := HX.out
              obtain ⟨aa, ca, hve, _, _, hxc⟩ := hx2.is
              obtain ⟨g1, hg1, _, hfr, hcl⟩ := hxc (by omega)
              injection hve with hv1 hv2 hv3
              subst hg1
              subst hv1
              obtain ⟨ab, cb, hve2, _, _, hyc⟩ := HQi.out.is
              obtain ⟨g2, hg2, _, _, hcl2⟩ := hyc (by omega)
              injection hve2 with hv4 hv5 hv6
              subst hg2
              subst hv4
              obtain ⟨hg1w, hg12⟩ := HQa.out g1 rfl
              have hg12 := hg12 g2 rfl
              have x1 := hcl j (by omega)
              rw [hx3 j (Nat.le_refl _)] at x1
              have x2 := hcl2 j hjl
              have xf := hfr j
              have HNext : Hid (∀ u : World, u.heap = wr.heap → Below wr.heap.size wr u → Below wc.heap.size wc (u.setCell ⟨g1, j, none⟩ (.int .i64 99)) ∧ (∃ xs : List Int, xs.length = q.length ∧ Lst .i64 3 (u.setCell ⟨g1, j, none⟩ (.int .i64 99)) (.slice (some ⟨g1, 0, none⟩) q.length cq1) xs ∧ ∀ j', j + 1 ≤ j' → nth xs j' = nth q j') ∧ Lst .i64 3 (u.setCell ⟨g1, j, none⟩ (.int .i64 99)) (.slice (some ⟨g2, 0, none⟩) q.length cq2) q) := Lib.hid (fun u _ hu => by
                have hwu := within_of_below hu
                have h1 := (hx2.within hwu (fun _ _ h => h))
                refine ⟨(hbi.trans (hu.mono hbi.size)).setCell hg1w _, ⟨xs.set j 99, by rw [List.length_set]; exact hx1, ?_, fun j' hj' => ?_⟩, ?_⟩
                · rw [← hx1] at h1 ⊢
                  exact h1.put j 99
                · rw [nth_set (by omega), if_neg (by omega)]
                  exact hx3 j' (by omega)
                · exact (HQi.out.within hwu (fun _ _ h => h)).within ((Within.refl u (fun b => b = g1)).put g1 j _ (.inl rfl)) (fun g e e2 => by
                    simp only [Value.ownBlock, Option.some.injEq] at e
                    exact hg12 (e.trans e2)))
              generalize nth q j = y at *
              have hyy : (y != y) = false := by simp
              clear hx1 hx2 hx3 hxc hfr hcl hyc hcl2 hv2 hv3 hv5 hv6 HX HQi HQ26 HLs hg12 hg1w HWc
              go_upto_region 23 with fail
              go_quiet (fail)
              have hbu : Below wr.heap.size wr (wr.drewN nq) := below_drawn (Below.refl _ wr) nq
              have x1u : (wr.drewN nq).cell? ⟨g1, j, none⟩ = some (.int .i64 y) := x1
              have xfu : (wr.drewN nq).frozen? ⟨g1, j, none⟩ = false := xf
              obtain ⟨n1, n2, n3⟩ := HNext.out (wr.drewN nq) rfl hbu
              generalize wr.drewN nq = u at *
              have HN2' := Lib.hid n2
              have HN3' := Lib.hid n3
              clear hbi x1 x2 xf HNext hbu n2 n3
              go_wp2
              go_roundw
              case rel => exact ⟨j + 1, by go_num, by omega, n1, HN2', HN3'⟩
              case measure => simp [intOf]; omega
            · obtain rfl : j = q.length := by omega
              have hT7 := HT4.out.below hbi
              have hN7 := HN4.out.below hbi
              obtain ⟨h, ok, hov, hh1, hh2⟩ : ∃ (h : Int) (ok : Bool), ownR had2 = .tuple #[.int .i64 h, .bool ok] ∧ max (ownerD had2) 0 = h ∧ decide (ownerD had2 ≥ 0) = ok := ⟨_, _, rfl, rfl, rfl⟩
              have HOw := Lib.hid (rOwnerC hT7.fr.ok)
              rw [hov] at HOw
              have HRo := Lib.hid (rOwner had2 ah2 caph2 wr (HSh2.out wr hbi) (by omega))
              have HFr := Lib.hid (fun W (hW : Below wr.heap.size wr W) => rStateC (hT7.fr.ok.below hW) xt)
              have HRs := Lib.hid (fun W (hW : Below wr.heap.size wr W) => rState had2 ah2 caph2 xt W ((HSh2.out wr hbi).below hW) (by omega))
              generalize ownerD had2 = ow at *
              generalize stK (lastD had2 xt) = st at *
              clear hov HX HQi HLs HQ26 HQa HWc
              go_wp2_with fail
              refine HOw.out.mono ?_
              rintro e y7 ⟨rfl, rfl⟩
              clear HOw
              go_wp2_with fail
              refine HRo.out.mono ?_
              rintro e y8 ⟨rfl, hy8⟩
              clear HRo
              have hT8 := hT7.below hy8
              have hN8 := hN7.below hy8
              obtain ⟨f0, f1, f2⟩ := hN8.cells
              simp only at f0 f1 f2
              have g1 : ∀ g : Grw y8, g.x.cell? ⟨pz, 1, none⟩ = some (.int .i64 xt) := fun g => g.cell f1
              have HS1' : Hid (∀ g : Grw y8, Calls Try.prog 19 #[.pointer (some ⟨p, 0, none⟩), .int .i64 xt] g.x fun e w' => e = .returned (.int .i64 st) ∧ g.x = w') := Lib.hid (fun g => (HFr.out g.x (hy8.trans (g.ok.mono hy8.size))).mono fun _ _ ⟨a, b⟩ => ⟨a, b.symm⟩)
              have HS2' : Hid (∀ g : Grw y8, Calls Try.prog 20 #[.slice ah2 had2.length caph2, .int .i64 xt] g.x fun e w' => e = .returned (.int .i64 st) ∧ Below g.x.heap.size g.x w') := Lib.hid (fun g => HRs.out g.x (hy8.trans (g.ok.mono hy8.size)))
              have hoo : (ok != ok) = false := by cases ok <;> rfl
              have hhh : (h != if ow < 0 then 0 else ow) = false := by
                have : (if ow < 0 then 0 else ow) = h := by rw [← hh1]; split <;> omega
                rw [this]; simp
              have hss : (st != st) = false := by simp
              have HT8 := Lib.hid hT8
              clear hT7 hN7 hT8 hN8 f0 f1 f2 HFr HRs HT4 HN4 HSh2 hy8 hbi
              go_upto_region 29 with fail
              refine wp_region_grow (by kernel_rfl) (by kernel_rfl) ?_
              repeat (go_big_quiet_step (first | (go_at_call 19; with_reducible exact grw_same (HS1'.out _)) | (go_at_call 20; with_reducible exact grw_call (HS2'.out _))))
              refine wpQuiet_nil ?_
              rintro y9 ⟨⟨_, hy9⟩, rfl⟩
              have hT9 := HT8.out.below hy9
              clear HT8 hy9 HS1' HS2' g1 hoo hss hhh hh1 hh2
              have HT9 := Lib.hid hT9
              clear hT9
              go_wp2
              go_roundw
              case rel => exact ⟨i + 1, v', by go_num, by omega, Lib.hid (by rw [HHD.out]; exact HT9.out)⟩
              case measure => simp [intOf]; omega
      · obtain rfl : i = l.length := by omega
        have HFin := Lib.hid HT.out.bel
        clear HT HAt
        go_wp2_with fail
        refine (HA.out wr).mono ?_
        rintro e y3 ⟨rfl, hy3⟩
        have hfin := HFin.out.trans (hy3.mono HFin.out.size)
        go_wp2
        go_ret
        exact ⟨rfl, hfin⟩
  · have HNew := Lib.hid (fNewBad n hn w)
    clear S hb0 h80
    by_cases h1 : n < 1
    · have d1 : decide (n < 1) = true := decide_eq_true h1
      clear hn h1
      go_enter Try.func4, Try.ntmps4
      go_wp2_with fail
      refine HNew.out.mono ?_
      rintro e y ⟨rfl, rfl⟩
      clear HNew
      go_wp2_with fail
      refine (HA.out y).mono ?_
      rintro e y2 ⟨rfl, hy2⟩
      go_wp2
      go_ret
      exact ⟨rfl, hy2⟩
    · have d1 : decide (n < 1) = false := decide_eq_false h1
      have d2 : decide (n > 64) = true := decide_eq_true (by omega)
      clear hn h1
      go_enter Try.func4, Try.ntmps4
      go_wp2_with fail
      refine HNew.out.mono ?_
      rintro e y ⟨rfl, rfl⟩
      clear HNew
      go_wp2_with fail
      refine (HA.out y).mono ?_
      rintro e y2 ⟨rfl, hy2⟩
      go_wp2
      go_ret
      exact ⟨rfl, hy2⟩
set_option maxRecDepth 100000 in
theorem lifted (os : Os) (started : os.Started) (H : Type) (enc : TypeId × Value → H) :
    ReturnsInHanded {} Try.checked os 4 .any (Rows.fifoTakesSpec.pre6 enc Try.prog Try.f4 Rows.fifoTakesRow.domain false) (Rows.fifoTakesSpec.post enc Try.prog Try.f4 false true false false) := by
  refine returnsInHanded_of_change (C := Try.checked) own started (by kernel_rfl) Try.func4
    (ChangeSpec.witness6 (enc := enc) (C := Try.checked) false ⟨#[], #[.int .i64 0, .slice none 0 0], []⟩ 8 (by kernel_rfl) (by kernel_rfl) (by kernel_rfl) (by kernel_rfl)) ?_
  intro W base args ds gs before hval0 hW hcnd _
  have hval : ∀ (j : Nat) t v, Try.f4.params[j]? = some t → args[j]? = some v → Value.okWide Try.prog W .any base t v := hval0
  have hW' := hW
  obtain ⟨p, q, hA0, hV, rfl, hfz, hnd⟩ := hW
  have hA : DataW.TrodAll enc Try.prog W 0 (fun _ => true) true Try.f4.params.toList args.toList ds p := hA0
  rw [Try.params4] at hA hval
  obtain ⟨v0, vs0, d0, ds0, p0, q0, hargs, rfl, rfl, h0, r0⟩ := trodAll_cons hA
  obtain ⟨v1, vs1, d1, ds1, p1, q1, rfl, rfl, rfl, h1, r1⟩ := trodAll_cons r0
  obtain ⟨rfl, rfl, rfl⟩ := trodAll_nil r1
  obtain rfl : args = #[v0, v1] := by cases args; simp_all
  obtain ⟨rfl, rfl⟩ := trodVars_none hV
  obtain ⟨x0, rfl, rfl, rfl, w0⟩ := open_int Try.underlying3 (hval 0 3 v0 rfl rfl) h0
  have k1 := h1
  have lt1 : ∀ x ∈ p1, x.block < W.heap.size := by obtain ⟨m, hm⟩ := k1; exact DataW.trod_lt m _ _ _ hm
  obtain ⟨l1, a1, cap1, rfl, S1, f1, hb1, hn1, hp1⟩ := open_ents2 (hval 1 22 v1 rfl rfl) h1
  clear hA0 hval0
  refine (walk x0 l1 a1 cap1 W w0 S1 f1 hb1 hn1 hp1).mono fun e W' ⟨he, bel⟩ => ?_
  subst he
  exact ⟨_, rfl, _, _, _, [], _, [], hW', trodAll_mk1 (shut_bool Try.underlying4 _), (trodAll_cons_mk (shut_int Try.underlying3 w0) (trodAll_cons_mk (Below.trod laidOut (by kernel_rfl) (of_decide_eq_true (by kernel_rfl)) k1 bel lt1) trodAll_mk0)), rfl, bel.frame _, fun h => by cases h⟩

theorem over : Rows.fifoTakesRow.holds Try.pinned (OpenSpec.ofChange Rows.fifoTakesSpec) :=
  OpenClaim.holds_of_wide 4 Try.f4 rfl rfl rfl rfl rfl rfl rfl ⟨rfl, rfl, rfl, rfl, rfl⟩ rfl rfl rfl rfl rfl (by kernel_rfl) Try.func4 (by kernel_rfl)
    (of_decide_eq_true (by kernel_rfl)) (by unfold Func.isWrapper; first | (rw [if_pos (by decide +kernel)]; kernel_rfl) | (rw [if_neg (by decide +kernel)]; exact ⟨rfl, rfl⟩))
    (fun os started H enc _ => lifted os started H enc)

/-- The statement. -/
theorem proved : Rows.FifoTakesSaid := over
#print axioms proved
end Go.Proofs.Ytipekdeghelpaaa.fifoTakes
