/- For any number of threads and any entries: FifoOne returns true: in a trace nobody has the lock while another one has it, and all are granted it in the order in which they came, but for those who gave up; no condition. -/
import Derived.Test.YtipekdeghelpaaaFfL
import Derived.Test.YtipekdeghelpaaaFs
import Derived.WalkKit
import Derived.ProofKit
import Derived.OpenShut
import Derived.ChangeOld
namespace Go.Proofs.Ytipekdeghelpaaa.fifoOne
open Go.ChangeShapes Go.WideShapes Go.ChangeAt Go.RowKit
set_option linter.unusedVariables false

/-- What one entry more does to the queue and the owner. -/
structure Step1 (l : List En) (x : En) : Prop where
  s2 : x.kind = 2 → (faRun (l ++ [x])).q = (faRun l).q ++ [x.th] ∧ (faRun (l ++ [x])).ow = (faRun l).ow
  s3 : x.kind = 3 → ∃ rest, (faRun l).q = x.th :: rest ∧ (faRun l).ow = -1 ∧ (faRun (l ++ [x])).q = rest ∧ (faRun (l ++ [x])).ow = x.th
  s4 : x.kind = 4 → (faRun (l ++ [x])).q = (faRun l).q.filter (fun t => t != x.th) ∧ (faRun (l ++ [x])).ow = (faRun l).ow
  s9 : x.kind = 9 → (faRun l).ow = x.th ∧ (faRun (l ++ [x])).q = (faRun l).q ∧ (faRun (l ++ [x])).ow = -1
  so : x.kind ≠ 2 → x.kind ≠ 3 → x.kind ≠ 4 → x.kind ≠ 9 → (faRun (l ++ [x])).q = (faRun l).q ∧ (faRun (l ++ [x])).ow = (faRun l).ow
theorem step1 {n : Int} {l : List En} {x : En} (h : Trace n (l ++ [x])) : Step1 l x := by
  obtain ⟨hl, f0, f1, f2, fk⟩ := trace_snoc.1 h
  have oi := owner_iff l hl
  rw [← q_is, ← oi.2.1] at fk
  have kK : ∀ k : Int, (k = 3 ∨ k = 5 ∨ k = 8) → ownK k = true := fun k hk => decide_eq_true hk
  have kN : ∀ k : Int, ¬ (k = 3 ∨ k = 5 ∨ k = 8) → ownK k = false := fun k hk => decide_eq_false hk
  refine ⟨fun hk => ?_, fun hk => ?_, fun hk => ?_, fun hk => ?_, fun h2 h3 h4 h9 => ?_⟩
  · have hl1 : lastD l x.th = 1 := by unfold kindD at fk; omega
    exact ⟨q_enq hl hk (by omega), ow_other hl f0 (kN _ (by omega)) (kN _ (by omega))⟩
  · unfold kindD at fk
    have fk3 : lastD l x.th = 2 ∧ (faRun l).q.head? = some x.th ∧ (faRun l).ow = -1 := by
      rcases fk with h1 | h1 | h1 | h1 | h1 | h1 | h1 | h1 | h1
      · omega
      · omega
      · exact h1.2
      all_goals omega
    cases hq : (faRun l).q with
    | nil => rw [hq] at fk3; simp at fk3
    | cons y rest =>
      rw [hq] at fk3
      simp only [List.head?_cons, Option.some.injEq] at fk3
      obtain ⟨_, rfl, ho⟩ := fk3
      exact ⟨rest, rfl, ho, q_head hl (by omega) hq, ow_take (kK _ (by omega))⟩
  · have hl1 : lastD l x.th = 2 := by unfold kindD at fk; omega
    exact ⟨q_leave (by omega), ow_other hl f0 (kN _ (by omega)) (kN _ (by omega))⟩
  · have hl1 : lastD l x.th = 8 := by unfold kindD at fk; omega
    exact ⟨ow_is hl (kK _ (by omega)), q_other hl (by omega) (by omega), ow_none hl (kN _ (by omega)) (kK _ (by omega))⟩
  · have hl1 : lastD l x.th ≠ 2 := by unfold kindD at fk; omega
    refine ⟨q_other hl h2 hl1, ?_⟩
    by_cases ho : ownK x.kind = true
    · have hx : x.kind = 3 ∨ x.kind = 5 ∨ x.kind = 8 := of_decide_eq_true ho
      have hll : lastD l x.th = 3 ∨ lastD l x.th = 5 ∨ lastD l x.th = 8 := by unfold kindD at fk; omega
      rw [ow_take ho, ow_is hl (kK _ hll)]
    · have hx : ¬ (x.kind = 3 ∨ x.kind = 5 ∨ x.kind = 8) := fun e => ho (kK _ e)
      have hll : ¬ (lastD l x.th = 3 ∨ lastD l x.th = 5 ∨ lastD l x.th = 8) := by unfold kindD at fk; omega
      exact ow_other hl f0 (kN _ hx) (kN _ hll)
theorem fs_is {w : World} {v : Value} {xs : List Int} (h : Fs w v xs) : ∃ a cap, v = .slice a xs.length cap ∧ xs.length ≤ cap ∧ cap ≤ maxLen ∧ ∀ j, j < xs.length → ∃ g off, a = some ⟨g, off, none⟩ ∧ g < w.heap.size ∧ w.cell? ⟨g, off + j, none⟩ = some (.int .i64 (nth xs j)) := by
  rcases h with ⟨rfl, rfl⟩ | ⟨g, off, cap, cs, rfl, h1, h2, hb, h3, h4⟩
  · exact ⟨none, 0, rfl, by simp, by simp, fun j hj => by simp at hj⟩
  · exact ⟨_, cap, rfl, h1, h2, fun j hj => ⟨g, off, rfl, hb.lt, by rw [hb.cell]; exact h4 j hj⟩⟩

set_option maxRecDepth 100000 in
set_option maxHeartbeats 4000000 in
theorem walk (n : Int) (l : List En) (a : Option Addr) (cap : Nat) (w : World) (w0 : (Lit.int .i64 n).wf = true) (S : EnS w a l) (f : ∀ x ∈ l, x.Wf) (hb0 : l.length ≤ maxLen) (hn0 : a = none → cap = 0) (hp : l.length ≤ cap) :
    Calls Try.prog 6 #[.int .i64 n, .slice a l.length cap] w fun e w' => e = .returned (.bool true) ∧ Below w.heap.size w w' := by
  have HA := Lib.hid (fun W => lAwake13 W)
  clear f w0 hn0
  by_cases h80 : 80 < l.length
  · have d : decide ((l.length : Int) > 80) = true := decide_eq_true (by omega)
    have d' : decide (80 < l.length) = true := decide_eq_true h80
    clear h80 hb0
    go_enter Try.func6, Try.ntmps6
    go_wp2_with fail
    refine (HA.out w).mono ?_
    rintro e y ⟨rfl, hy⟩
    go_wp2
    go_ret
    exact ⟨rfl, hy⟩
  have d : decide ((l.length : Int) > 80) = false := decide_eq_false (by omega)
  have d' : decide (80 < l.length) = false := decide_eq_false h80
  have HC := Lib.hid (fun W (hW : Below w.heap.size w W) => fCheck n l a cap W (S.below hW) (by omega))
  obtain ⟨c, o, hcl, hck, htr, hql⟩ : ∃ (c : Nat) (o : Bool), c ≤ l.length ∧ chkV n l = .tuple #[.int .i64 c, .bool o] ∧ (∀ k, k ≤ c → Trace n (l.take k)) ∧ (∀ k, k ≤ c → (faRun (l.take k)).q.length ≤ 80) := by
    have hT : ∀ k, k ≤ checkN n l → Trace n (l.take k) := fun k hk => by
      by_cases hn : 1 ≤ n ∧ n ≤ 64
      · have e : checkN n l = checkD n l := by unfold checkN; rw [if_pos hn]
        rw [e] at hk
        have h1 := trace_take (checkD_trace n l) k
        rwa [List.take_take, Nat.min_eq_left hk] at h1
      · have e : checkN n l = 0 := by unfold checkN; rw [if_neg hn]
        rw [e] at hk
        obtain rfl : k = 0 := by omega
        rw [List.take_zero]; exact trace_nil n
    have hle : checkN n l ≤ l.length := by
      unfold checkN
      split
      · exact checkD_le n l
      · omega
    refine ⟨_, _, hle, rfl, hT, fun k hk => ?_⟩
    rw [q_is]
    refine Nat.le_trans (List.length_filterMap_le _ _) ?_
    simp; omega
  rw [hck] at HC
  have HTr := Lib.hid htr
  have HQL := Lib.hid hql
  have HSt : Hid (∀ k (h : k < l.length), k < c → Step1 (l.take k) l[k] ∧ faRun (l.take (k + 1)) = faRun (l.take k ++ [l[k]])) := Lib.hid (fun k h hc => by
    have := htr (k + 1) hc
    rw [take_at l k h] at this ⊢
    exact ⟨step1 this, rfl⟩)
  have HS := Lib.hid (fun W (hW : Below w.heap.size w W) => S.below hW)
  have m1 : max (c : Int) 0 = (c : Int) := by omega
  have m2 : min (c : Int) (l.length : Int) = (c : Int) := by omega
  have m3 : ((c : Int) ≤ (cap : Int)) := by omega
  have hl80 : l.length ≤ 80 := by omega
  clear hck htr hql S hb0 h80
  go_enter Try.func6, Try.ntmps6
  go_wp2_with fail
  refine (HC.out w (Below.refl _ _)).mono ?_
  rintro e y ⟨rfl, hy⟩
  clear HC
  have HY := Lib.hid hy
  go_wp2
  go_loopw [7, 8, 32] (fun q o i wr => ∃ k : Nat, i = .int .i64 k ∧ Fs wr q (faRun (l.take k)).q ∧ o = .int .i64 (faRun (l.take k)).ow ∧ (∀ g, q.ownBlock = some g → w.heap.size ≤ g) ∧ k ≤ c ∧ Below w.heap.size w wr) (fun _ _ i _ => c - (intOf i).toNat)
  case atStart => exact ⟨0, rfl, .inl ⟨rfl, rfl⟩, rfl, fun g e => (by cases e), Nat.zero_le _, hy⟩
  case round =>
    obtain ⟨k, rfl, hq, rfl, hqb, hk, hb⟩ := hrel
    by_cases hlt : k < c
    · have hki : (k : Int) < c := by omega
      have hkl : k < l.length := by omega
      obtain ⟨b, off, rfl, hbl, c0, c1, c2⟩ := (HS.out wr hb).at_ (List.getElem?_eq_getElem hkl)
      obtain ⟨hst, hfa⟩ := HSt.out k hkl hlt
      obtain ⟨t2, t3, t4, t9, to_⟩ := hst
      rw [← hfa] at t2 t3 t4 t9 to_
      have hb2 := hb.alloc (o := .cells #[.int .i64 l[k].kind, .int .i64 l[k].th, .int .i64 l[k].now] 38) hb.size
      have hNb := Nb.made 38 wr l[k].kind l[k].th l[k].now
      have hqz := hq.within (S := fun _ => False) ((Within.refl wr _).alloc (.cells #[.int .i64 l[k].kind, .int .i64 l[k].th, .int .i64 l[k].now] 38)) (by simp)
      have hql := HQL.out k hk
      generalize hF2 : faRun (l.take (k + 1)) = F2 at *
      have HF2 := Lib.hid hF2
      clear hF2
      generalize faRun (l.take k) = F at *
      obtain ⟨fl, fq, fo⟩ := F
      obtain ⟨fl2, fq2, fo2⟩ := F2
      generalize l[k] = x at *
      obtain ⟨xk, xt, xn⟩ := x
      simp only at t2 t3 t4 t9 to_ c0 c1 c2 hb2 hNb hqz hq hql
      clear hfa hq HTr HQL HSt
      go_upto_region 10 with fail
      generalize wr.alloc (.cells #[.int .i64 xk, .int .i64 xt, .int .i64 xn] 38) = z at *
      have hpz := Bk.lt hNb
      generalize wr.heap.size = p at *
      obtain ⟨e0, e1, e2⟩ := hNb.cells
      simp only at e0 e1 e2
      have HFin := Lib.hid hb2
      have HB := Lib.hid hqb
      clear c0 c1 c2 hb hqb hb2
      by_cases k2 : xk = 2
      · obtain ⟨rfl, rfl⟩ := t2 k2
        have d2 : (xk == 2) = true := by simpa using k2
        have HA1 : Hid (Fs (z.alloc (.cells #[.int .i64 xt] 3)) u7 fq) := Lib.hid (hqz.within (S := fun _ => False) ((Within.refl z _).alloc _) (by simp))
        have HA2 : Hid ((z.alloc (.cells #[.int .i64 xt] 3)).cell? ⟨z.heap.size, 0, none⟩ = some (.int .i64 xt)) := Lib.hid ((Bk.made z 3 #[.int .i64 xt]).cell 0)
        have HQL2 := Lib.hid (show fq.length < 1000 by omega)
        have HN : Hid (∀ w', (z.alloc (.cells #[.int .i64 xt] 3)).grownBy w' u7.ownBlock → Below w.heap.size w w') := Lib.hid (fun w' hg => (HFin.out.alloc HFin.out.size _).grown hg (by rw [World.size_alloc]; have := HFin.out.size; omega) HB.out)
        have HN2 : Hid (∀ ad : Addr, (some ad.block = u7.ownBlock ∨ (z.alloc (.cells #[.int .i64 xt] 3)).heap.size ≤ ad.block) → w.heap.size ≤ ad.block) := Lib.hid (fun ad h => by
          rcases h with h | h
          · exact HB.out _ h.symm
          · rw [World.size_alloc] at h; have := HFin.out.size; omega)
        clear t2 t3 t4 t9 to_ hqz hNb k2 hql
        go_wp2_with (at_builtin; refine wpFsApp rfl _ _ rfl HA1.out rfl HQL2.out xt z.heap.size rfl HA2.out ?_; intro ad cap' w' hF hgr hloc)
        have HQ := Lib.hid hF
        have HFin2 := Lib.hid (HN.out w' hgr)
        have HB2 : Hid (∀ g, (Value.slice (some ad) (fq.length + 1) cap').ownBlock = some g → w.heap.size ≤ g) := Lib.hid (fun g e => by
          simp only [Value.ownBlock, Option.some.injEq] at e; subst e; exact HN2.out ad hloc)
        clear hF hgr hloc HA1 HA2 HN HN2
        go_roundw
        case rel => exact ⟨k + 1, by go_num, by rw [HF2.out]; exact HQ.out, by rw [HF2.out], HB2.out, by omega, HFin2.out⟩
        case measure => simp [intOf]; omega
      by_cases k3 : xk = 3
      · obtain ⟨rest, h1, h2, h3, h4⟩ := t3 k3
        subst h1
        subst h2
        have h3 := h3.symm
        subst h3
        have h4 := h4.symm
        subst h4
        have d2 : (xk == 2) = false := beq_eq_false_iff_ne.2 k2
        have d3 : (xk == 3) = true := by simpa using k3
        obtain ⟨g, off, capq, rfl, hcq1, hcq2, hcell, hc1, hc2⟩ := hqz.cut
        simp only [List.length_cons] at hql
        simp only [maxLen] at hcq2
        have dl : (((rest.length + 1 : Nat) : Int) == 0) = false := beq_eq_false_iff_ne.2 (by omega)
        have dl' : ((rest.length : Int) + 1 == 0) = false := beq_eq_false_iff_ne.2 (by omega)
        have dt : (xt != xt) = false := by simp
        have dcap : (1 : Int) ≤ (capq : Int) := by omega
        clear t2 t3 t4 t9 to_ hNb k2 k3
        have HQ : Hid (Fs z (.slice (if capq = 1 then some ⟨g, off, none⟩ else some ⟨g, off + 1, none⟩) rest.length (capq - 1)) rest) := Lib.hid (by
          split
          · exact hc1 (by assumption)
          · exact hc2 (by assumption))
        have HB2 : Hid (∀ g', (Value.slice (if capq = 1 then some ⟨g, off, none⟩ else some ⟨g, off + 1, none⟩) rest.length (capq - 1)).ownBlock = some g' → w.heap.size ≤ g') := Lib.hid (fun g' e => HB.out g' (by
          split at e <;> exact e))
        have HFin0 := Lib.hid HFin.out
        clear hc1 hc2 hqz
        go_upto_region 13 with fail
        go_quiet (fail)
        have hz1 : Within z (z.drewN nq) (fun _ => False) := (Within.refl z _).draws nq
        have e0' : (z.drewN nq).cell? ⟨p, 0, none⟩ = some (.int .i64 xk) := e0
        have e1' : (z.drewN nq).cell? ⟨p, 1, none⟩ = some (.int .i64 xt) := e1
        have HF3 : Hid (Below w.heap.size w (z.drewN nq)) := Lib.hid ⟨HFin.out.os, HFin.out.tape, HFin.out.output, HFin.out.size, HFin.out.block⟩
        have HQ3 := Lib.hid (HQ.out.within hz1 (by simp))
        clear hz1 HQ HFin HFin0
        generalize z.drewN nq = z1 at *
        clear e0 e1 e2 hcell
        go_upto_region 15 with fail
        go_quiet (fail)
        have hz2 : Within z1 (z1.drewN nq) (fun _ => False) := (Within.refl z1 _).draws nq
        have HFin2 : Hid (Below w.heap.size w (z1.drewN nq)) := Lib.hid ⟨HF3.out.os, HF3.out.tape, HF3.out.output, HF3.out.size, HF3.out.block⟩
        have HQ := Lib.hid (HQ3.out.within hz2 (by simp))
        clear hz2 HQ3 HF3
        generalize z1.drewN nq = z2 at *
        go_wp2
        go_roundw
        case rel => exact ⟨k + 1, by go_num, by rw [HF2.out]; exact HQ.out, by rw [HF2.out], HB2.out, by omega, HFin2.out⟩
        case measure => simp [intOf]; omega
      by_cases k4 : xk = 4
      · obtain ⟨h1, h2⟩ := t4 k4
        have h1 := h1.symm
        subst h1
        have h2 := h2.symm
        subst h2
        have d2 : (xk == 2) = false := beq_eq_false_iff_ne.2 k2
        have d3 : (xk == 3) = false := beq_eq_false_iff_ne.2 k3
        have d4 : (xk == 4) = true := by simpa using k4
        obtain ⟨aq, capq, rfl, hcq1, hcq2, hcq⟩ := fs_is hqz
        have HCq : Hid (∀ j, j < fq.length → ∃ g off, aq = some ⟨g, off, none⟩ ∧ ∀ y, Below z.heap.size z y → y.cell? ⟨g, off + j, none⟩ = some (.int .i64 (nth fq j))) := Lib.hid (fun j hj => by
          obtain ⟨g, off, e, hlt, hc⟩ := hcq j hj
          exact ⟨g, off, e, fun y hy => (hy.cell (p := ⟨g, off + j, none⟩) hlt).trans hc⟩)
        have HE1 : Hid (∀ y, Below z.heap.size z y → y.cell? ⟨p, 1, none⟩ = some (.int .i64 xt)) := Lib.hid (fun y hy => (hy.cell (p := ⟨p, 1, none⟩) hpz).trans e1)
        have HYes : Hid (∀ j, j < fq.length → nth fq j ≠ xt → kp fq xt (j + 1) = kp fq xt j ++ [nth fq j]) := Lib.hid (fun j hj h => kp_yes hj h)
        have HNo : Hid (∀ j, j < fq.length → nth fq j = xt → kp fq xt (j + 1) = kp fq xt j) := Lib.hid (fun j hj h => kp_no hj h)
        have HLen : Hid (∀ j, (kp fq xt j).length ≤ j) := Lib.hid (kp_len fq xt)
        have HAll : Hid (kp fq xt fq.length = fq.filter (fun t => t != xt)) := Lib.hid (kp_all fq xt)
        have HZ0 : Hid (w.heap.size ≤ z.heap.size) := Lib.hid HFin.out.size
        simp only [maxLen] at hcq2
        clear t2 t3 t4 t9 to_ hNb k2 k3 k4 hcq hqz HB
        go_wp2
        go_loopw [11, 70] (fun o i wi => ∃ j : Nat, i = .int .i64 j ∧ Lst .i64 3 wi o (kp fq xt j) ∧ Hid (∀ g, o.ownBlock = some g → z.heap.size ≤ g) ∧ j ≤ fq.length ∧ Below z.heap.size z wi) (fun _ i _ => fq.length - (intOf i).toNat)
        case atStart => exact ⟨0, rfl, Lst.nil _ _ _, Lib.hid (fun g e => by cases e), Nat.zero_le _, Below.refl _ _⟩
        case round =>
          obtain ⟨j, rfl, hO, HBi, hj, hbi⟩ := hrel
          by_cases hjl : j < fq.length
          · have hji : (j : Int) < fq.length := by omega
            obtain ⟨g, off, rfl, hcj⟩ := HCq.out j hjl
            have cj := hcj wr hbi
            have e1r := HE1.out wr hbi
            have HYj := Lib.hid (HYes.out j hjl)
            have HNj := Lib.hid (HNo.out j hjl)
            have HLj := Lib.hid (HLen.out j)
            generalize nth fq j = y at *
            clear hcj
            by_cases hy' : y = xt
            · have q1 : (y != xt) = false := by simpa using hy'
              have HK := Lib.hid (HNj.out hy')
              rw [← HK.out] at hO
              clear HYj HNj hy'
              go_wp2
              go_roundw
              case rel => exact ⟨j + 1, by go_num, hO, HBi, by omega, hbi⟩
              case measure => simp [intOf]; omega
            · have q1 : (y != xt) = true := by simpa using hy'
              have HK := Lib.hid (HYj.out hy')
              have HO := Lib.hid hO
              have HLk : Hid ((kp fq xt j).length < 1000000) := Lib.hid (by have := HLj.out; omega)
              clear HYj HNj hy' hO
              go_wp2_with (at_builtin; refine wpLstApp rfl _ _ 39 rfl 8 Try.underlying39 intinfo (by omega) HO.out rfl y rfl HLk.out ?_; intro v' w' hown hgr hloc)
              have hfin : Below z.heap.size z w' := hbi.grown hgr hbi.size HBi.out
              have HB2 : Hid (∀ g, v'.ownBlock = some g → z.heap.size ≤ g) := Lib.hid (fun g e => by
                rcases hloc with e2 | e2
                · exact HBi.out g (by rw [← e2]; exact e)
                · rw [e2] at e; injection e with e; have := hbi.size; omega)
              rw [← HK.out] at hown
              clear hgr hloc HBi HO HK
              go_roundw
              case rel => exact ⟨j + 1, by go_num, hown, HB2, by omega, hfin⟩
              case measure => simp [intOf]; omega
          · obtain rfl : j = fq.length := by omega
            rw [HAll.out] at hO
            have HQ := Lib.hid (Fs.of_lst hO)
            have HFin2 := Lib.hid (HFin.out.trans (hbi.mono HFin.out.size))
            have HB2 : Hid (∀ g, u11.ownBlock = some g → w.heap.size ≤ g) := Lib.hid (fun g e => Nat.le_trans HZ0.out (HBi.out g e))
            clear hO hbi HCq HE1 HYes HNo HLen
            go_wp2
            go_roundw
            case rel => exact ⟨k + 1, by go_num, by rw [HF2.out]; exact HQ.out, by rw [HF2.out], HB2.out, by omega, HFin2.out⟩
            case measure => simp [intOf]; omega
      have d2 : (xk == 2) = false := beq_eq_false_iff_ne.2 k2
      have d3 : (xk == 3) = false := beq_eq_false_iff_ne.2 k3
      have d4 : (xk == 4) = false := beq_eq_false_iff_ne.2 k4
      by_cases k9 : xk = 9
      · obtain ⟨rfl, rfl, rfl⟩ := t9 k9
        have d9 : (xk == 9) = true := by simpa using k9
        have HQ := Lib.hid hqz
        have dO : (fo != fo) = false := by simp
        clear t2 t3 t4 t9 to_ hqz hNb k2 k3 k4 k9
        go_wp2
        go_roundw
        case rel => exact ⟨k + 1, by go_num, by rw [HF2.out]; exact HQ.out, by rw [HF2.out], HB.out, by omega, HFin.out⟩
        case measure => simp [intOf]; omega
      · obtain ⟨rfl, rfl⟩ := to_ k2 k3 k4 k9
        have d9 : (xk == 9) = false := beq_eq_false_iff_ne.2 k9
        have HQ := Lib.hid hqz
        clear t2 t3 t4 t9 to_ hqz hNb k2 k3 k4 k9
        go_wp2
        go_roundw
        case rel => exact ⟨k + 1, by go_num, by rw [HF2.out]; exact HQ.out, by rw [HF2.out], HB.out, by omega, HFin.out⟩
        case measure => simp [intOf]; omega
    · obtain rfl : k = c := by omega
      have HFin := Lib.hid hb
      clear hq hqb hb HTr HQL HSt HS
      go_wp2_with fail
      refine (HA.out wr).mono ?_
      rintro e y2 ⟨rfl, hy2⟩
      have hfin := HFin.out.trans (hy2.mono HFin.out.size)
      go_wp2
      go_ret
      exact ⟨rfl, hfin⟩
set_option maxRecDepth 100000 in
theorem lifted (os : Os) (started : os.Started) (H : Type) (enc : TypeId × Value → H) :
    ReturnsInHanded {} Try.checked os 6 .any (Rows.fifoOneSpec.pre6 enc Try.prog Try.f6 Rows.fifoOneRow.domain false) (Rows.fifoOneSpec.post enc Try.prog Try.f6 false true false false) := by
  refine returnsInHanded_of_change (C := Try.checked) own started (by kernel_rfl) Try.func6
    (ChangeSpec.witness6 (enc := enc) (C := Try.checked) false ⟨#[], #[.int .i64 0, .slice none 0 0], []⟩ 8 (by kernel_rfl) (by kernel_rfl) (by kernel_rfl) (by kernel_rfl)) ?_
  intro W base args ds gs before hval0 hW hcnd _
  have hval : ∀ (j : Nat) t v, Try.f6.params[j]? = some t → args[j]? = some v → Value.okWide Try.prog W .any base t v := hval0
  have hW' := hW
  obtain ⟨p, q, hA0, hV, rfl, hfz, hnd⟩ := hW
  have hA : DataW.TrodAll enc Try.prog W 0 (fun _ => true) true Try.f6.params.toList args.toList ds p := hA0
  rw [Try.params6] at hA hval
  obtain ⟨v0, vs0, d0, ds0, p0, q0, hargs, rfl, rfl, h0, r0⟩ := trodAll_cons hA
  obtain ⟨v1, vs1, d1, ds1, p1, q1, rfl, rfl, rfl, h1, r1⟩ := trodAll_cons r0
  obtain ⟨rfl, rfl, rfl⟩ := trodAll_nil r1
  obtain rfl : args = #[v0, v1] := by cases args; simp_all
  obtain ⟨rfl, rfl⟩ := trodVars_none hV
  obtain ⟨x0, rfl, rfl, rfl, w0⟩ := open_int Try.underlying3 (hval 0 3 v0 rfl rfl) h0
  have k1 := h1
  have lt1 : ∀ x ∈ p1, x.block < W.heap.size := by obtain ⟨m, hm⟩ := k1; exact DataW.trod_lt m _ _ _ hm
  obtain ⟨l1, a1, cap1, rfl, S1, f1, hb1, hn1, hp1⟩ := open_ents2 (hval 1 22 v1 rfl rfl) h1
  clear hA0 hval0
  refine (walk x0 l1 a1 cap1 W w0 S1 f1 hb1 hn1 hp1).mono fun e W' ⟨he, bel⟩ => ?_
  subst he
  exact ⟨_, rfl, _, _, _, [], _, [], hW', trodAll_mk1 (shut_bool Try.underlying4 _), (trodAll_cons_mk (shut_int Try.underlying3 w0) (trodAll_cons_mk (Below.trod laidOut (by kernel_rfl) (of_decide_eq_true (by kernel_rfl)) k1 bel lt1) trodAll_mk0)), rfl, bel.frame _, fun h => by cases h⟩

theorem over : Rows.fifoOneRow.holds Try.pinned (OpenSpec.ofChange Rows.fifoOneSpec) :=
  OpenClaim.holds_of_wide 6 Try.f6 rfl rfl rfl rfl rfl rfl rfl ⟨rfl, rfl, rfl, rfl, rfl⟩ rfl rfl rfl rfl rfl (by kernel_rfl) Try.func6 (by kernel_rfl)
    (of_decide_eq_true (by kernel_rfl)) (by unfold Func.isWrapper; first | (rw [if_pos (by decide +kernel)]; kernel_rfl) | (rw [if_neg (by decide +kernel)]; exact ⟨rfl, rfl⟩))
    (fun os started H enc _ => lifted os started H enc)

/-- The statement. -/
theorem proved : Rows.FifoOneSaid := over
#print axioms proved
end Go.Proofs.Ytipekdeghelpaaa.fifoOne
