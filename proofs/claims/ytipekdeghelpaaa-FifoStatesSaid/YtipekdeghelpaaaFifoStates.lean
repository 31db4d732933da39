/- For any number of threads and any entries: FifoStates returns true: of a trace just the owner is granted, holding or leaving, and just those in the queue are queued, each once; no condition. -/
import Derived.Test.YtipekdeghelpaaaFfL
import Derived.WalkKit
import Derived.ProofKit
import Derived.OpenShut
import Derived.ChangeOld
namespace Go.Proofs.Ytipekdeghelpaaa.fifoStates
open Go.ChangeShapes Go.WideShapes Go.ChangeAt Go.RowKit
set_option linter.unusedVariables false

/-- What was taken of so many entries. -/
def hadD (n : Int) (l : List En) (i : Nat) : List En := (l.take i).foldl (takeD n) []
theorem hadD_next (n : Int) (l : List En) (i : Nat) (h : i < l.length) : hadD n l (i + 1) = takeD n (hadD n l i) l[i] := by
  unfold hadD
  rw [take_at l i h, List.foldl_append]; rfl
/-- How often a number stands in a list. -/
def cntI (q : List Int) (t : Int) : Nat := q.countP (fun u => decide (u = t))
theorem cntI_yes {q : List Int} {t : Int} {j : Nat} (hj : j < q.length) (h : nth q j = t) : cntI (q.take (j + 1)) t = cntI (q.take j) t + 1 := by
  unfold cntI
  rw [take_at q j hj, List.countP_append, ← nth_lt hj]
  simp [h]
theorem cntI_no {q : List Int} {t : Int} {j : Nat} (hj : j < q.length) (h : nth q j ≠ t) : cntI (q.take (j + 1)) t = cntI (q.take j) t := by
  unfold cntI
  rw [take_at q j hj, List.countP_append, ← nth_lt hj]
  simp [h]
theorem cntI_le (q : List Int) (t : Int) (j : Nat) : cntI (q.take j) t ≤ j := by
  unfold cntI
  exact Nat.le_trans List.countP_le_length (by rw [List.length_take]; omega)
theorem cntI_nodup : ∀ {q : List Int} {t : Int}, q.Nodup → cntI q t = if t ∈ q then 1 else 0
  | [], t, _ => rfl
  | x :: q, t, h => by
    obtain ⟨h1, h2⟩ := List.nodup_cons.1 h
    have ih := cntI_nodup (t := t) h2
    unfold cntI at *
    rw [List.countP_cons, ih]
    by_cases e : x = t
    · subst e
      rw [if_neg h1]
      simp
    · have e2 : ¬ t = x := fun h => e h.symm
      simp [e, e2]
/-- What the states say of each thread. -/
theorem states_fact {n : Nat} {had : List En} (h : Trace (n : Int) had) (t : Nat) :
    (ownS (stK (lastD had t)) = true → ownerD had = t) ∧ (ownS (stK (lastD had t)) = false → ownerD had ≠ t) ∧ (stK (lastD had t) = 2 → cntI (queueD had) t = 1) ∧ (stK (lastD had t) ≠ 2 → cntI (queueD had) t = 0) := by
  have oi := owner_iff had h
  rw [oi.2.1] at oi
  obtain ⟨m1, m2, _⟩ := mem_q had h
  rw [q_is] at m1 m2
  have hr := last_range had h t
  rw [stK_own, cntI_nodup m2]
  have hs : stK (lastD had t) = 2 ↔ lastD had (t : Int) = 2 := by
    have hl : lastD had (t : Int) = 0 ∨ lastD had (t : Int) = 1 ∨ lastD had (t : Int) = 2 ∨ lastD had (t : Int) = 3 ∨ lastD had (t : Int) = 4 ∨ lastD had (t : Int) = 5 ∨ lastD had (t : Int) = 6 ∨ lastD had (t : Int) = 7 ∨ lastD had (t : Int) = 8 ∨ lastD had (t : Int) = 9 ∨ lastD had (t : Int) = 10 := by omega
    rcases hl with e | e | e | e | e | e | e | e | e | e | e <;> rw [e] <;> decide
  refine ⟨fun e => ((oi.1 t).1 e).1, fun e e2 => ?_, fun e => ?_, fun e => ?_⟩
  · have := (oi.1 t).2 ⟨e2, by omega⟩
    rw [e] at this; cases this
  · rw [if_pos ((m1 t).2 (hs.1 e))]
  · rw [if_neg (fun hm => e (hs.2 ((m1 t).1 hm)))]

theorem qlen_of {w : World} {p s : Nat} {v : Value} {n : Nat} {had : List En} (h : Fr w p s v n had) : (queueD had).length ≤ n := by
  obtain ⟨_, _, _, _, h2⟩ := h
  rw [← h2.q]; exact h2.qlen
/-- .. and of who is told to be the owner. -/
theorem own_fact {n : Nat} {had : List En} (h : Trace (n : Int) had) : ∃ (ow : Int) (ok : Bool), ownR had = .tuple #[.int .i64 ow, .bool ok] ∧ ∀ t : Nat,
    (ownS (stK (lastD had t)) = true → ok = true ∧ ow = t) ∧ (ownS (stK (lastD had t)) = false → ok = true → ow ≠ t) ∧ (stK (lastD had t) = 2 → cntI (queueD had) t = 1) ∧ (stK (lastD had t) ≠ 2 → cntI (queueD had) t = 0) := by
  refine ⟨_, _, rfl, fun t => ?_⟩
  obtain ⟨h1, h2, h3, h4⟩ := states_fact h t
  refine ⟨fun e => ?_, fun e e2 => ?_, h3, h4⟩
  · have := h1 e
    exact ⟨decide_eq_true (by omega), by omega⟩
  · have := h2 e
    have := of_decide_eq_true e2
    omega

set_option maxRecDepth 100000 in
set_option maxHeartbeats 4000000 in
theorem walk (n : Int) (l : List En) (a : Option Addr) (cap : Nat) (w : World) (w0 : (Lit.int .i64 n).wf = true) (S : EnS w a l) (f : ∀ x ∈ l, x.Wf) (hb0 : l.length ≤ maxLen) (hn0 : a = none → cap = 0) (hp : l.length ≤ cap) :
    Calls Try.prog 7 #[.int .i64 n, .slice a l.length cap] w fun e w' => e = .returned (.bool true) ∧ Below w.heap.size w w' := by
  have HA := Lib.hid (fun W => lAwake13 W)
  clear f w0 hn0 hp
  by_cases h80 : 80 < l.length
  · have d : decide ((l.length : Int) > 80) = true := decide_eq_true (by omega)
    have d' : decide (80 < l.length) = true := decide_eq_true h80
    clear h80 hb0
    go_enter Try.func7, Try.ntmps7
    go_wp2_with fail
    refine (HA.out w).mono ?_
    rintro e y ⟨rfl, hy⟩
    go_wp2
    go_ret
    exact ⟨rfl, hy⟩
  have d : decide ((l.length : Int) > 80) = false := decide_eq_false (by omega)
  have d' : decide (80 < l.length) = false := decide_eq_false h80
  by_cases h1 : n < 1
  · have d1 : decide (n < 1) = true := decide_eq_true h1
    clear h80 hb0 h1
    go_enter Try.func7, Try.ntmps7
    go_wp2_with fail
    refine (HA.out w).mono ?_
    rintro e y ⟨rfl, hy⟩
    go_wp2
    go_ret
    exact ⟨rfl, hy⟩
  have d1 : decide (n < 1) = false := decide_eq_false h1
  by_cases h2 : n > 64
  · have d2 : decide (n > 64) = true := decide_eq_true h2
    clear h80 hb0 h1 h2
    go_enter Try.func7, Try.ntmps7
    go_wp2_with fail
    refine (HA.out w).mono ?_
    rintro e y ⟨rfl, hy⟩
    go_wp2
    go_ret
    exact ⟨rfl, hy⟩
  have d2 : decide (n > 64) = false := decide_eq_false h2
  obtain ⟨m, rfl⟩ : ∃ m : Nat, n = (m : Int) := ⟨n.toNat, by omega⟩
  have HNew := Lib.hid (fNew m (by omega) (by omega) w)
  have HM64 := Lib.hid (show m ≤ 64 by omega)
  have HS := Lib.hid (fun W (hW : Below w.heap.size w W) => S.below hW)
  have HNx := Lib.hid (hadD_next (m : Int) l)
  have hl80 : l.length ≤ 80 := by omega
  have hm64 : m ≤ 64 := by omega
  clear S hb0 h80 h1 h2
  go_enter Try.func7, Try.ntmps7
  go_wp2_with fail
  refine HNew.out.mono ?_
  rintro e y ⟨p, s, rfl, hF, hy⟩
  have HF := Lib.hid hF
  clear hF HNew
  go_wp2
  go_loopw [43] (fun x wr => ∃ (i : Nat) (v : Value), x = .int .i64 i ∧ i ≤ l.length ∧ Below w.heap.size w wr ∧ Hid (FrO w.heap.size wr p s v m (hadD m l i))) (fun x _ => l.length - (intOf x).toNat)
  case atStart => exact ⟨0, _, rfl, Nat.zero_le _, hy, HF⟩
  case round =>
    obtain ⟨i, v, rfl, hi, hb, HO⟩ := hrel
    by_cases hlt : i < l.length
    · have hii : (i : Int) < l.length := by omega
      obtain ⟨b, off, rfl, hbl, c0, c1, c2⟩ := (HS.out wr hb).at_ (List.getElem?_eq_getElem hlt)
      have hb2 := hb.alloc (o := .cells #[.int .i64 l[i].kind, .int .i64 l[i].th, .int .i64 l[i].now] 38) hb.size
      have HTk := Lib.hid (rTakeC (HO.out.below ((Below.refl _ wr).alloc (o := .cells #[.int .i64 l[i].kind, .int .i64 l[i].th, .int .i64 l[i].now] 38) (Nat.le_refl _))) hb2.size HM64.out l[i])
      have HP := Lib.hid (fun g (hg : InFf p s v g) => HO.out.in_ge g hg)
      have HN2 := Lib.hid (HNx.out i hlt)
      generalize hHD : hadD (m : Int) l (i + 1) = had2 at *
      have HHD := Lib.hid hHD
      clear hHD
      generalize hadD (m : Int) l i = had at *
      rw [← HN2.out] at HTk
      have hNb := Nb.made 38 wr l[i].kind l[i].th l[i].now
      obtain ⟨o, ho⟩ : ∃ o, decide (fitsD m had l[i]) = o := ⟨_, rfl⟩
      rw [ho] at HTk
      generalize l[i] = x at *
      obtain ⟨xk, xt, xn⟩ := x
      unfold enV at HTk
      simp only at hb2 hNb c0 c1 c2 HTk
      clear HO hb ho HF
      go_upto_region 9 with fail
      generalize wr.alloc (.cells #[.int .i64 xk, .int .i64 xt, .int .i64 xn] 38) = z at *
      generalize wr.heap.size = bz at *
      obtain ⟨e0, e1, e2⟩ := hNb.cells
      simp only at e0 e1 e2
      clear hNb c0 c1 c2
      go_wp2_with fail
      refine HTk.out.mono ?_
      rintro e u ⟨rfl, v', ht⟩
      have hbu : Below w.heap.size w u := below_within hb2 hb2.size ht.within HP.out
      have HO2 := Lib.hid ht.ok
      clear ht HTk hb2 e0 e1 e2 HP HN2
      obtain ⟨ow, ok, hov, hfa⟩ := own_fact HO2.out.ok.tr
      have HOw := Lib.hid (rOwnerC HO2.out.ok)
      rw [hov] at HOw
      have HFa := Lib.hid hfa
      clear hov hfa
      go_wp2_with fail
      refine HOw.out.mono ?_
      rintro e u' ⟨rfl, rfl⟩
      clear HOw
      go_wp2_with fail
      refine (rQueueC HO2.out.ok HM64.out).mono ?_
      rintro e u2 ⟨qv, rfl, hq, hqo, hu2⟩
      have hbu2 := hbu.trans (hu2.mono hbu.size)
      have HO3 := Lib.hid (HO2.out.below hu2)
      obtain ⟨aq, capq, rfl, hcq1, hcq2, hcq⟩ := hq.is
      have HStt := Lib.hid (fun t : Nat => rStateC HO3.out.ok t)
      have HQ : Hid (∀ j, j < (queueD had2).length → ∃ g, aq = some ⟨g, 0, none⟩ ∧ u2.cell? ⟨g, j, none⟩ = some (.int .i64 (nth (queueD had2) j))) := Lib.hid (fun j hj => by
        obtain ⟨g, e, _, _, hc⟩ := hcq (by omega)
        exact ⟨g, e, by rw [hc j hj]⟩)
      have hql : (queueD had2).length ≤ 80 := by have := qlen_of HO3.out.ok; omega
      generalize queueD had2 = q at *
      clear HO2 hq hqo hu2 hbu hcq
      simp only [maxLen] at hcq2
      go_wp2
      go_loopw [58] (fun x wi => ∃ t : Nat, x = .int .i64 t ∧ t ≤ m ∧ wi = u2) (fun x _ => m - (intOf x).toNat)
      case atStart => exact ⟨0, rfl, Nat.zero_le _, rfl⟩
      case round =>
        obtain ⟨t, rfl, ht, rfl⟩ := hrel
        by_cases htl : t < m
        · have hti : (t : Int) < m := by omega
          have HSt1 := Lib.hid (HStt.out t)
          obtain ⟨fa1, fa2, fa3, fa4⟩ := HFa.out t
          have HF1 := Lib.hid fa1
          have HF2 := Lib.hid fa2
          have HF3 := Lib.hid fa3
          have HF4 := Lib.hid fa4
          clear fa1 fa2 fa3 fa4
          generalize stK (lastD had2 (t : Int)) = st at *
          have HYes := Lib.hid (fun j (hj : j < q.length) (h : nth q j = (t : Int)) => cntI_yes hj h)
          have HNo := Lib.hid (fun j (hj : j < q.length) (h : nth q j ≠ (t : Int)) => cntI_no hj h)
          have HLe := Lib.hid (fun j => cntI_le q t j)
          have HAll : Hid (cntI (q.take q.length) t = cntI q t) := Lib.hid (by rw [List.take_length])
          go_wp2_with fail
          refine HSt1.out.mono ?_
          rintro e u3 ⟨rfl, rfl⟩
          clear HSt1
          go_wp2
          go_loopw [14, 66] (fun c j wi => ∃ k : Nat, j = .int .i64 k ∧ c = .int .i64 (cntI (q.take k) t : Nat) ∧ k ≤ q.length ∧ wi = u3) (fun _ j _ => q.length - (intOf j).toNat)
          case atStart => exact ⟨0, rfl, rfl, Nat.zero_le _, rfl⟩
          case round =>
            obtain ⟨k, rfl, rfl, hk, rfl⟩ := hrel
            by_cases hkl : k < q.length
            · have hki : (k : Int) < q.length := by omega
              obtain ⟨g, rfl, cq⟩ := HQ.out k hkl
              have HY := Lib.hid (HYes.out k hkl)
              have HN := Lib.hid (HNo.out k hkl)
              have hle := HLe.out k
              generalize nth q k = y at *
              by_cases hy' : y = (t : Int)
              · have q1 : (y == (t : Int)) = true := by simpa using hy'
                have HK := Lib.hid (HY.out hy')
                clear HY HN hy'
                generalize cntI (q.take k) t = cn at *
                go_wp2
                go_roundw
                case rel => exact ⟨k + 1, by go_num, by rw [HK.out]; go_num, by omega, trivial⟩
                case measure => simp [intOf]; omega
              · have q1 : (y == (t : Int)) = false := by simpa using hy'
                have HK := Lib.hid (HN.out hy')
                clear HY HN hy'
                generalize cntI (q.take k) t = cn at *
                go_wp2
                go_roundw
                case rel => exact ⟨k + 1, by go_num, by rw [HK.out], by omega, trivial⟩
                case measure => simp [intOf]; omega
            · obtain rfl : k = q.length := by omega
              rw [HAll.out]
              clear HYes HNo HLe HAll
              generalize cntI q t = cn at *
              by_cases hst : st = 3 ∨ st = 4 ∨ st = 6
              · have hcn := HF4.out (by omega)
                obtain ⟨hok, how⟩ := HF1.out (by rcases hst with rfl | rfl | rfl <;> rfl)
                subst hok
                subst how
                subst hcn
                clear HF1 HF2 HF3 HF4
                rcases hst with rfl | rfl | rfl <;> (
                  go_wp2
                  go_roundw
                  case rel => exact ⟨t + 1, by go_num, by omega, trivial⟩
                  case measure => simp [intOf]; omega)
              · have e3 : (st == 3) = false := beq_eq_false_iff_ne.2 (by omega)
                have e4 : (st == 4) = false := beq_eq_false_iff_ne.2 (by omega)
                have e6 : (st == 6) = false := beq_eq_false_iff_ne.2 (by omega)
                have hne := HF2.out (by unfold ownS; simp; omega)
                cases ok with
                | false =>
                  by_cases hs2 : st = 2
                  · have hcn := HF3.out hs2
                    subst hcn
                    subst hs2
                    clear HF1 HF2 HF3 HF4 hne hst
                    go_wp2
                    go_roundw
                    case rel => exact ⟨t + 1, by go_num, by omega, trivial⟩
                    case measure => simp [intOf]; omega
                  · have hcn := HF4.out hs2
                    have e2 : (st == 2) = false := beq_eq_false_iff_ne.2 hs2
                    subst hcn
                    clear HF1 HF2 HF3 HF4 hne hst hs2
                    go_wp2
                    go_roundw
                    case rel => exact ⟨t + 1, by go_num, by omega, trivial⟩
                    case measure => simp [intOf]; omega
                | true =>
                  have e9 : (ow == (t : Int)) = false := beq_eq_false_iff_ne.2 (hne rfl)
                  by_cases hs2 : st = 2
                  · have hcn := HF3.out hs2
                    subst hcn
                    subst hs2
                    clear HF1 HF2 HF3 HF4 hne hst
                    go_wp2
                    go_roundw
                    case rel => exact ⟨t + 1, by go_num, by omega, trivial⟩
                    case measure => simp [intOf]; omega
                  · have hcn := HF4.out hs2
                    have e2 : (st == 2) = false := beq_eq_false_iff_ne.2 hs2
                    subst hcn
                    clear HF1 HF2 HF3 HF4 hne hst hs2
                    go_wp2
                    go_roundw
                    case rel => exact ⟨t + 1, by go_num, by omega, trivial⟩
                    case measure => simp [intOf]; omega
        · obtain rfl : t = m := by omega
          go_wp2
          go_roundw
          case rel => exact ⟨i + 1, v', by go_num, by omega, hbu2, Lib.hid (by rw [HHD.out]; exact HO3.out)⟩
          case measure => simp [intOf]; omega
    · obtain rfl : i = l.length := by omega
      have HFin := Lib.hid hb
      clear HO HF hb
      go_wp2_with fail
      refine (HA.out wr).mono ?_
      rintro e y2 ⟨rfl, hy2⟩
      have hfin := HFin.out.trans (hy2.mono HFin.out.size)
      go_wp2
      go_ret
      exact ⟨rfl, hfin⟩
set_option maxRecDepth 100000 in
theorem lifted (os : Os) (started : os.Started) (H : Type) (enc : TypeId × Value → H) :
    ReturnsInHanded {} Try.checked os 7 .any (Rows.fifoStatesSpec.pre6 enc Try.prog Try.f7 Rows.fifoStatesRow.domain false) (Rows.fifoStatesSpec.post enc Try.prog Try.f7 false true false false) := by
  refine returnsInHanded_of_change (C := Try.checked) own started (by kernel_rfl) Try.func7
    (ChangeSpec.witness6 (enc := enc) (C := Try.checked) false ⟨#[], #[.int .i64 0, .slice none 0 0], []⟩ 8 (by kernel_rfl) (by kernel_rfl) (by kernel_rfl) (by kernel_rfl)) ?_
  intro W base args ds gs before hval0 hW hcnd _
  have hval : ∀ (j : Nat) t v, Try.f7.params[j]? = some t → args[j]? = some v → Value.okWide Try.prog W .any base t v := hval0
  have hW' := hW
  obtain ⟨p, q, hA0, hV, rfl, hfz, hnd⟩ := hW
  have hA : DataW.TrodAll enc Try.prog W 0 (fun _ => true) true Try.f7.params.toList args.toList ds p := hA0
  rw [Try.params7] at hA hval
  obtain ⟨v0, vs0, d0, ds0, p0, q0, hargs, rfl, rfl, h0, r0⟩ := trodAll_cons hA
  obtain ⟨v1, vs1, d1, ds1, p1, q1, rfl, rfl, rfl, h1, r1⟩ := trodAll_cons r0
  obtain ⟨rfl, rfl, rfl⟩ := trodAll_nil r1
  obtain rfl : args = #[v0, v1] := by cases args; simp_all
  obtain ⟨rfl, rfl⟩ := trodVars_none hV
  obtain ⟨x0, rfl, rfl, rfl, w0⟩ := open_int Try.underlying3 (hval 0 3 v0 rfl rfl) h0
  have k1 := h1
  have lt1 : ∀ x ∈ p1, x.block < W.heap.size := by obtain ⟨m, hm⟩ := k1; exact DataW.trod_lt m _ _ _ hm
  obtain ⟨l1, a1, cap1, rfl, S1, f1, hb1, hn1, hp1⟩ := open_ents2 (hval 1 22 v1 rfl rfl) h1
  clear hA0 hval0
  refine (walk x0 l1 a1 cap1 W w0 S1 f1 hb1 hn1 hp1).mono fun e W' ⟨he, bel⟩ => ?_
  subst he
  exact ⟨_, rfl, _, _, _, [], _, [], hW', trodAll_mk1 (shut_bool Try.underlying4 _), (trodAll_cons_mk (shut_int Try.underlying3 w0) (trodAll_cons_mk (Below.trod laidOut (by kernel_rfl) (of_decide_eq_true (by kernel_rfl)) k1 bel lt1) trodAll_mk0)), rfl, bel.frame _, fun h => by cases h⟩

theorem over : Rows.fifoStatesRow.holds Try.pinned (OpenSpec.ofChange Rows.fifoStatesSpec) :=
  OpenClaim.holds_of_wide 7 Try.f7 rfl rfl rfl rfl rfl rfl rfl ⟨rfl, rfl, rfl, rfl, rfl⟩ rfl rfl rfl rfl rfl (by kernel_rfl) Try.func7 (by kernel_rfl)
    (of_decide_eq_true (by kernel_rfl)) (by unfold Func.isWrapper; first | (rw [if_pos (by decide +kernel)]; kernel_rfl) | (rw [if_neg (by decide +kernel)]; exact ⟨rfl, rfl⟩))
    (fun os started H enc _ => lifted os started H enc)

/-- The statement. -/
theorem proved : Rows.FifoStatesSaid := over
#print axioms proved
end Go.Proofs.Ytipekdeghelpaaa.fifoStates
