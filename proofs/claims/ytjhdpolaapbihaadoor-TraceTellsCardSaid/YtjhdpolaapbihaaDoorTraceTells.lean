/- For any entries: TraceTells returns true: how many are of a kind, which are of a thread, and who has the lock, is what the document says. A tied card: the listed variables are tied to the program's text. -/
import Derived.Test.YtjhdpolaapbihaaDoorTrL
import Derived.Test.YtjhdpolaapbihaaDoorTrK
namespace Go.Proofs.YtjhdpolaapbihaaDoor.traceTells
open Go.ChangeShapes Go.WideShapes Go.ChangeAt Go.RowKit
set_option linter.unusedVariables false

/-- Who has the lock is one of the threads. -/
theorem hold_mem : ∀ (l : List En) {t : Int}, holdT l = some t → ∃ x ∈ l, x.th = t
  | [], t, h => by cases h
  | x :: l, t, h => by
    rw [holdT] at h
    cases hh : holdT l with
    | some t' =>
      rw [hh] at h
      obtain ⟨y, hy, e⟩ := hold_mem l hh
      injection h with h
      exact ⟨y, List.mem_cons_of_mem _ hy, by rw [e, h]⟩
    | none =>
      rw [hh] at h
      simp only at h
      split at h
      · injection h with h
        exact ⟨x, List.mem_cons_self, h⟩
      · cases h

set_option maxRecDepth 100000 in
set_option maxHeartbeats 4000000 in
theorem walk (l : List En) (a : Option Addr) (cap : Nat) (kind th : Int) (f0 : ∀ x ∈ l, x.Wf) (hb0 : l.length ≤ maxLen) (hn0 : a = none → cap = 0) (f1 : (Lit.int .i64 kind).wf = true) (f2 : (Lit.int .i64 th).wf = true) (w : World) (S : EnS w a l) (L : Lt w) :
    Calls Tryd.prog 5 #[.slice a l.length cap, .int .i64 kind, .int .i64 th] w fun e w' => e = .returned (.bool true) ∧ Below w.heap.size w w' := by
  have HA := Lib.hid (fun W (hW : Below w.heap.size w W) => lAwake12 W (L.below hW))
  clear hb0 hn0 f1 f2
  by_cases h5 : 100 < l.length
  · have d : (l.length : Int) > 100 := by omega
    clear h5 f0
    go_enter Tryd.func5, Tryd.ntmps5
    go_wp2_with fail
    refine (HA.out w (Below.refl _ _)).mono ?_
    rintro e y ⟨rfl, hy⟩
    go_wp2
    go_ret
    exact ⟨rfl, hy⟩
  have d : decide ((l.length : Int) > 100) = false := by simp; omega
  have h100 : l.length ≤ 100 := by omega
  have HC := Lib.hid (fun W (hW : Below w.heap.size w W) => cCount l a cap kind W (S.below hW) (by omega))
  have HOf := Lib.hid (fun W (hW : Below w.heap.size w W) => cOf l a cap th W (S.below hW) (by omega))
  have HH := Lib.hid (fun W (hW : Below w.heap.size w W) => cHolder l a cap W (S.below hW) (by omega) f0)
  have HRf := Lib.hid (fun W (hW : Below w.heap.size w W) => lRef12 l a cap W (S.below hW) (by omega))
  have HS := Lib.hid (fun W (hW : Below w.heap.size w W) => S.below hW)
  have HYk := Lib.hid (fun k (h : k < l.length) => count_yes h)
  have HNk := Lib.hid (fun k (h : k < l.length) => count_no (l := l) (k := k) h (kind := kind))
  have HYt := Lib.hid (fun k (h : k < l.length) => of_yes h)
  have HNt := Lib.hid (fun k (h : k < l.length) => of_no (l := l) (k := k) h (th := th))
  have HLc := Lib.hid (fun k => Nat.le_trans (count_le (l.take k) kind) (by rw [List.length_take]; exact Nat.min_le_right _ _))
  have HLo := Lib.hid (fun k => Nat.le_trans (of_le (l.take k) th) (by rw [List.length_take]; exact Nat.min_le_right _ _))
  have HE1 : Hid (countT (l.take l.length) kind = countT l kind) := Lib.hid (by rw [List.take_length])
  have HE2 : Hid (ofT (l.take l.length) th = ofT l th) := Lib.hid (by rw [List.take_length])
  have HLo1 : Hid ((ofT l th).length ≤ 10000) := Lib.hid (by have := of_le l th; omega)
  have HMem : Hid ((∀ x ∈ l, 0 ≤ x.th) → ∀ t, holdT l = some t → 0 ≤ t) := Lib.hid (fun h t e => by obtain ⟨x, hx, rfl⟩ := hold_mem l e; exact h x hx)
  have HAll : Hid ((∀ j (h : j < l.length), 0 ≤ l[j].th) → ∀ x ∈ l, 0 ≤ x.th) := Lib.hid (fun h x hx => by obtain ⟨j, hj, rfl⟩ := List.getElem_of_mem hx; exact h j hj)
  clear S h5 L f0
  go_enter Tryd.func5, Tryd.ntmps5
  go_wp2_with fail
  refine (HRf.out w (Below.refl _ _)).mono ?_
  rintro e y1 ⟨v, rfl, hO, hy1⟩
  obtain ⟨a1, cap1, rfl, _, _, hS1⟩ := hO.is
  have b1 := hy1
  have HS1 := Lib.hid (fun W (hW : Below y1.heap.size y1 W) => hS1.below hW)
  have hb1 := b1.size
  clear hO hS1 hy1 HRf
  go_wp2
  go_loopw [8, 9, 25] (fun n o q wr => ∃ k : Nat, q = .int .i64 k ∧ n = .int .i64 (countT (l.take k) kind : Nat) ∧ EnO y1.heap.size 30 wr o (ofT (l.take k) th) ∧ k ≤ l.length ∧ Below y1.heap.size y1 wr) (fun _ _ q _ => l.length - (intOf q).toNat)
  case atStart => exact ⟨0, rfl, by simp [countT], EnO.nil _ _ _, Nat.zero_le _, Below.refl _ _⟩
  case round =>
    obtain ⟨k, rfl, rfl, hO, hk, hb⟩ := hrel
    by_cases hlt : k < l.length
    · have hki : (k : Int) < l.length := by omega
      obtain ⟨b, off, rfl, hbl, c0, c1, c2⟩ := (HS1.out wr hb).at_ (List.getElem?_eq_getElem hlt)
      have hYk := Lib.hid (fun (e : l[k].kind = kind) => by have := HYk.out k hlt; rw [e] at this; exact this)
      have hNk := Lib.hid (fun (e : l[k].kind ≠ kind) => HNk.out k hlt e)
      have hYt := Lib.hid (fun (e : l[k].th = th) => by have := HYt.out k hlt; rw [e] at this; exact this)
      have hNt := Lib.hid (fun (e : l[k].th ≠ th) => HNt.out k hlt e)
      have hl := HLc.out k
      have hl2 := HLo.out k
      have hb2 := hb.alloc (o := .cells #[.int .i64 l[k].kind, .int .i64 l[k].th, .int .i64 l[k].now] 30) hb.size
      have hO2 := hO.alloc (.cells #[.int .i64 l[k].kind, .int .i64 l[k].th, .int .i64 l[k].now] 30)
      have hNb := Nb.made 30 wr l[k].kind l[k].th l[k].now
      have hm : countT (l.take k) kind ≤ 10000 := by omega
      generalize l[k] = x at *
      generalize countT (l.take k) kind = m at *
      obtain ⟨xk, xt, xn⟩ := x
      simp only at hYk hNk hYt hNt hb2 hO2 hNb c0 c1 c2
      clear hl
      rcases Decidable.em (xk = kind) with hq | hq <;> rcases Decidable.em (xt = th) with hr | hr
      · skip
        have HEn := Lib.hid (hYk.out hq)
        have q1 : (xk == kind) = true := by simpa using hq
        have HEo := Lib.hid (hYt.out hr)
        have q2 : (xt == th) = true := by simpa using hr
        clear hYk hNk hYt hNt hq hr
        go_upto_region 12 with fail
        generalize wr.alloc (.cells #[.int .i64 xk, .int .i64 xt, .int .i64 xn] 30) = z at *
        generalize wr.heap.size = p at *
        obtain ⟨e0, e1, e2⟩ := hNb.cells
        simp only at e0 e1 e2
        have HO := Lib.hid (World.ownsRow.alloc hO2 (.cells #[.int .i64 xk, .int .i64 xt, .int .i64 xn] 30))
        have HN2 := Lib.hid (news_bk (Nb.made 30 z xk xt xn))
        have HBS : Hid (y1.heap.size ≤ (z.alloc (.cells #[.int .i64 xk, .int .i64 xt, .int .i64 xn] 30)).heap.size) := Lib.hid (by rw [World.size_alloc]; have := hb2.size; omega)
        have HEND := Lib.hid (en_next (k := xk) (h := xt) (n := xn) hO2 hb2)
        have HLn : Hid ((ofT (l.take k) th).length < 100000) := Lib.hid (by omega)
        clear hO hO2 hb hb2 hl2 hNb
        go_wp2_with (at_builtin; refine wpOwn rfl _ _ 27 rfl _ 24 Tryd.underlying27 entInfoR rfl (by omega) (by omega) HO.out rfl (enC ⟨xk, xt, xn⟩) rfl (enC_one _) z.heap.size rfl HN2.out HLn.out HBS.out ?_; intro v' w' hown hgr hloc)
        obtain ⟨s1, s2⟩ := HEND.out _ _ hown hgr
        rw [← HEo.out] at s1
        go_roundw
        case rel => exact ⟨k + 1, by go_num, by rw [HEn.out]; go_num, s1, by omega, s2⟩
        case measure => simp [intOf]; omega
      · skip
        have HEn := Lib.hid (hYk.out hq)
        have q1 : (xk == kind) = true := by simpa using hq
        have HEo := Lib.hid (hNt.out hr)
        have q2 : (xt == th) = false := by simpa using hr
        clear hYk hNk hYt hNt hq hr
        rw [← HEo.out] at hO2
        clear hO hb hl2 hNb
        go_wp2
        go_roundw
        case rel => exact ⟨k + 1, by go_num, by rw [HEn.out]; go_num, hO2, by omega, hb2⟩
        case measure => simp [intOf]; omega
      · skip
        have HEn := Lib.hid (hNk.out hq)
        have q1 : (xk == kind) = false := by simpa using hq
        have HEo := Lib.hid (hYt.out hr)
        have q2 : (xt == th) = true := by simpa using hr
        clear hYk hNk hYt hNt hq hr
        go_upto_region 12 with fail
        generalize wr.alloc (.cells #[.int .i64 xk, .int .i64 xt, .int .i64 xn] 30) = z at *
        generalize wr.heap.size = p at *
        obtain ⟨e0, e1, e2⟩ := hNb.cells
        simp only at e0 e1 e2
        have HO := Lib.hid (World.ownsRow.alloc hO2 (.cells #[.int .i64 xk, .int .i64 xt, .int .i64 xn] 30))
        have HN2 := Lib.hid (news_bk (Nb.made 30 z xk xt xn))
        have HBS : Hid (y1.heap.size ≤ (z.alloc (.cells #[.int .i64 xk, .int .i64 xt, .int .i64 xn] 30)).heap.size) := Lib.hid (by rw [World.size_alloc]; have := hb2.size; omega)
        have HEND := Lib.hid (en_next (k := xk) (h := xt) (n := xn) hO2 hb2)
        have HLn : Hid ((ofT (l.take k) th).length < 100000) := Lib.hid (by omega)
        clear hO hO2 hb hb2 hl2 hNb
        go_wp2_with (at_builtin; refine wpOwn rfl _ _ 27 rfl _ 24 Tryd.underlying27 entInfoR rfl (by omega) (by omega) HO.out rfl (enC ⟨xk, xt, xn⟩) rfl (enC_one _) z.heap.size rfl HN2.out HLn.out HBS.out ?_; intro v' w' hown hgr hloc)
        obtain ⟨s1, s2⟩ := HEND.out _ _ hown hgr
        rw [← HEo.out] at s1
        go_roundw
        case rel => exact ⟨k + 1, by go_num, by rw [HEn.out], s1, by omega, s2⟩
        case measure => simp [intOf]; omega
      · skip
        have HEn := Lib.hid (hNk.out hq)
        have q1 : (xk == kind) = false := by simpa using hq
        have HEo := Lib.hid (hNt.out hr)
        have q2 : (xt == th) = false := by simpa using hr
        clear hYk hNk hYt hNt hq hr
        rw [← HEo.out] at hO2
        clear hO hb hl2 hNb
        go_wp2
        go_roundw
        case rel => exact ⟨k + 1, by go_num, by rw [HEn.out], hO2, by omega, hb2⟩
        case measure => simp [intOf]; omega
    · obtain rfl : k = l.length := by omega
      generalize wr = wb at *
      rw [HE1.out]
      rw [HE2.out] at hO
      obtain ⟨a2, cap2, rfl, _, _, hS2⟩ := hO.is
      have b2 := b1.trans (hb.mono hb1)
      have HB1 := Lib.hid hb
      have HS2 := Lib.hid (fun W (hW : Below wb.heap.size wb W) => hS2.below hW)
      have hwr := b2.size
      have HV : Hid (∃ (t : Int) (o : Bool), holdV l = .tuple #[.int .i64 t, .bool o] ∧ ((o = true ∧ holdN l = t ∧ holdT l = some t) ∨ (o = false ∧ holdN l = -1 ∧ t = 0))) := Lib.hid (by
        unfold holdV holdN
        cases h : holdT l with
        | some t => exact ⟨t, true, rfl, .inl ⟨rfl, rfl, rfl⟩⟩
        | none => exact ⟨0, false, rfl, .inr ⟨rfl, rfl, rfl⟩⟩)
      clear HYk HNk HYt HNt HLc HLo HE1 HE2 hO hS2
      obtain ⟨t, o, hv, hto⟩ := HV.out
      have HTO := Lib.hid hto
      rw [hv] at HH
      have HRh := Lib.hid (fun W (hW : Below wb.heap.size wb W) => rHolder l a1 cap1 W (HS1.out W (HB1.out.trans (hW.mono HB1.out.size))) (by omega))
      clear hv hto HV
      have hCC : ((countT l kind : Nat) : Int) = ((countT l kind : Nat) : Int) := rfl
      generalize countT l kind = c at *
      clear hCC
      generalize holdN l = hN at *
      obtain ⟨is, hIs⟩ : ∃ is, (hN != -1) = is := ⟨_, rfl⟩
      have HIs := Lib.hid hIs
      have hcc : ((c : Int) == (c : Int)) = true := by simp
      have HSame := Lib.hid (fun A capA W (S : EnS W A (ofT l th)) (hW : Below wb.heap.size wb W) => lSame12 (ofT l th) (ofT l th) A a2 capA cap2 W S (HS2.out W hW) (by have := HLo1.out; omega))
      have HSame2 := Lib.hid (fun W (hW : Below wb.heap.size wb W) => lSame12 l l a a1 cap cap1 W (HS.out W (b2.trans (hW.mono b2.size))) (HS1.out W (HB1.out.trans (hW.mono HB1.out.size))) (by omega))
      rw [eqEs_self] at HSame HSame2
      go_wp2_with fail
      refine (HH.out wb b2).mono ?_
      rintro e y3 ⟨rfl, hy3⟩
      have b3 := b2.trans (hy3.mono b2.size)
      go_wp2_with fail
      refine (HRh.out y3 hy3).mono ?_
      rintro e y4 ⟨rfl, hy4⟩
      have d4 := hy3.trans (hy4.mono hy3.size)
      have b4 := b3.trans (hy4.mono b3.size)
      clear HH
      have hlt2 : ¬ l.length < l.length := by omega
      clear hlt hlt2
      go_wp2
      go_loopw [54] (fun q wr => ∃ k : Nat, q = .int .i64 k ∧ k ≤ l.length ∧ Below wb.heap.size wb wr ∧ Hid (∀ j (h : j < l.length), j < k → 0 ≤ l[j].th)) (fun q _ => l.length - (intOf q).toNat)
      case atStart => exact ⟨0, rfl, Nat.zero_le _, d4, Lib.hid (fun j _ h => by omega)⟩
      case round =>
        obtain ⟨k, rfl, hk, hb, HP0⟩ := hrel
        have hbw := b2.trans (hb.mono b2.size)
        by_cases hlt : k < l.length
        · have hki : (k : Int) < l.length := by omega
          obtain ⟨b, off, rfl, hbl, c0, c1, c2⟩ := (HS1.out wr (HB1.out.trans (hb.mono HB1.out.size))).at_ (List.getElem?_eq_getElem hlt)
          have hb2 := hb.alloc (o := .cells #[.int .i64 l[k].kind, .int .i64 l[k].th, .int .i64 l[k].now] 30) hb.size
          have hbw2 := b2.trans (hb2.mono b2.size)
          have HP2 : Hid (0 ≤ l[k].th → ∀ j (h : j < l.length), j < k + 1 → 0 ≤ l[j].th) := Lib.hid (fun e j h hj => by
            rcases Decidable.em (j = k) with rfl | hne
            · exact e
            · exact HP0.out j h (by omega))
          generalize l[k] = x at *
          obtain ⟨xk, xt, xn⟩ := x
          simp only at hb2 hbw2 c0 c1 c2 HP2
          clear HP0
          by_cases hneg : xt < 0
          · have d1 : decide (xt < 0) = true := by simpa using hneg
            clear HP2 HMem HAll hIs HIs HTO HRh
            go_upto_region 20 with fail
            generalize wr.alloc (.cells #[.int .i64 xk, .int .i64 xt, .int .i64 xn] 30) = z at *
            clear c0 c1 c2 hb hbw
            go_wp2_with fail
            refine (HC.out z hbw2).mono ?_
            rintro e y5 ⟨rfl, hy5⟩
            have b5 := hbw2.trans (hy5.mono hbw2.size)
            have e5 := hb2.trans (hy5.mono hb2.size)
            go_wp2_with fail
            refine (HOf.out y5 b5).mono ?_
            rintro e y6 ⟨v6, rfl, hO6, hy6⟩
            obtain ⟨a6, cap6, rfl, _, _, S6⟩ := hO6.is
            have b6 := b5.trans (hy6.mono b5.size)
            have e6 := e5.trans (hy6.mono e5.size)
            go_wp2_with fail
            refine (HSame.out a6 cap6 y6 S6 e6).mono ?_
            rintro e y7 ⟨rfl, hy7⟩
            have b7 := b6.trans (hy7.mono b6.size)
            go_wp2_with fail
            refine (HA.out y7 b7).mono ?_
            rintro e y8 ⟨rfl, hy8⟩
            have b8 := b7.trans (hy8.mono b7.size)
            go_wp2
            go_ret
            exact ⟨rfl, b8⟩
          · have d1 : decide (xt < 0) = false := by simpa using hneg
            have HP3 := Lib.hid (HP2.out (by omega))
            clear HP2 hb hbw
            go_wp2
            go_roundw
            case rel => exact ⟨k + 1, by go_num, by omega, hb2, HP3⟩
            case measure => simp [intOf]; omega
        · obtain rfl : k = l.length := by omega
          have hpos := HMem.out (HAll.out fun j h => HP0.out j h h)
          have HT : Hid ((o = true ∧ is = true ∧ hN = t ∧ 0 ≤ t) ∨ (o = false ∧ is = false ∧ hN = -1 ∧ t = 0)) := Lib.hid (by
            rcases HTO.out with ⟨h1, h2, h3⟩ | ⟨h1, h2, h3⟩
            · refine .inl ⟨h1, ?_, h2, hpos t h3⟩
              have := hpos t h3
              rw [← HIs.out, bne_iff_ne]; omega
            · exact .inr ⟨h1, by rw [← HIs.out, h2]; rfl, h2, h3⟩)
          clear HP0 hpos hIs HIs HTO HMem HAll
          obtain ⟨mx, hmx⟩ : ∃ mx, max hN 0 = mx := ⟨_, rfl⟩
          have htm : mx = t := by rcases HT.out with ⟨_, _, rfl, h⟩ | ⟨_, _, rfl, rfl⟩ <;> omega
          obtain ⟨rfl⟩ : o = is := by rcases HT.out with ⟨rfl, rfl, _⟩ | ⟨rfl, rfl, _⟩ <;> rfl
          have hoo : (o != o) = false := by simp
          have htt : (t != t) = false := by simp
          subst htm
          clear HT
          go_wp2_with fail
          refine (HRh.out wr hb).mono ?_
          rintro e y4 ⟨rfl, hy4⟩
          have b4 := hbw.trans (hy4.mono hbw.size)
          have e4 := hb.trans (hy4.mono hb.size)
          go_wp2_with fail
          refine (HC.out y4 b4).mono ?_
          rintro e y5 ⟨rfl, hy5⟩
          have b5 := b4.trans (hy5.mono b4.size)
          have e5 := e4.trans (hy5.mono e4.size)
          go_wp2_with fail
          refine (HOf.out y5 b5).mono ?_
          rintro e y6 ⟨v6, rfl, hO6, hy6⟩
          obtain ⟨a6, cap6, rfl, _, _, S6⟩ := hO6.is
          have b6 := b5.trans (hy6.mono b5.size)
          have e6 := e5.trans (hy6.mono e5.size)
          go_wp2_with fail
          refine (HSame.out a6 cap6 y6 S6 e6).mono ?_
          rintro e y7 ⟨rfl, hy7⟩
          have b7 := b6.trans (hy7.mono b6.size)
          have e7 := e6.trans (hy7.mono e6.size)
          go_wp2_with fail
          refine (HSame2.out y7 e7).mono ?_
          rintro e y8 ⟨rfl, hy8⟩
          have b8 := b7.trans (hy8.mono b7.size)
          go_wp2_with fail
          refine (HA.out y8 b8).mono ?_
          rintro e y9 ⟨rfl, hy9⟩
          have b9 := b8.trans (hy9.mono b8.size)
          go_wp2
          go_ret
          exact ⟨rfl, b9⟩

set_option maxRecDepth 100000 in
theorem lifted (os : Os) (started : os.Started) (H : Type) (enc : TypeId × Value → H) :
    ReturnsInHanded {} Tryd.checked os 5 .any (fun w args => (Rows.traceTellsSpec.pre enc Tryd.prog Tryd.f5 [] false w args ∧ laidMetH Tryd.prog Rows.traceTellsRow.laid w) ∧ sizedMet enc Tryd.prog Tryd.f5 (OpenSpec.ofChange Rows.traceTellsSpec) false w args)
      (Rows.traceTellsSpec.post enc Tryd.prog Tryd.f5 false true false false) := by
  refine returns_laid (C := Tryd.checked) (X := fun w _ => laidMetH Tryd.prog Rows.traceTellsRow.laid w) (fun _ _ _ hh h => h.of_heap hh) own started (by kernel_rfl) Tryd.func5
    (ChangeSpec.witness_shaped (enc := enc) (C := Tryd.checked) (os := os) (X := fun w _ => laidMetH Tryd.prog Rows.traceTellsRow.laid w) false (World.laidAll Tryd.prog os Rows.traceTellsRow.laid) #[.slice none 0 0, .int .i64 0, .int .i64 0] 8 (World.laidAll_os _ _ _)
      (World.shaped_of_ZipB (by kernel_rfl) (by kernel_rfl)) (by kernel_rfl) (by kernel_rfl) (by kernel_rfl)
      (by rw [MakeChecks.laidMetH_plain _ _ _ (by kernel_rfl)]; exact laidMet_laidAll _ (by kernel_rfl) (by kernel_rfl))) ?_
  intro W base args ds gs before hval0 hW hL hsh
  have hval : ∀ (j : Nat) t v, Tryd.f5.params[j]? = some t → args[j]? = some v → Value.okWide Tryd.prog W .any base t v := hval0
  have hW' := hW
  obtain ⟨p, q, hA0, hV, rfl, _, _⟩ := hW
  have hA : DataW.TrodAll enc Tryd.prog W 0 (fun _ => true) true Tryd.f5.params.toList args.toList ds p := hA0
  rw [Tryd.params5] at hA hval
  obtain ⟨v0, vs0, d0, ds0, p0, q0, hargs, rfl, rfl, h0, r0⟩ := trodAll_cons hA
  obtain ⟨v1, vs1, d1, ds1, p1, q1, rfl, rfl, rfl, h1, r1⟩ := trodAll_cons r0
  obtain ⟨v2, vs2, d2, ds2, p2, q2, rfl, rfl, rfl, h2, r2⟩ := trodAll_cons r1
  obtain ⟨rfl, rfl, rfl⟩ := trodAll_nil r2
  obtain rfl : args = #[v0, v1, v2] := by cases args; simp_all
  obtain ⟨rfl, rfl⟩ := trodVars_none hV
  have k0 := h0
  have lt0 : ∀ x ∈ p0, x.block < W.heap.size := by obtain ⟨m, hm⟩ := k0; exact DataW.trod_lt m _ _ _ hm
  obtain ⟨l0, a0, cap0, rfl, S0, f0, hb0, hn0⟩ := open_ents (hval 0 22 v0 rfl rfl) h0
  have k1 := h1
  have lt1 : ∀ x ∈ p1, x.block < W.heap.size := by obtain ⟨m, hm⟩ := k1; exact DataW.trod_lt m _ _ _ hm
  obtain ⟨x1, rfl, rfl, rfl, f1⟩ := open_int Tryd.underlying3 (hval 1 3 v1 rfl rfl) h1
  have k2 := h2
  have lt2 : ∀ x ∈ p2, x.block < W.heap.size := by obtain ⟨m, hm⟩ := k2; exact DataW.trod_lt m _ _ _ hm
  obtain ⟨x2, rfl, rfl, rfl, f2⟩ := open_int Tryd.underlying3 (hval 2 3 v2 rfl rfl) h2
  clear hA0 hval0
  rw [MakeChecks.laidMetH_plain _ _ _ (by kernel_rfl)] at hL
  refine (walk l0 a0 cap0 x1 x2 f0 hb0 hn0 f1 f2 W S0 (lt_of hL hsh)).mono fun e W' ⟨he, bel⟩ => ?_
  subst he
  exact ⟨_, rfl, _, _, _, [], _, [], hW', trodAll_mk1 (shut_bool Tryd.underlying4 _), (trodAll_cons_mk (Below.trod laidOut (by kernel_rfl) (of_decide_eq_true (by kernel_rfl)) k0 bel lt0) (trodAll_cons_mk (Below.trod laidOut (by kernel_rfl) (of_decide_eq_true (by kernel_rfl)) k1 bel lt1) (trodAll_cons_mk (Below.trod laidOut (by kernel_rfl) (of_decide_eq_true (by kernel_rfl)) k2 bel lt2) trodAll_mk0))), rfl, bel.frame _, fun h => by cases h⟩

theorem over : Rows.traceTellsRow.holds Tryd.pinned (OpenSpec.ofChange Rows.traceTellsSpec) :=
  OpenClaim.holds_of_wide 5 Tryd.f5 rfl rfl rfl rfl rfl rfl rfl ⟨rfl, rfl, rfl, rfl, rfl⟩ rfl rfl rfl rfl rfl (by kernel_rfl) Tryd.func5 (by kernel_rfl)
    (of_decide_eq_true (by kernel_rfl)) (by unfold Func.isWrapper; first | (rw [if_pos (by decide +kernel)]; kernel_rfl) | (rw [if_neg (by decide +kernel)]; exact ⟨rfl, rfl⟩))
    (fun os started H enc _ => lifted os started H enc)

/-- The statement. -/
theorem proved : Rows.TraceTellsCardSaid :=
  Claim7.holds_tied_plain_at .later [] Rows.traceTellsCard.laidKinds true Rows.traceTellsCard.stood.harness true over (fun _ h => by cases h) (by kernel_rfl) (fun _ h => by cases h) traceTells_row_tie rfl ⟨rfl, rfl⟩ (by kernel_rfl) rfl
    (fun f fn hf hfn => by
      obtain rfl : f = 5 := Option.some.inj ((show Tryd.prog.funcNamed Rows.traceTellsRow.func = some 5 by kernel_rfl).symm.trans hf) |>.symm
      obtain rfl : fn = Tryd.f5 := (Option.some.inj (Tryd.func5.symm.trans hfn)).symm
      exact ⟨by kernel_rfl, fun j t ht => by
        rw [Tryd.params5] at ht
        have hm : t ∈ [22, 3, 3] := by simpa using Array.mem_of_getElem? ht
        have hall : ([22, 3, 3].all fun u => !Tryd.prog.wantsStandIn u) = true := by kernel_rfl
        exact (show Tryd.prog.wantsStandIn t = false by simpa using List.all_eq_true.1 hall t hm)⟩)
    (by kernel_rfl)
#print axioms proved
end Go.Proofs.YtjhdpolaapbihaaDoor.traceTells
