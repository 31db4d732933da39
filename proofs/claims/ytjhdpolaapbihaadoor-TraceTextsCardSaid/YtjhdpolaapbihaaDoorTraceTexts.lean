/- For any entries: TraceTexts returns true: they are written as the document says, and parsed again as they were, or refused. A tied card: the listed variables are tied to the program's text. -/
import Derived.Test.YtjhdpolaapbihaaDoorTrL
import Derived.Test.YtjhdpolaapbihaaDoorTrK
namespace Go.Proofs.YtjhdpolaapbihaaDoor.traceTexts
open Go.ChangeShapes Go.WideShapes Go.ChangeAt Go.RowKit
set_option linter.unusedVariables false

set_option maxRecDepth 100000 in
set_option maxHeartbeats 4000000 in
theorem walk (l : List En) (a : Option Addr) (cap : Nat) (f0 : ∀ x ∈ l, x.Wf) (hb0 : l.length ≤ maxLen) (hn0 : a = none → cap = 0) (w : World) (S : EnS w a l) (L : Lt w) :
    Calls Tryd.prog 3 #[.slice a l.length cap] w fun e w' => e = .returned (.bool true) ∧ Below w.heap.size w w' := by
  have HA := Lib.hid (fun W (hW : Below w.heap.size w W) => lAwake12 W (L.below hW))
  clear f0 hb0 hn0
  by_cases h5 : 100 < l.length
  · have d : (l.length : Int) > 100 := by omega
    clear h5
    go_enter Tryd.func3, Tryd.ntmps3
    go_wp2_with fail
    refine (HA.out w (Below.refl _ _)).mono ?_
    rintro e y ⟨rfl, hy⟩
    go_wp2
    go_ret
    exact ⟨rfl, hy⟩
  have d : decide ((l.length : Int) > 100) = false := by simp; omega
  have h100 : l.length ≤ 100 := by omega
  have HL := Lib.hid (fun x W (hW : Below w.heap.size w W) => cLine x W (L.below hW))
  have HRL := Lib.hid (fun x F W => rLine x F W)
  have HF := Lib.hid (fun x W => rFits x W)
  have HP := Lib.hid (fun s hs W (hW : Below w.heap.size w W) => cParseL s hs W (L.below hW))
  have HRf := Lib.hid (fun W (hW : Below w.heap.size w W) => lRef12 l a cap W (S.below hW) (by omega))
  have HS := Lib.hid (fun W (hW : Below w.heap.size w W) => S.below hW)
  obtain ⟨ts, es, hv, hc⟩ := textV_or l
  have H0 := Lib.hid (cTextL l a cap w S (by omega) L)
  rw [hv] at H0
  have HCo := Lib.hid hc
  have HAl := Lib.hid (fun k (h : k < l.length) => all_take h)
  have HNo := Lib.hid (fun k (h : k < l.length) hn => all_no (l := l) (k := k) h hn)
  have HTx := Lib.hid (fun k (h : k < l.length) => show textT (l.take (k + 1)) = textT (l.take k) ++ (lineT l[k] ++ [10]) by rw [take_at l k h, textT_snoc])
  have HE : Hid (l.take l.length = l) := Lib.hid (by rw [List.take_length])
  have HK := Lib.hid (fun (k : Nat) (hk : k ≤ l.length) (h : (l.take k).all fitsB = true) => show (textT (l.take k)).length ≤ k * 81 by have := all_len h; rw [List.length_take, Nat.min_eq_left hk] at this; exact this)
  clear S hv hc h5 L
  unfold lineV at HL
  go_enter Tryd.func3, Tryd.ntmps3
  go_wp2_with fail
  refine H0.out.mono ?_
  rintro e y ⟨rfl, hy⟩
  go_wp2_with fail
  refine (HRf.out y hy).mono ?_
  rintro e y1 ⟨v, rfl, hO, hy1⟩
  obtain ⟨a1, cap1, rfl, _, _, hS1⟩ := hO.is
  have b1 := hy.trans (hy1.mono hy.size)
  have HS1 := Lib.hid (fun W (hW : Below y1.heap.size y1 W) => hS1.below hW)
  have hb1 := b1.size
  clear H0 hO hS1 hy hy1
  go_wp2
  go_loopw [5, 25] (fun o q wr => ∃ k : Nat, q = .int .i64 k ∧ o = .string ⟨(textT (l.take k)).toArray⟩ ∧ k ≤ l.length ∧ Below y1.heap.size y1 wr ∧ Hid ((l.take k).all fitsB = true)) (fun _ q _ => l.length - (intOf q).toNat)
  case atStart => exact ⟨0, rfl, by simp [textT], Nat.zero_le _, Below.refl _ _, Lib.hid (by simp)⟩
  case round =>
    obtain ⟨k, rfl, rfl, hk, hb, HF0⟩ := hrel
    have hbw := b1.trans (hb.mono hb1)
    by_cases hlt : k < l.length
    · have hki : (k : Int) < l.length := by omega
      have hge := List.getElem?_eq_getElem hlt
      obtain ⟨g1, o1, rfl, _, c0, c1, c2⟩ := (HS1.out wr hb).at_ hge
      have hb2 := hb.alloc (o := .cells #[.int .i64 l[k].kind, .int .i64 l[k].th, .int .i64 l[k].now] 30) hb.size
      have hbw2 := b1.trans (hb2.mono hb1)
      have hNb := Nb.made 30 wr l[k].kind l[k].th l[k].now
      obtain ⟨g, off, rfl, _, d0, d1, d2⟩ := (HS.out _ hbw2).at_ hge
      have HA2 := Lib.hid (HAl.out k hlt)
      rw [HF0.out, Bool.true_and] at HA2
      have HN2 := Lib.hid (HNo.out k hlt)
      have HT2 := Lib.hid (HTx.out k hlt)
      have hkl := HK.out k hk HF0.out
      have HL2 := Lib.hid (fun W hW => HL.out l[k] W hW)
      have HF2 := Lib.hid (fun W => HF.out l[k] W)
      have HRL2 := Lib.hid (fun (F : Fit l[k]) W => HRL.out _ F W)
      generalize l[k] = x at *
      generalize textT (l.take k) = t1 at *
      generalize hq : fitsB x = fx at *
      have HFit : Hid (fx = true → (lineT x).length ≤ 80) := Lib.hid (fun e => line_len (fits_iff.1 (by rw [hq, e])))
      have HRL3 : Hid (fx = true → ∀ W, Calls Tryd.prog 12 #[enV x] W fun e w' => e = .returned (.string ⟨(lineT x).toArray⟩) ∧ Below W.heap.size W w') := Lib.hid (fun e W => HRL2.out (fits_iff.1 (by rw [hq, e])) W)
      generalize lineT x = tx at *
      clear hq HRL2 hge
      obtain ⟨xk, xt, xn⟩ := x
      unfold enV at HL2 HF2 HRL3
      simp only at hb2 hbw2 hNb c0 c1 c2 d0 d1 d2 HL2 HF2 HRL3
      go_upto_region 8 with fail
      generalize wr.alloc (.cells #[.int .i64 xk, .int .i64 xt, .int .i64 xn] 30) = z at *
      generalize wr.heap.size = p at *
      clear hb hbw c0 c1 c2 HF0
      cases fx with
      | false =>
        rw [if_neg (by simp)] at HL2
        have hno := HN2.out rfl
        obtain ⟨rfl, rfl⟩ : es = 8 ∧ ts = [] := by
          rcases HCo.out with ⟨h, _, _⟩ | ⟨_, h1, h2⟩
          · rw [hno] at h; cases h
          · exact ⟨h1, h2⟩
        unfold bs at HL2
        clear hno HN2 HT2 HFit HRL3 HA2
        go_wp2_with fail
        refine (HL2.out z hbw2).mono ?_
        rintro e u ⟨rfl, hu⟩
        have hNu := hNb.below hu
        have bu := hbw2.trans (hu.mono hbw2.size)
        obtain ⟨e0, e1, e2⟩ := hNu.cells
        simp only at e0 e1 e2
        clear d0 d1 d2
        go_wp2_with fail
        refine (HF2.out u).mono ?_
        rintro e u2 ⟨rfl, hu2⟩
        have bu2 := bu.trans (hu2.mono bu.size)
        clear e0 e1 e2
        go_wp2_with fail
        refine (HA.out u2 bu2).mono ?_
        rintro e u3 ⟨rfl, hu3⟩
        have bu3 := bu2.trans (hu3.mono bu2.size)
        go_wp2
        go_ret
        exact ⟨rfl, bu3⟩
      | true =>
        rw [if_pos rfl] at HL2
        have hfl := HFit.out rfl
        have HRL4 := Lib.hid (HRL3.out rfl)
        have p1 := cat_bs tx [10]
        have p2 : ¬ 9223372036854775807 < tx.length + 1 := by omega
        have p3 : (tx ++ [10]).length = tx.length + 1 := by simp
        have hne : (tx != tx) = false := by simp
        unfold bs at HL2
        clear HN2 HFit HRL3
        go_wp2_with fail
        refine (HL2.out z hbw2).mono ?_
        rintro e u ⟨rfl, hu⟩
        have hNu := hNb.below hu
        have bu := hb2.trans (hu.mono hb2.size)
        obtain ⟨e0, e1, e2⟩ := hNu.cells
        simp only at e0 e1 e2
        clear d0 d1 d2
        go_wp2_with fail
        refine (HF2.out u).mono ?_
        rintro e u2 ⟨rfl, hu2⟩
        have hNu2 := hNu.below hu2
        have bu2 := bu.trans (hu2.mono bu.size)
        clear e0 e1 e2
        obtain ⟨e0, e1, e2⟩ := hNu2.cells
        simp only at e0 e1 e2
        go_wp2_with fail
        refine (HRL4.out u2).mono ?_
        rintro e u3 ⟨rfl, hu3⟩
        have bu3 := bu2.trans (hu3.mono bu2.size)
        clear e0 e1 e2
        generalize tx ++ [10] = tl at *
        have p4 := cat_bs t1 tl
        have p5 : ¬ 9223372036854775807 < t1.length + tl.length := by omega
        rw [← HT2.out] at p4
        go_wp2
        go_roundw
        case rel => exact ⟨k + 1, by go_num, rfl, by omega, bu3, HA2⟩
        case measure => simp [intOf]; omega
    · obtain rfl : k = l.length := by omega
      rw [HE.out] at HF0 ⊢
      have hlen := HK.out l.length (Nat.le_refl _) (by rw [HE.out]; exact HF0.out)
      rw [HE.out] at hlen
      obtain ⟨rfl, hts⟩ : es = 0 ∧ ts = textT l := by
        rcases HCo.out with ⟨_, h1, h2⟩ | ⟨h, _, _⟩
        · exact ⟨h1, h2⟩
        · rw [HF0.out] at h; cases h
      have HPr := Lib.hid (HP.out ts (by rw [hts]; omega) wr hbw)
      unfold Prs at HPr
      rw [hts, read_all HF0.out, ← hts] at HPr
      simp only at HPr
      rw [← hts]
      have htt : (ts == ts) = true := by simp
      have hnn : ((l.length : Int) == (l.length : Int)) = true := by simp
      unfold bs at HPr
      clear HAl HNo HTx HK HCo hlen HP HL HRL HF HF0 hts
      go_wp2_with fail
      refine HPr.out.mono ?_
      rintro e y6 ⟨v, rfl, hO6, hy6⟩
      obtain ⟨a6, cap6, rfl, _, _, S6⟩ := hO6.is
      have b6 := hbw.trans (hy6.mono hbw.size)
      clear hO6 HPr
      go_wp2_with fail
      refine (HRf.out y6 b6).mono ?_
      rintro e y7 ⟨v7, rfl, hO7, hy7⟩
      obtain ⟨a7, cap7, rfl, _, _, S7⟩ := hO7.is
      have b7 := b6.trans (hy7.mono b6.size)
      have HSm := Lib.hid (lSame12 l l a6 a7 cap6 cap7 y7 (S6.below hy7) S7 (by omega))
      rw [eqEs_self] at HSm
      clear hO7 S6 S7
      go_wp2_with fail
      refine HSm.out.mono ?_
      rintro e y8 ⟨rfl, hy8⟩
      have b8 := b7.trans (hy8.mono b7.size)
      go_wp2_with fail
      refine (HA.out y8 b8).mono ?_
      rintro e y9 ⟨rfl, hy9⟩
      have b9 := b8.trans (hy9.mono b8.size)
      go_wp2
      go_ret
      exact ⟨rfl, b9⟩

set_option maxRecDepth 100000 in
theorem lifted (os : Os) (started : os.Started) (H : Type) (enc : TypeId × Value → H) :
    ReturnsInHanded {} Tryd.checked os 3 .any (fun w args => (Rows.traceTextsSpec.pre enc Tryd.prog Tryd.f3 [] false w args ∧ laidMetH Tryd.prog Rows.traceTextsRow.laid w) ∧ sizedMet enc Tryd.prog Tryd.f3 (OpenSpec.ofChange Rows.traceTextsSpec) false w args)
      (Rows.traceTextsSpec.post enc Tryd.prog Tryd.f3 false true false false) := by
  refine returns_laid (C := Tryd.checked) (X := fun w _ => laidMetH Tryd.prog Rows.traceTextsRow.laid w) (fun _ _ _ hh h => h.of_heap hh) own started (by kernel_rfl) Tryd.func3
    (ChangeSpec.witness_shaped (enc := enc) (C := Tryd.checked) (os := os) (X := fun w _ => laidMetH Tryd.prog Rows.traceTextsRow.laid w) false (World.laidAll Tryd.prog os Rows.traceTextsRow.laid) #[.slice none 0 0] 8 (World.laidAll_os _ _ _)
      (World.shaped_of_ZipB (by kernel_rfl) (by kernel_rfl)) (by kernel_rfl) (by kernel_rfl) (by kernel_rfl)
      (by rw [MakeChecks.laidMetH_plain _ _ _ (by kernel_rfl)]; exact laidMet_laidAll _ (by kernel_rfl) (by kernel_rfl))) ?_
  intro W base args ds gs before hval0 hW hL hsh
  have hval : ∀ (j : Nat) t v, Tryd.f3.params[j]? = some t → args[j]? = some v → Value.okWide Tryd.prog W .any base t v := hval0
  have hW' := hW
  obtain ⟨p, q, hA0, hV, rfl, _, _⟩ := hW
  have hA : DataW.TrodAll enc Tryd.prog W 0 (fun _ => true) true Tryd.f3.params.toList args.toList ds p := hA0
  rw [Tryd.params3] at hA hval
  obtain ⟨v0, vs0, d0, ds0, p0, q0, hargs, rfl, rfl, h0, r0⟩ := trodAll_cons hA
  obtain ⟨rfl, rfl, rfl⟩ := trodAll_nil r0
  obtain rfl : args = #[v0] := by cases args; simp_all
  obtain ⟨rfl, rfl⟩ := trodVars_none hV
  have k0 := h0
  have lt0 : ∀ x ∈ p0, x.block < W.heap.size := by obtain ⟨m, hm⟩ := k0; exact DataW.trod_lt m _ _ _ hm
  obtain ⟨l0, a0, cap0, rfl, S0, f0, hb0, hn0⟩ := open_ents (hval 0 22 v0 rfl rfl) h0
  clear hA0 hval0
  rw [MakeChecks.laidMetH_plain _ _ _ (by kernel_rfl)] at hL
  refine (walk l0 a0 cap0 f0 hb0 hn0 W S0 (lt_of hL hsh)).mono fun e W' ⟨he, bel⟩ => ?_
  subst he
  exact ⟨_, rfl, _, _, _, [], _, [], hW', trodAll_mk1 (shut_bool Tryd.underlying4 _), (trodAll_cons_mk (Below.trod laidOut (by kernel_rfl) (of_decide_eq_true (by kernel_rfl)) k0 bel lt0) trodAll_mk0), rfl, bel.frame _, fun h => by cases h⟩

theorem over : Rows.traceTextsRow.holds Tryd.pinned (OpenSpec.ofChange Rows.traceTextsSpec) :=
  OpenClaim.holds_of_wide 3 Tryd.f3 rfl rfl rfl rfl rfl rfl rfl ⟨rfl, rfl, rfl, rfl, rfl⟩ rfl rfl rfl rfl rfl (by kernel_rfl) Tryd.func3 (by kernel_rfl)
    (of_decide_eq_true (by kernel_rfl)) (by unfold Func.isWrapper; first | (rw [if_pos (by decide +kernel)]; kernel_rfl) | (rw [if_neg (by decide +kernel)]; exact ⟨rfl, rfl⟩))
    (fun os started H enc _ => lifted os started H enc)

/-- The statement. -/
theorem proved : Rows.TraceTextsCardSaid :=
  Claim7.holds_tied_plain_at .later [] Rows.traceTextsCard.laidKinds true Rows.traceTextsCard.stood.harness true over (fun _ h => by cases h) (by kernel_rfl) (fun _ h => by cases h) traceTexts_row_tie rfl ⟨rfl, rfl⟩ (by kernel_rfl) rfl
    (fun f fn hf hfn => by
      obtain rfl : f = 3 := Option.some.inj ((show Tryd.prog.funcNamed Rows.traceTextsRow.func = some 3 by kernel_rfl).symm.trans hf) |>.symm
      obtain rfl : fn = Tryd.f3 := (Option.some.inj (Tryd.func3.symm.trans hfn)).symm
      exact ⟨by kernel_rfl, fun j t ht => by
        rw [Tryd.params3] at ht
        have hm : t ∈ [22] := by simpa using Array.mem_of_getElem? ht
        have hall : ([22].all fun u => !Tryd.prog.wantsStandIn u) = true := by kernel_rfl
        exact (show Tryd.prog.wantsStandIn t = false by simpa using List.all_eq_true.1 hall t hm)⟩)
    (by kernel_rfl)
#print axioms proved
end Go.Proofs.YtjhdpolaapbihaaDoor.traceTexts
