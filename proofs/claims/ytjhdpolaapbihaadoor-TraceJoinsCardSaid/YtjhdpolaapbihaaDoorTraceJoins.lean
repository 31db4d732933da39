/- For any two lists of entries: TraceJoins returns true: the lines of both are those of one, and those of the other behind them. A tied card: the listed variables are tied to the program's text. -/
import Derived.Test.YtjhdpolaapbihaaDoorTrL
import Derived.Test.YtjhdpolaapbihaaDoorTrK
namespace Go.Proofs.YtjhdpolaapbihaaDoor.traceJoins
open Go.ChangeShapes Go.WideShapes Go.ChangeAt Go.RowKit
set_option linter.unusedVariables false

set_option maxRecDepth 100000 in
set_option maxHeartbeats 4000000 in
theorem walk (l0 : List En) (a0 : Option Addr) (cap0 : Nat) (l1 : List En) (a1 : Option Addr) (cap1 : Nat) (f0 : ∀ x ∈ l0, x.Wf) (hb0 : l0.length ≤ maxLen) (hn0 : a0 = none → cap0 = 0) (f1 : ∀ x ∈ l1, x.Wf) (hb1 : l1.length ≤ maxLen) (hn1 : a1 = none → cap1 = 0) (w : World)
    (S0 : EnS w a0 l0) (S1 : EnS w a1 l1) (L : Lt w) :
    Calls Tryd.prog 6 #[.slice a0 l0.length cap0, .slice a1 l1.length cap1] w fun e w' => e = .returned (.bool true) ∧ Below w.heap.size w w' := by
  have HA := Lib.hid (fun W (hW : Below w.heap.size w W) => lAwake12 W (L.below hW))
  clear f0 f1 hb0 hb1
  by_cases h5 : 50 < l0.length
  · have d : (l0.length : Int) > 50 := by omega
    clear h5
    go_enter Tryd.func6, Tryd.ntmps6
    go_wp2_with fail
    refine (HA.out w (Below.refl _ _)).mono ?_
    rintro e y ⟨rfl, hy⟩
    go_wp2
    go_ret
    exact ⟨rfl, hy⟩
  have d : decide ((l0.length : Int) > 50) = false := by simp; omega
  by_cases h6 : 50 < l1.length
  · have d1 : (l1.length : Int) > 50 := by omega
    clear h5 h6
    go_enter Tryd.func6, Tryd.ntmps6
    go_wp2_with fail
    refine (HA.out w (Below.refl _ _)).mono ?_
    rintro e y ⟨rfl, hy⟩
    go_wp2
    go_ret
    exact ⟨rfl, hy⟩
  have d1 : decide ((l1.length : Int) > 50) = false := by simp; omega
  have HT := Lib.hid (fun l a cap W (S : EnS W a l) hl (hW : Below w.heap.size w W) => cTextL l a cap W S hl (L.below hW))
  have HP := Lib.hid (fun s hs W (hW : Below w.heap.size w W) => cParseL s hs W (L.below hW))
  obtain ⟨t0, e0, hv0, hc0⟩ := textV_or l0
  obtain ⟨t1, e1, hv1, hc1⟩ := textV_or l1
  obtain ⟨t2, e2, hv2, hc2⟩ := textV_or (l0 ++ l1)
  have hl2 : (l0 ++ l1).length = l0.length + l1.length := by simp
  have h50 : l0.length ≤ 50 := by omega
  have h51 : l1.length ≤ 50 := by omega
  have H0 := Lib.hid (HT.out l0 a0 cap0 w S0 (by omega) (Below.refl _ _))
  rw [hv0] at H0
  have hk0 : t0.length ≤ 4050 := by
    rcases hc0 with ⟨h, _, rfl⟩ | ⟨_, _, rfl⟩
    · have := all_len h; omega
    · simp
  have hk1 : t1.length ≤ 4050 := by
    rcases hc1 with ⟨h, _, rfl⟩ | ⟨_, _, rfl⟩
    · have := all_len h; omega
    · simp
  clear h5 h6
  go_enter Tryd.func6, Tryd.ntmps6
  go_wp2_with fail
  refine H0.out.mono ?_
  rintro e y ⟨rfl, hy⟩
  have H1 := Lib.hid (HT.out l1 a1 cap1 y (S1.below hy) (by omega) hy)
  rw [hv1] at H1
  go_wp2_with fail
  refine H1.out.mono ?_
  rintro e y1 ⟨rfl, hy1⟩
  have b1 := hy.trans (hy1.mono hy.size)
  have b2 := b1.alloc (o := .cells #[] 33) b1.size
  have HB : Bk (y1.alloc (.cells #[] 33)) y1.heap.size 33 #[] := Bk.made y1 _ _
  have HO : Hid (EnO w.heap.size 33 (y1.alloc (.cells #[] 33)) (.slice (some ⟨y1.heap.size, 0, none⟩) 0 0) []) := Lib.hid ⟨rfl, .inr ⟨y1.heap.size, 0, #[], rfl, b1.size, HB, Nat.le_refl _, by simp, rfl, rfl⟩⟩
  have HS0 := Lib.hid (S0.below b2)
  have HS1 := Lib.hid (fun W (hW : Below w.heap.size w W) => S1.below hW)
  have HB2 := Lib.hid b2
  clear HB H0 H1 hy hy1 b2 S0 S1
  go_wp2_with (first
    | (at_builtin; refine wpApnd rfl (.tmp 34) (.tmp 35) rfl rfl HO.out HS0.out hn0 (by simp; omega) HB2.out.size rfl rfl ?_; intro v3 w3 hO3 hb3; have B3 := Lib.hid (HB2.out.trans hb3); have HO3 := Lib.hid hO3; clear hO3)
    | (at_builtin; refine wpApnd rfl (.tmp 36) (.tmp 37) rfl rfl HO3.out (HS1.out _ B3.out) hn1 (by simp; omega) B3.out.size rfl rfl ?_; intro v4 w4 hO4 hb4; have B4 := Lib.hid (B3.out.trans hb4); obtain ⟨a4, cap4, rfl, _, _, hS4⟩ := hO4.is))
  have H2 := Lib.hid (HT.out (l0 ++ l1) a4 cap4 w4 hS4 (by rw [hl2]; omega) B4.out)
  rw [hl2, hv2] at H2
  refine H2.out.mono ?_
  rintro e y5 ⟨rfl, hy5⟩
  have b5 := B4.out.trans (hy5.mono B4.out.size)
  have hall : (l0 ++ l1).all fitsB = (l0.all fitsB && l1.all fitsB) := List.all_append
  clear H2 hO4 hS4 hb4 hb3 B3 HO3 B4 HS0 HS1 HO HB2 HT hv0 hv1 hv2 hy5
  rcases hc0 with ⟨q0, rfl, hx0⟩ | ⟨q0, rfl, rfl⟩
  · rcases hc1 with ⟨q1, rfl, hx1⟩ | ⟨q1, rfl, rfl⟩
    · rw [q0, q1, Bool.and_self] at hall
      rcases hc2 with ⟨q2, rfl, hx2⟩ | ⟨q2, _, _⟩
      · have e2 : t2 = t0 ++ t1 := by rw [hx2, textT_app, ← hx0, ← hx1]
        have HPr := Lib.hid (HP.out t2 (by rw [e2]; simp; omega) y5 b5)
        unfold Prs at HPr
        rw [hx2, read_all hall, ← hx2, hl2] at HPr
        simp only at HPr
        have hcat := cat_bs t0 t1
        rw [← e2] at hcat
        have hsz : ¬ 9223372036854775807 < t0.length + t1.length := by omega
        have hw : IntKind.i64.wrap ((l0.length : Int) + (l1.length : Int)) = ((l0.length + l1.length : Nat) : Int) := by rw [IntWalk.i64_in _ (by omega)]; omega
        have htt : (t2 == t2) = true := by simp
        have hnn : (((l0.length + l1.length : Nat) : Int) == ((l0.length + l1.length : Nat) : Int)) = true := by simp
        unfold bs at HPr
        clear e2 hx0 hx1 hx2 q0 q1 q2 hall HP
        go_wp2_with fail
        refine HPr.out.mono ?_
        rintro e y6 ⟨v, rfl, hO6, hy6⟩
        obtain ⟨a6, cap6, rfl, _, _, _⟩ := hO6.is
        rw [hl2]
        have b6 := b5.trans (hy6.mono b5.size)
        clear hO6 HPr
        go_wp2_with fail
        refine (HA.out y6 b6).mono ?_
        rintro e y7 ⟨rfl, hy7⟩
        have b7 := b6.trans (hy7.mono b6.size)
        go_wp2
        go_ret
        exact ⟨rfl, b7⟩
      · rw [hall] at q2; cases q2
    · rw [q0, q1, Bool.and_false] at hall
      rcases hc2 with ⟨q2, _, _⟩ | ⟨q2, rfl, rfl⟩
      · rw [hall] at q2; cases q2
      · clear HP hx0 q0 q1 q2 hall
        go_wp2_with fail
        refine (HA.out y5 b5).mono ?_
        rintro e y7 ⟨rfl, hy7⟩
        have b7 := b5.trans (hy7.mono b5.size)
        go_wp2
        go_ret
        exact ⟨rfl, b7⟩
  · rw [q0, Bool.false_and] at hall
    rcases hc2 with ⟨q2, _, _⟩ | ⟨q2, rfl, rfl⟩
    · rw [hall] at q2; cases q2
    · clear HP hc1 q0 q2 hall
      go_wp2_with fail
      refine (HA.out y5 b5).mono ?_
      rintro e y7 ⟨rfl, hy7⟩
      have b7 := b5.trans (hy7.mono b5.size)
      go_wp2
      go_ret
      exact ⟨rfl, b7⟩

set_option maxRecDepth 100000 in
theorem lifted (os : Os) (started : os.Started) (H : Type) (enc : TypeId × Value → H) :
    ReturnsInHanded {} Tryd.checked os 6 .any (fun w args => (Rows.traceJoinsSpec.pre enc Tryd.prog Tryd.f6 [] false w args ∧ laidMetH Tryd.prog Rows.traceJoinsRow.laid w) ∧ sizedMet enc Tryd.prog Tryd.f6 (OpenSpec.ofChange Rows.traceJoinsSpec) false w args)
      (Rows.traceJoinsSpec.post enc Tryd.prog Tryd.f6 false true false false) := by
  refine returns_laid (C := Tryd.checked) (X := fun w _ => laidMetH Tryd.prog Rows.traceJoinsRow.laid w) (fun _ _ _ hh h => h.of_heap hh) own started (by kernel_rfl) Tryd.func6
    (ChangeSpec.witness_shaped (enc := enc) (C := Tryd.checked) (os := os) (X := fun w _ => laidMetH Tryd.prog Rows.traceJoinsRow.laid w) false (World.laidAll Tryd.prog os Rows.traceJoinsRow.laid) #[.slice none 0 0, .slice none 0 0] 8 (World.laidAll_os _ _ _)
      (World.shaped_of_ZipB (by kernel_rfl) (by kernel_rfl)) (by kernel_rfl) (by kernel_rfl) (by kernel_rfl)
      (by rw [MakeChecks.laidMetH_plain _ _ _ (by kernel_rfl)]; exact laidMet_laidAll _ (by kernel_rfl) (by kernel_rfl))) ?_
  intro W base args ds gs before hval0 hW hL hsh
  have hval : ∀ (j : Nat) t v, Tryd.f6.params[j]? = some t → args[j]? = some v → Value.okWide Tryd.prog W .any base t v := hval0
  have hW' := hW
  obtain ⟨p, q, hA0, hV, rfl, _, _⟩ := hW
  have hA : DataW.TrodAll enc Tryd.prog W 0 (fun _ => true) true Tryd.f6.params.toList args.toList ds p := hA0
  rw [Tryd.params6] at hA hval
  obtain ⟨v0, vs0, d0, ds0, p0, q0, hargs, rfl, rfl, h0, r0⟩ := trodAll_cons hA
  obtain ⟨v1, vs1, d1, ds1, p1, q1, rfl, rfl, rfl, h1, r1⟩ := trodAll_cons r0
  obtain ⟨rfl, rfl, rfl⟩ := trodAll_nil r1
  obtain rfl : args = #[v0, v1] := by cases args; simp_all
  obtain ⟨rfl, rfl⟩ := trodVars_none hV
  have k0 := h0
  have lt0 : ∀ x ∈ p0, x.block < W.heap.size := by obtain ⟨m, hm⟩ := k0; exact DataW.trod_lt m _ _ _ hm
  obtain ⟨l0, a0, cap0, rfl, S0, f0, hb0, hn0⟩ := open_ents (hval 0 22 v0 rfl rfl) h0
  have k1 := h1
  have lt1 : ∀ x ∈ p1, x.block < W.heap.size := by obtain ⟨m, hm⟩ := k1; exact DataW.trod_lt m _ _ _ hm
  obtain ⟨l1, a1, cap1, rfl, S1, f1, hb1, hn1⟩ := open_ents (hval 1 22 v1 rfl rfl) h1
  clear hA0 hval0
  rw [MakeChecks.laidMetH_plain _ _ _ (by kernel_rfl)] at hL
  refine (walk l0 a0 cap0 l1 a1 cap1 f0 hb0 hn0 f1 hb1 hn1 W S0 S1 (lt_of hL hsh)).mono fun e W' ⟨he, bel⟩ => ?_
  subst he
  exact ⟨_, rfl, _, _, _, [], _, [], hW', trodAll_mk1 (shut_bool Tryd.underlying4 _), (trodAll_cons_mk (Below.trod laidOut (by kernel_rfl) (of_decide_eq_true (by kernel_rfl)) k0 bel lt0) (trodAll_cons_mk (Below.trod laidOut (by kernel_rfl) (of_decide_eq_true (by kernel_rfl)) k1 bel lt1) trodAll_mk0)), rfl, bel.frame _, fun h => by cases h⟩

theorem over : Rows.traceJoinsRow.holds Tryd.pinned (OpenSpec.ofChange Rows.traceJoinsSpec) :=
  OpenClaim.holds_of_wide 6 Tryd.f6 rfl rfl rfl rfl rfl rfl rfl ⟨rfl, rfl, rfl, rfl, rfl⟩ rfl rfl rfl rfl rfl (by kernel_rfl) Tryd.func6 (by kernel_rfl)
    (of_decide_eq_true (by kernel_rfl)) (by unfold Func.isWrapper; first | (rw [if_pos (by decide +kernel)]; kernel_rfl) | (rw [if_neg (by decide +kernel)]; exact ⟨rfl, rfl⟩))
    (fun os started H enc _ => lifted os started H enc)

/-- The statement. -/
theorem proved : Rows.TraceJoinsCardSaid :=
  Claim7.holds_tied_plain_at .later [] Rows.traceJoinsCard.laidKinds true Rows.traceJoinsCard.stood.harness true over (fun _ h => by cases h) (by kernel_rfl) (fun _ h => by cases h) traceJoins_row_tie rfl ⟨rfl, rfl⟩ (by kernel_rfl) rfl
    (fun f fn hf hfn => by
      obtain rfl : f = 6 := Option.some.inj ((show Tryd.prog.funcNamed Rows.traceJoinsRow.func = some 6 by kernel_rfl).symm.trans hf) |>.symm
      obtain rfl : fn = Tryd.f6 := (Option.some.inj (Tryd.func6.symm.trans hfn)).symm
      exact ⟨by kernel_rfl, fun j t ht => by
        rw [Tryd.params6] at ht
        have hm : t ∈ [22, 22] := by simpa using Array.mem_of_getElem? ht
        have hall : ([22, 22].all fun u => !Tryd.prog.wantsStandIn u) = true := by kernel_rfl
        exact (show Tryd.prog.wantsStandIn t = false by simpa using List.all_eq_true.1 hall t hm)⟩)
    (by kernel_rfl)
#print axioms proved
end Go.Proofs.YtjhdpolaapbihaaDoor.traceJoins
