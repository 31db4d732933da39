/- For any text: TraceParses returns true: it is read as the document says, and what was read, written again, is the text. A tied card: the listed variables are tied to the program's text. -/
import Derived.Test.YtjhdpolaapbihaaDoorTrF
import Derived.Test.YtjhdpolaapbihaaDoorTrJ
import Derived.Test.YtjhdpolaapbihaaDoorTrK
namespace Go.Proofs.YtjhdpolaapbihaaDoor.traceParses
open Go.ChangeShapes Go.WideShapes Go.ChangeAt Go.RowKit
set_option linter.unusedVariables false

set_option maxRecDepth 100000 in
set_option maxHeartbeats 4000000 in
theorem walk (b : ByteArray) (hsz : b.size ≤ maxLen) (w : World) (L : Lt w) :
    Calls Tryd.prog 4 #[.string b] w fun e w' => e = .returned (.bool true) ∧ Below w.heap.size w w' := by
  obtain ⟨s, rfl⟩ : ∃ s : List UInt8, b = ⟨s.toArray⟩ := ⟨b.data.toList, by simp⟩
  have HA := Lib.hid (fun W (hW : Below w.heap.size w W) => lAwake12 W (L.below hW))
  by_cases h6 : 600 < s.length
  · have d : (s.length : Int) > 600 := by omega
    clear hsz h6
    go_enter Tryd.func4, Tryd.ntmps4
    go_wp2_with fail
    refine (HA.out w (Below.refl _ _)).mono ?_
    rintro e y ⟨rfl, hy⟩
    go_wp2
    go_ret
    exact ⟨rfl, hy⟩
  · have d : decide ((s.length : Int) > 600) = false := by simp; omega
    have HP := Lib.hid (cParseL s (by omega) w L)
    have HR := Lib.hid (fun W => rParse s (by omega) W)
    unfold Prs at HP
    unfold PrsR at HR
    have HT := Lib.hid (fun l a cap W (S : EnS W a l) hl (hW : Below w.heap.size w W) => cTextL l a cap W S hl (L.below hW))
    rcases read_or s with ⟨m, h1, h2, h3, h4⟩ | ⟨n, h1, h2⟩
    · rw [h1] at HP HR
      simp only at HP HR
      have HTV : Hid (textV m = .tuple #[.string ⟨s.toArray⟩, .int .i64 0]) := Lib.hid (by unfold textV; rw [if_pos h2, h3]; rfl)
      have hm : m.length ≤ 10000 := by omega
      clear h1 h2 h3 h4 h6 hsz
      unfold bs at HP HR
      have hss : (s == s) = true := by simp
      go_enter Tryd.func4, Tryd.ntmps4
      go_wp2_with fail
      refine HP.out.mono ?_
      rintro e y ⟨v, rfl, hO, hy⟩
      obtain ⟨a1, cap1, rfl, _, _, S1⟩ := hO.is
      go_wp2_with fail
      refine (HR.out y).mono ?_
      rintro e y2 ⟨v2, rfl, hO2, hy2⟩
      obtain ⟨a2, cap2, rfl, _, _, S2⟩ := hO2.is
      have b2 := hy.trans (hy2.mono hy.size)
      have T1 := S1.below hy2
      have HS := Lib.hid (lSame12 m m a1 a2 cap1 cap2 y2 T1 S2 hm)
      rw [eqEs_self] at HS
      go_wp2_with fail
      refine HS.out.mono ?_
      rintro e y3 ⟨rfl, hy3⟩
      have b3 := b2.trans (hy3.mono b2.size)
      have HT2 := Lib.hid (HT.out m a1 cap1 y3 (T1.below hy3) hm b3)
      rw [HTV.out] at HT2
      clear hO hO2 S1 S2 T1 HS HT
      go_wp2_with fail
      refine HT2.out.mono ?_
      rintro e y4 ⟨rfl, hy4⟩
      have b4 := b3.trans (hy4.mono b3.size)
      go_wp2_with fail
      refine (HA.out y4 b4).mono ?_
      rintro e y5 ⟨rfl, hy5⟩
      have b5 := b4.trans (hy5.mono b4.size)
      go_wp2
      go_ret
      exact ⟨rfl, b5⟩
    · rw [h1] at HP HR
      simp only at HP HR
      clear h1 h6 hsz HT
      unfold bs at HP HR
      have hnn : ((n : Int) != (n : Int)) = false := by simp
      go_enter Tryd.func4, Tryd.ntmps4
      go_wp2_with fail
      refine HP.out.mono ?_
      rintro e y ⟨v, rfl, hO, hy⟩
      obtain ⟨a1, cap1, rfl, _, _, S1⟩ := hO.is
      go_wp2_with fail
      refine (HR.out y).mono ?_
      rintro e y2 ⟨v2, rfl, hO2, hy2⟩
      obtain ⟨a2, cap2, rfl, _, _, S2⟩ := hO2.is
      have b2 := hy.trans (hy2.mono hy.size)
      have T1 := S1.below hy2
      have HS := Lib.hid (lSame12 [] [] a1 a2 cap1 cap2 y2 T1 S2 (by simp))
      rw [eqEs_self] at HS
      simp only [List.length_nil] at HS ⊢
      go_wp2_with fail
      refine HS.out.mono ?_
      rintro e y3 ⟨rfl, hy3⟩
      have b3 := b2.trans (hy3.mono b2.size)
      clear hO hO2 S1 S2 T1 HS
      go_wp2_with fail
      refine (HA.out y3 b3).mono ?_
      rintro e y5 ⟨rfl, hy5⟩
      have b5 := b3.trans (hy5.mono b3.size)
      go_wp2
      go_ret
      exact ⟨rfl, b5⟩

set_option maxRecDepth 100000 in
theorem lifted (os : Os) (started : os.Started) (H : Type) (enc : TypeId × Value → H) :
    ReturnsInHanded {} Tryd.checked os 4 .any (fun w args => (Rows.traceParsesSpec.pre enc Tryd.prog Tryd.f4 [] false w args ∧ laidMetH Tryd.prog Rows.traceParsesRow.laid w) ∧ sizedMet enc Tryd.prog Tryd.f4 (OpenSpec.ofChange Rows.traceParsesSpec) false w args)
      (Rows.traceParsesSpec.post enc Tryd.prog Tryd.f4 false true false false) := by
  refine returns_laid (C := Tryd.checked) (X := fun w _ => laidMetH Tryd.prog Rows.traceParsesRow.laid w) (fun _ _ _ hh h => h.of_heap hh) own started (by kernel_rfl) Tryd.func4
    (ChangeSpec.witness_shaped (enc := enc) (C := Tryd.checked) (os := os) (X := fun w _ => laidMetH Tryd.prog Rows.traceParsesRow.laid w) false (World.laidAll Tryd.prog os Rows.traceParsesRow.laid) #[.string ⟨#[]⟩] 8 (World.laidAll_os _ _ _)
      (World.shaped_of_ZipB (by kernel_rfl) (by kernel_rfl)) (by kernel_rfl) (by kernel_rfl) (by kernel_rfl)
      (by rw [MakeChecks.laidMetH_plain _ _ _ (by kernel_rfl)]; exact laidMet_laidAll _ (by kernel_rfl) (by kernel_rfl))) ?_
  intro W base args ds gs before hval0 hW hL hsh
  have hval : ∀ (j : Nat) t v, Tryd.f4.params[j]? = some t → args[j]? = some v → Value.okWide Tryd.prog W .any base t v := hval0
  have hW' := hW
  obtain ⟨p, q, hA0, hV, rfl, _, _⟩ := hW
  have hA : DataW.TrodAll enc Tryd.prog W 0 (fun _ => true) true Tryd.f4.params.toList args.toList ds p := hA0
  rw [Tryd.params4] at hA hval
  obtain ⟨v0, vs0, d0, ds0, p0, q0, hargs, rfl, rfl, h0, r0⟩ := trodAll_cons hA
  obtain ⟨rfl, rfl, rfl⟩ := trodAll_nil r0
  obtain rfl : args = #[v0] := by cases args; simp_all
  obtain ⟨rfl, rfl⟩ := trodVars_none hV
  have k0 := h0
  have lt0 : ∀ x ∈ p0, x.block < W.heap.size := by obtain ⟨m, hm⟩ := k0; exact DataW.trod_lt m _ _ _ hm
  obtain ⟨x0, rfl, rfl, rfl, f0⟩ := Go.ChangeMaps.open_string Tryd.underlying9 (hval 0 9 v0 rfl rfl) h0
  clear hA0 hval0
  rw [MakeChecks.laidMetH_plain _ _ _ (by kernel_rfl)] at hL
  refine (walk x0 f0 W  (lt_of hL hsh)).mono fun e W' ⟨he, bel⟩ => ?_
  subst he
  exact ⟨_, rfl, _, _, _, [], _, [], hW', trodAll_mk1 (shut_bool Tryd.underlying4 _), (trodAll_cons_mk (Below.trod laidOut (by kernel_rfl) (of_decide_eq_true (by kernel_rfl)) k0 bel lt0) trodAll_mk0), rfl, bel.frame _, fun h => by cases h⟩

theorem over : Rows.traceParsesRow.holds Tryd.pinned (OpenSpec.ofChange Rows.traceParsesSpec) :=
  OpenClaim.holds_of_wide 4 Tryd.f4 rfl rfl rfl rfl rfl rfl rfl ⟨rfl, rfl, rfl, rfl, rfl⟩ rfl rfl rfl rfl rfl (by kernel_rfl) Tryd.func4 (by kernel_rfl)
    (of_decide_eq_true (by kernel_rfl)) (by unfold Func.isWrapper; first | (rw [if_pos (by decide +kernel)]; kernel_rfl) | (rw [if_neg (by decide +kernel)]; exact ⟨rfl, rfl⟩))
    (fun os started H enc _ => lifted os started H enc)

/-- The statement. -/
theorem proved : Rows.TraceParsesCardSaid :=
  Claim7.holds_tied_plain_at .later [] Rows.traceParsesCard.laidKinds true Rows.traceParsesCard.stood.harness true over (fun _ h => by cases h) (by kernel_rfl) (fun _ h => by cases h) traceParses_row_tie rfl ⟨rfl, rfl⟩ (by kernel_rfl) rfl
    (fun f fn hf hfn => by
      obtain rfl : f = 4 := Option.some.inj ((show Tryd.prog.funcNamed Rows.traceParsesRow.func = some 4 by kernel_rfl).symm.trans hf) |>.symm
      obtain rfl : fn = Tryd.f4 := (Option.some.inj (Tryd.func4.symm.trans hfn)).symm
      exact ⟨by kernel_rfl, fun j t ht => by
        rw [Tryd.params4] at ht
        have hm : t ∈ [9] := by simpa using Array.mem_of_getElem? ht
        have hall : ([9].all fun u => !Tryd.prog.wantsStandIn u) = true := by kernel_rfl
        exact (show Tryd.prog.wantsStandIn t = false by simpa using List.all_eq_true.1 hall t hm)⟩)
    (by kernel_rfl)
#print axioms proved
end Go.Proofs.YtjhdpolaapbihaaDoor.traceParses
