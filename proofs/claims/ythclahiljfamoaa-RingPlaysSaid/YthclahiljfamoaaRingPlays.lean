/- For every int room and every list of calls: RingPlays returns true, so whatever is put in and taken out, each answer, and all that is there, is what the document says; no condition. -/
import Derived.Test.YthclahiljfamoaaRingLaw
import Derived.Test.YthclahiljfamoaaRingRef
import Derived.Test.YthclahiljfamoaaRecs
import Derived.WalkKit
import Derived.ProofKit
import Derived.OpenShut
import Derived.ChangeOld
import Derived.SizedLaws
namespace Go.Proofs.Ythclahiljfamoaa.ringPlays
open Go.ChangeShapes Go.WideShapes Go.ChangeAt Go.RowKit
open RStr
set_option linter.unusedVariables false

theorem own : ownKnob Try.prog.godebug = none := by kernel_rfl
theorem laidOut : laidOutB Try.prog = true := by kernel_rfl

def Small (xs : List ByteArray) : Prop := ∀ s ∈ xs, s.size ≤ 140737488351232
/-- What the cells of a call are: Out, V. -/
def Cell1 (j : Nat) (u : Value) : Prop :=
  match j with
  | 0 => ∃ b, u = .bool b
  | _ => ∃ s : ByteArray, u = .string s ∧ s.size ≤ 140737488351232

/-- At each round's head: the ring, and the document's list, are the strings xs. -/
def Rel (w : World) (p N k b cap : Nat) (A : Option Addr) (og : Option Nat) (xs : List ByteArray) (wr : World) : Prop :=
  xs.length ≤ k ∧ Small xs ∧ Rg wr p og N xs ∧ Fresh w wr p og ∧ Sl wr b A cap xs ∧ (0 < xs.length → b ≠ p ∧ og ≠ some b)
/-- What was told of all, the first j changed. -/
def Inner (xs : List ByteArray) (w5 : World) (q j : Nat) (ys : List ByteArray) (wr : World) : Prop :=
  ys.length = xs.length ∧ (∀ t, j ≤ t → t < xs.length → nthO ⟨#[]⟩ ys t = nthO ⟨#[]⟩ xs t) ∧ Bk wr q 9 (rowOf C ys) ∧ Only w5 wr q

set_option maxHeartbeats 4000000 in
set_option maxRecDepth 100000 in
theorem walk (x0 : Int) (a1 : Option Addr) (len cap1 : Nat) (w : World) (g1 : Recs w a1 len 2 Cell1) (hm : len ≤ maxLen) :
    Calls Try.prog 3 #[.int .i64 x0, .slice a1 len cap1] w fun e w' => e = .returned (.bool true) ∧ Below w.heap.size w w' := by
  unfold maxLen at hm
  have hNew := fun W => new_any x0 W
  generalize hN : held x0 = N at hNew
  have HN := Lib.hid hN
  clear hN
  by_cases h100 : 100 < len
  · go_enter Try.func3, Try.ntmps3
    go_wp2_with fail
    refine (hNew _).mono ?_
    rintro e w1 ⟨rfl, h1, hw1⟩
    go_wp2_with fail
    refine (lAwake _).mono ?_
    rintro e w2 ⟨rfl, hw2⟩
    go_wp2
    go_ret
    exact ⟨rfl, below_of_grown (grown_then hw1 hw2 (.inl rfl))⟩
  go_enter Try.func3, Try.ntmps3
  go_wp2_with fail
  refine (hNew _).mono ?_
  clear hNew
  rintro e w1 ⟨rfl, h1, hw1⟩
  have hF : Fresh w w1 w.heap.size none := ⟨hw1, Nat.le_refl _, fun _ e => by cases e⟩
  generalize w.heap.size = p at h1 hF ⊢
  go_wp2
  go_loopw [6, 34] (fun s i wr => ∃ (k b cap : Nat) (A : Option Addr) (og : Option Nat) (xs : List ByteArray), k ≤ len ∧ i = .int .i64 k ∧ s = .slice A xs.length cap ∧ Rel w p N k b cap A og xs wr) (fun _ i _ => len - (intOf i).toNat)
  case atStart => exact ⟨0, 0, 0, none, none, [], Nat.zero_le _, rfl, rfl, Nat.le_refl _, (fun s h => by simp at h), h1, hF, Sl.nil _ _ _ (by omega), fun h => absurd h (by simp)⟩
  case round =>
    obtain ⟨k, b5, cap5, A5, og5, xs5, hk, rfl, rfl, hl, hsm, hr, hf, hs, hd⟩ := hrel
    by_cases hlt : k < len
    · obtain ⟨bb, off, rfl, hcs⟩ := g1.at_ hlt (below_of_grown hf.1)
      obtain ⟨_, r0, is, rfl⟩ := hcs 0 (by omega)
      obtain ⟨_, r1, v, rfl, hv⟩ := hcs 1 (by omega)
      clear hcs
      rw [Nat.add_zero] at r0
      have hB := Bk.made wr 28 #[.bool is, C v]
      have hA := grown_made wr (.cells #[.bool is, C v] 28) none
      have hp0 := hr.p_lt
      have hg0 : ∀ g, og5 = some g → g < wr.heap.size := fun g e => hr.g_lt e
      have hle := hr.len_le
      obtain c : (is = true ∧ xs5 = []) ∨ (is = true ∧ xs5 ≠ []) ∨ (is = false ∧ xs5.length = N) ∨ (is = false ∧ xs5.length < N) := by
        cases is
        · by_cases h : xs5.length = N
          · exact .inr (.inr (.inl ⟨rfl, h⟩))
          · exact .inr (.inr (.inr ⟨rfl, by omega⟩))
        · by_cases h : xs5 = []
          · exact .inl ⟨rfl, h⟩
          · exact .inr (.inl ⟨rfl, h⟩)
      rcases c with c | c | c | c
      case' inl =>
        obtain ⟨rfl, hx⟩ := c
        have hr0 : Rg wr p og5 N [] := by rw [← hx]; exact hr
        have hx0 : xs5.length = 0 := by rw [hx]; rfl
        have HX := Lib.hid hx0
        clear hx hx0
        go_wp2_with fail
        generalize wr.alloc (.cells #[.bool true, C v] 28) = w5 at hB hA ⊢
        have hWA : Within wr w5 (fun _ => False) := .of_grown hA (by simp)
        refine (rTake_no A5 xs5.length cap5 HX.out).mono ?_
        rintro e w2 ⟨rfl, rfl⟩
        go_wp2_with fail
        refine (take_no (hr0.kept hWA (by simp) (by simp))).mono ?_
        rintro e w6 ⟨rfl, rfl⟩
        have hR5 : Rel w p N (k + 1) b5 cap5 A5 og5 xs5 w5 := ⟨by omega, hsm, hr.kept hWA (by simp) (by simp), hf.more hA, hs.kept hWA (by simp), hd⟩
        clear hB hA hr hf hs hd hWA hl hsm r0 r1 hv hp0 hg0 HX hr0 hle
      case' inr.inl =>
        obtain ⟨rfl, hx⟩ := c
        obtain ⟨y, xs5, rfl⟩ := List.exists_cons_of_ne_nil hx
        clear hx
        go_wp2_with fail
        generalize wr.alloc (.cells #[.bool true, C v] 28) = wa at hB hA ⊢
        have hWA : Within wr wa (fun _ => False) := .of_grown hA (by simp)
        have hsA := hs.kept hWA (by simp)
        have hrA := hr.kept hWA (by simp) (by simp)
        have hb0 := (hsA.2.2 (by simp)).1
        refine (rTake hsA).mono ?_
        rintro e w2 ⟨A5, cap5, m2, rfl, rfl, hs2⟩
        go_wp2_with fail
        refine (take_ok (hrA.draws m2)).mono ?_
        rintro e w5 ⟨rfl, h5, hW5⟩
        have hR5 : Rel w p N (k + 1) b5 cap5 A5 og5 xs5 w5 := by
          refine ⟨?_, fun s hs => hsm s (List.mem_cons_of_mem _ hs), h5, ((hf.more hA).draws m2).within hW5, (hs2.draws m2).kept hW5 ?_, fun _ => hd (by simp)⟩
          · simp at hl; omega
          · rintro _ (e | e)
            · exact (hd (by simp)).1 e
            · exact (hd (by simp)).2 e.symm
        clear hB hA hr hf hs hd hWA hl hsm r0 r1 hv hp0 hg0 hsA hrA hb0 hs2 h5 hW5 hle
      case' inr.inr.inl =>
        obtain ⟨rfl, hx⟩ := c
        have HX := Lib.hid hx
        clear hx
        go_wp2_with fail
        generalize wr.alloc (.cells #[.bool false, C v] 28) = wa at hB hA ⊢
        have hWA : Within wr wa (fun _ => False) := .of_grown hA (by simp)
        have hrA := hr.kept hWA (by simp) (by simp)
        refine (rPut_no A5 xs5.length cap5 x0 v (by rw [HX.out, HN.out]; exact Nat.le_refl _)).mono ?_
        rintro e w2 ⟨rfl, rfl⟩
        have o1 := hB.cell 1
        simp only [List.getElem?_toArray, List.getElem?_cons_zero, List.getElem?_cons_succ] at o1
        go_wp2_with fail
        refine (put_no hrA HX.out v).mono ?_
        rintro e w5 ⟨rfl, m5, rfl⟩
        have hR5 : Rel w p N (k + 1) b5 cap5 A5 og5 xs5 (wa.drewN m5) := ⟨by omega, hsm, hrA.draws _, (hf.more hA).draws _, (hs.kept hWA (by simp)).draws _, hd⟩
        clear hB hA hr hf hs hd hWA hl hsm r0 r1 hv hp0 hg0 HX hrA hle o1
        generalize wa.drewN m5 = w5 at hR5 ⊢
      case' inr.inr.inr =>
        obtain ⟨rfl, hx⟩ := c
        obtain ⟨og5_0, rfl⟩ : ∃ o, o = og5 := ⟨_, rfl⟩
        obtain ⟨ys, rfl⟩ : ∃ o, o = xs5 := ⟨_, rfl⟩
        go_wp2_with fail
        generalize wr.alloc (.cells #[.bool false, C v] 28) = wa at hB hA ⊢
        have hWA : Within wr wa (fun _ => False) := .of_grown hA (by simp)
        have hrA := hr.kept hWA (by simp) (by simp)
        have hsA := hs.kept hWA (by simp)
        refine (rPut_any hsA x0 v (by rw [HN.out]; exact hx) (by omega)).mono ?_
        rintro e w2 ⟨b5, A5, cap5, rfl, hs2, hb5, hw2⟩
        have hB2 := hB.grown hw2 (by simp)
        have hW2 : Within wa w2 (fun _ => False) := .of_grown hw2 (by simp)
        have hr2 := hrA.kept hW2 (by simp) (by simp)
        have hsm5 : Small (ys ++ [v]) := by
          intro s hs'
          rcases List.mem_append.1 hs' with h | h
          · exact hsm s h
          · simp at h; subst h; exact hv
        have hl5 : (ys ++ [v]).length ≤ k + 1 := by simp; omega
        have hP := put_ok hr2 hx v
        generalize hxx : ys ++ [v] = xs5 at hs2 hsm5 hl5 ⊢
        have HXX := Lib.hid hxx
        clear hxx
        have hpa := hrA.p_lt
        have hga : ∀ g, og5_0 = some g → g < wa.heap.size := fun g e => hrA.g_lt e
        have HGA := Lib.hid hga
        have o1 := hB2.cell 1
        simp only [List.getElem?_toArray, List.getElem?_cons_zero, List.getElem?_cons_succ] at o1
        have HP := Lib.hid hP
        clear hga hP hg0
        go_wp2_with fail
        refine HP.out.mono ?_
        rintro e w5 ⟨og5, rfl, h5, hm5⟩
        rw [HXX.out] at h5
        have hR5 : Rel w p N (k + 1) b5 cap5 A5 og5 xs5 w5 := by
          have hnp : ¬ (b5 = p ∨ some b5 = og5_0) := by
            rintro (e | e)
            · omega
            · have := HGA.out b5 e.symm; omega
          refine ⟨hl5, hsm5, h5, ((hf.more hA).more hw2).moved hm5, hs2.kept hm5.2 (fun _ => hnp), fun h0 => ⟨fun e => hnp (.inl e), fun e => ?_⟩⟩
          rcases hm5.1 with e' | ⟨g, e', hg⟩
          · exact hnp (.inr (by rw [← e', e]))
          · rw [e] at e'
            obtain rfl : b5 = g := by injection e'
            have := (hs2.2.2 h0).1
            omega
        clear hB hA hr hf hs hd hWA hl hsm r0 r1 hv hp0 hle hrA hsA hs2 hB2 hW2 hr2 hsm5 hl5 hpa HGA o1 HP h5 hm5 hx hw2 hb5 HXX
      all_goals
        go_wp2_with fail
        refine (all_any hR5.2.2.1).mono ?_
        rintro e w6 ⟨q, rfl, hq, hr6, hqs, hw6⟩
        obtain ⟨hl5, hsm5, hr5, hf5, hs5, hd5⟩ := hR5
        have hp6 := hr5.p_lt
        have hg6 : ∀ g, og5 = some g → g < w5.heap.size := fun g e => hr5.g_lt e
        have hW6 : Within w5 w6 (fun _ => False) := .of_grown hw6 (by simp)
        have hs6 := hs5.kept hW6 (by simp)
        have hf6 := hf5.more hw6
        have hbq : 0 < xs5.length → b5 ≠ q := fun h0 => by have := (hs5.2.2 h0).1; omega
        have hcap5 := hs5.1
        have hn5 : xs5.length ≤ 100 := by omega
        have hle := hr5.len_le
        have hws := hf5.1.size
        clear hr5 hs5 hf5 hw6 hW6
        have HG6 := Lib.hid hg6
        clear hg6
        go_wp2_with fail
        refine (len_rg hr6).mono ?_
        rintro e w7 ⟨rfl, rfl⟩
        go_wp2_with fail
        refine (room_rg hr6).mono ?_
        rintro e w7 ⟨rfl, m, rfl⟩
        rw [show ((N - xs5.length : Nat) : Int) = (N : Int) - (xs5.length : Int) by omega]
        go_wp2_with fail
        refine (rRoom x0 _).mono ?_
        rintro e w7 ⟨rfl, rfl⟩
        rw [HN.out]
        go_wp2
        go_loopw [101] (fun i wr => ∃ (j : Nat) (ys : List ByteArray), j ≤ xs5.length ∧ i = .int .i64 j ∧ Inner xs5 (w6.drewN m) q j ys wr) (fun i _ => xs5.length - (intOf i).toNat)
        case atStart => exact ⟨0, xs5, Nat.zero_le _, rfl, rfl, fun _ _ _ => rfl, hq, grown_refl _ _⟩
        case round =>
          obtain ⟨j, ys, hj, rfl, hyl, hye, hyb, hyo⟩ := hrel
          by_cases hlt5 : j < xs5.length
          · obtain ⟨hb6, off5, rfl, hc5⟩ := hs6.2.2 (by omega)
            have hbq5 := hbq (by omega)
            have e1 : wr.cell? ⟨q, j, none⟩ = some (C (nthO ⟨#[]⟩ xs5 j)) := by rw [hyb.cell, rowOf_at (z := ⟨#[]⟩) C (by omega), hye j (Nat.le_refl _) hlt5]
            have e2 : wr.cell? ⟨b5, off5 + j, none⟩ = some (C (nthO ⟨#[]⟩ xs5 j)) := (World.cell?_of_block (hyo.block b5 hb6 (fun e => hbq5 (by injection e)))).trans (hc5 j hlt5)
            have hz := hyb.free j
            have b1 : (j : Int) < xs5.length := by omega
            have hsz : (nthO ⟨#[]⟩ xs5 j).size ≤ 140737488351232 := hsm5 _ (List.mem_of_getElem? (nthO_get (z := ⟨#[]⟩) hlt5))
            have HYL := Lib.hid hyl
            have HYE := Lib.hid hye
            generalize nthO ⟨#[]⟩ xs5 j = s at e1 e2 hsz
            have hsz' : ¬ 9223372036854775807 < s.size + 1 := by omega
            clear hyl hye hc5
            go_wp2
            go_quiet (fail)
            go_wp2
            have hput := (hyb.drewN nq).put j (C (s ++ ⟨#[33]⟩))
            rw [rowOf_set] at hput
            go_roundw
            case rel => exact ⟨j + 1, ys.set j (s ++ ⟨#[33]⟩), by omega, by go_num, by rw [List.length_set]; exact HYL.out, fun t h1 h2 => by rw [nthO_set (by rw [HYL.out]; exact hlt5), if_neg (by omega)]; exact HYE.out t (by omega) h2, hput, grown_then (grown_draws hyo _) (only_put _ _ _ _) (.inl rfl)⟩
            case measure => simp [intOf]; omega
          · have hWo : Within (w6.drewN m) wr (fun i => i = q) := .of_grown hyo (by simp)
            have hR6 : Rel w p N (k + 1) b5 cap5 A5 og5 xs5 wr := by
              refine ⟨hl5, hsm5, (hr6.draws m).kept hWo (by omega) (fun g e => ?_), ⟨grown_then (hf6.draws m).1 hyo (.inr fun x e => by injection e with e; omega), hf6.2⟩, (hs6.draws m).kept hWo hbq, hd5⟩
              have := HG6.out g e; omega
            clear hWo hyl hye hyb hyo hr6 hf6 hs6 hq HG6 hd5 hbq hsm5 hl5
            go_wp2
            go_roundw
            case rel => exact ⟨k + 1, b5, cap5, A5, og5, xs5, by omega, by go_num, rfl, hR6⟩
            case measure => simp [intOf]; omega

    · go_wp2_with fail
      refine (lAwake _).mono ?_
      rintro e w9 ⟨rfl, hw9⟩
      go_wp2
      go_ret
      exact ⟨rfl, below_of_grown (grown_then hf.1 hw9 (.inl rfl))⟩

set_option maxRecDepth 100000 in
theorem lifted (os : Os) (started : os.Started) (H : Type) (enc : TypeId × Value → H) :
    ReturnsInHanded {} Try.checked os 3 .any (Rows.ringPlaysSpec.pre6 enc Try.prog Try.f3 Rows.ringPlaysRow.domain false) (Rows.ringPlaysSpec.post enc Try.prog Try.f3 false true false false) := by
  refine returnsInHanded_of_change_sized (C := Try.checked) own started (by kernel_rfl) Try.func3
    (ChangeSpec.witness6 (enc := enc) (C := Try.checked) false ⟨#[], #[.int .i64 0, .slice none 0 0], []⟩ 8 (by kernel_rfl) (by kernel_rfl) (by kernel_rfl) (by kernel_rfl)) ?_
  intro W base args ds gs before hval0 hW hcnd hsz0 _
  have hval : ∀ (j : Nat) t v, Try.f3.params[j]? = some t → args[j]? = some v → Value.okWide Try.prog W .any base t v := hval0
  have hsz : (DataW.weightsEach Try.prog (Try.f3.params.toList ++ Rows.ringPlaysSpec.plain.varTypes Try.prog) (ds ++ gs)).all (· ≤ reachBytes) = true := hsz0
  have hW' := hW
  obtain ⟨p, q, hA0, hV, rfl, hfz, hnd⟩ := hW
  have hA : DataW.TrodAll enc Try.prog W 0 (fun _ => true) true Try.f3.params.toList args.toList ds p := hA0
  rw [Try.params3] at hA hval hsz
  obtain ⟨v0, vs0, d0, ds0, p0, q0, hargs, rfl, rfl, h0, r0⟩ := trodAll_cons hA
  obtain ⟨v1, vs1, d1, ds1, p1, q1, rfl, rfl, rfl, h1, r1⟩ := trodAll_cons r0
  obtain ⟨rfl, rfl, rfl⟩ := trodAll_nil r1
  obtain rfl : args = #[v0, v1] := by cases args; simp_all
  obtain ⟨rfl, rfl⟩ := trodVars_none hV
  obtain ⟨x0, rfl, rfl, rfl, w0⟩ := open_int Try.underlying3 (hval 0 3 v0 rfl rfl) h0
  obtain ⟨a1, len1, cap1, rfl⟩ := okWide_slice Try.underlying22 (hval 1 22 v1 rfl rfl)
  have k1 := h1
  have lt1 : ∀ x ∈ p1, x.block < W.heap.size := by obtain ⟨m, hm⟩ := k1; exact DataW.trod_lt m _ _ _ hm
  obtain ⟨hb1, g1⟩ : len1 ≤ maxLen ∧ Recs W a1 len1 2 Cell1 := by
    obtain ⟨fuel, hf⟩ := h1
    obtain ⟨hle, hr⟩ := open_recs_w Try.underlying22 Try.underlying28 (by kernel_rfl) (by kernel_rfl) (by decide) (by simpa [Value.cells] using hf)
    refine ⟨hle, fun h0 => ?_⟩
    obtain ⟨b, off, e, hlt, hc⟩ := hr h0
    refine ⟨b, off, e, hlt, fun i hi j hj => ?_⟩
    obtain ⟨u, hu, hw⟩ := hc i hi j hj
    refine ⟨u, hu, ?_⟩
    match j, hj with
    | 0, _ => obtain ⟨n, y, hy, _⟩ := hw _ rfl; obtain ⟨x, e, _⟩ := DataW.trod_bool Try.underlying4 hy; simp at e; subst e; exact ⟨x, rfl⟩
    | 1, _ =>
      obtain ⟨n, y, hy, hq⟩ := hw _ rfl
      obtain ⟨x, e, rfl, wx⟩ := DataW.trod_string Try.underlying9 hy
      simp at e; subst e
      refine ⟨x, rfl, ?_⟩
      have h2 := List.all_eq_true.1 hsz _ (weightsEach_mem (j := 1) rfl rfl _ (hq x.data.toList.length (List.mem_singleton.2 rfl)))
      have h3 : x.data.toList.length ≤ reachBytes := of_decide_eq_true h2
      simp only [reachBytes] at h3
      have h4 : x.data.toList.length = x.size := Array.length_toList
      omega
  clear hA0 hval0
  refine (walk x0 a1 len1 cap1 W g1 hb1).mono fun e W' ⟨he, bel⟩ => ?_
  subst he
  exact ⟨_, rfl, _, _, _, [], _, [], hW', trodAll_mk1 (shut_bool Try.underlying4 _), (trodAll_cons_mk (shut_int Try.underlying3 w0) (trodAll_cons_mk (Below.trod laidOut (by kernel_rfl) (of_decide_eq_true (by kernel_rfl)) k1 bel lt1) trodAll_mk0)), rfl, bel.frame _, fun h => by cases h⟩

theorem over : Rows.ringPlaysRow.holds Try.pinned (OpenSpec.ofChange Rows.ringPlaysSpec) :=
  OpenClaim.holds_of_wide 3 Try.f3 rfl rfl rfl rfl rfl rfl rfl ⟨rfl, rfl, rfl, rfl, rfl⟩ rfl rfl rfl rfl rfl (by kernel_rfl) Try.func3 (by kernel_rfl)
    (of_decide_eq_true (by kernel_rfl)) (by unfold Func.isWrapper; first | (rw [if_pos (by decide +kernel)]; kernel_rfl) | (rw [if_neg (by decide +kernel)]; exact ⟨rfl, rfl⟩))
    (fun os started H enc _ => lifted os started H enc)

/-- The statement. -/
theorem proved : Rows.RingPlaysSaid := over
#print axioms proved
end Go.Proofs.Ythclahiljfamoaa.ringPlays

