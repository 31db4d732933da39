/- For every core, every right instruction and every thread: CoreKeeps returns true, so one local instruction changes no register but the one that it names, one of the memory none; no condition. -/
import Derived.Test.YtmjmedbepmdjcaaCoreW
import Derived.Test.YtmjmedbepmdjcaaRightP
import Derived.BigQuiet
import Derived.Deep.DeepCutAuto
namespace Go.Proofs.Ytmjmedbepmdjcaa.coreKeeps
open Go.ChangeShapes Go.WideShapes Go.ChangeAt Go.RowKit
set_option linter.unusedVariables false

/-- Does it write a register? -/
def wrB (op : Int) : Bool := decide ((1 ≤ op ∧ op ≤ 7) ∨ op = 11)
theorem keeps {xs : List Int} {i : Ins} {self : Int} (h : OkI i) (k : Nat) (hne : nth (oneR xs i self) k ≠ nth xs k) : wrB i.op = true ∧ (k : Int) = i.d := by
  unfold oneR regsL at hne
  split at hne
  · exact absurd rfl hne
  · cases hv : valueO xs i self with
    | none => rw [hv] at hne; exact absurd rfl hne
    | some v =>
      rw [hv] at hne
      simp only at hne
      refine ⟨?_, ?_⟩
      · unfold valueO valA at hv
        unfold wrB
        repeat' split at hv
        all_goals first | (cases hv; done) | (rw [decide_eq_true_eq]; omega)
      · have hd := h.d
        apply Classical.byContradiction
        intro hk
        apply hne
        unfold nth
        simp only [List.getD_eq_getElem?_getD, List.getElem?_set]
        rw [if_neg (by omega)]
theorem mem_stays {xs : List Int} {pc : Int} {i : Ins} {self : Int} (hk : OkI i) (h : 16 ≤ i.op) : oneR xs i self = xs ∧ oneP xs pc i = pc := by
  have : memB i.op = true := by
    unfold memB
    rcases hk.op with h2 | h2
    · omega
    · simp [h2.1, h2.2]
  unfold oneR oneP
  simp [this]

set_option maxHeartbeats 2000000 in
set_option maxRecDepth 100000 in
theorem walk (xs : List Int) (pc : Int) (i : Ins) (self : Int) (w : World) (hx : Eight xs) (hp : -9223372036854775808 ≤ pc ∧ pc ≤ 9223372036854775807) (hi : i.Wf) (hs : 0 ≤ self ∧ self < 256) :
    Calls Try.prog 7 #[cv xs pc, iv i, .int .u8 self] w fun e w' => e = .returned (.bool true) ∧ Below w.heap.size w w' := by
  have H6 := Lib.hid (fun W => rRef i W)
  have HRt := Lib.hid (fun W => rRight i 1073741824 hi.k0 hi.k1 W)
  have HA := Lib.hid lAwake8
  have HOK : Hid (rightB i 1073741824 = true → OkI i) := Lib.hid fun h => ok_of h hi.k0 hi.k1
  have HON := Lib.hid (fun (h : OkI i) (hq : pc ≤ 1099511627776) W => cOne xs pc i (self % 64) hx h (by omega) (by omega) hp.1 hq W)
  have HE := Lib.hid (fun (h : OkI i) => hx.one (self := self % 64) h (by omega) (by omega))
  have HK := Lib.hid (fun (h : OkI i) => keeps (xs := xs) (self := self % 64) h)
  have HMM := Lib.hid (fun (h : 16 ≤ i.op) (hk : OkI i) => mem_stays (xs := xs) (pc := pc) (self := self % 64) hk h)
  generalize rightB i 1073741824 = rb at *
  generalize oneR xs i (self % 64) = XN at *
  generalize oneP xs pc i = PN at *
  obtain ⟨op, d, s, t, u, a', k, pl⟩ := i
  obtain ⟨r0, r1, r2, r3, r4, r5, r6, r7, rfl⟩ := eight_cons hx.1
  have q0 : Cb ((w.alloc (.cells #[.int .u32 r0, .int .u32 r1, .int .u32 r2, .int .u32 r3, .int .u32 r4, .int .u32 r5, .int .u32 r6, .int .u32 r7, .int .i64 pc] 25)).alloc (.cells #[.int .i64 op, .int .i64 d, .int .i64 s, .int .i64 t, .int .i64 u, .int .i64 a', .int .u32 k, .int .i64 pl] 27)) w.heap.size [r0, r1, r2, r3, r4, r5, r6, r7] pc := (Cb.made w [r0, r1, r2, r3, r4, r5, r6, r7] pc).alloc (.cells #[.int .i64 op, .int .i64 d, .int .i64 s, .int .i64 t, .int .i64 u, .int .i64 a', .int .u32 k, .int .i64 pl] 27)
  have q1 : Ib ((w.alloc (.cells #[.int .u32 r0, .int .u32 r1, .int .u32 r2, .int .u32 r3, .int .u32 r4, .int .u32 r5, .int .u32 r6, .int .u32 r7, .int .i64 pc] 25)).alloc (.cells #[.int .i64 op, .int .i64 d, .int .i64 s, .int .i64 t, .int .i64 u, .int .i64 a', .int .u32 k, .int .i64 pl] 27)) (w.heap.size + 1) ⟨op, d, s, t, u, a', k, pl⟩ := by
    have := Ib.made (w.alloc (.cells #[.int .u32 r0, .int .u32 r1, .int .u32 r2, .int .u32 r3, .int .u32 r4, .int .u32 r5, .int .u32 r6, .int .u32 r7, .int .i64 pc] 25)) op d s t u a' k pl
    rw [World.size_alloc] at this
    exact this
  have b0 : Below w.heap.size w ((w.alloc (.cells #[.int .u32 r0, .int .u32 r1, .int .u32 r2, .int .u32 r3, .int .u32 r4, .int .u32 r5, .int .u32 r6, .int .u32 r7, .int .i64 pc] 25)).alloc (.cells #[.int .i64 op, .int .i64 d, .int .i64 s, .int .i64 t, .int .i64 u, .int .i64 a', .int .u32 k, .int .i64 pl] 27)) := ((Below.refl _ _).alloc (Nat.le_refl _) _).alloc (by simp) _
  clear hi
  unfold cv iv at *
  simp only [corC, List.map_cons, List.map_nil, List.cons_append, List.nil_append] at *
  go_enter Try.func7, Try.ntmps7
  go_upto_region 1 with fail
  generalize (w.alloc (.cells #[.int .u32 r0, .int .u32 r1, .int .u32 r2, .int .u32 r3, .int .u32 r4, .int .u32 r5, .int .u32 r6, .int .u32 r7, .int .i64 pc] 25)).alloc (.cells #[.int .i64 op, .int .i64 d, .int .i64 s, .int .i64 t, .int .i64 u, .int .i64 a', .int .u32 k, .int .i64 pl] 27) = x at *
  obtain ⟨c0, c1, c2, c3, c4, c5, c6, c7, c8⟩ := q0.cells
  obtain ⟨e0, e1, e2, e3, e4, e5, e6, e7⟩ := q1.cells
  simp only at e0 e1 e2 e3 e4 e5 e6 e7
  go_wp2_with fail
  refine (H6.out _).mono ?_
  rintro e y ⟨rfl, hy⟩
  replace q0 := q0.below hy
  replace q1 := q1.below hy
  replace b0 := b0.trans (hy.mono b0.size)
  clear c0 c1 c2 c3 c4 c5 c6 c7 c8 e0 e1 e2 e3 e4 e5 e6 e7 hy
  go_wp2_with fail
  refine (HRt.out _).mono ?_
  rintro e z ⟨rfl, hy⟩
  replace q0 := q0.below hy
  replace q1 := q1.below hy
  replace b0 := b0.trans (hy.mono b0.size)
  clear hy HRt
  obtain ⟨c0, c1, c2, c3, c4, c5, c6, c7, c8⟩ := q0.cells
  cases rb with
  | false =>
    clear HOK HON HE HK HMM H6
    go_wp2_with fail
    refine (HA.out _).mono ?_
    rintro e y2 ⟨rfl, hy⟩
    go_wp2
    go_ret
    exact ⟨rfl, b0.trans (hy.mono b0.size)⟩
  | true =>
    have hok := HOK.out rfl
    by_cases hpc : pc > 1099511627776
    · clear HOK HON HE HK HMM H6 hok
      go_wp2_with fail
      refine (HA.out _).mono ?_
      rintro e y2 ⟨rfl, hy⟩
      go_wp2
      go_ret
      exact ⟨rfl, b0.trans (hy.mono b0.size)⟩
    · have hpd : decide (pc > 1099511627776) = false := by simpa using hpc
      replace HON := Lib.hid (HON.out hok (by omega))
      have hE := HE.out hok
      have HK2 := Lib.hid (HK.out hok)
      have HM2 := Lib.hid (fun h => HMM.out h hok)
      have hop := hok.op
      have hd := hok.d
      have hx8 := hx.1
      simp only at HK2 HM2 hop hd
      obtain ⟨dn, rfl⟩ : ∃ n : Nat, d = n := ⟨d.toNat, by omega⟩
      obtain ⟨s0, s1, s2, s3, s4, s5, s6, s7, rfl⟩ := eight_cons hE.1
      simp only [List.map_cons, List.map_nil, List.cons_append, List.nil_append] at HON
      have HX8 := Lib.hid hE.1
      clear HOK HE HK HMM hok hE hx H6
      have hse : self.tmod 64 = self % 64 := Int.tmod_eq_emod_of_nonneg hs.1
      obtain ⟨e0, e1, e2, e3, e4, e5, e6, e7⟩ := q1.cells
      simp only at e0 e1 e2 e3 e4 e5 e6 e7
      go_upto_region 3 with fail
      go_wp2_with fail
      refine (HON.out _).mono ?_
      rintro e z2 ⟨rfl, hy⟩
      replace q0 := q0.below hy
      replace q1 := q1.below hy
      replace b0 := b0.trans (hy.mono b0.size)
      clear hy HON c0 c1 c2 c3 c4 c5 c6 c7 c8 e0 e1 e2 e3 e4 e5 e6 e7
      go_upto_region 4 with fail
      have q3 : Cb (z2.alloc (.cells #[.int .u32 s0, .int .u32 s1, .int .u32 s2, .int .u32 s3, .int .u32 s4, .int .u32 s5, .int .u32 s6, .int .u32 s7, .int .i64 PN] 25)) z2.heap.size [s0, s1, s2, s3, s4, s5, s6, s7] PN := Cb.made z2 [s0, s1, s2, s3, s4, s5, s6, s7] PN
      replace q0 : Cb (z2.alloc (.cells #[.int .u32 s0, .int .u32 s1, .int .u32 s2, .int .u32 s3, .int .u32 s4, .int .u32 s5, .int .u32 s6, .int .u32 s7, .int .i64 PN] 25)) _ _ _ := Bk.alloc q0 _
      replace q1 : Ib (z2.alloc (.cells #[.int .u32 s0, .int .u32 s1, .int .u32 s2, .int .u32 s3, .int .u32 s4, .int .u32 s5, .int .u32 s6, .int .u32 s7, .int .i64 PN] 25)) _ _ := Bk.alloc q1 _
      replace b0 := b0.alloc (o := .cells #[.int .u32 s0, .int .u32 s1, .int .u32 s2, .int .u32 s3, .int .u32 s4, .int .u32 s5, .int .u32 s6, .int .u32 s7, .int .i64 PN] 25) b0.size
      generalize z2.heap.size = q at *
      generalize z2.alloc (.cells #[.int .u32 s0, .int .u32 s1, .int .u32 s2, .int .u32 s3, .int .u32 s4, .int .u32 s5, .int .u32 s6, .int .u32 s7, .int .i64 PN] 25) = z3 at *
      obtain ⟨e0, e1, e2, e3, e4, e5, e6, e7⟩ := q1.cells
      simp only at e0 e1 e2 e3 e4 e5 e6 e7
      go_cut [8] (fun v wx => z3 = wx ∧ v = .bool (wrB op))
      case first =>
        by_cases hw7 : op ≤ 7
        · have HW : Hid (wrB op = true) := Lib.hid (by unfold wrB; simp; omega)
          have h1 : 1 ≤ op := by omega
          go_wp2
          go_meet
          case rel => exact ⟨rfl, by rw [HW.out]⟩
        · by_cases h11 : op = 11
          · subst h11
            go_wp2
            go_meet
            case rel => exact ⟨rfl, rfl⟩
          · have HW : Hid (wrB op = false) := Lib.hid (by unfold wrB; simp; omega)
            have h1 : 1 ≤ op := by omega
            have b11 : (op == 11) = false := by simpa using h11
            have d7 : decide (op ≤ 7) = false := by simpa using hw7
            go_wp2
            go_meet
            case rel => exact ⟨rfl, by rw [HW.out]⟩
      case rest =>
        obtain ⟨rfl, rfl⟩ := hcut
        generalize wrB op = wb at *
        clear e0 e1 e2 e3 e4 e5 e6 e7
        go_upto_region 5 with fail
        go_wp2
        go_loopw [39] (fun t wr => ∃ k : Nat, t = .int .i64 k ∧ k ≤ 8 ∧ Below z3.heap.size z3 wr) (fun t _ => 8 - (intOf t).toNat)
        case atStart => exact ⟨0, rfl, by omega, Below.refl _ _⟩
        case round =>
          obtain ⟨j, rfl, hj, hwr⟩ := hrel
          by_cases hlt : j < 8
          · have hji : (j : Int) < 8 := by omega
            have y0 := (q3.below hwr).at_ HX8.out hlt
            have y1 := (q0.below hwr).at_ hx8 hlt
            obtain ⟨e0, e1, e2, e3, e4, e5, e6, e7⟩ := (q1.below hwr).cells
            simp only at e0 e1 e2 e3 e4 e5 e6 e7
            have HKj := Lib.hid (HK2.out j)
            generalize nth [s0, s1, s2, s3, s4, s5, s6, s7] j = V1 at *
            generalize nth [r0, r1, r2, r3, r4, r5, r6, r7] j = V2 at *
            go_upto_region 8 with fail
            have g0 := fun g : Grw wr => g.cell y0
            have g1 := fun g : Grw wr => g.cell y1
            have g2 := fun g : Grw wr => g.cell e1
            by_cases hV : V1 = V2
            · subst hV
              clear y0 y1 e0 e1 e2 e3 e4 e5 e6 e7 q0 q1 q3
              refine wp_region_grow (by kernel_rfl) (by kernel_rfl) ?_
              repeat (go_big_quiet_step (fail))
              refine wpQuiet_nil ?_
              rintro y ⟨⟨_, hy⟩, rfl⟩
              go_wp2
              go_roundw
              case rel => exact ⟨j + 1, by go_num, by omega, hwr.trans (hy.mono hwr.size)⟩
              case measure =>
                show 8 - ((j : Int) + 1).toNat < 8 - (j : Int).toNat
                omega
            · have hne : (V1 == V2) = false := by simpa using hV
              have hne2 : (V1 != V2) = true := by simpa using hV
              obtain ⟨hW1, hW2⟩ := HKj.out hV
              obtain rfl : j = dn := by omega
              clear y0 y1 e0 e1 e2 e3 e4 e5 e6 e7 q0 q1 q3 HKj hW2
              subst hW1
              refine wp_region_grow (by kernel_rfl) (by kernel_rfl) ?_
              repeat (go_big_quiet_step (fail))
              refine wpQuiet_nil ?_
              rintro y ⟨⟨_, hy⟩, rfl⟩
              go_wp2
              go_roundw
              case rel => exact ⟨j + 1, by go_num, by omega, hwr.trans (hy.mono hwr.size)⟩
              case measure =>
                show 8 - ((j : Int) + 1).toNat < 8 - (j : Int).toNat
                omega
          · obtain rfl : j = 8 := by omega
            have p0 := q0.below hwr
            have p1 := q1.below hwr
            have p3 := q3.below hwr
            have b1 := b0.trans (hwr.mono b0.size)
            clear q0 q1 q3 b0 hwr
            obtain ⟨e0, e1, e2, e3, e4, e5, e6, e7⟩ := p1.cells
            simp only at e0 e1 e2 e3 e4 e5 e6 e7
            by_cases h16 : op < 16
            · go_wp2_with fail
              refine (HA.out _).mono ?_
              rintro e y2 ⟨rfl, hy⟩
              go_wp2
              go_ret
              exact ⟨rfl, b1.trans (hy.mono b1.size)⟩
            · have hd16 : decide (op < 16) = false := by simpa using h16
              obtain ⟨hs1, hs2⟩ := HM2.out (by omega)
              simp only [List.cons.injEq, and_true] at hs1
              obtain ⟨rfl, rfl, rfl, rfl, rfl, rfl, rfl, rfl⟩ := hs1
              subst hs2
              obtain ⟨c0, c1, c2, c3, c4, c5, c6, c7, c8⟩ := p0.cells
              obtain ⟨z0, z1, z2', z3', z4, z5, z6, z7, z8⟩ := p3.cells
              have heq := fun W => run_eqC [s0, s1, s2, s3, s4, s5, s6, s7] PN rfl W
              unfold cv at heq
              simp only [corC, List.map_cons, List.map_nil, List.cons_append, List.nil_append] at heq
              go_wp2_with fail
              refine (HA.out _).mono ?_
              rintro e y2 ⟨rfl, hy⟩
              go_wp2
              go_ret
              exact ⟨rfl, b1.trans (hy.mono b1.size)⟩
set_option maxRecDepth 100000 in
theorem lifted (os : Os) (started : os.Started) (H : Type) (enc : TypeId × Value → H) :
    ReturnsInHanded {} Try.checked os 7 .any (Rows.coreKeepsSpec.pre6 enc Try.prog Try.f7 Rows.coreKeepsRow.domain false) (Rows.coreKeepsSpec.post enc Try.prog Try.f7 false true false false) := by
  refine returnsInHanded_of_change (C := Try.checked) own started (by kernel_rfl) Try.func7
    (ChangeSpec.witness6 (enc := enc) (C := Try.checked) false ⟨#[], #[.agg #[.int .u32 0, .int .u32 0, .int .u32 0, .int .u32 0, .int .u32 0, .int .u32 0, .int .u32 0, .int .u32 0, .int .i64 0], .agg #[.int .i64 0, .int .i64 0, .int .i64 0, .int .i64 0, .int .i64 0, .int .i64 0, .int .u32 0, .int .i64 0], .int .u8 0], []⟩ 8 (by kernel_rfl) (by kernel_rfl) (by kernel_rfl) (by kernel_rfl)) ?_
  intro W base args ds gs before hval0 hW hcnd _
  have hval : ∀ (j : Nat) t v, Try.f7.params[j]? = some t → args[j]? = some v → Value.okWide Try.prog W .any base t v := hval0
  have hW' := hW
  obtain ⟨p, q, hA0, hV, rfl, hfz, hnd⟩ := hW
  have hA : DataW.TrodAll enc Try.prog W 0 (fun _ => true) true Try.f7.params.toList args.toList ds p := hA0
  rw [Try.params7] at hA hval
  obtain ⟨v0, vs0, d0, ds0, p0, q0, hargs, rfl, rfl, h0, r0⟩ := trodAll_cons hA
  obtain ⟨v1, vs1, d1, ds1, p1, q1, rfl, rfl, rfl, h1, r1⟩ := trodAll_cons r0
  obtain ⟨v2, vs2, d2, ds2, p2, q2, rfl, rfl, rfl, h2, r2⟩ := trodAll_cons r1
  obtain ⟨rfl, rfl, rfl⟩ := trodAll_nil r2
  obtain rfl : args = #[v0, v1, v2] := by cases args; simp_all
  obtain ⟨rfl, rfl⟩ := trodVars_none hV
  have k0 := h0
  have lt0 : ∀ x ∈ p0, x.block < W.heap.size := by obtain ⟨m, hm⟩ := k0; exact DataW.trod_lt m _ _ _ hm
  obtain ⟨xs0, pc0, rfl, f0⟩ := open_core (hval 0 25 v0 rfl rfl) h0
  have k1 := h1
  have lt1 : ∀ x ∈ p1, x.block < W.heap.size := by obtain ⟨m, hm⟩ := k1; exact DataW.trod_lt m _ _ _ hm
  obtain ⟨i1, rfl, f1⟩ := open_inst (hval 1 27 v1 rfl rfl) h1
  obtain ⟨x2, rfl, rfl, rfl, w2⟩ := open_int Try.underlying5 (hval 2 5 v2 rfl rfl) h2
  clear hA0 hval0
  refine (walk xs0 pc0 i1 x2 W f0.1 f0.2 f1 (u8_bounds w2)).mono fun e W' ⟨he, bel⟩ => ?_
  subst he
  exact ⟨_, rfl, _, _, _, [], _, [], hW', trodAll_mk1 (shut_bool Try.underlying4 _), (trodAll_cons_mk (Below.trod laidOut (by kernel_rfl) (of_decide_eq_true (by kernel_rfl)) k0 bel lt0) (trodAll_cons_mk (Below.trod laidOut (by kernel_rfl) (of_decide_eq_true (by kernel_rfl)) k1 bel lt1) (trodAll_cons_mk (shut_int Try.underlying5 w2) trodAll_mk0))), rfl, bel.frame _, fun h => by cases h⟩

theorem over : Rows.coreKeepsRow.holds Try.pinned (OpenSpec.ofChange Rows.coreKeepsSpec) :=
  OpenClaim.holds_of_wide 7 Try.f7 rfl rfl rfl rfl rfl rfl rfl ⟨rfl, rfl, rfl, rfl, rfl⟩ rfl rfl rfl rfl rfl (by kernel_rfl) Try.func7 (by kernel_rfl)
    (of_decide_eq_true (by kernel_rfl)) (by unfold Func.isWrapper; first | (rw [if_pos (by decide +kernel)]; kernel_rfl) | (rw [if_neg (by decide +kernel)]; exact ⟨rfl, rfl⟩))
    (fun os started H enc _ => lifted os started H enc)

/-- The statement. -/
theorem proved : Rows.CoreKeepsSaid := over
#print axioms proved
end Go.Proofs.Ytmjmedbepmdjcaa.coreKeeps
