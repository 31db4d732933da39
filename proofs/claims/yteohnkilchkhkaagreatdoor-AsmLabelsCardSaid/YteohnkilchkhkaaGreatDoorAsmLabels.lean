/- For any program and any number: AsmLabels returns true: labels besides in a program's own text change nothing of what is assembled; no condition. A tied card: the listed variables of the library are tied to the program's text. -/
import Derived.Test.YteohnkilchkhkaaGreatDoorAsmV
import Derived.Test.YteohnkilchkhkaaGreatDoorAsmG
import Derived.Test.YteohnkilchkhkaaGreatDoorOpenP
import Derived.Test.YteohnkilchkhkaaGreatDoorAsmK
namespace Go.Proofs.YteohnkilchkhkaaGreatDoor.asmLabels
open Go.ChangeShapes Go.WideShapes Go.ChangeAt Go.RowKit
set_option linter.unusedVariables false

set_option maxHeartbeats 2000000 in
theorem walk (c : Prg) (v : Value) (n : Int) (wf : PrgWf c) (h0 : 0 ≤ n) (h1 : n < 256) (w : World) (hv : Pv w v c) (L : Lb w) :
    Calls Tryz.prog 5 #[v, .int .u8 n] w fun e w' => e = .returned (.bool true) ∧ Below w.heap.size w w' := by
  have HV := Lib.hid (fun W (hW : Below w.heap.size w W) => hv.below hW)
  have HP := Lib.hid (fun W (hW : Below w.heap.size w W) => cAsmPrint c v W (HV.out W hW) wf.ins (L.below hW))
  have HLB := Lib.hid (fun W (hW : Below w.heap.size w W) => L.below hW)
  have HX : Hid (printV c = if prgB c = true then .tuple #[bs (printL c), .int .i64 0] else .tuple #[bs [], .int .i64 1]) := Lib.hid rfl
  have HS := Lib.hid (fun (d : Prg) (u : Value) W (hW : Below w.heap.size w W) (hu : Pv W u d) (hl : d.l.length ≤ 100000) => cSame d c u v W hu (HV.out W hW) hl)
  have HWA := Lib.hid (fun W (hW : Below w.heap.size w W) => lAwake W (L.below hW))
  obtain ⟨a, ca, rfl, hc1, hc2, _, hsl⟩ := hv
  have k1 := Bk.made w 25 #[.slice a c.l.length ca, .int .i64 c.lo, .int .i64 c.un]
  have b0 : Below w.heap.size w (w.alloc (.cells #[.slice a c.l.length ca, .int .i64 c.lo, .int .i64 c.un] 25)) := (Below.refl _ _).alloc (Nat.le_refl _) _
  clear hsl L
  go_enter Tryz.func5, Tryz.ntmps5
  go_upto_region 1 with fail
  generalize w.alloc (.cells #[.slice a c.l.length ca, .int .i64 c.lo, .int .i64 c.un] 25) = x at *
  obtain ⟨x0, x1, x2⟩ : x.cell? ⟨w.heap.size, 0, none⟩ = some (.slice a c.l.length ca) ∧ x.cell? ⟨w.heap.size, 1, none⟩ = some (.int .i64 c.lo) ∧ x.cell? ⟨w.heap.size, 2, none⟩ = some (.int .i64 c.un) := ⟨k1.cell 0, k1.cell 1, k1.cell 2⟩
  go_wp2_with fail
  refine (HP.out x b0).mono ?_
  rintro e y ⟨rfl, hy⟩
  replace k1 : Bk y _ _ _ := (hy.block _ k1.lt).trans k1
  replace b0 := b0.trans (hy.mono b0.size)
  clear x0 x1 x2 hy HP
  cases hpr : prgB c with
  | false =>
    have e0 : printV c = .tuple #[bs [], .int .i64 1] := by rw [HX.out, hpr]; simp
    rw [e0]
    unfold bs
    clear HX hpr e0
    go_wp2_with fail
    refine (HWA.out y b0).mono ?_
    rintro e z ⟨rfl, hz⟩
    go_wp2
    go_ret
    exact ⟨rfl, b0.trans (hz.mono b0.size)⟩
  | true =>
    have e0 : printV c = .tuple #[bs (printL c), .int .i64 0] := by rw [HX.out, hpr]; simp
    obtain ⟨m, hm, hm2⟩ : ∃ m : Nat, n % 3 = (m : Int) ∧ m ≤ 2 := ⟨(n % 3).toNat, by omega, by omega⟩
    have HG := Lib.hid (goD_print c hpr wf.ins m hm2)
    have hpl := print_len c hpr wf.ins
    have hcl : c.l.length ≤ 64 := (prg_facts hpr).1
    rw [e0]
    unfold bs
    clear HX hpr e0
    generalize printL c = s at *
    have HK : Hid (Below w.heap.size w y ∧ Bk y w.heap.size 25 #[.slice a c.l.length ca, .int .i64 c.lo, .int .i64 c.un]) := Lib.hid ⟨b0, k1⟩
    clear b0 k1
    go_wp2
    go_loopw [7, 8, 9, 24] (fun o l q i wr => ∃ (out line : List UInt8) (cnt j : Nat), o = .string ⟨out.toArray⟩ ∧ l = .string ⟨line.toArray⟩ ∧ q = .int .i64 cnt ∧ i = .int .i64 j ∧ j ≤ s.length ∧ cnt ≤ 2 * j ∧ out.length + line.length ≤ 11 * j ∧ Below y.heap.size y wr ∧ Hid (goD m (s.drop j) out line cnt = goD m s [] [] 0)) (fun _ _ _ i _ => s.length - (intOf i).toNat)
    case atStart => exact ⟨[], [], 0, 0, rfl, rfl, rfl, rfl, Nat.zero_le _, Nat.zero_le _, Nat.le_refl _, Below.refl _ _, Lib.hid rfl⟩
    case round =>
      obtain ⟨out, line, cnt, j, rfl, rfl, rfl, rfl, hj, hcn, hlen, hb, HD⟩ := hrel
      by_cases hlt : j < s.length
      · have hji : (j : Int) < s.length := by omega
        have hcut := fun W => run_cutS s j (j + 1) (by omega) (by omega) W
        have hl1 : j < (s.take (j + 1)).length := by simp; omega
        have hone : (s.take (j + 1)).drop j = [s.getD j 0] := by
          rw [List.drop_eq_getElem_cons hl1]
          simp [List.getD_eq_getElem?_getD, hlt]
        have e1 : ((j + 1 : Nat) : Int) = (j : Int) + 1 := by omega
        rw [hone] at hcut
        simp only [e1] at hcut
        have hix := fun W => run_ltr s j hlt W
        have hdr := Lib.hid (goD_drop m s out line cnt j hlt)
        have hcat := cat_bs line [s.getD j 0]
        have hcat2 : ¬ 9223372036854775807 < line.length + 1 := by omega
        clear e1 hone hl1
        generalize s.getD j 0 = ch at *
        by_cases h10 : ch = 10
        · subst h10
          have t10 : ((10 : UInt8).toNat : Int) = 10 := rfl
          rw [t10] at hix
          rw [if_pos rfl] at hdr
          clear t10
          go_wp2
          clear hcut hix
          generalize hln : line ++ [10] = ln at *
          have hlnl : ln.length = line.length + 1 := by rw [← hln]; simp
          have HH := Lib.hid (show 2 * j + 2 < 140000 ∧ out.length + line.length ≤ 11 * j ∧ j < 64064 by omega)
          go_loopw [7, 9, 41] (fun o q ix WW => ∃ (ob : List UInt8) (i t : Nat), o = .string ⟨ob.toArray⟩ ∧ q = .int .i64 (t : Int) ∧ ix = .int .i64 (i : Int) ∧ i ≤ m ∧ Below y.heap.size y WW ∧ t = cnt + i ∧ Hid (ob = out ++ xlabs i cnt)) (fun _ _ ix _ => m - (intOf ix).toNat)
          case atStart => exact ⟨out, 0, cnt, rfl, rfl, rfl, Nat.zero_le _, hb, rfl, Lib.hid (by rw [xlabs_0]; simp)⟩
          case round =>
            obtain ⟨ob, i, t, rfl, rfl, rfl, hi, hb2, ht, HO⟩ := hrel
            have hobl : ob.length = out.length + 5 * i := by rw [HO.out, List.length_append, xlabs_len]
            have hob2 := HH.out
            by_cases hil : i < m
            · have hii : (i : Int) < m := by omega
              have HN : Hid (out ++ xlabs (i + 1) cnt = ob ++ [120, UInt8.ofNat (97 + t / 26 % 26), UInt8.ofNat (97 + t % 26), 58, 10]) := Lib.hid (by rw [xlabs_succ, HO.out, ht]; simp [xnameL])
              have p1 : t / 26 % 26 < 26 := Nat.mod_lt _ (by decide)
              have p2 : t % 26 < 26 := Nat.mod_lt _ (by decide)
              have hcc1 : ((UInt8.ofNat (97 + t / 26 % 26)).toNat : Int) = 97 + ((t / 26 % 26 : Nat) : Int) := by
                rw [UInt8.toNat_ofNat', Nat.mod_eq_of_lt (by omega)]; omega
              have hcc2 : ((UInt8.ofNat (97 + t % 26)).toNat : Int) = 97 + ((t % 26 : Nat) : Int) := by
                rw [UInt8.toNat_ofNat', Nat.mod_eq_of_lt (by omega)]; omega
              have hcv := run_str2 (wr.alloc (.cells #[.int .u8 (97 + ((t / 26 % 26 : Nat) : Int)), .int .u8 (97 + ((t % 26 : Nat) : Int))] 5)) wr.heap.size (UInt8.ofNat (97 + t / 26 % 26)) (UInt8.ofNat (97 + t % 26)) (by rw [hcc1]; exact Bk.cell (Bk.made wr _ _) 0) (by rw [hcc2]; exact Bk.cell (Bk.made wr _ _) 1)
              have hq1 : (t : Int) / 26 = ((t / 26 : Nat) : Int) := by omega
              have hq2 : ((t / 26 : Nat) : Int) % 26 = ((t / 26 % 26 : Nat) : Int) := by omega
              have hq3 : (t : Int) % 26 = ((t % 26 : Nat) : Int) := by omega
              have hq4 : (t : Int).tmod 26 = ((t % 26 : Nat) : Int) := by rw [Int.tmod_eq_emod_of_nonneg (by omega)]; omega
              have hq5 : (t : Int).tdiv 26 = ((t / 26 : Nat) : Int) := by rw [Int.tdiv_eq_ediv_of_nonneg (by omega)]; omega
              have hq6 : ((t / 26 : Nat) : Int).tmod 26 = ((t / 26 % 26 : Nat) : Int) := by rw [Int.tmod_eq_emod_of_nonneg (by omega)]; omega
              have hw1 : IntKind.i64.wrap ((t / 26 : Nat) : Int) = ((t / 26 : Nat) : Int) := IntWalk.i64_in _ (by omega)
              have hw2 : IntKind.i64.wrap ((t / 26 % 26 : Nat) : Int) = ((t / 26 % 26 : Nat) : Int) := IntWalk.i64_in _ (by omega)
              have hw3 : IntKind.i64.wrap ((t % 26 : Nat) : Int) = ((t % 26 : Nat) : Int) := IntWalk.i64_in _ (by omega)
              have hw4 : IntKind.i64.wrap (97 + ((t / 26 % 26 : Nat) : Int)) = 97 + ((t / 26 % 26 : Nat) : Int) := IntWalk.i64_in _ (by omega)
              have hw5 : IntKind.i64.wrap (97 + ((t % 26 : Nat) : Int)) = 97 + ((t % 26 : Nat) : Int) := IntWalk.i64_in _ (by omega)
              have hw6 : IntKind.u8.wrap (97 + ((t / 26 % 26 : Nat) : Int)) = 97 + ((t / 26 % 26 : Nat) : Int) := by simp [IntKind.wrap, IntKind.signed, IntKind.bits]; omega
              have hw7 : IntKind.u8.wrap (97 + ((t % 26 : Nat) : Int)) = 97 + ((t % 26 : Nat) : Int) := by simp [IntKind.wrap, IntKind.signed, IntKind.bits]; omega
              have hb3 : Below y.heap.size y (wr.alloc (.cells #[.int .u8 (97 + ((t / 26 % 26 : Nat) : Int)), .int .u8 (97 + ((t % 26 : Nat) : Int))] 5)) := hb2.alloc hb2.size _
              generalize UInt8.ofNat (97 + t / 26 % 26) = c1 at *
              generalize UInt8.ofNat (97 + t % 26) = c2 at *
              have hk1 : (⟨#[120]⟩ : ByteArray) ++ ⟨#[c1, c2]⟩ = ⟨#[120, c1, c2]⟩ := cat_bs [120] [c1, c2]
              have hk2 : (⟨#[120, c1, c2]⟩ : ByteArray) ++ ⟨#[58, 10]⟩ = ⟨#[120, c1, c2, 58, 10]⟩ := cat_bs [120, c1, c2] [58, 10]
              have hk3 := cat_bs ob [120, c1, c2, 58, 10]
              have hk4 : ¬ 9223372036854775807 < ob.length + 5 := by omega
              clear hcc1 hcc2
              have HT := Lib.hid ht
              clear ht
              generalize hp1 : t / 26 % 26 = r1 at *
              generalize hp2 : t % 26 = r2 at *
              generalize hp3 : t / 26 = r3 at *
              clear hp1 hp2 hp3
              have hti : ¬ 9223372036854775807 < (t : Int) + 1 := by have := HT.out; omega
              clear hcat hcat2 HH HD hdr
              go_wp2
              go_roundw
              case rel => exact ⟨ob ++ [120, c1, c2, 58, 10], i + 1, t + 1, rfl, by go_num, by go_num, by omega, hb3, by have := HT.out; omega, Lib.hid HN.out.symm⟩
              case measure =>
                show m - ((i : Int) + 1).toNat < m - (i : Int).toNat
                omega
            · have hii : ¬ (i : Int) < m := by omega
              obtain rfl : i = m := by omega
              have hk1 := cat_bs ob ln
              have hk2 : ¬ 9223372036854775807 < ob.length + ln.length := by omega
              clear HH hcat hcat2
              go_wp2
              go_roundw
              case rel => exact ⟨ob ++ ln, [], t, j + 1, rfl, rfl, rfl, by go_num, by omega, by omega, by simp; omega, hb2, Lib.hid (by rw [← HD.out, hdr.out, HO.out, ht])⟩
              case measure =>
                show s.length - ((j : Int) + 1).toNat < s.length - (j : Int).toNat
                omega
        · have hne : ((ch.toNat : Int) == 10) = false := by
            simp only [beq_eq_false_iff_ne, ne_eq]
            intro h
            apply h10
            apply UInt8.toNat_inj.1
            show ch.toNat = 10
            omega
          rw [if_neg h10] at hdr
          clear h10
          go_wp2
          go_roundw
          case rel => exact ⟨out, line ++ [ch], cnt, j + 1, rfl, rfl, rfl, by go_num, by omega, by omega, by simp; omega, hb, Lib.hid (by rw [← HD.out, hdr.out])⟩
          case measure =>
            show s.length - ((j : Int) + 1).toNat < s.length - (j : Int).toNat
            omega
      · have hji : ¬ (j : Int) < s.length := by omega
        obtain rfl : j = s.length := by omega
        obtain ⟨b0, k1⟩ := HK.out
        have e2 : goD m (s.drop s.length) out line cnt = out := by rw [List.drop_length]; rfl
        have hoe : out = goD m s [] [] 0 := e2.symm.trans HD.out
        rw [← hoe] at HG
        have hbw := b0.trans (hb.mono b0.size)
        have HA := Lib.hid (fun W (hW : Below w.heap.size w W) => cAssemble out HG.out.2 W (HLB.out W hW))
        unfold Asmd at HA
        rw [HG.out.1] at HA
        unfold bs at HA
        clear HD e2 hoe hcn hlen HG
        go_wp2_with fail
        refine (HA.out wr hbw).mono ?_
        rintro e z ⟨u, rfl, hu, hz⟩
        have hPv := hu.pv
        obtain ⟨sl, rfl, hO⟩ := hu
        obtain ⟨a2, cap, rfl, hc, hm3, hg⟩ := own_is hO
        replace hb := hb.trans (hz.mono hb.size)
        have hK := Bk.made z 25 #[.slice a2 c.l.length cap, .int .i64 c.lo, .int .i64 c.un]
        have hz2 : Below z.heap.size z (z.alloc (.cells #[.slice a2 c.l.length cap, .int .i64 c.lo, .int .i64 c.un] 25)) := (Below.refl _ _).alloc (Nat.le_refl _) _
        clear hg hO HA hm3 hc hz hbw
        go_upto_region 19 with fail
        replace hb := hb.trans (hz2.mono hb.size)
        replace hPv := hPv.below hz2
        clear hz2
        generalize z.heap.size = q at *
        generalize z.alloc (.cells #[.slice a2 c.l.length cap, .int .i64 c.lo, .int .i64 c.un] 25) = Z at *
        have hbw := b0.trans (hb.mono b0.size)
        have kZ : Bk Z _ _ _ := (hb.block _ k1.lt).trans k1
        obtain ⟨y0, y1, y2⟩ : Z.cell? ⟨q, 0, none⟩ = some (.slice a2 c.l.length cap) ∧ Z.cell? ⟨q, 1, none⟩ = some (.int .i64 c.lo) ∧ Z.cell? ⟨q, 2, none⟩ = some (.int .i64 c.un) := ⟨hK.cell 0, hK.cell 1, hK.cell 2⟩
        obtain ⟨x0, x1, x2⟩ : Z.cell? ⟨w.heap.size, 0, none⟩ = some (.slice a c.l.length ca) ∧ Z.cell? ⟨w.heap.size, 1, none⟩ = some (.int .i64 c.lo) ∧ Z.cell? ⟨w.heap.size, 2, none⟩ = some (.int .i64 c.un) := ⟨kZ.cell 0, kZ.cell 1, kZ.cell 2⟩
        have HS2 := Lib.hid (HS.out c _ Z hbw hPv (by omega))
        have hsp : sameP c c = true := (sameP_iff c c).2 rfl
        rw [hsp] at HS2
        clear hsp HS HV
        go_wp2_with fail
        refine HS2.out.mono ?_
        rintro e z1 ⟨rfl, hz1⟩
        replace hbw := hbw.trans (hz1.mono hbw.size)
        go_wp2_with fail
        refine (HWA.out z1 hbw).mono ?_
        rintro e z2 ⟨rfl, hz2⟩
        go_wp2
        go_ret
        exact ⟨rfl, hbw.trans (hz2.mono hbw.size)⟩

theorem u8_in {n : Int} (h : (Lit.int .u8 n).wf = true) : 0 ≤ n ∧ n < 256 := by
  simp [Lit.wf, IntKind.min, IntKind.max, IntKind.bits, IntKind.signed] at h; omega

set_option maxRecDepth 100000 in
theorem lifted (os : Os) (started : os.Started) (H : Type) (enc : TypeId × Value → H) :
    ReturnsInHanded {} Tryz.checked os 5 .any (fun w args => (Rows.asmLabelsSpec.pre enc Tryz.prog Tryz.f5 [] false w args ∧ laidMetH Tryz.prog Rows.asmLabelsRow.laid w) ∧ sizedMet enc Tryz.prog Tryz.f5 (OpenSpec.ofChange Rows.asmLabelsSpec) false w args)
      (Rows.asmLabelsSpec.post enc Tryz.prog Tryz.f5 false true false false) := by
  refine returns_laid (C := Tryz.checked) (X := fun w _ => laidMetH Tryz.prog Rows.asmLabelsRow.laid w) (fun _ _ _ hh h => h.of_heap hh) own started (by kernel_rfl) Tryz.func5
    (ChangeSpec.witness_shaped (enc := enc) (C := Tryz.checked) (os := os) (X := fun w _ => laidMetH Tryz.prog Rows.asmLabelsRow.laid w) false (World.laidAll Tryz.prog os Rows.asmLabelsRow.laid) #[.agg #[.slice none 0 0, .int .i64 0, .int .i64 0], .int .u8 0] 8 (World.laidAll_os _ _ _)
      (World.shaped_of_ZipB (by kernel_rfl) (by kernel_rfl)) (by kernel_rfl) (by kernel_rfl) (by kernel_rfl)
      (by rw [MakeChecks.laidMetH_plain _ _ _ (by kernel_rfl)]; exact laidMet_laidAll _ (by kernel_rfl) (by kernel_rfl))) ?_
  intro W base args ds gs before hval0 hW hL hsh
  have hval : ∀ (j : Nat) t v, Tryz.f5.params[j]? = some t → args[j]? = some v → Value.okWide Tryz.prog W .any base t v := hval0
  have hW' := hW
  obtain ⟨p, q, hA0, hV, rfl, _, _⟩ := hW
  have hA : DataW.TrodAll enc Tryz.prog W 0 (fun _ => true) true Tryz.f5.params.toList args.toList ds p := hA0
  rw [Tryz.params5] at hA hval
  obtain ⟨v0, vs0, d0, ds0, p0, q0, hargs, rfl, rfl, h0, r0⟩ := trodAll_cons hA
  obtain ⟨v1, vs1, d1, ds1, p1, q1, rfl, rfl, rfl, h1, r1⟩ := trodAll_cons r0
  obtain ⟨rfl, rfl, rfl⟩ := trodAll_nil r1
  obtain rfl : args = #[v0, v1] := by cases args; simp_all
  obtain ⟨rfl, rfl⟩ := trodVars_none hV
  have k0 := h0
  have lt0 : ∀ x ∈ p0, x.block < W.heap.size := by obtain ⟨m, hm⟩ := k0; exact DataW.trod_lt m _ _ _ hm
  obtain ⟨c0, hP0, f0⟩ := open_code (hval 0 25 v0 rfl rfl) h0
  have k1 := h1
  have lt1 : ∀ x ∈ p1, x.block < W.heap.size := by obtain ⟨m, hm⟩ := k1; exact DataW.trod_lt m _ _ _ hm
  obtain ⟨x1, rfl, rfl, rfl, f1⟩ := open_int Tryz.underlying5 (hval 1 5 v1 rfl rfl) h1
  clear hA0 hval0
  rw [MakeChecks.laidMetH_plain _ _ _ (by kernel_rfl)] at hL
  refine (walk c0 v0 x1 f0 (u8_in f1).1 (u8_in f1).2 W hP0 (lb_of hL hsh)).mono fun e W' ⟨he, bel⟩ => ?_
  subst he
  exact ⟨_, rfl, _, _, _, [], _, [], hW', trodAll_mk1 (shut_bool Tryz.underlying4 _), (trodAll_cons_mk (Below.trod laidOut (by kernel_rfl) (of_decide_eq_true (by kernel_rfl)) k0 bel lt0) (trodAll_cons_mk (Below.trod laidOut (by kernel_rfl) (of_decide_eq_true (by kernel_rfl)) k1 bel lt1) trodAll_mk0)), rfl, bel.frame _, fun h => by cases h⟩

theorem over : Rows.asmLabelsRow.holds Tryz.pinned (OpenSpec.ofChange Rows.asmLabelsSpec) :=
  OpenClaim.holds_of_wide 5 Tryz.f5 rfl rfl rfl rfl rfl rfl rfl ⟨rfl, rfl, rfl, rfl, rfl⟩ rfl rfl rfl rfl rfl (by kernel_rfl) Tryz.func5 (by kernel_rfl)
    (of_decide_eq_true (by kernel_rfl)) (by unfold Func.isWrapper; first | (rw [if_pos (by decide +kernel)]; kernel_rfl) | (rw [if_neg (by decide +kernel)]; exact ⟨rfl, rfl⟩))
    (fun os started H enc _ => lifted os started H enc)

/-- The statement. -/
theorem proved : Rows.AsmLabelsCardSaid :=
  Claim7.holds_tied_plain_at .later [] Rows.asmLabelsCard.laidKinds true Rows.asmLabelsCard.stood.harness true over (fun _ h => by cases h) (by kernel_rfl) (fun _ h => by cases h) asmLabels_row_tie rfl ⟨rfl, rfl⟩ (by kernel_rfl) rfl
    (fun f fn hf hfn => by
      obtain rfl : f = 5 := Option.some.inj ((show Tryz.prog.funcNamed Rows.asmLabelsRow.func = some 5 by kernel_rfl).symm.trans hf) |>.symm
      obtain rfl : fn = Tryz.f5 := (Option.some.inj (Tryz.func5.symm.trans hfn)).symm
      exact ⟨by kernel_rfl, fun j t ht => by
        rw [Tryz.params5] at ht
        have hm : t ∈ [25, 5] := by simpa using Array.mem_of_getElem? ht
        have hall : ([25, 5].all fun u => !Tryz.prog.wantsStandIn u) = true := by kernel_rfl
        exact (show Tryz.prog.wantsStandIn t = false by simpa using List.all_eq_true.1 hall t hm)⟩)
    (by kernel_rfl)
#print axioms proved
end Go.Proofs.YteohnkilchkhkaaGreatDoor.asmLabels

