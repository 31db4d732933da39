/- InstH, RuJ, AsmD, AsmY, AsmX, AsmE. -/
import Derived.Test.YthdgehcghklflaaGreatDoorKInstH2
import Derived.Test.YthdgehcghklflaaGreatDoorKAsmM
import Derived.Test.YthdgehcghklflaaGreatDoorKInstT
import Derived.Test.YthdgehcghklflaaGreatDoorKInstA
import Derived.Test.YthdgehcghklflaaGreatDoorKLnA
/- The document's Parse. -/
namespace Go.Proofs.YthdgehcghklflaaGreatDoor
open Go.ChangeShapes Go.WideShapes Go.ChangeAt Go.RowKit
set_option linter.unusedVariables false

set_option maxHeartbeats 40000000 in
set_option maxRecDepth 100000 in
theorem rParse (s : List UInt8) (hl : s.length < 100000) (w : World) :
    Calls Tryz.prog 102 #[bs s] w fun e w' => e = .returned (parseRV s) ∧ Below w.heap.size w w' := by
  have HW := Lib.hid (fun W => rWords s hl W)
  have hpos := wordsL_pos s
  have HE := Lib.hid (show parseRV s = if ((wordsL s).tail.all okW && (rightB (draftR (wordsL s)) 1073741824 && decide (textL (draftR (wordsL s)) = s))) = true then .tuple #[iv (draftR (wordsL s)), .bool true] else .tuple #[iv Ins.zero, .bool false] from rfl)
  have HLE := Lib.hid (wordsL_le s)
  have hlen := wordsL_len s
  generalize parseRV s = res at *
  generalize wordsL s = ws at *
  unfold bs
  go_enter Tryz.func102, Tryz.ntmps102
  go_wp2_with fail
  have b1 : Below w.heap.size w (w.alloc (.cells #[.int .i64 0, .int .i64 0, .int .i64 0, .int .i64 0, .int .i64 0, .int .i64 0, .int .u32 0, .int .i64 0] 125)) := (Below.refl _ _).alloc (Nat.le_refl _) _
  have m1 : Jb (w.alloc (.cells #[.int .i64 0, .int .i64 0, .int .i64 0, .int .i64 0, .int .i64 0, .int .i64 0, .int .u32 0, .int .i64 0] 125)) w.heap.size Ins.zero := Bk.made _ _ _
  generalize w.alloc (.cells #[.int .i64 0, .int .i64 0, .int .i64 0, .int .i64 0, .int .i64 0, .int .i64 0, .int .u32 0, .int .i64 0] 125) = x1 at *
  refine (HW.out x1).mono ?_
  rintro e x2 ⟨v, rfl, hV, b2⟩
  replace m1 := m1.below b2
  replace b1 := b1.trans (b2.mono b1.size)
  clear b2 x1
  obtain ⟨gl, cap, rfl, hS⟩ := ws_of hV hpos
  clear hV HW
  have hlt2 : w.heap.size < x2.heap.size := Bk.lt m1
  go_upto_block 0 with fail
  have b5 : Below w.heap.size w (x2.alloc (.cells #[.int .i64 0, .int .i64 0, .int .i64 0, .int .i64 0, .int .i64 0, .int .i64 0, .int .u32 0, .int .i64 0] 125)) := b1.alloc b1.size _
  have m5 : Jb (x2.alloc (.cells #[.int .i64 0, .int .i64 0, .int .i64 0, .int .i64 0, .int .i64 0, .int .i64 0, .int .u32 0, .int .i64 0] 125)) x2.heap.size Ins.zero := Bk.made _ _ _
  have m1' : Jb (x2.alloc (.cells #[.int .i64 0, .int .i64 0, .int .i64 0, .int .i64 0, .int .i64 0, .int .i64 0, .int .u32 0, .int .i64 0] 125)) w.heap.size Ins.zero := Bk.alloc m1 _
  have hS' : WsAt (x2.alloc (.cells #[.int .i64 0, .int .i64 0, .int .i64 0, .int .i64 0, .int .i64 0, .int .i64 0, .int .u32 0, .int .i64 0] 125)) gl cap ws := hS.below ((Below.refl _ _).alloc (Nat.le_refl _) _)
  have hg5 : gl ≠ x2.heap.size := Nat.ne_of_lt hS.lt
  have h25 : w.heap.size ≠ x2.heap.size := Nat.ne_of_lt hlt2
  have h2l : w.heap.size < x2.heap.size := hlt2
  clear m1 hS b1 hlt2
  generalize x2.heap.size = B5 at *
  generalize x2.alloc (.cells #[.int .i64 0, .int .i64 0, .int .i64 0, .int .i64 0, .int .i64 0, .int .i64 0, .int .u32 0, .int .i64 0] 125) = x3 at *
  clear x2
  go_cut [] from 216 (fun wx => Below w.heap.size w wx ∧ Jb wx w.heap.size Ins.zero ∧ Jb wx B5 ⟨opTo (ws.getD 0 []) 23, 0, 0, 0, 0, 0, 0, 0⟩ ∧ WsAt wx gl cap ws)
  case first =>
    go_wp2
    go_loopw [6] (fun v x => ∃ n : Nat, n ≤ 23 ∧ v = .int .i64 ((n : Int) + 1) ∧ Below w.heap.size w x ∧ Jb x w.heap.size Ins.zero ∧ Jb x B5 ⟨opTo (ws.getD 0 []) n, 0, 0, 0, 0, 0, 0, 0⟩ ∧ WsAt x gl cap ws) (fun v _ => 24 - (intOf v).toNat)
    case atStart => exact ⟨0, by omega, rfl, b5, m1', m5, hS'⟩
    case round =>
      clear b5 m5 m1' hS'
      obtain ⟨n, hn, rfl, hb, hR, hI, hS⟩ := hrel
      generalize wr = x at *
      have hx2 : w.heap.size < x.heap.size := Bk.lt hR
      by_cases hlt : n < 23
      · have HN := Lib.hid (show ∀ W, Calls Tryz.prog 104 #[.int .i64 ((n : Int) + 1)] W fun e w' => e = .returned (.string ⟨(nmL ((n : Int) + 1)).toArray⟩) ∧ Below W.heap.size W w' from fun W => rName ((n : Int) + 1) W)
        have ho := opTo_succ (ws.getD 0 []) n
        have hc0 := hS.at_ 0 hpos
        have g0 : ∀ g : Grw x, g.x.cell? ⟨gl, 0, none⟩ = some (.string ⟨(ws.getD 0 []).toArray⟩) := fun g => g.cell hc0
        clear hc0
        generalize nmL ((n : Int) + 1) = nm at *
        generalize ws.getD 0 [] = w0 at *
        generalize opTo w0 n = op at *
        have HO := Lib.hid ho
        clear ho
        have hle : (n : Int) + 1 ≤ 23 := by omega
        have hlen0 : (0 : Int) < (ws.length : Int) := by omega
        by_cases he : nm = []
        · subst he
          rw [if_neg (by simp)] at HO
          go_wp2_with fail
          refine wp_region_grow (by kernel_rfl) (by kernel_rfl) ?_
          repeat (go_big_quiet_step ((go_at_call 104; with_reducible exact grw_call (HN.out _))))
          refine wpQuiet_nil ?_
          rintro y ⟨⟨_, hy⟩, rfl⟩
          replace hb := hb.trans (hy.mono (Nat.le_of_lt hx2))
          replace hR := hR.below hy
          replace hI := hI.below hy
          replace hS := hS.below hy
          clear g0 hy hx2
          go_wp2
          go_roundw
          case rel => exact ⟨n + 1, by omega, by go_num, hb, hR, by rw [HO.out]; exact hI, hS⟩
          case measure => (simp [intOf] <;> omega)
        have he1 : nm.isEmpty = false := by simpa using he
        by_cases hq : nm = w0
        · subst hq
          rw [if_pos ⟨he1, rfl⟩] at HO
          have hq1 : (nm == nm) = true := by simp
          clear he
          go_wp2_with fail
          refine wp_region_grow (by kernel_rfl) (by kernel_rfl) ?_
          repeat (go_big_quiet_step ((go_at_call 104; with_reducible exact grw_call (HN.out _))))
          refine wpQuiet_nil ?_
          rintro y ⟨⟨_, hy⟩, rfl⟩
          replace hb := hb.trans (hy.mono (Nat.le_of_lt hx2))
          replace hR := hR.below hy
          replace hI := hI.below hy
          replace hS := hS.below hy
          clear g0 hy hx2
          obtain ⟨c0, -⟩ := hI.cells
          have hf := Bk.free hI
          go_wp2
          go_roundw
          case rel =>
            refine ⟨n + 1, by omega, by go_num, hb.setCell (p := ⟨B5, 0, none⟩) (Nat.le_of_lt h2l) _, Bk.off hR h25 _, ?_, ?_⟩
            · rw [HO.out]
              exact Bk.put hI 0 (.int .i64 ((n : Int) + 1))
            · refine ⟨by simpa using hS.lt, hS.le, hS.small, fun j hj => ?_⟩
              rw [cell_off hg5]
              exact hS.at_ j hj
          case measure => (simp [intOf] <;> omega)
        · rw [if_neg (fun h => hq h.2)] at HO
          have hq1 : (nm == w0) = false := by simpa using hq
          clear he hq
          go_wp2_with fail
          refine wp_region_grow (by kernel_rfl) (by kernel_rfl) ?_
          repeat (go_big_quiet_step ((go_at_call 104; with_reducible exact grw_call (HN.out _))))
          refine wpQuiet_nil ?_
          rintro y ⟨⟨_, hy⟩, rfl⟩
          replace hb := hb.trans (hy.mono (Nat.le_of_lt hx2))
          replace hR := hR.below hy
          replace hI := hI.below hy
          replace hS := hS.below hy
          clear g0 hy hx2
          go_wp2
          go_roundw
          case rel => exact ⟨n + 1, by omega, by go_num, hb, hR, by rw [HO.out]; exact hI, hS⟩
          case measure => (simp [intOf] <;> omega)
      · obtain rfl : n = 23 := by omega
        go_wp2
        go_meet
        case rel => exact ⟨hb, hR, hI, hS⟩
  case rest =>
  clear b5 m5 m1' hS'
  obtain ⟨hb, hR, hI, hS⟩ := hcut
  generalize hop : opTo (ws.getD 0 []) 23 = op at *
  have HOP := Lib.hid hop
  clear hop
  have hx2 : w.heap.size < wc.heap.size := Bk.lt hR
  have hSl := hS.lt
  have hIl := Bk.lt hI
  have hP : PAt w wc wc.heap.size B5 gl cap ws op [] [] [] (.slice none 0 0) (.slice none 0 0) :=
    ⟨hb, hR, hI, hS, Lst.nil _ _ _, Lst.nil _ _ _, (fun g e => by cases e), (fun g e => by cases e), (fun g e => by cases e), Nat.le_refl _, hx2, hIl, hSl⟩
  have hcl := hS.le
  have hcm := hS.small
  clear hb hR hI hS
  generalize wc.heap.size = H at *
  unfold maxLen at hcm
  have hw5 : ws.length ≤ 100001 := by omega
  obtain ⟨A, hsl, hA⟩ := run_tail gl ws.length cap (by omega) hcl (by omega)
  have hws1 : 1 ≤ (ws.length : Int) := by omega
  go_upto_block 2 with fail
  go_cut [7, 8] from 216 (fun rv nv wx => ws.tail.all okW = true ∧ PAt w wx H B5 gl cap ws op ws.tail (regsOf ws.tail) (numsOf ws.tail) rv nv)
  case first =>
    go_wp2
    go_loopw [7, 8, 38] (fun rv nv c y => ∃ j : Nat, j ≤ ws.length - 1 ∧ c = .int .i64 j ∧ (ws.tail.take j).all okW = true ∧ PAt w y H B5 gl cap ws op (ws.tail.take j) (regsOf (ws.tail.take j)) (numsOf (ws.tail.take j)) rv nv) (fun _ _ c _ => ws.length - 1 - (intOf c).toNat)
    case atStart => exact ⟨0, Nat.zero_le _, rfl, rfl, hP⟩
    case round =>
      clear hP
      obtain ⟨j, hj, rfl, hok, hP⟩ := hrel
      generalize wr = y at *
      by_cases hlt : j < ws.length - 1
      · obtain rfl := hA (by omega)
        have hwc := hP.words.at_ (j + 1) (by omega)
        rw [Nat.add_comm j 1] at hwc
        have hsn := tail_snoc ws j (by omega)
        have hwl : (ws.getD (1 + j) []).length < 100000 := by
          have := HLE.out (ws.getD (1 + j) []) (by simp [show 1 + j < ws.length by omega])
          omega
        rw [Nat.add_comm j 1] at hsn
        have hrl := regsOf_len (ws.tail.take j)
        have hnl := numsOf_len (ws.tail.take j)
        have htl : (ws.tail.take j).length ≤ 100000 := by simp; omega
        have hokb : ∀ b, okW (ws.getD (1 + j) []) = b → b = false → ws.tail.all okW = false := by
          intro b e1 e2
          rw [Bool.eq_false_iff]
          intro ha
          have := List.all_eq_true.1 ha (ws.getD (1 + j) []) (by
            have : (ws.getD (1 + j) []) = ws.tail[j]'(by simp; omega) := by simp [Nat.add_comm 1 j, show j + 1 < ws.length by omega]
            rw [this]
            exact List.getElem_mem _)
          rw [e1, e2] at this
          cases this
        generalize hwd : ws.getD (1 + j) [] = wd at *
        generalize ws.tail.take j = l at *
        have HSN := Lib.hid hsn
        have HOK := Lib.hid hok
        have HOB := Lib.hid hokb
        clear hsn hok hwd hokb
        have HRg := Lib.hid (show Calls Tryz.prog 142 #[.string ⟨wd.toArray⟩] y fun e w' => e = .returned (.int .i64 (regL wd)) ∧ y = w' from rRegister wd hwl y)
        have HNb := Lib.hid (show Calls Tryz.prog 143 #[.string ⟨wd.toArray⟩] y fun e w' => e = .returned (.int .i64 (numL wd)) ∧ y = w' from rNumber wd hwl y)
        have er : regOf wd = if 0 ≤ regL wd then [regL wd] else [] := rfl
        have en : numOf wd = if 0 ≤ regL wd then [] else if 0 ≤ numL wd then [numL wd] else [] := rfl
        have ei : isNe wd = (!decide (0 ≤ regL wd) && (!decide (0 ≤ numL wd) && decide (wd = [110, 101]))) := rfl
        have eo : okW wd = (decide (0 ≤ regL wd) || (decide (0 ≤ numL wd) || (decide (wd = [110, 101]) || (decide (wd = [101, 113]) || decide (wd = [101, 108, 115, 101]))))) := rfl
        have s1 := regsOf_snoc l wd
        have s2 := numsOf_snoc l wd
        have s3 := kOf_snoc l wd
        generalize regL wd = rg at *
        generalize numL wd = nb at *
        have hlt2 : (j : Int) < ((ws.length - 1 : Nat) : Int) := by omega
        have hj5 : (j : Int) ≤ 100000 := by omega
        by_cases h1 : 0 ≤ rg
        · rw [if_pos h1] at er en
          have e3 : isNe wd = false := by rw [ei]; simp [h1]
          have e4 : okW wd = true := by rw [eo]; simp [h1]
          rw [er] at s1
          rw [en, List.append_nil] at s2
          rw [e3, if_neg (by decide)] at s3
          have S1 := Lib.hid s1
          have S2 := Lib.hid s2
          have S3 := Lib.hid s3
          have E4 := Lib.hid e4
          clear s1 s2 s3 er en ei eo e3 e4
          go_wp2_with fail
          refine HRg.out.mono ?_
          rintro e w' ⟨rfl, rfl⟩
          go_wp2_with (at_builtin; refine wpLstApp (by rfl) _ _ 26 (by rfl) 8 Tryz.underlying26 (by kernel_rfl) (by decide) hP.regs (by rfl) rg (by rfl) (by omega) ?_; intro v' y' hL' hg hloc)
          go_roundw
          case rel => first | exact ⟨j + 1, by omega, by go_num, by rw [Nat.add_comm j 1, HSN.out, List.all_append, HOK.out]; simp [E4.out], by rw [Nat.add_comm j 1, HSN.out, S1.out, S2.out]; exact hP.reg hg hL' hloc S3.out⟩ | ((repeat apply Exists.intro); exact ⟨⟨j + 1, by omega, by go_num, by rw [Nat.add_comm j 1, HSN.out, List.all_append, HOK.out]; simp [E4.out], by rw [Nat.add_comm j 1, HSN.out, S1.out, S2.out]; exact hP.reg hg hL' hloc S3.out⟩, rfl⟩)
          case measure => (simp [intOf] <;> omega)
        have h1' : decide (rg ≥ 0) = false := by simpa using h1
        rw [if_neg h1] at er en
        rw [er, List.append_nil] at s1
        by_cases h2 : 0 ≤ nb
        · rw [if_pos h2] at en
          have e3 : isNe wd = false := by rw [ei]; simp [h2]
          have e4 : okW wd = true := by rw [eo]; simp [h2]
          rw [en] at s2
          rw [e3, if_neg (by decide)] at s3
          have S1 := Lib.hid s1
          have S2 := Lib.hid s2
          have S3 := Lib.hid s3
          have E4 := Lib.hid e4
          clear s1 s2 s3 er en ei eo e3 e4 h1
          go_wp2_with fail
          refine HRg.out.mono ?_
          rintro e w' ⟨rfl, rfl⟩
          go_wp2_with fail
          refine HNb.out.mono ?_
          rintro e w' ⟨rfl, rfl⟩
          go_wp2_with (at_builtin; refine wpLstApp (by rfl) _ _ 26 (by rfl) 8 Tryz.underlying26 (by kernel_rfl) (by decide) hP.nums (by rfl) nb (by rfl) (by omega) ?_; intro v' y' hL' hg hloc)
          go_roundw
          case rel => first | exact ⟨j + 1, by omega, by go_num, by rw [Nat.add_comm j 1, HSN.out, List.all_append, HOK.out]; simp [E4.out], by rw [Nat.add_comm j 1, HSN.out, S1.out, S2.out]; exact hP.num hg hL' hloc S3.out⟩ | ((repeat apply Exists.intro); exact ⟨⟨j + 1, by omega, by go_num, by rw [Nat.add_comm j 1, HSN.out, List.all_append, HOK.out]; simp [E4.out], by rw [Nat.add_comm j 1, HSN.out, S1.out, S2.out]; exact hP.num hg hL' hloc S3.out⟩, rfl⟩)
          case measure => (simp [intOf] <;> omega)
        have h2' : decide (nb ≥ 0) = false := by simpa using h2
        rw [if_neg h2] at en
        rw [en, List.append_nil] at s2
        have S1 := Lib.hid s1
        have S2 := Lib.hid s2
        clear s1 s2 er en
        by_cases h3 : wd = [110, 101]
        · subst h3
          have e3 : isNe [110, 101] = true := by rw [ei]; simp [h1, h2]
          have e4 : okW [110, 101] = true := by rw [eo]; simp
          rw [e3, if_pos rfl] at s3
          have S3 := Lib.hid s3
          have E4 := Lib.hid e4
          clear s3 ei eo e3 e4 h1 h2
          obtain ⟨-, -, -, -, -, -, c6, -⟩ := hP.ins.cells
          simp only at c6
          have hf := Bk.free hP.ins
          go_wp2_with fail
          refine HRg.out.mono ?_
          rintro e w' ⟨rfl, rfl⟩
          go_wp2_with fail
          refine HNb.out.mono ?_
          rintro e w' ⟨rfl, rfl⟩
          go_wp2
          go_roundw
          case rel => first | exact ⟨j + 1, by omega, by go_num, by rw [Nat.add_comm j 1, HSN.out, List.all_append, HOK.out]; simp [E4.out], by rw [Nat.add_comm j 1, HSN.out, S1.out, S2.out]; exact hP.one h2l hg5 S3.out⟩ | ((repeat apply Exists.intro); exact ⟨⟨j + 1, by omega, by go_num, by rw [Nat.add_comm j 1, HSN.out, List.all_append, HOK.out]; simp [E4.out], by rw [Nat.add_comm j 1, HSN.out, S1.out, S2.out]; exact hP.one h2l hg5 S3.out⟩, rfl⟩)
          case measure => (simp [intOf] <;> omega)
        have n3 : (wd == [110, 101]) = false := by simpa using h3
        have e3 : isNe wd = false := by rw [ei]; simp [h3]
        rw [e3, if_neg (by decide)] at s3
        have S3 := Lib.hid s3
        clear s3 ei e3
        by_cases h4 : wd = [101, 113] ∨ wd = [101, 108, 115, 101]
        · have e4 : okW wd = true := by rw [eo]; rcases h4 with h | h <;> simp [h]
          have E4 := Lib.hid e4
          clear eo e4 h1 h2 h3
          rcases h4 with rfl | rfl
          all_goals
            go_wp2_with fail
            refine HRg.out.mono ?_
            rintro e w' ⟨rfl, rfl⟩
            go_wp2_with fail
            refine HNb.out.mono ?_
            rintro e w' ⟨rfl, rfl⟩
            go_wp2
            go_roundw
            case rel => first | exact ⟨j + 1, by omega, by go_num, by rw [Nat.add_comm j 1, HSN.out, List.all_append, HOK.out]; simp [E4.out], by rw [Nat.add_comm j 1, HSN.out, S1.out, S2.out]; exact hP.skip S3.out⟩ | ((repeat apply Exists.intro); exact ⟨⟨j + 1, by omega, by go_num, by rw [Nat.add_comm j 1, HSN.out, List.all_append, HOK.out]; simp [E4.out], by rw [Nat.add_comm j 1, HSN.out, S1.out, S2.out]; exact hP.skip S3.out⟩, rfl⟩)
            case measure => (simp [intOf] <;> omega)
        · have n4 : (wd == [101, 113]) = false := by simp; exact fun e => h4 (.inl e)
          have n5 : (wd == [101, 108, 115, 101]) = false := by simp; exact fun e => h4 (.inr e)
          have m4 : (wd != [101, 113]) = true := by simp; exact fun e => h4 (.inl e)
          have m5 : (wd != [101, 108, 115, 101]) = true := by simp; exact fun e => h4 (.inr e)
          have e4 : okW wd = false := by rw [eo]; simp [h1, h2, h3]; exact ⟨fun e => h4 (.inl e), fun e => h4 (.inr e)⟩
          have E5 := Lib.hid (HOB.out false e4 rfl)
          clear eo e4 h1 h2 h3 h4
          go_wp2_with fail
          refine HRg.out.mono ?_
          rintro e w' ⟨rfl, rfl⟩
          go_wp2_with fail
          refine HNb.out.mono ?_
          rintro e w' ⟨rfl, rfl⟩
          obtain ⟨q0, q1, q2, q3, q4, q5, q6, q7⟩ := hP.res.cells
          unfold Ins.zero at q0 q1 q2 q3 q4 q5 q6 q7
          simp only at q0 q1 q2 q3 q4 q5 q6 q7
          have hfz := Bk.free hP.res
          go_upto_region 21 with fail
          go_wp
          generalize hv : ((((((((y.setCell ⟨w.heap.size, 0, none⟩ (.int .i64 0)).setCell ⟨w.heap.size, 1, none⟩ (.int .i64 0)).setCell ⟨w.heap.size, 2, none⟩ (.int .i64 0)).setCell ⟨w.heap.size, 3, none⟩ (.int .i64 0)).setCell ⟨w.heap.size, 4, none⟩ (.int .i64 0)).setCell ⟨w.heap.size, 5, none⟩ (.int .i64 0)).setCell ⟨w.heap.size, 6, none⟩ (.int .u32 0)).setCell ⟨w.heap.size, 7, none⟩ (.int .i64 0)) = v9
          have hv2 : put8 y w.heap.size Ins.zero = v9 := hv
          clear hv
          have hA := put8_jb (i := Ins.zero) hP.res
          have hC := put8_below (i := Ins.zero) hP.below (Nat.le_refl _)
          rw [hv2] at hA hC
          clear hv2 q0 q1 q2 q3 q4 q5 q6 q7
          obtain ⟨q0, q1, q2, q3, q4, q5, q6, q7⟩ := hA.cells
          unfold Ins.zero at q0 q1 q2 q3 q4 q5 q6 q7
          simp only at q0 q1 q2 q3 q4 q5 q6 q7
          refine bodyPost_ret (v := .tuple #[.agg #[.int .i64 0, .int .i64 0, .int .i64 0, .int .i64 0, .int .i64 0, .int .i64 0, .int .u32 0, .int .i64 0], .bool false]) (by simp [results, Tryz.results102, go_sem, q0, q1, q2, q3, q4, q5, q6, q7]) rfl ⟨?_, hC⟩
          rw [HE.out, E5.out]
          rfl
      · obtain rfl : j = ws.length - 1 := by omega
        have htk : ws.tail.take (ws.length - 1) = ws.tail := List.take_of_length_le (by simp)
        rw [htk] at hok hP
        have HK := Lib.hid hok
        clear hok htk
        go_wp2
        go_meet
        case rel => exact ⟨HK.out, hP⟩
  case rest =>
  clear hP
  obtain ⟨hok, hP⟩ := hcut
  have hrl := regsOf_len ws.tail
  have hnl := numsOf_len ws.tail
  have htl : ws.tail.length ≤ 100000 := by simp; omega
  have HDR := Lib.hid (show draftR ws = finI op (padTo 4 0 (regsOf ws.tail)) (padTo 2 (-1) (numsOf ws.tail)) (kOf ws.tail) by unfold draftR; rw [HOP.out])
  have HOK := Lib.hid hok
  clear hok hsl hA HLE hpos hlen hws1 hcl hcm
  generalize regsOf ws.tail = rs0 at *
  generalize numsOf ws.tail = ns0 at *
  generalize ws.tail = tl at *
  go_upto_block 4 with fail
  go_cut [7] from 216 (fun rv wx => PAt w wx H B5 gl cap ws op tl (padTo 4 0 rs0) ns0 rv u8)
  case first =>
    go_wp2
    go_loopw [7] (fun rv z => ∃ k : Nat, k ≤ 4 - rs0.length ∧ PAt w z H B5 gl cap ws op tl (rs0 ++ List.replicate k 0) ns0 rv u8) (fun rv _ => 4 - sliceLen rv)
    case atStart => exact ⟨0, Nat.zero_le _, by simpa using hP⟩
    case round =>
      clear hP
      obtain ⟨k, hk, hP⟩ := hrel
      generalize wr = z at *
      have hln : (rs0 ++ List.replicate k 0).length = rs0.length + k := by simp
      have his := hP.regs.is
      rw [hln] at his
      obtain ⟨ra, rc, hrv, hr1, hr2, hr3⟩ := his
      have HRV := Lib.hid hrv
      have HR3 := Lib.hid hr3
      clear hr3
      by_cases h4 : rs0.length + k < 4
      · have h4' : ((rs0.length + k : Nat) : Int) < 4 := by omega
        have hlr : (rs0 ++ List.replicate k 0).length < 1000000 := by omega
        clear hln
        subst hrv
        go_wp2_with (at_builtin; refine wpLstApp (by rfl) _ _ 26 (by rfl) 8 Tryz.underlying26 (by kernel_rfl) (by decide) hP.regs (by rfl) 0 (by rfl) hlr ?_; intro v' y' hL' hg hloc)
        go_roundw
        case rel => first | exact ⟨k + 1, by omega, by rw [← pad_snoc]; exact hP.reg hg hL' hloc rfl⟩ | ((repeat apply Exists.intro); exact ⟨⟨k + 1, by omega, by rw [← pad_snoc]; exact hP.reg hg hL' hloc rfl⟩, rfl⟩)
        case measure =>
          have hlv := hL'.is
          obtain ⟨qa, qc, hqv, -⟩ := hlv
          rw [hqv]
          simp [sliceLen]
          omega
      · obtain rfl : k = 4 - rs0.length := by omega
        have h4' : ¬ ((rs0.length + (4 - rs0.length) : Nat) : Int) < 4 := by omega
        clear hln hk
        subst hrv
        generalize hm4 : rs0.length + (4 - rs0.length) = m4 at *
        have HM4 := Lib.hid hm4
        clear hm4 HRV HR3 hr1 hr2
        go_wp2
        go_meet
        case rel => exact hP
  case rest =>
  clear hP
  have hP := hcut
  clear hcut
  have hlp : 4 ≤ (padTo 4 0 rs0).length ∧ (padTo 4 0 rs0).length ≤ 100004 := by unfold padTo; simp; omega
  generalize padTo 4 0 rs0 = rs at *
  go_upto_block 6 with fail
  go_cut [8] from 216 (fun nv wx => PAt w wx H B5 gl cap ws op tl rs (padTo 2 (-1) ns0) u7 nv)
  case first =>
    go_wp2
    go_loopw [8] (fun nv y => ∃ k : Nat, k ≤ 2 - ns0.length ∧ PAt w y H B5 gl cap ws op tl rs (ns0 ++ List.replicate k (-1)) u7 nv) (fun nv _ => 2 - sliceLen nv)
    case atStart => exact ⟨0, Nat.zero_le _, by simpa using hP⟩
    case round =>
      clear hP
      obtain ⟨k, hk, hP⟩ := hrel
      generalize wr = y at *
      have hln : (ns0 ++ List.replicate k (-1)).length = ns0.length + k := by simp
      have his := hP.nums.is
      rw [hln] at his
      obtain ⟨na, nc, hnv, hn1, hn2, -⟩ := his
      by_cases h2 : ns0.length + k < 2
      · have h2' : ((ns0.length + k : Nat) : Int) < 2 := by omega
        have hlr : (ns0 ++ List.replicate k (-1)).length < 1000000 := by omega
        clear hln
        subst hnv
        go_wp2_with (at_builtin; refine wpLstApp (by rfl) _ _ 26 (by rfl) 8 Tryz.underlying26 (by kernel_rfl) (by decide) hP.nums (by rfl) (-1) (by rfl) hlr ?_; intro v' y' hL' hg hloc)
        go_roundw
        case rel => first | exact ⟨k + 1, by omega, by rw [← pad_snoc]; exact hP.num hg hL' hloc rfl⟩ | ((repeat apply Exists.intro); exact ⟨⟨k + 1, by omega, by rw [← pad_snoc]; exact hP.num hg hL' hloc rfl⟩, rfl⟩)
        case measure =>
          have hlv := hL'.is
          obtain ⟨qa, qc, hqv, -⟩ := hlv
          rw [hqv]
          simp [sliceLen]
          omega
      · obtain rfl : k = 2 - ns0.length := by omega
        have h2' : ¬ ((ns0.length + (2 - ns0.length) : Nat) : Int) < 2 := by omega
        clear hln hk
        subst hnv
        generalize hm2 : ns0.length + (2 - ns0.length) = m2 at *
        have HM2 := Lib.hid hm2
        clear hm2 hn1 hn2
        go_wp2
        go_meet
        case rel => exact hP
  case rest =>
  clear hP
  have hP := hcut
  clear hcut
  have hlp2 : 2 ≤ (padTo 2 (-1) ns0).length := by unfold padTo; simp; omega
  generalize padTo 2 (-1) ns0 = ns at *
  generalize wc = y at *
  obtain ⟨ra, rc, hrv, -, -, -⟩ := hP.regs.is
  generalize hm4 : rs.length = m4 at hrv
  have h44 : 4 ≤ m4 := by omega
  clear hm4
  subst hrv
  obtain ⟨na, nc, hnv, -, -, hnc⟩ := hP.nums.is
  obtain ⟨gn, hna, -, -, hnd⟩ := hnc (by omega)
  subst hna
  generalize hm2 : ns.length = m2 at hnv
  have h22 : 2 ≤ m2 := by omega
  clear hm2
  subst hnv
  have hi2 : (1 : Int) < (m2 : Int) := by omega
  have hi1 : (0 : Int) < (m2 : Int) := by omega
  have d0 : ∀ G : Grw y, G.x.cell? ⟨gn, 0, none⟩ = some (.int .i64 (nth ns 0)) := fun G => G.cell (hnd 0 (by omega))
  have d1 : ∀ G : Grw y, G.x.cell? ⟨gn, 1, none⟩ = some (.int .i64 (nth ns 1)) := fun G => G.cell (hnd 1 (by omega))
  clear hnc hnd
  go_wp2
  refine wp_region_grow (by kernel_rfl) (by kernel_rfl) ?_
  repeat (go_big_quiet_step ((fail)))
  refine wpQuiet_nil ?_
  rintro y2 ⟨⟨_, hy⟩, rfl⟩
  replace hP := hP.later hy
  clear d0 d1 hy
  obtain ⟨ra', rc', hr', -, -, hrc⟩ := hP.regs.is
  obtain ⟨gr, hra, hgo, -, hrd⟩ := hrc (by omega)
  injection hr' with q1 q2 q3
  subst q1 hra
  have hgr : H ≤ gr := hP.fr gr rfl
  have hgr5 : gr ≠ B5 := by have := hP.h5; omega
  have r0 := hrd 0 (by omega)
  have r1 := hrd 1 (by omega)
  have r2 := hrd 2 (by omega)
  have r3 := hrd 3 (by omega)
  have hoff : ∀ (W : World) (u : Value) (i j : Nat), (W.setCell ⟨B5, i, none⟩ u).cell? ⟨gr, j, none⟩ = W.cell? ⟨gr, j, none⟩ := fun W u i j => cell_off hgr5
  clear hrc hrd hgo q2 q3
  have j0 : (0 : Int) < (m4 : Int) := by omega
  have j1 : (1 : Int) < (m4 : Int) := by omega
  have j2 : (2 : Int) < (m4 : Int) := by omega
  have j3 : (3 : Int) < (m4 : Int) := by omega
  have n0 : 0 < m4 := by omega
  have n1 : 1 < m4 := by omega
  have n2 : 2 < m4 := by omega
  have n3 : 3 < m4 := by omega
  have hkk : 0 ≤ kOf tl ∧ kOf tl < 4294967296 := by unfold kOf; split <;> omega
  have hins := hP.ins
  have hres := hP.res
  have hbel := hP.below
  clear hP
  obtain ⟨c0, c1, c2, c3, c4, c5, c6, c7⟩ := hins.cells
  simp only at c0 c1 c2 c3 c4 c5 c6 c7
  have hfI := Bk.free hins
  have hsw : Sw w y2 B5 ⟨op, 0, 0, 0, 0, 0, kOf tl, 0⟩ := ⟨hins, hres, hbel, h2l⟩
  clear hins hres hbel
  generalize kOf tl = kk at *
  go_upto_block 8 with fail
  go_cut [] from 81 to 88 (fun wx => Sw w wx B5 (draftR ws) ∧ 0 ≤ (draftR ws).k ∧ (draftR ws).k < 4294967296)
  case first =>
    have hop : (op = 1 ∨ op = 2 ∨ op = 3 ∨ op = 4 ∨ op = 5) ∨ (op = 6 ∨ op = 7 ∨ op = 11 ∨ op = 22 ∨ op = 12 ∨ op = 13 ∨ op = 17) ∨ (op = 8 ∨ op = 9 ∨ op = 10 ∨ op = 23 ∨ (op ≠ 1 ∧ op ≠ 2 ∧ op ≠ 3 ∧ op ≠ 4 ∧ op ≠ 5 ∧ op ≠ 6 ∧ op ≠ 7 ∧ op ≠ 8 ∧ op ≠ 9 ∧ op ≠ 10 ∧ op ≠ 11 ∧ op ≠ 12 ∧ op ≠ 13 ∧ op ≠ 16 ∧ op ≠ 17 ∧ op ≠ 18 ∧ op ≠ 19 ∧ op ≠ 20 ∧ op ≠ 21 ∧ op ≠ 22 ∧ op ≠ 23)) ∨ (op = 16 ∨ op = 18 ∨ op = 19) ∨ (op = 20 ∨ op = 21) := by have := op_cases op; omega
    rcases hop with hop | hop | hop | hop | hop
    · exact sw1 hsw hkk hgr5 r0 r1 r2 r3 h44 HDR.out hop (by assumption) (by assumption)
    · exact sw2 hsw hkk hgr5 r0 r1 r2 r3 h44 HDR.out hop (by assumption) (by assumption)
    · exact sw3 hsw hkk hgr5 r0 r1 r2 r3 h44 HDR.out hop (by assumption) (by assumption)
    · exact sw4 hsw hkk hgr5 r0 r1 r2 r3 h44 HDR.out hop (by assumption) (by assumption)
    · exact sw5 hsw hkk hgr5 r0 r1 r2 r3 h44 HDR.out hop (by assumption) (by assumption)
  case rest =>
    clear c0 c1 c2 c3 c4 c5 c6 c7 hfI r0 r1 r2 r3 hoff HDR hsw
    obtain ⟨⟨hB, hR, hb, -⟩, k0, k1⟩ := hcut
    generalize wc = v at *
    generalize draftR ws = F at *
    obtain ⟨fop, fd, fs, ft, fu, fa, fk, fpl⟩ := F
    have HR := Lib.hid (fun W => rRight ⟨fop, fd, fs, ft, fu, fa, fk, fpl⟩ 1073741824 k0 k1 W)
    have HT := Lib.hid (fun h W => rTextAll ⟨fop, fd, fs, ft, fu, fa, fk, fpl⟩ h k0 k1 W)
    obtain ⟨c0, c1, c2, c3, c4, c5, c6, c7⟩ := hB.cells
    simp only at c0 c1 c2 c3 c4 c5 c6 c7
    clear k0 k1
    unfold iv at HR HT
    go_wp2_with fail
    refine (HR.out _).mono ?_
    rintro e y3 ⟨rfl, hy3⟩
    clear HR c0 c1 c2 c3 c4 c5 c6 c7
    replace hb := hb.trans (hy3.mono hb.size)
    replace hB := hB.below hy3
    replace hR := hR.below hy3
    clear hy3
    obtain ⟨c0, c1, c2, c3, c4, c5, c6, c7⟩ := hB.cells
    simp only at c0 c1 c2 c3 c4 c5 c6 c7
    generalize y3 = v at *
    generalize rightB ⟨fop, fd, fs, ft, fu, fa, fk, fpl⟩ 1073741824 = rb at *
    cases rb with
    | false =>
      clear HT
      obtain ⟨q0, q1, q2, q3, q4, q5, q6, q7⟩ := hR.cells
      unfold Ins.zero at q0 q1 q2 q3 q4 q5 q6 q7
      simp only at q0 q1 q2 q3 q4 q5 q6 q7
      have hfz := Bk.free hR
      go_upto_region 63 with fail
      go_wp
      generalize hv : ((((((((v.setCell ⟨w.heap.size, 0, none⟩ (.int .i64 0)).setCell ⟨w.heap.size, 1, none⟩ (.int .i64 0)).setCell ⟨w.heap.size, 2, none⟩ (.int .i64 0)).setCell ⟨w.heap.size, 3, none⟩ (.int .i64 0)).setCell ⟨w.heap.size, 4, none⟩ (.int .i64 0)).setCell ⟨w.heap.size, 5, none⟩ (.int .i64 0)).setCell ⟨w.heap.size, 6, none⟩ (.int .u32 0)).setCell ⟨w.heap.size, 7, none⟩ (.int .i64 0)) = v9
      have hv2 : put8 v w.heap.size Ins.zero = v9 := hv
      clear hv
      have hA := put8_jb (i := Ins.zero) hR
      have hC := put8_below (i := Ins.zero) hb (Nat.le_refl _)
      rw [hv2] at hA hC
      clear hv2 q0 q1 q2 q3 q4 q5 q6 q7
      obtain ⟨q0, q1, q2, q3, q4, q5, q6, q7⟩ := hA.cells
      unfold Ins.zero at q0 q1 q2 q3 q4 q5 q6 q7
      simp only at q0 q1 q2 q3 q4 q5 q6 q7
      refine bodyPost_ret (v := .tuple #[.agg #[.int .i64 0, .int .i64 0, .int .i64 0, .int .i64 0, .int .i64 0, .int .i64 0, .int .u32 0, .int .i64 0], .bool false]) (by simp [results, Tryz.results102, go_sem, q0, q1, q2, q3, q4, q5, q6, q7]) rfl ⟨?_, hC⟩
      rw [HE.out]
      simp [iv, Ins.zero]
    | true =>
      go_wp2_with fail
      refine (HT.out (by trivial) _).mono ?_
      rintro e y4 ⟨rfl, hy4⟩
      clear HT c0 c1 c2 c3 c4 c5 c6 c7
      replace hb := hb.trans (hy4.mono hb.size)
      replace hB := hB.below hy4
      replace hR := hR.below hy4
      clear hy4
      obtain ⟨c0, c1, c2, c3, c4, c5, c6, c7⟩ := hB.cells
      simp only at c0 c1 c2 c3 c4 c5 c6 c7
      generalize y4 = v at *
      generalize textL ⟨fop, fd, fs, ft, fu, fa, fk, fpl⟩ = tx at *
      unfold bs
      by_cases htx : tx = s
      · have hq : (tx == s) = true := by simpa using htx
        obtain ⟨q0, q1, q2, q3, q4, q5, q6, q7⟩ := hR.cells
        unfold Ins.zero at q0 q1 q2 q3 q4 q5 q6 q7
        simp only at q0 q1 q2 q3 q4 q5 q6 q7
        have hfz := Bk.free hR
        go_upto_region 64 with fail
        go_wp
        generalize hv : ((((((((v.setCell ⟨w.heap.size, 0, none⟩ (.int .i64 fop)).setCell ⟨w.heap.size, 1, none⟩ (.int .i64 fd)).setCell ⟨w.heap.size, 2, none⟩ (.int .i64 fs)).setCell ⟨w.heap.size, 3, none⟩ (.int .i64 ft)).setCell ⟨w.heap.size, 4, none⟩ (.int .i64 fu)).setCell ⟨w.heap.size, 5, none⟩ (.int .i64 fa)).setCell ⟨w.heap.size, 6, none⟩ (.int .u32 fk)).setCell ⟨w.heap.size, 7, none⟩ (.int .i64 fpl)) = v9
        have hv2 : put8 v w.heap.size ⟨fop, fd, fs, ft, fu, fa, fk, fpl⟩ = v9 := hv
        clear hv
        have hA := put8_jb (i := ⟨fop, fd, fs, ft, fu, fa, fk, fpl⟩) hR
        have hC := put8_below (i := ⟨fop, fd, fs, ft, fu, fa, fk, fpl⟩) hb (Nat.le_refl _)
        rw [hv2] at hA hC
        clear hv2 q0 q1 q2 q3 q4 q5 q6 q7
        obtain ⟨q0, q1, q2, q3, q4, q5, q6, q7⟩ := hA.cells
        simp only at q0 q1 q2 q3 q4 q5 q6 q7
        refine bodyPost_ret (v := .tuple #[.agg #[.int .i64 fop, .int .i64 fd, .int .i64 fs, .int .i64 ft, .int .i64 fu, .int .i64 fa, .int .u32 fk, .int .i64 fpl], .bool true]) (by simp [results, Tryz.results102, go_sem, q0, q1, q2, q3, q4, q5, q6, q7]) rfl ⟨?_, hC⟩
        rw [HE.out]
        simp [iv, HOK.out, htx]
      · have hq : (tx == s) = false := by simpa using htx
        obtain ⟨q0, q1, q2, q3, q4, q5, q6, q7⟩ := hR.cells
        unfold Ins.zero at q0 q1 q2 q3 q4 q5 q6 q7
        simp only at q0 q1 q2 q3 q4 q5 q6 q7
        have hfz := Bk.free hR
        go_upto_region 63 with fail
        go_wp
        generalize hv : ((((((((v.setCell ⟨w.heap.size, 0, none⟩ (.int .i64 0)).setCell ⟨w.heap.size, 1, none⟩ (.int .i64 0)).setCell ⟨w.heap.size, 2, none⟩ (.int .i64 0)).setCell ⟨w.heap.size, 3, none⟩ (.int .i64 0)).setCell ⟨w.heap.size, 4, none⟩ (.int .i64 0)).setCell ⟨w.heap.size, 5, none⟩ (.int .i64 0)).setCell ⟨w.heap.size, 6, none⟩ (.int .u32 0)).setCell ⟨w.heap.size, 7, none⟩ (.int .i64 0)) = v9
        have hv2 : put8 v w.heap.size Ins.zero = v9 := hv
        clear hv
        have hA := put8_jb (i := Ins.zero) hR
        have hC := put8_below (i := Ins.zero) hb (Nat.le_refl _)
        rw [hv2] at hA hC
        clear hv2 q0 q1 q2 q3 q4 q5 q6 q7
        obtain ⟨q0, q1, q2, q3, q4, q5, q6, q7⟩ := hA.cells
        unfold Ins.zero at q0 q1 q2 q3 q4 q5 q6 q7
        simp only at q0 q1 q2 q3 q4 q5 q6 q7
        refine bodyPost_ret (v := .tuple #[.agg #[.int .i64 0, .int .i64 0, .int .i64 0, .int .i64 0, .int .i64 0, .int .i64 0, .int .u32 0, .int .i64 0], .bool false]) (by simp [results, Tryz.results102, go_sem, q0, q1, q2, q3, q4, q5, q6, q7]) rfl ⟨?_, hC⟩
        rw [HE.out]
        simp [iv, Ins.zero, htx]
end Go.Proofs.YthdgehcghklflaaGreatDoor

/- The document's run: SameSpec. -/
namespace Go.Proofs.YthdgehcghklflaaGreatDoor
set_option maxRecDepth 100000
open Go.ChangeShapes Go.WideShapes Go.ChangeAt Go.RowKit
set_option linter.unusedVariables false

/-- A spec of the document's, to be read. -/
def SpV (w : World) (v : Value) (c : Prg) (zs init r7 : List Int) (each : Int) : Prop :=
  ∃ aL cL aS cS aI cI aR cR, v = .agg #[.slice aL c.l.length cL, .int .i64 c.lo, .int .i64 c.un, .slice aS zs.length cS, .slice aI init.length cI, .int .i64 each, .slice aR r7.length cR] ∧ Pv w (.agg #[.slice aL c.l.length cL, .int .i64 c.lo, .int .i64 c.un]) c ∧ Given .i64 w aS zs ∧ Given .u32 w aI init ∧ Given .u32 w aR r7 ∧ zs.length ≤ maxLen ∧ init.length ≤ maxLen ∧ r7.length ≤ maxLen
set_option maxHeartbeats 3000000 in
theorem rSameSpec (w : World) (v u : Value) (c d : Prg) (zs init r7 zs2 init2 r72 : List Int) (each each2 : Int) (hv : SpV w v c zs init r7 each) (hu : SpV w u d zs2 init2 r72 each2) (hc : c.l.length ≤ 100000) :
    Calls Tryz.prog 10 #[v, u] w fun e w' => e = .returned (.bool (decide (zs = zs2) && (decide (each = each2) && (sameP c d && (decide (init = init2) && decide (r7 = r72)))))) ∧ Below w.heap.size w w' := by
  obtain ⟨aL, cL, aS, cS, aI, cI, aR, cR, rfl, p1, p2, p3, p4, p5, p6, p7⟩ := hv
  obtain ⟨bL, dL, bS, dS, bI, dI, bR, dR, rfl, q1, q2, q3, q4, q5, q6, q7⟩ := hu
  have HSm : Hid (∀ W, Below w.heap.size w W → Calls Tryz.prog 29 #[.agg #[.slice aL c.l.length cL, .int .i64 c.lo, .int .i64 c.un], .agg #[.slice bL d.l.length dL, .int .i64 d.lo, .int .i64 d.un]] W fun e w' => e = .returned (.bool (sameP c d)) ∧ Below W.heap.size W w') := Lib.hid (fun W hW => rSame c d _ _ W (p1.below hW) (q1.below hW) hc)
  have HW1 : Hid (∀ W, Below w.heap.size w W → Calls Tryz.prog 30 #[.slice aI init.length cI, .slice bI init2.length dI] W fun e w' => e = .returned (.bool (decide (init = init2))) ∧ Below W.heap.size W w') := Lib.hid (fun W hW => rWords32 W aI bI cI dI init init2 (p3.below hW) (q3.below hW) p6 q6)
  have HW2 : Hid (∀ W, Below w.heap.size w W → Calls Tryz.prog 30 #[.slice aR r7.length cR, .slice bR r72.length dR] W fun e w' => e = .returned (.bool (decide (r7 = r72))) ∧ Below W.heap.size W w') := Lib.hid (fun W hW => rWords32 W aR bR cR dR r7 r72 (p4.below hW) (q4.below hW) p7 q7)
  have HA := Lib.hid p2
  have HB := Lib.hid q2
  obtain ⟨bb, k1, k2⟩ := two_boxes w 37 #[.slice aL c.l.length cL, .int .i64 c.lo, .int .i64 c.un, .slice aS zs.length cS, .slice aI init.length cI, .int .i64 each, .slice aR r7.length cR] #[.slice bL d.l.length dL, .int .i64 d.lo, .int .i64 d.un, .slice bS zs2.length dS, .slice bI init2.length dI, .int .i64 each2, .slice bR r72.length dR]
  simp only [maxLen] at p5 q5
  clear p1 p2 p3 p4 p6 p7 q1 q2 q3 q4 q6 q7 hc
  obtain ⟨res, hres⟩ : ∃ res, (decide (zs = zs2) && (decide (each = each2) && (sameP c d && (decide (init = init2) && decide (r7 = r72))))) = res := ⟨_, rfl⟩
  rw [hres]
  have HRes : Hid (res = (decide (zs = zs2) && (decide (each = each2) && (sameP c d && (decide (init = init2) && decide (r7 = r72)))))) := Lib.hid hres.symm
  clear hres
  go_enter Tryz.func10, Tryz.ntmps10
  go_upto_region 1 with fail
  generalize (w.alloc (.cells #[.slice aL c.l.length cL, .int .i64 c.lo, .int .i64 c.un, .slice aS zs.length cS, .slice aI init.length cI, .int .i64 each, .slice aR r7.length cR] 37)).alloc (.cells #[.slice bL d.l.length dL, .int .i64 d.lo, .int .i64 d.un, .slice bS zs2.length dS, .slice bI init2.length dI, .int .i64 each2, .slice bR r72.length dR] 37) = y at *
  obtain ⟨x0, x1, x2, x3, x4, x5, x6⟩ : y.cell? ⟨w.heap.size, 0, none⟩ = some (.slice aL c.l.length cL) ∧ y.cell? ⟨w.heap.size, 1, none⟩ = some (.int .i64 c.lo) ∧ y.cell? ⟨w.heap.size, 2, none⟩ = some (.int .i64 c.un) ∧ y.cell? ⟨w.heap.size, 3, none⟩ = some (.slice aS zs.length cS) ∧ y.cell? ⟨w.heap.size, 4, none⟩ = some (.slice aI init.length cI) ∧ y.cell? ⟨w.heap.size, 5, none⟩ = some (.int .i64 each) ∧ y.cell? ⟨w.heap.size, 6, none⟩ = some (.slice aR r7.length cR) := ⟨k1.cell 0, k1.cell 1, k1.cell 2, k1.cell 3, k1.cell 4, k1.cell 5, k1.cell 6⟩
  obtain ⟨z0, z1, z2, z3, z4, z5, z6⟩ : y.cell? ⟨w.heap.size + 1, 0, none⟩ = some (.slice bL d.l.length dL) ∧ y.cell? ⟨w.heap.size + 1, 1, none⟩ = some (.int .i64 d.lo) ∧ y.cell? ⟨w.heap.size + 1, 2, none⟩ = some (.int .i64 d.un) ∧ y.cell? ⟨w.heap.size + 1, 3, none⟩ = some (.slice bS zs2.length dS) ∧ y.cell? ⟨w.heap.size + 1, 4, none⟩ = some (.slice bI init2.length dI) ∧ y.cell? ⟨w.heap.size + 1, 5, none⟩ = some (.int .i64 each2) ∧ y.cell? ⟨w.heap.size + 1, 6, none⟩ = some (.slice bR r72.length dR) := ⟨k2.cell 0, k2.cell 1, k2.cell 2, k2.cell 3, k2.cell 4, k2.cell 5, k2.cell 6⟩
  have K1 := Lib.hid k1
  have K2 := Lib.hid k2
  clear k1 k2
  by_cases hl : zs.length = zs2.length
  · have dl : ((zs.length : Int) != (zs2.length : Int)) = false := by rw [hl]; simp
    have HL := Lib.hid hl
    clear hl
    cases de : (each != each2) with
    | true =>
      have HV : Hid (res = false) := Lib.hid (by rw [HRes.out, decide_eq_false (bne_iff_ne.1 de)]; simp)
      clear HSm HW1 HW2
      go_wp2
      go_ret
      exact ⟨by rw [HV.out]; rfl, bb⟩
    | false =>
      have HEq : Hid (each = each2) := Lib.hid (by simpa using de)
      go_wp2
      go_loopw [23] (fun x wr => ∃ (j : Nat), x = .int .i64 j ∧ j ≤ zs.length ∧ Hid (zs.take j = zs2.take j) ∧ Hid (Below y.heap.size y wr)) (fun x _ => zs.length - (intOf x).toNat)
      case atStart => exact ⟨0, rfl, Nat.zero_le _, Lib.hid rfl, Lib.hid (Below.refl _ _)⟩
      case round =>
        clear x0 x1 x2 x3 x4 x5 x6 z0 z1 z2 z3 z4 z5 z6
        obtain ⟨j, rfl, hj, HT, HBl⟩ := hrel
        have hbl := HBl.out
        have hbw := bb.trans (hbl.mono bb.size)
        have k1 := Bk.within K1.out (within_of_below hbl) (by simp)
        have k2 := Bk.within K2.out (within_of_below hbl) (by simp)
        obtain ⟨x0, x1, x2, x3, x4, x5, x6⟩ : wr.cell? ⟨w.heap.size, 0, none⟩ = some (.slice aL c.l.length cL) ∧ wr.cell? ⟨w.heap.size, 1, none⟩ = some (.int .i64 c.lo) ∧ wr.cell? ⟨w.heap.size, 2, none⟩ = some (.int .i64 c.un) ∧ wr.cell? ⟨w.heap.size, 3, none⟩ = some (.slice aS zs.length cS) ∧ wr.cell? ⟨w.heap.size, 4, none⟩ = some (.slice aI init.length cI) ∧ wr.cell? ⟨w.heap.size, 5, none⟩ = some (.int .i64 each) ∧ wr.cell? ⟨w.heap.size, 6, none⟩ = some (.slice aR r7.length cR) := ⟨k1.cell 0, k1.cell 1, k1.cell 2, k1.cell 3, k1.cell 4, k1.cell 5, k1.cell 6⟩
        obtain ⟨z0, z1, z2, z3, z4, z5, z6⟩ : wr.cell? ⟨w.heap.size + 1, 0, none⟩ = some (.slice bL d.l.length dL) ∧ wr.cell? ⟨w.heap.size + 1, 1, none⟩ = some (.int .i64 d.lo) ∧ wr.cell? ⟨w.heap.size + 1, 2, none⟩ = some (.int .i64 d.un) ∧ wr.cell? ⟨w.heap.size + 1, 3, none⟩ = some (.slice bS zs2.length dS) ∧ wr.cell? ⟨w.heap.size + 1, 4, none⟩ = some (.slice bI init2.length dI) ∧ wr.cell? ⟨w.heap.size + 1, 5, none⟩ = some (.int .i64 each2) ∧ wr.cell? ⟨w.heap.size + 1, 6, none⟩ = some (.slice bR r72.length dR) := ⟨k2.cell 0, k2.cell 1, k2.cell 2, k2.cell 3, k2.cell 4, k2.cell 5, k2.cell 6⟩
        by_cases hlt : j < zs.length
        · have hji : (j : Int) < zs.length := by omega
          have hjy : (j : Int) < zs2.length := by have := HL.out; omega
          obtain ⟨b1, o1, rfl, c1⟩ := HA.out.at_ hlt hbw
          obtain ⟨b2, o2, rfl, c2⟩ := HB.out.at_ (show j < zs2.length by omega) hbw
          have HE := Lib.hid (fun e => take_same hlt HL.out HT.out e)
          have HN := Lib.hid (fun e => take_other (xs := zs) (ys := zs2) (j := j) e)
          generalize nth zs j = x at *
          generalize nth zs2 j = x9 at *
          clear k1 k2 HSm HW1 HW2
          cases hq : (x != x9) with
          | true =>
            have HV : Hid (res = false) := Lib.hid (by rw [HRes.out, decide_eq_false (HN.out (bne_iff_ne.1 hq))]; simp)
            clear HE HN HT
            go_upto_region 6 with fail
            go_quiet (fail)
            have hfin := hbw.trans ((below_drawnV wr nq).mono hbw.size)
            generalize wr.drewN nq = v at *
            go_wp2
            go_ret
            exact ⟨by rw [HV.out]; rfl, hfin⟩
          | false =>
            have HE2 := Lib.hid (HE.out (by simpa using hq))
            clear HE HN HT
            go_upto_region 6 with fail
            go_quiet (fail)
            have HF := Lib.hid (hbl.trans ((below_drawnV wr nq).mono hbl.size))
            generalize wr.drewN nq = v at *
            clear c1 c2 hbl hbw
            go_wp2
            go_roundw
            case rel => exact ⟨j + 1, by go_num, by omega, HE2, HF⟩
            case measure => simp [intOf]; omega
        · obtain rfl : j = zs.length := by omega
          have HZ : Hid (res = (sameP c d && (decide (init = init2) && decide (r7 = r72)))) := Lib.hid (by
            have h := HT.out
            rw [List.take_length, HL.out, List.take_length] at h
            rw [HRes.out, decide_eq_true h, decide_eq_true HEq.out, Bool.true_and, Bool.true_and])
          clear HT
          have HC1 := Lib.hid (HSm.out wr hbw)
          have HKK : Hid (∀ W, Below wr.heap.size wr W → Below w.heap.size w W ∧ (W.cell? ⟨w.heap.size, 0, none⟩ = some (.slice aL c.l.length cL) ∧ W.cell? ⟨w.heap.size, 1, none⟩ = some (.int .i64 c.lo) ∧ W.cell? ⟨w.heap.size, 2, none⟩ = some (.int .i64 c.un) ∧ W.cell? ⟨w.heap.size, 3, none⟩ = some (.slice aS zs.length cS) ∧ W.cell? ⟨w.heap.size, 4, none⟩ = some (.slice aI init.length cI) ∧ W.cell? ⟨w.heap.size, 5, none⟩ = some (.int .i64 each) ∧ W.cell? ⟨w.heap.size, 6, none⟩ = some (.slice aR r7.length cR)) ∧ (W.cell? ⟨w.heap.size + 1, 0, none⟩ = some (.slice bL d.l.length dL) ∧ W.cell? ⟨w.heap.size + 1, 1, none⟩ = some (.int .i64 d.lo) ∧ W.cell? ⟨w.heap.size + 1, 2, none⟩ = some (.int .i64 d.un) ∧ W.cell? ⟨w.heap.size + 1, 3, none⟩ = some (.slice bS zs2.length dS) ∧ W.cell? ⟨w.heap.size + 1, 4, none⟩ = some (.slice bI init2.length dI) ∧ W.cell? ⟨w.heap.size + 1, 5, none⟩ = some (.int .i64 each2) ∧ W.cell? ⟨w.heap.size + 1, 6, none⟩ = some (.slice bR r72.length dR))) := Lib.hid (fun W hW => by
            have j1 := Bk.within k1 (within_of_below hW) (by simp)
            have j2 := Bk.within k2 (within_of_below hW) (by simp)
            exact ⟨hbw.trans (hW.mono hbw.size), ⟨j1.cell 0, j1.cell 1, j1.cell 2, j1.cell 3, j1.cell 4, j1.cell 5, j1.cell 6⟩, ⟨j2.cell 0, j2.cell 1, j2.cell 2, j2.cell 3, j2.cell 4, j2.cell 5, j2.cell 6⟩⟩)
          clear HSm k1 k2 hbl
          generalize sameP c d = o1 at *
          generalize decide (init = init2) = o2 at *
          generalize decide (r7 = r72) = o3 at *
          go_wp2_with fail
          refine HC1.out.mono ?_
          rintro e w1 ⟨rfl, hw1⟩
          obtain ⟨hbw1, ⟨x0, x1, x2, x3, x4, x5, x6⟩, ⟨z0, z1, z2, z3, z4, z5, z6⟩⟩ := HKK.out w1 hw1
          cases o1 with
          | false =>
            have HV : Hid (res = false) := Lib.hid (by rw [HZ.out]; rfl)
            clear HC1 HKK HW1 HW2
            go_wp2
            go_ret
            exact ⟨by rw [HV.out]; rfl, hbw1⟩
          | true =>
            have HC2 := Lib.hid (HW1.out w1 hbw1)
            clear HC1 HW1
            go_wp2_with fail
            refine HC2.out.mono ?_
            rintro e w2 ⟨rfl, hw2⟩
            obtain ⟨hbw2, ⟨x0, x1, x2, x3, x4, x5, x6⟩, ⟨z0, z1, z2, z3, z4, z5, z6⟩⟩ := HKK.out w2 (hw1.trans (hw2.mono hw1.size))
            cases o2 with
            | false =>
              have HV : Hid (res = false) := Lib.hid (by rw [HZ.out]; rfl)
              clear HC2 HKK HW2
              go_wp2
              go_ret
              exact ⟨by rw [HV.out]; rfl, hbw2⟩
            | true =>
              have HC3 := Lib.hid (HW2.out w2 hbw2)
              clear HC2 HW2 HKK
              go_wp2_with fail
              refine HC3.out.mono ?_
              rintro e w3 ⟨rfl, hw3⟩
              have HV : Hid (res = o3) := Lib.hid (by rw [HZ.out]; rfl)
              have hbw3 := hbw2.trans (hw3.mono hbw2.size)
              clear HC3
              go_wp2
              go_ret
              exact ⟨by rw [HV.out]; rfl, hbw3⟩
  · have dl : ((zs.length : Int) != (zs2.length : Int)) = true := bne_iff_ne.2 (by omega)
    have HV : Hid (res = false) := Lib.hid (by rw [HRes.out, decide_eq_false (fun h => hl (by rw [h]))]; simp)
    clear hl HSm HW1 HW2
    go_wp2
    go_ret
    exact ⟨by rw [HV.out]; rfl, bb⟩
end Go.Proofs.YthdgehcghklflaaGreatDoor

/- (*draft).add: one line. -/
namespace Go.Proofs.YthdgehcghklflaaGreatDoor
open Go.ChangeShapes Go.WideShapes Go.ChangeAt Go.RowKit Go.Shelf
set_option linter.unusedVariables false

theorem lb_snoc (t : List UInt8) : lbB (t ++ [58]) = nameB t := by
  unfold lbB
  simp
theorem lb_not {s : List UInt8} (h : ∀ t, s ≠ t ++ [58]) : lbB s = false := by
  rw [Bool.eq_false_iff]
  intro e
  unfold lbB at e
  simp only [Bool.and_eq_true, decide_eq_true_eq, Bool.not_eq_true', List.isEmpty_eq_false_iff] at e
  obtain ⟨h1, h2, _⟩ := e
  refine h s.dropLast ?_
  have := List.dropLast_concat_getLast h1
  have h3 : (s.dropLast ++ [s.getLast h1]).getLastD 0 = 58 := by rw [this]; exact h2
  simp at h3
  rw [h3] at this
  exact this.symm

/-- Behind a line: the error, the labels, the rows. -/
def addL (s : List UInt8) (n : Int) (ls : List (List UInt8 × Int)) (rs : List Rw) : Int × List (List UInt8 × Int) × List Rw :=
  if lbB s = true then (if labB ls s.dropLast = true then (2, ls, rs) else (0, ls ++ [(s.dropLast, (rs.length : Int))], rs))
  else match lineL s with
    | none => (8, ls, rs)
    | some (i, nm) => if 64 ≤ rs.length then (9, ls, rs) else (0, ls, rs ++ [(i, nm, n)])
section
variable {w : World} {p m lo : Nat} {ls : List (List UInt8 × Int)} {rs : List Rw}
theorem cAddEnd (h : Dr w p m lo ls rs) (s : List UInt8) (hs : ∀ t, s ≠ t ++ [10]) (hl : s.length < 100000) (n : Int) :
    Calls Tryz.prog 60 #[.pointer (some ⟨p, 0, none⟩), .int .i64 n, bs s] w fun e w' => e = .returned (.int .i64 8) ∧ w = w' := by
  have HC := Lib.hid (fun W => lCut s [10] (by omega) W)
  rw [(suf_no hs).1, (suf_no hs).2] at HC
  unfold bs
  go_enter Tryz.func60, Tryz.ntmps60
  go_wp2_with fail
  refine (HC.out _).mono ?_
  rintro e w' ⟨rfl, rfl⟩
  unfold bs
  go_wp2
  go_ret
  exact ⟨rfl, rfl⟩

/-- What add leaves. -/
def Added (w : World) (p m lo : Nat) (q : Int × List (List UInt8 × Int) × List Rw) (e : Ending) (w' : World) : Prop := e = .returned (.int .i64 q.1) ∧ Dr w' p m lo q.2.1 q.2.2 ∧ Within w w' (InDr p m lo)

set_option maxHeartbeats 1000000 in
theorem cAddA (h : Dr w p m lo ls rs) (hlo : lo ≤ w.heap.size) (L : Lb w) (s : List UInt8) (hl : s.length < 90000) (n : Int) (hls : ls.length < 1000000) (hrs : rs.length ≤ 64) :
    Calls Tryz.prog 60 #[.pointer (some ⟨p, 0, none⟩), .int .i64 n, bs (s ++ [10])] w (Added w p m lo (addL s n ls rs)) := by
  have HC := Lib.hid (fun W => lCut (s ++ [10]) [10] (by simp; omega) W)
  rw [(suf_yes s 10).1, (suf_yes s 10).2] at HC
  have HK := Lib.hid (fun W => lCut s [58] (by omega) W)
  have HI := Lib.hid (fun W LW => cInstOf s (by omega) W LW)
  have HB : Hid (∀ W, Below w.heap.size w W → Dr W p m lo ls rs ∧ Within w W (InDr p m lo)) := Lib.hid fun W hW => ⟨h.within (within_of_below hW) (by simp) (by simp) (by simp), (within_of_below hW).wide (by simp)⟩
  have HLB := Lib.hid (fun W (hW : Below w.heap.size w W) => L.below hW)
  rcases suf_or s 58 with ⟨nm, hnm⟩ | hno
  case' inl =>
    have e1 := (suf_yes nm 58).1
    have e2 := (suf_yes nm 58).2
    rw [← hnm] at e1 e2
    rw [e1, e2] at HK
    have HN := Lib.hid (fun W => cIsName nm W)
    have hlb : lbB s = nameB nm := by rw [hnm]; exact lb_snoc nm
    have hdl : s.dropLast = nm := by rw [hnm]; simp
    have HD := Lib.hid hdl
    have hnl : nm.length ≤ 1000000 := by rw [hnm] at hl; simp at hl; omega
    clear e1 e2 hdl
    clear hnm
    unfold bs
    go_enter Tryz.func60, Tryz.ntmps60
    go_wp2_with fail
    refine (HC.out _).mono ?_
    rintro e w' ⟨rfl, rfl⟩
    unfold bs
    go_wp2_with fail
    refine (HK.out _).mono ?_
    rintro e w' ⟨rfl, rfl⟩
    unfold bs
    go_wp2_with fail
    refine (HN.out _).mono ?_
    rintro e x ⟨rfl, bb⟩
    rcases hq : nameB nm
    case' true =>
      rw [hq] at hlb
      have HLBL := Lib.hid hlb
      clear HI HC HK HN hq hlb
      obtain ⟨hD, hW⟩ := HB.out x bb
      rcases hk : labB ls nm
      · have HA := Lib.hid (cAddLabel hD nm hnl hls hrs hk)
        go_wp2_with fail
        refine HA.out.mono ?_
        rintro e y ⟨rfl, hD2, hW2⟩
        go_wp2
        go_ret
        have : addL s n ls rs = (0, ls ++ [(nm, (rs.length : Int))], rs) := by
          unfold addL
          rw [if_pos HLBL.out, HD.out, if_neg (by rw [hk]; simp)]
        unfold Added
        rw [this]
        exact ⟨rfl, hD2, hW.then_ hW2 fun i hi => .inl hi⟩
      · have HA := Lib.hid (cAddLabelNo hD nm hnl hk)
        go_wp2_with fail
        refine HA.out.mono ?_
        rintro e y ⟨rfl, rfl⟩
        go_wp2
        go_ret
        have : addL s n ls rs = (2, ls, rs) := by
          unfold addL
          rw [if_pos HLBL.out, HD.out, if_pos hk]
        unfold Added
        rw [this]
        exact ⟨rfl, hD, hW⟩
    case' false =>
      rw [hq] at hlb
      have HLBL := Lib.hid hlb
      clear HC HK HN hq hlb HD
      go_wp2_with fail
  case' inr =>
    rw [(suf_no hno).1, (suf_no hno).2] at HK
    have HLBL := Lib.hid (lb_not hno)
    clear hno
    unfold bs
    go_enter Tryz.func60, Tryz.ntmps60
    go_wp2_with fail
    refine (HC.out _).mono ?_
    rintro e w' ⟨rfl, rfl⟩
    unfold bs
    go_wp2_with fail
    refine (HK.out _).mono ?_
    rintro e w' ⟨rfl, rfl⟩
    unfold bs
    have bb := Below.refl w.heap.size w
    clear HC HK
    go_wp2_with fail
  all_goals (
    refine (HI.out _ (HLB.out _ bb)).mono ?_
    rintro e y ⟨rfl, hby⟩
    replace bb := bb.trans (hby.mono bb.size)
    clear hby HI
    rcases hq : lineL s with _ | ⟨⟨op, d, s', t, u, a, k, pl⟩, nm2⟩
    · have e : instOfV s = .tuple #[.agg #[.int .i64 0, .int .i64 0, .int .i64 0, .int .i64 0, .int .i64 0, .int .i64 0, .int .u32 0, .int .i64 0], .string ⟨#[]⟩, .bool false] := by unfold instOfV; rw [hq]; rfl
      have ea : addL s n ls rs = (8, ls, rs) := by unfold addL; rw [if_neg (by rw [HLBL.out]; simp), hq]
      have EA := Lib.hid ea
      rw [e]
      clear e hq HLBL ea
      go_wp2
      go_ret
      unfold Added
      rw [EA.out]
      exact ⟨rfl, HB.out _ (bb.alloc bb.size _)⟩
    · have e : instOfV s = .tuple #[.agg #[.int .i64 op, .int .i64 d, .int .i64 s', .int .i64 t, .int .i64 u, .int .i64 a, .int .u32 k, .int .i64 pl], .string ⟨nm2.toArray⟩, .bool true] := by unfold instOfV; rw [hq]; rfl
      have ea : addL s n ls rs = if 64 ≤ rs.length then (9, ls, rs) else (0, ls, rs ++ [(⟨op, d, s', t, u, a, k, pl⟩, nm2, n)]) := by unfold addL; rw [if_neg (by rw [HLBL.out]; simp), hq]
      have EA := Lib.hid ea
      rw [e]
      clear e hq HLBL ea
      go_upto_region 8 with fail
      have m2 := Ib.made y op d s' t u a k pl
      replace bb := bb.alloc (o := .cells #[.int .i64 op, .int .i64 d, .int .i64 s', .int .i64 t, .int .i64 u, .int .i64 a, .int .u32 k, .int .i64 pl] 119) bb.size
      generalize y.heap.size = g at *
      generalize y.alloc (.cells #[.int .i64 op, .int .i64 d, .int .i64 s', .int .i64 t, .int .i64 u, .int .i64 a, .int .u32 k, .int .i64 pl] 119) = x3 at *
      obtain ⟨c0, c1, c2, c3, c4, c5, c6, c7⟩ := m2.cells
      simp only at c0 c1 c2 c3 c4 c5 c6 c7
      obtain ⟨hD, hW⟩ := HB.out x3 bb
      go_wp2_with fail
      by_cases h64 : rs.length < 64
      · refine (cAddRow hD h64 (Nat.le_trans hlo bb.size) (⟨op, d, s', t, u, a, k, pl⟩, nm2, n)).mono ?_
        rintro e z ⟨rfl, hD2, hW2⟩
        go_wp2
        go_ret
        unfold Added
        rw [EA.out, if_neg (by omega)]
        exact ⟨rfl, hD2, hW.then_ hW2 fun i hi => .inl hi⟩
      · refine (cAddRowNo hD (by omega) (⟨op, d, s', t, u, a, k, pl⟩, nm2, n)).mono ?_
        rintro e z ⟨rfl, hz⟩
        go_wp2
        go_ret
        unfold Added
        rw [EA.out, if_pos (by omega)]
        exact ⟨rfl, HB.out _ (bb.trans (hz.mono bb.size))⟩)
end
end Go.Proofs.YthdgehcghklflaaGreatDoor

/- The document's find. -/
namespace Go.Proofs.YthdgehcghklflaaGreatDoor
open Go.ChangeShapes Go.WideShapes Go.ChangeAt Go.RowKit
set_option linter.unusedVariables false

/-- Labels and their places, as they lie. -/
def LsAt (w : World) (a : Option Addr) (ls : List (List UInt8 × Int)) : Prop := ∀ j x, ls[j]? = some x → ∃ g, a = some ⟨g, 0, none⟩ ∧ g < w.heap.size ∧ w.cell? ⟨g, j * 2, none⟩ = some (bs x.1) ∧ w.cell? ⟨g, j * 2 + 1, none⟩ = some (.int .i64 x.2)
theorem LsAt.below {w w' : World} {a : Option Addr} {ls : List (List UInt8 × Int)} (h : LsAt w a ls) (hb : Below w.heap.size w w') : LsAt w' a ls := fun j x hx => by
  obtain ⟨g, e, h1, h2, h3⟩ := h j x hx
  exact ⟨g, e, Nat.lt_of_lt_of_le h1 hb.size, (hb.cell (p := ⟨g, j * 2, none⟩) h1).trans h2, (hb.cell (p := ⟨g, j * 2 + 1, none⟩) h1).trans h3⟩

theorem findL_drop (ls : List (List UInt8 × Int)) (s : List UInt8) (n : Int) (j : Nat) (h : j < ls.length) : findL (ls.drop j) s n = if (ls[j].1 == s && decide (ls[j].2 < n)) = true then ls[j].2 else findL (ls.drop (j + 1)) s n := by
  unfold findL
  rw [List.drop_eq_getElem_cons h, List.find?_cons]
  cases (ls[j].1 == s && decide (ls[j].2 < n)) <;> simp

set_option maxHeartbeats 1000000 in
theorem rFindA (ls : List (List UInt8 × Int)) (s : List UInt8) (n : Int) (a : Option Addr) (cap : Nat) (w : World) (ha : LsAt w a ls) (hl : ls.length ≤ 1000000) :
    Calls Tryz.prog 64 #[.slice a ls.length cap, bs s, .int .i64 n] w fun e w' => e = .returned (.int .i64 (findL ls s n)) ∧ Below w.heap.size w w' := by
  have HR : Hid (findL ls s n = findL (ls.drop 0) s n) := Lib.hid rfl
  have HS := Lib.hid (fun j h => findL_drop ls s n j h)
  have HE : Hid (∀ j, ¬ j < ls.length → findL (ls.drop j) s n = -1) := Lib.hid fun j h => by rw [List.drop_eq_nil_of_le (by omega)]; rfl
  generalize findL ls s n = r at *
  unfold bs
  go_enter Tryz.func64, Tryz.ntmps64
  go_wp2
  go_loopw [6, 11] (fun v i wr => ∃ j : Nat, v = .int .i64 0 ∧ i = .int .i64 j ∧ j ≤ ls.length ∧ Below w.heap.size w wr ∧ Hid (r = findL (ls.drop j) s n)) (fun _ i _ => ls.length - (intOf i).toNat)
  case atStart => exact ⟨0, rfl, rfl, Nat.zero_le _, Below.refl _ _, HR⟩
  case round =>
    clear HR
    obtain ⟨j, rfl, rfl, hj, hb, HR⟩ := hrel
    by_cases hlt : j < ls.length
    · have hji : (j : Int) < ls.length := by omega
      obtain ⟨g, rfl, hgl, e0, e1⟩ := (ha.below hb) j _ (List.getElem?_eq_getElem hlt)
      have HD := Lib.hid (HS.out j hlt)
      generalize ls[j] = x at *
      obtain ⟨nm, at_⟩ := x
      simp only at e0 e1 HD
      unfold bs at e0
      go_upto_region 4 with fail
      have k1 := Bk.made wr 147 #[.string ⟨nm.toArray⟩, .int .i64 at_]
      replace hb := hb.alloc (o := .cells #[.string ⟨nm.toArray⟩, .int .i64 at_] 147) hb.size
      generalize wr.heap.size = q at *
      generalize wr.alloc (.cells #[.string ⟨nm.toArray⟩, .int .i64 at_] 147) = y at *
      clear e0 e1
      obtain ⟨y0, y1⟩ : y.cell? ⟨q, 0, none⟩ = some (.string ⟨nm.toArray⟩) ∧ y.cell? ⟨q, 1, none⟩ = some (.int .i64 at_) := ⟨k1.cell 0, k1.cell 1⟩
      cases h1 : (nm == s) with
      | true =>
        by_cases h2 : at_ < n
        · have HQ : Hid (r = at_) := Lib.hid (by rw [HR.out, HD.out, h1]; simp [h2])
          obtain rfl : nm = s := by simpa using h1
          clear HD HR HS HE h1
          go_wp2
          go_ret
          exact ⟨by rw [HQ.out]; rfl, hb⟩
        · have HQ : Hid (r = findL (ls.drop (j + 1)) s n) := Lib.hid (by rw [HR.out, HD.out, h1]; simp [h2])
          obtain rfl : nm = s := by simpa using h1
          clear HD HR HS HE h1
          go_wp2
          go_roundw
          case rel => exact ⟨j + 1, rfl, by go_num, by omega, hb, HQ⟩
          case measure =>
            show ls.length - ((j : Int) + 1).toNat < ls.length - (j : Int).toNat
            omega
      | false =>
        have HQ : Hid (r = findL (ls.drop (j + 1)) s n) := Lib.hid (by rw [HR.out, HD.out, h1]; simp)
        clear HD HR HS HE
        go_wp2
        go_roundw
        case rel => exact ⟨j + 1, rfl, by go_num, by omega, hb, HQ⟩
        case measure =>
          show ls.length - ((j : Int) + 1).toNat < ls.length - (j : Int).toNat
          omega
    · have hji : ¬ (j : Int) < ls.length := by omega
      have HQ : Hid (r = -1) := Lib.hid (by rw [HR.out, HE.out j hlt])
      clear HR HS HE
      go_wp2
      go_ret
      exact ⟨by rw [HQ.out]; rfl, hb⟩
end Go.Proofs.YthdgehcghklflaaGreatDoor

/- The document's Line. -/
namespace Go.Proofs.YthdgehcghklflaaGreatDoor
open Go.ChangeShapes Go.WideShapes Go.ChangeAt Go.RowKit
set_option linter.unusedVariables false

def prsV : Option Ins → Value
  | some i => .tuple #[iv i, .bool true]
  | none => .tuple #[iv Ins.zero, .bool false]
theorem parse_prs (s : List UInt8) : parseRV s = prsV (prs s) := by
  unfold parseRV prs
  split <;> rfl
def tailR : Option Ins → Option (Ins × List UInt8)
  | some j => if goesB j = true then none else some (j, [])
  | none => none
def lineV : Option (Ins × List UInt8) → Value
  | some x => .tuple #[iv x.1, bs x.2, .bool true]
  | none => .tuple #[iv Ins.zero, bs [], .bool false]
theorem last_at (ws : List (List UInt8)) (h : 0 < ws.length) : ws.getD (ws.length - 1) [] = ws.getLastD [] := by
  rw [List.getLastD_eq_getLast?, List.getLast?_eq_getElem?, List.getD_eq_getElem?_getD]

set_option maxHeartbeats 4000000 in
set_option maxRecDepth 100000 in
theorem rLine (s : List UInt8) (hl : s.length < 90000) (w : World) :
    Calls Tryz.prog 63 #[bs s] w fun e w' => e = .returned (lineV (lineL s)) ∧ Below w.heap.size w w' := by
  have HW := Lib.hid (fun W => rWords s (by omega) W)
  have hpos := wordsL_pos s
  have hlw : (lastW s).length ≤ s.length := by
    have h := wordsL_le s
    unfold lastW
    rw [← last_at _ hpos, List.getD_eq_getElem?_getD, List.getElem?_eq_getElem (by omega)]
    exact h _ (List.getElem_mem _)
  have HLa : Hid ((wordsL s).getD ((wordsL s).length - 1) [] = lastW s) := Lib.hid (last_at _ hpos)
  have hlen := wordsL_len s
  have hcut := fun W => run_ahead s (s.length - (lastW s).length) (by omega) W
  have hh : s.take (s.length - (lastW s).length) = headW s := rfl
  rw [hh] at hcut
  have hhl : (headW s).length ≤ s.length := by unfold headW; simp
  have hcat := cat_bs (headW s) [48]
  have hcat2 : ¬ 9223372036854775807 < (headW s).length + 1 := by omega
  have HP1 := Lib.hid (fun W => rParse (headW s ++ [48]) (by simp; omega) W)
  have HP2 := Lib.hid (fun W => rParse s (by omega) W)
  have HNm := Lib.hid (fun W => rName07 (lastW s) W)
  have HG := Lib.hid rGoes
  rw [parse_prs] at HP1 HP2
  have HX : Hid (lineL s = match prs (headW s ++ [48]) with
    | some i => if goesB i = true ∧ nameB (lastW s) = true then some (i, lastW s)
      else match prs s with
        | some j => if goesB j = true then none else some (j, [])
        | none => none
    | none => match prs s with
      | some j => if goesB j = true then none else some (j, [])
      | none => none) := Lib.hid rfl
  generalize lineL s = r at *
  generalize hA : prs (headW s ++ [48]) = pA at *
  generalize hB : prs s = pB at *
  generalize headW s = hd at *
  generalize nameB (lastW s) = nb at *
  have e1 : ((s.length - (lastW s).length : Nat) : Int) = (s.length : Int) - (lastW s).length := by omega
  simp only [e1] at hcut
  clear e1 hA hB hh
  generalize lastW s = la at *
  generalize wordsL s = ws at *
  unfold bs at HW HP1 HP2 HNm ⊢
  go_enter Tryz.func63, Tryz.ntmps63
  go_wp2_with fail
  have b1 : Below w.heap.size w (w.alloc (.cells #[.int .i64 0, .int .i64 0, .int .i64 0, .int .i64 0, .int .i64 0, .int .i64 0, .int .u32 0, .int .i64 0] 125)) := (Below.refl _ _).alloc (Nat.le_refl _) _
  have m1 : Jb (w.alloc (.cells #[.int .i64 0, .int .i64 0, .int .i64 0, .int .i64 0, .int .i64 0, .int .i64 0, .int .u32 0, .int .i64 0] 125)) w.heap.size Ins.zero := Bk.made _ _ _
  generalize w.alloc (.cells #[.int .i64 0, .int .i64 0, .int .i64 0, .int .i64 0, .int .i64 0, .int .i64 0, .int .u32 0, .int .i64 0] 125) = x1 at *
  refine (HW.out x1).mono ?_
  rintro e x2 ⟨v, rfl, hV, b2⟩
  replace m1 := m1.below b2
  replace b1 := b1.trans (b2.mono b1.size)
  clear b2 x1
  obtain ⟨gl, cap, rfl, hS⟩ := ws_of hV hpos
  clear hV HW
  have hc0 := hS.at_ (ws.length - 1) (by omega)
  rw [HLa.out] at hc0
  have e2 : ((ws.length - 1 : Nat) : Int) = (ws.length : Int) - 1 := by omega
  have e3 : ((ws.length : Int) - 1).toNat = ws.length - 1 := by omega
  have i1 : ¬ (ws.length : Int) - 1 < 0 := by omega
  have i2 : (ws.length : Int) - 1 < ws.length := by omega
  go_wp2_with fail
  refine (HP1.out x2).mono ?_
  rintro e x3 ⟨rfl, b3⟩
  replace m1 := m1.below b3
  have bb := b1.trans (b3.mono b1.size)
  have HT : Hid (∀ i, pA = some i → goesB i = true → nb = true → r = some (i, la)) := Lib.hid fun i h1 h2 h3 => by
    rw [HX.out, h1]; simp [h2, h3]
  have HU : Hid ((∀ i, pA = some i → goesB i = true → nb = true → False) → r = tailR pB) := Lib.hid fun h => by
    rw [HX.out]
    rcases pA with _ | i
    · rfl
    · have : ¬ (goesB i = true ∧ nb = true) := fun e => h i rfl e.1 e.2
      simp only [if_neg this]
      rfl
  clear HX HP1 hcut hcat hcat2 hc0 hS b1 b3 x2 i1 i2 e2 e3 HLa hhl
  rcases pA with _ | ⟨op, d, s', t, u, a, k, pl⟩
  case' none =>
    replace HU := Lib.hid (HU.out (by simp))
    clear HT HNm
    rw [show prsV none = .tuple #[.agg #[.int .i64 0, .int .i64 0, .int .i64 0, .int .i64 0, .int .i64 0, .int .i64 0, .int .u32 0, .int .i64 0], .bool false] from rfl]
    go_upto_region 5 with fail
    have m2 := Jb.made x3 0 0 0 0 0 0 0 0
    have hle : w.heap.size < x3.heap.size := Bk.lt m1
    replace m1 : Jb (x3.alloc (.cells #[.int .i64 0, .int .i64 0, .int .i64 0, .int .i64 0, .int .i64 0, .int .i64 0, .int .u32 0, .int .i64 0] 125)) w.heap.size Ins.zero := Bk.alloc m1 _
    replace bb := bb.alloc (o := .cells #[.int .i64 0, .int .i64 0, .int .i64 0, .int .i64 0, .int .i64 0, .int .i64 0, .int .u32 0, .int .i64 0] 125) bb.size
    have hne : w.heap.size ≠ x3.heap.size := Nat.ne_of_lt hle
    generalize x3.heap.size = g at *
    generalize x3.alloc (.cells #[.int .i64 0, .int .i64 0, .int .i64 0, .int .i64 0, .int .i64 0, .int .i64 0, .int .u32 0, .int .i64 0] 125) = x4 at *
    go_wp2_with fail
  case' some =>
    rw [show prsV (some ⟨op, d, s', t, u, a, k, pl⟩) = .tuple #[.agg #[.int .i64 op, .int .i64 d, .int .i64 s', .int .i64 t, .int .i64 u, .int .i64 a, .int .u32 k, .int .i64 pl], .bool true] from rfl]
    go_upto_region 5 with fail
    have m2 := Jb.made x3 op d s' t u a k pl
    have hle : w.heap.size < x3.heap.size := Bk.lt m1
    replace m1 : Jb (x3.alloc (.cells #[.int .i64 op, .int .i64 d, .int .i64 s', .int .i64 t, .int .i64 u, .int .i64 a, .int .u32 k, .int .i64 pl] 125)) w.heap.size Ins.zero := Bk.alloc m1 _
    replace bb := bb.alloc (o := .cells #[.int .i64 op, .int .i64 d, .int .i64 s', .int .i64 t, .int .i64 u, .int .i64 a, .int .u32 k, .int .i64 pl] 125) bb.size
    have hne : w.heap.size ≠ x3.heap.size := Nat.ne_of_lt hle
    generalize x3.heap.size = g at *
    generalize x3.alloc (.cells #[.int .i64 op, .int .i64 d, .int .i64 s', .int .i64 t, .int .i64 u, .int .i64 a, .int .u32 k, .int .i64 pl] 125) = x4 at *
    obtain ⟨c0, c1, c2, c3, c4, c5, c6, c7⟩ := m2.cells
    have hfG := Bk.free m2
    simp only at c0 c1 c2 c3 c4 c5 c6 c7
    go_wp2_with fail
    refine (HG.out ⟨op, d, s', t, u, a, k, pl⟩ x4).mono ?_
    rintro e x5 ⟨rfl, b5⟩
    replace m1 := m1.below b5
    replace m2 := m2.below b5
    replace bb := bb.trans (b5.mono bb.size)
    clear c0 c1 c2 c3 c4 c5 c6 c7 b5 x4 hfG
    rcases hq : goesB ⟨op, d, s', t, u, a, k, pl⟩
    case' false =>
      replace HU := Lib.hid (HU.out (by intro i h1 h2; injection h1 with h1; subst h1; rw [hq] at h2; cases h2))
      clear HT hq HNm
      go_wp2_with fail
    case' true =>
      go_wp2_with fail
      refine (HNm.out x5).mono ?_
      rintro e x6 ⟨rfl, rfl⟩
      clear HNm
      rcases nb
      case' false =>
        replace HU := Lib.hid (HU.out (by simp))
        clear HT hq
        go_wp2_with fail
      case' true =>
        replace HT := Lib.hid (HT.out _ rfl hq rfl)
        clear HU hq HP2 HG
        obtain ⟨c0, c1, c2, c3, c4, c5, c6, c7⟩ := m2.cells
        have hfG := Bk.free m2
        simp only at c0 c1 c2 c3 c4 c5 c6 c7
        obtain ⟨r0, r1, r2, r3, r4, r5, r6, r7⟩ := m1.cells
        have hfR := Bk.free m1
        unfold Ins.zero at r0 r1 r2 r3 r4 r5 r6 r7
        simp only at r0 r1 r2 r3 r4 r5 r6 r7
        go_wp2
        generalize hv : ((((((((x6.setCell ⟨w.heap.size, 0, none⟩ (.int .i64 op)).setCell ⟨w.heap.size, 1, none⟩ (.int .i64 d)).setCell ⟨w.heap.size, 2, none⟩ (.int .i64 s')).setCell ⟨w.heap.size, 3, none⟩ (.int .i64 t)).setCell ⟨w.heap.size, 4, none⟩ (.int .i64 u)).setCell ⟨w.heap.size, 5, none⟩ (.int .i64 a)).setCell ⟨w.heap.size, 6, none⟩ (.int .u32 k)).setCell ⟨w.heap.size, 7, none⟩ (.int .i64 pl)) = v9 at *
        have hv2 : put8 x6 w.heap.size ⟨op, d, s', t, u, a, k, pl⟩ = v9 := hv
        clear hv
        have hA := put8_jb (i := ⟨op, d, s', t, u, a, k, pl⟩) m1
        have hC := put8_below (i := ⟨op, d, s', t, u, a, k, pl⟩) bb (Nat.le_refl _)
        rw [hv2] at hA hC
        clear hv2
        obtain ⟨q0, q1, q2, q3, q4, q5, q6, q7⟩ := hA.cells
        simp only at q0 q1 q2 q3 q4 q5 q6 q7
        refine bodyPost_ret (v := .tuple #[.agg #[.int .i64 op, .int .i64 d, .int .i64 s', .int .i64 t, .int .i64 u, .int .i64 a, .int .u32 k, .int .i64 pl], .string ⟨la.toArray⟩, .bool true]) (by simp [results, Tryz.results63, go_sem, q0, q1, q2, q3, q4, q5, q6, q7]) rfl ⟨?_, hC⟩
        rw [HT.out]; rfl
  all_goals (
    refine (HP2.out _).mono ?_
    rintro e y ⟨rfl, hby⟩
    replace m1 := m1.below hby
    replace m2 := m2.below hby
    replace bb := bb.trans (hby.mono bb.size)
    clear hby HP2
    obtain ⟨c0, c1, c2, c3, c4, c5, c6, c7⟩ := m2.cells
    have hfG := Bk.free m2
    simp only at c0 c1 c2 c3 c4 c5 c6 c7
    rcases pB with _ | ⟨op2, d2, s2, t2, u2, a2, k2, pl2⟩
    · rw [show prsV none = .tuple #[.agg #[.int .i64 0, .int .i64 0, .int .i64 0, .int .i64 0, .int .i64 0, .int .i64 0, .int .u32 0, .int .i64 0], .bool false] from rfl]
      go_upto_region 8 with fail
      generalize hv : ((((((((y.setCell ⟨g, 0, none⟩ (.int .i64 0)).setCell ⟨g, 1, none⟩ (.int .i64 0)).setCell ⟨g, 2, none⟩ (.int .i64 0)).setCell ⟨g, 3, none⟩ (.int .i64 0)).setCell ⟨g, 4, none⟩ (.int .i64 0)).setCell ⟨g, 5, none⟩ (.int .i64 0)).setCell ⟨g, 6, none⟩ (.int .u32 0)).setCell ⟨g, 7, none⟩ (.int .i64 0)) = y2 at *
      have hv2 : put8 y g ⟨0, 0, 0, 0, 0, 0, 0, 0⟩ = y2 := hv
      clear hv
      replace m2 := put8_jb (i := ⟨0, 0, 0, 0, 0, 0, 0, 0⟩) m2
      replace m1 : Jb _ _ _ := put8_off (i := ⟨0, 0, 0, 0, 0, 0, 0, 0⟩) m1 hne
      replace bb := put8_below (i := ⟨0, 0, 0, 0, 0, 0, 0, 0⟩) bb (Nat.le_of_lt hle)
      rw [hv2] at m1 m2 bb
      clear hv2 c0 c1 c2 c3 c4 c5 c6 c7 hfG HG
      obtain ⟨r0, r1, r2, r3, r4, r5, r6, r7⟩ := m1.cells
      have hfR := Bk.free m1
      unfold Ins.zero at r0 r1 r2 r3 r4 r5 r6 r7
      simp only at r0 r1 r2 r3 r4 r5 r6 r7
      go_wp2
      generalize hv : ((((((((y2.setCell ⟨w.heap.size, 0, none⟩ (.int .i64 0)).setCell ⟨w.heap.size, 1, none⟩ (.int .i64 0)).setCell ⟨w.heap.size, 2, none⟩ (.int .i64 0)).setCell ⟨w.heap.size, 3, none⟩ (.int .i64 0)).setCell ⟨w.heap.size, 4, none⟩ (.int .i64 0)).setCell ⟨w.heap.size, 5, none⟩ (.int .i64 0)).setCell ⟨w.heap.size, 6, none⟩ (.int .u32 0)).setCell ⟨w.heap.size, 7, none⟩ (.int .i64 0)) = v9 at *
      have hv2 : put8 y2 w.heap.size ⟨0, 0, 0, 0, 0, 0, 0, 0⟩ = v9 := hv
      clear hv
      have hA := put8_jb (i := ⟨0, 0, 0, 0, 0, 0, 0, 0⟩) m1
      have hC := put8_below (i := ⟨0, 0, 0, 0, 0, 0, 0, 0⟩) bb (Nat.le_refl _)
      rw [hv2] at hA hC
      clear hv2
      obtain ⟨q0, q1, q2, q3, q4, q5, q6, q7⟩ := hA.cells
      simp only at q0 q1 q2 q3 q4 q5 q6 q7
      refine bodyPost_ret (v := .tuple #[.agg #[.int .i64 0, .int .i64 0, .int .i64 0, .int .i64 0, .int .i64 0, .int .i64 0, .int .u32 0, .int .i64 0], .string ⟨#[]⟩, .bool false]) (by simp [results, Tryz.results63, go_sem, q0, q1, q2, q3, q4, q5, q6, q7]) rfl ⟨?_, hC⟩
      rw [HU.out]; rfl
    · rw [show prsV (some ⟨op2, d2, s2, t2, u2, a2, k2, pl2⟩) = .tuple #[.agg #[.int .i64 op2, .int .i64 d2, .int .i64 s2, .int .i64 t2, .int .i64 u2, .int .i64 a2, .int .u32 k2, .int .i64 pl2], .bool true] from rfl]
      go_upto_region 8 with fail
      generalize hv : ((((((((y.setCell ⟨g, 0, none⟩ (.int .i64 op2)).setCell ⟨g, 1, none⟩ (.int .i64 d2)).setCell ⟨g, 2, none⟩ (.int .i64 s2)).setCell ⟨g, 3, none⟩ (.int .i64 t2)).setCell ⟨g, 4, none⟩ (.int .i64 u2)).setCell ⟨g, 5, none⟩ (.int .i64 a2)).setCell ⟨g, 6, none⟩ (.int .u32 k2)).setCell ⟨g, 7, none⟩ (.int .i64 pl2)) = y2 at *
      have hv2 : put8 y g ⟨op2, d2, s2, t2, u2, a2, k2, pl2⟩ = y2 := hv
      clear hv
      replace m2 := put8_jb (i := ⟨op2, d2, s2, t2, u2, a2, k2, pl2⟩) m2
      replace m1 : Jb _ _ _ := put8_off (i := ⟨op2, d2, s2, t2, u2, a2, k2, pl2⟩) m1 hne
      replace bb := put8_below (i := ⟨op2, d2, s2, t2, u2, a2, k2, pl2⟩) bb (Nat.le_of_lt hle)
      rw [hv2] at m1 m2 bb
      clear hv2 c0 c1 c2 c3 c4 c5 c6 c7 hfG
      obtain ⟨c0, c1, c2, c3, c4, c5, c6, c7⟩ := m2.cells
      have hfG := Bk.free m2
      simp only at c0 c1 c2 c3 c4 c5 c6 c7
      go_wp2_with fail
      refine (HG.out ⟨op2, d2, s2, t2, u2, a2, k2, pl2⟩ y2).mono ?_
      rintro e y3 ⟨rfl, b5⟩
      replace m1 := m1.below b5
      replace m2 := m2.below b5
      replace bb := bb.trans (b5.mono bb.size)
      clear c0 c1 c2 c3 c4 c5 c6 c7 b5 hfG HG
      have HZ : Hid (r = if goesB ⟨op2, d2, s2, t2, u2, a2, k2, pl2⟩ = true then none else some (⟨op2, d2, s2, t2, u2, a2, k2, pl2⟩, [])) := Lib.hid HU.out
      clear HU
      obtain ⟨r0, r1, r2, r3, r4, r5, r6, r7⟩ := m1.cells
      have hfR := Bk.free m1
      unfold Ins.zero at r0 r1 r2 r3 r4 r5 r6 r7
      simp only at r0 r1 r2 r3 r4 r5 r6 r7
      obtain ⟨c0, c1, c2, c3, c4, c5, c6, c7⟩ := m2.cells
      have hfG := Bk.free m2
      simp only at c0 c1 c2 c3 c4 c5 c6 c7
      rcases hq2 : goesB ⟨op2, d2, s2, t2, u2, a2, k2, pl2⟩
      · have HY : Hid (r = some (⟨op2, d2, s2, t2, u2, a2, k2, pl2⟩, [])) := Lib.hid (by rw [HZ.out, hq2]; simp)
        clear HZ hq2
        go_wp2
        generalize hv : ((((((((y3.setCell ⟨w.heap.size, 0, none⟩ (.int .i64 op2)).setCell ⟨w.heap.size, 1, none⟩ (.int .i64 d2)).setCell ⟨w.heap.size, 2, none⟩ (.int .i64 s2)).setCell ⟨w.heap.size, 3, none⟩ (.int .i64 t2)).setCell ⟨w.heap.size, 4, none⟩ (.int .i64 u2)).setCell ⟨w.heap.size, 5, none⟩ (.int .i64 a2)).setCell ⟨w.heap.size, 6, none⟩ (.int .u32 k2)).setCell ⟨w.heap.size, 7, none⟩ (.int .i64 pl2)) = v9 at *
        have hv2 : put8 y3 w.heap.size ⟨op2, d2, s2, t2, u2, a2, k2, pl2⟩ = v9 := hv
        clear hv
        have hA := put8_jb (i := ⟨op2, d2, s2, t2, u2, a2, k2, pl2⟩) m1
        have hC := put8_below (i := ⟨op2, d2, s2, t2, u2, a2, k2, pl2⟩) bb (Nat.le_refl _)
        rw [hv2] at hA hC
        clear hv2
        obtain ⟨q0, q1, q2, q3, q4, q5, q6, q7⟩ := hA.cells
        simp only at q0 q1 q2 q3 q4 q5 q6 q7
        refine bodyPost_ret (v := .tuple #[.agg #[.int .i64 op2, .int .i64 d2, .int .i64 s2, .int .i64 t2, .int .i64 u2, .int .i64 a2, .int .u32 k2, .int .i64 pl2], .string ⟨#[]⟩, .bool true]) (by simp [results, Tryz.results63, go_sem, q0, q1, q2, q3, q4, q5, q6, q7]) rfl ⟨?_, hC⟩
        rw [HY.out]; rfl
      · have HY : Hid (r = none) := Lib.hid (by rw [HZ.out, hq2]; simp)
        clear HZ hq2
        go_wp2
        generalize hv : ((((((((y3.setCell ⟨w.heap.size, 0, none⟩ (.int .i64 0)).setCell ⟨w.heap.size, 1, none⟩ (.int .i64 0)).setCell ⟨w.heap.size, 2, none⟩ (.int .i64 0)).setCell ⟨w.heap.size, 3, none⟩ (.int .i64 0)).setCell ⟨w.heap.size, 4, none⟩ (.int .i64 0)).setCell ⟨w.heap.size, 5, none⟩ (.int .i64 0)).setCell ⟨w.heap.size, 6, none⟩ (.int .u32 0)).setCell ⟨w.heap.size, 7, none⟩ (.int .i64 0)) = v9 at *
        have hv2 : put8 y3 w.heap.size ⟨0, 0, 0, 0, 0, 0, 0, 0⟩ = v9 := hv
        clear hv
        have hA := put8_jb (i := ⟨0, 0, 0, 0, 0, 0, 0, 0⟩) m1
        have hC := put8_below (i := ⟨0, 0, 0, 0, 0, 0, 0, 0⟩) bb (Nat.le_refl _)
        rw [hv2] at hA hC
        clear hv2
        obtain ⟨q0, q1, q2, q3, q4, q5, q6, q7⟩ := hA.cells
        simp only at q0 q1 q2 q3 q4 q5 q6 q7
        refine bodyPost_ret (v := .tuple #[.agg #[.int .i64 0, .int .i64 0, .int .i64 0, .int .i64 0, .int .i64 0, .int .i64 0, .int .u32 0, .int .i64 0], .string ⟨#[]⟩, .bool false]) (by simp [results, Tryz.results63, go_sem, q0, q1, q2, q3, q4, q5, q6, q7]) rfl ⟨?_, hC⟩
        rw [HY.out]; rfl)
end Go.Proofs.YthdgehcghklflaaGreatDoor

/- (*draft).code: where labels are. -/
namespace Go.Proofs.YthdgehcghklflaaGreatDoor
open Go.ChangeShapes Go.WideShapes Go.ChangeAt Go.RowKit Go.Shelf
set_option linter.unusedVariables false

theorem rowsC_at {rs : List Rw} {k : Nat} {r : Rw} (h : rs[k]? = some r) {j : Nat} (hj : j < 10) : (rowsC rs)[k * 10 + j]? = (rowC r)[j]? := flat_at rowC 10 rowC_len rs k j r h hj
/-- No label stands twice, and none is beyond n. -/
def LabOk (ls : List (List UInt8 × Int)) (n : Int) : Prop := (ls.map (·.1)).Nodup ∧ ∀ x ∈ ls, 0 ≤ x.2 ∧ x.2 ≤ n
theorem find_lab : ∀ {ls : List (List UInt8 × Int)} {n : Int}, LabOk ls n → ∀ s, findL ls s n = if labB ls s = true ∧ labAt ls s ≠ n then labAt ls s else -1
  | [], n, _, s => by simp [findL, labB]
  | (t, q) :: ls, n, ⟨h1, h2⟩, s => by
    have ih := find_lab (ls := ls) (n := n) ⟨(List.nodup_cons.1 h1).2, fun x hx => h2 x (List.mem_cons_of_mem _ hx)⟩ s
    have hq := h2 (t, q) List.mem_cons_self
    by_cases e : t = s
    · subst e
      have hno : labB ls t = false := by
        unfold labB
        rw [List.any_eq_false]
        intro x hx
        have := (List.nodup_cons.1 h1).1
        simp only [List.mem_map, not_exists, not_and] at this
        simpa using this x hx
      have hf : ls.find? (fun x => x.1 == t && decide (x.2 < n)) = none := by
        rw [List.find?_eq_none]
        intro x hx
        unfold labB at hno
        rw [List.any_eq_false] at hno
        have := hno x hx
        simp at this ⊢
        intro e
        exact absurd e this
      simp only at hq
      by_cases hn : q < n
      · have : q ≠ n := by omega
        simp [findL, labB, labAt, hn, this]
      · have : q = n := by omega
        simp [findL, labB, labAt, this, hf]
    · have e1 : (t == s) = false := by simpa using e
      have e2 : findL ((t, q) :: ls) s n = findL ls s n := by simp [findL, e1]
      have e3 : labB ((t, q) :: ls) s = labB ls s := by simp [labB, e1]
      have e4 : labAt ((t, q) :: ls) s = labAt ls s := by simp [labAt, e1]
      rw [e2, e3, e4, ih]
theorem placeV_find {ls : List (List UInt8 × Int)} {n : Int} (h : LabOk ls n) (s : List UInt8) : (findL ls s n < 0 ∧ placeV ls s n = .tuple #[.int .i64 0, .bool false]) ∨ (0 ≤ findL ls s n ∧ findL ls s n < n ∧ placeV ls s n = .tuple #[.int .i64 (findL ls s n), .bool true]) := by
  rw [find_lab h s]
  unfold placeV
  by_cases hc : labB ls s = true ∧ labAt ls s ≠ n
  · rw [if_pos hc, if_pos hc]
    have : 0 ≤ labAt ls s ∧ labAt ls s ≤ n := by
      unfold labAt
      split
      · rename_i x hx
        exact h.2 x (List.mem_of_find?_eq_some hx)
      · rename_i hx
        exfalso
        have := hc.1
        unfold labB at this
        rw [List.any_eq_true] at this
        obtain ⟨x, hx1, hx2⟩ := this
        rw [List.find?_eq_none] at hx
        exact hx x hx1 hx2
    exact .inr ⟨this.1, by have := hc.2; omega, rfl⟩
  · rw [if_neg hc, if_neg hc]
    exact .inl ⟨by omega, rfl⟩

/-- Done so far, and what the rest comes to. -/
def joinR (done : List Ins) : (Int × Int) ⊕ List Ins → (Int × Int) ⊕ List Ins
  | .inl e => .inl e
  | .inr l => .inr (done ++ l)
theorem joinR_nil (x : (Int × Int) ⊕ List Ins) : joinR [] x = x := by cases x <;> rfl
theorem join_skip (ls : List (List UInt8 × Int)) (n : Int) (done : List Ins) (i : Ins) (row : Int) (more : List Rw) : joinR done (asm2 ls n ((i, [], row) :: more)) = joinR (done ++ [i]) (asm2 ls n more) := by
  rw [asm2_skip]
  cases asm2 ls n more <;> simp [joinR]
theorem join_name (ls : List (List UInt8 × Int)) (n : Int) (done : List Ins) (i : Ins) (nm : List UInt8) (hn : nm ≠ []) (row : Int) (more : List Rw) (h : 0 ≤ findL ls nm n) : joinR done (asm2 ls n ((i, nm, row) :: more)) = joinR (done ++ [{ i with pl := findL ls nm n }]) (asm2 ls n more) := by
  rw [asm2_name ls n i nm hn, if_neg (by omega)]
  cases asm2 ls n more <;> simp [joinR]
theorem join_bad (ls : List (List UInt8 × Int)) (n : Int) (done : List Ins) (i : Ins) (nm : List UInt8) (hn : nm ≠ []) (row : Int) (more : List Rw) (h : findL ls nm n < 0) : joinR done (asm2 ls n ((i, nm, row) :: more)) = .inl (row, 10) := by
  rw [asm2_name ls n i nm hn, if_pos h]
  rfl

/-- Behind one more instruction (its append is done, its store isn't). -/
def CodeStep (w w' : World) (k : Nat) (done : List Ins) (v : Value) : Prop :=
  done.length = k + 1 ∧ Below w.heap.size w (w'.setCell ⟨w.heap.size + 1, 0, none⟩ v) ∧ Bk (w'.setCell ⟨w.heap.size + 1, 0, none⟩ v) w.heap.size 25 #[.slice none 0 0, .int .i64 0, .int .i64 0] ∧ Bk (w'.setCell ⟨w.heap.size + 1, 0, none⟩ v) (w.heap.size + 1) 25 #[v, .int .i64 0, .int .i64 0] ∧
    (w'.setCell ⟨w.heap.size + 1, 0, none⟩ v).ownsRow w.heap.size 119 8 v (k + 1) (progC done)
section
variable {w x w' : World} {k : Nat} {done : List Ins} {v v' : Value} {i : Ins} {o : Obj}
theorem code_kept {g : Nat} {cs : Array Value} (hC : Bk x g 25 cs) (hO : x.ownsRow w.heap.size 119 8 v k (progC done)) (hg : (x.alloc o).grownBy w' v.ownBlock) : Bk w' g 25 cs :=
  Bk.grown (hC.alloc o) hg fun e => by
    obtain ⟨cs, hcs⟩ := own_bk hO e.symm
    exact Bk.unlike hcs hC (by decide) rfl
theorem code_step (hb : Below w.heap.size w x) (hR : Bk x w.heap.size 25 #[.slice none 0 0, .int .i64 0, .int .i64 0]) (hC : Bk x (w.heap.size + 1) 25 #[v, .int .i64 0, .int .i64 0]) (hO : x.ownsRow w.heap.size 119 8 v k (progC done)) (hd : done.length = k)
    (hw : w'.ownsRow w.heap.size 119 8 v' (k + 1) (progC done ++ insC i)) (hg : (x.alloc o).grownBy w' v.ownBlock) : CodeStep w w' k (done ++ [i]) v' := by
  have hR2 := code_kept hR hO hg
  have hC2 := code_kept hC hO hg
  have hb2 : Below w.heap.size w w' := Below.grown (hb.alloc (o := o) hb.size) hg (by rw [World.size_alloc]; have := hb.size; omega) (fun j hj => (World.ownsRow.lt hO j hj).1)
  refine ⟨by simp [hd], hb2.setCell (by show w.heap.size ≤ w.heap.size + 1; omega) _, hR2.off (by show w.heap.size ≠ w.heap.size + 1; omega) _, hC2.put 0 v', ?_⟩
  rw [progC_snoc]
  refine own_within hw ((Within.refl w' (fun b => b = w.heap.size + 1)).put (w.heap.size + 1) 0 v' (.inl rfl)) fun b e e2 => ?_
  obtain ⟨cs, hcs⟩ := own_bk hw e
  exact Bk.unlike hcs hC2 (by decide) e2
end

set_option maxHeartbeats 1000000 in
theorem cCode {w : World} {p m lo : Nat} {ls : List (List UInt8 × Int)} {rs : List Rw} (h : Dr w p m lo ls rs) (hr : rs.length ≤ 64) (hL : LabOk ls rs.length) (hN : ∀ r ∈ rs, r.2.1.length ≤ 16) :
    Calls Tryz.prog 61 #[.pointer (some ⟨p, 0, none⟩)] w fun e w' => ∃ v, e = .returned (.tuple #[v, .int .i64 (finishL ls rs).2.1, .int .i64 (finishL ls rs).2.2]) ∧ Pg w' w.heap.size v (finishL ls rs).1 ∧ Below w.heap.size w w' := by
  have hpl := h.lts.1
  have HP : Hid (∀ (W : World) (s : List UInt8), Below w.heap.size w W → s.length ≤ 16 → Calls Tryz.prog 100 #[.pointer (some ⟨p, 0, none⟩), bs s] W fun e w' => e = .returned (placeV ls s rs.length) ∧ W = w') :=
    Lib.hid fun W s hW hs => cPlace (h.within (within_of_below hW) (by simp) (by simp) (by simp)) s (by omega)
  obtain ⟨sl, h1, -, h3⟩ := h
  obtain ⟨a, cap, rfl, hcap, hmax, hg⟩ := own_is h3
  have HE : Hid (∀ x, asm2 ls rs.length rs = .inl x → finishL ls rs = (Prg.zero, x.1, x.2)) := Lib.hid fun x hx => by unfold finishL; rw [hx]
  have HF : Hid (∀ l, asm2 ls rs.length rs = .inr l → finishL ls rs = if findL ls lockW rs.length < 0 ∨ findL ls unlockW rs.length < 0 then (Prg.zero, 0, 10) else (⟨l, findL ls lockW rs.length, findL ls unlockW rs.length⟩, 0, 0)) := Lib.hid fun l hl => by unfold finishL; rw [hl]
  have HL : Hid (∀ s : List UInt8, (findL ls s rs.length < 0 ∧ placeV ls s rs.length = .tuple #[.int .i64 0, .bool false]) ∨ (0 ≤ findL ls s rs.length ∧ findL ls s rs.length < rs.length ∧ placeV ls s rs.length = .tuple #[.int .i64 (findL ls s rs.length), .bool true])) := Lib.hid fun s => placeV_find hL s
  generalize finishL ls rs = fin at *
  have HR : Hid (∀ k r, rs[k]? = some r → ∃ g, a = some ⟨g, 0, none⟩ ∧ g < w.heap.size ∧ r.2.1.length ≤ 16 ∧ ∀ j, j < 10 → w.cell? ⟨g, k * 10 + j, none⟩ = (rowC r)[j]?) := Lib.hid fun k r hk => by
    have hkl := (List.getElem?_eq_some_iff.1 hk).1
    obtain ⟨g, e1, e2, e3, e4, e5, e6⟩ := hg (by omega)
    refine ⟨g, e1, e4, hN r (List.mem_of_getElem? hk), fun j hj => ?_⟩
    rw [e6 _ (by omega), rowsC_at hk hj]
  have c0 : ((w.alloc (.cells #[.slice none 0 0, .int .i64 0, .int .i64 0] 25)).alloc (.cells #[.slice none 0 0, .int .i64 0, .int .i64 0] 25)).cell? ⟨p, 0, none⟩ = some (.slice a rs.length cap) := ((h1.alloc _).alloc _).cell 0
  clear hg hN
  go_enter Tryz.func61, Tryz.ntmps61
  go_wp2
  have b0 : Below w.heap.size w ((w.alloc (.cells #[.slice none 0 0, .int .i64 0, .int .i64 0] 25)).alloc (.cells #[.slice none 0 0, .int .i64 0, .int .i64 0] 25)) := ((Below.refl _ _).alloc (Nat.le_refl _) _).alloc (by simp) _
  have r0 := (Bk.made w 25 #[.slice none 0 0, .int .i64 0, .int .i64 0]).alloc (.cells #[.slice none 0 0, .int .i64 0, .int .i64 0] 25)
  have d0 := Bk.made (w.alloc (.cells #[.slice none 0 0, .int .i64 0, .int .i64 0] 25)) 25 #[.slice none 0 0, .int .i64 0, .int .i64 0]
  rw [World.size_alloc] at d0
  generalize (w.alloc (.cells #[.slice none 0 0, .int .i64 0, .int .i64 0] 25)).alloc (.cells #[.slice none 0 0, .int .i64 0, .int .i64 0] 25) = w0 at *
  go_loopw [3, 4, 19] (fun l e i wr => ∃ (k : Nat) (done : List Ins) (v : Value), l = .int .i64 0 ∧ e = .int .i64 0 ∧ i = .int .i64 k ∧ k ≤ rs.length ∧ done.length = k ∧ Below w.heap.size w wr ∧ Bk wr w.heap.size 25 #[.slice none 0 0, .int .i64 0, .int .i64 0] ∧ Bk wr (w.heap.size + 1) 25 #[v, .int .i64 0, .int .i64 0] ∧
      wr.ownsRow w.heap.size 119 8 v k (progC done) ∧ Hid (asm2 ls rs.length rs = joinR done (asm2 ls rs.length (rs.drop k)))) (fun _ _ i _ => rs.length - (intOf i).toNat)
  case atStart => exact ⟨0, [], .slice none 0 0, rfl, rfl, rfl, Nat.zero_le _, rfl, b0, r0, d0, World.ownsRow_nil _ _ _ _, Lib.hid (by rw [joinR_nil, List.drop_zero])⟩
  case round =>
    obtain ⟨k, done, v, rfl, rfl, rfl, hk, hdl, hb, hR, hC, hO, HJ⟩ := hrel
    clear c0 b0 r0 d0 w0
    by_cases hlt : k < rs.length
    · have hki : (k : Int) < rs.length := by omega
      obtain ⟨g, rfl, hgl, hnl, hcs⟩ := HR.out k _ (List.getElem?_eq_getElem hlt)
      have hdr : rs.drop k = rs[k] :: rs.drop (k + 1) := List.drop_eq_getElem_cons hlt
      rw [hdr] at HJ
      clear hdr
      generalize rs[k] = r at *
      obtain ⟨⟨op, d, s', t, u, a', k', pl⟩, nm, ln⟩ := r
      have hcw : ∀ j, j < 10 → wr.cell? ⟨g, k * 10 + j, none⟩ = _ := fun j hj => (hb.cell (p := ⟨g, k * 10 + j, none⟩) hgl).trans (hcs j hj)
      have e0 : wr.cell? ⟨g, k * 10, none⟩ = some (.int .i64 op) := hcw 0 (by omega)
      have e1 : wr.cell? ⟨g, k * 10 + 1, none⟩ = some (.int .i64 d) := hcw 1 (by omega)
      have e2 : wr.cell? ⟨g, k * 10 + 2, none⟩ = some (.int .i64 s') := hcw 2 (by omega)
      have e3 : wr.cell? ⟨g, k * 10 + 3, none⟩ = some (.int .i64 t) := hcw 3 (by omega)
      have e4 : wr.cell? ⟨g, k * 10 + 4, none⟩ = some (.int .i64 u) := hcw 4 (by omega)
      have e5 : wr.cell? ⟨g, k * 10 + 5, none⟩ = some (.int .i64 a') := hcw 5 (by omega)
      have e6 : wr.cell? ⟨g, k * 10 + 6, none⟩ = some (.int .u32 k') := hcw 6 (by omega)
      have e7 : wr.cell? ⟨g, k * 10 + 7, none⟩ = some (.int .i64 pl) := hcw 7 (by omega)
      have e8 : wr.cell? ⟨g, k * 10 + 8, none⟩ = some (.string ⟨nm.toArray⟩) := hcw 8 (by omega)
      have e9 : wr.cell? ⟨g, k * 10 + 9, none⟩ = some (.int .i64 ln) := hcw 9 (by omega)
      clear hcw hcs
      go_upto_region 5 with fail
      clear e0 e1 e2 e3 e4 e5 e6 e7 e8 e9
      have xq := Bk.made wr 204 #[.int .i64 op, .int .i64 d, .int .i64 s', .int .i64 t, .int .i64 u, .int .i64 a', .int .u32 k', .int .i64 pl, .string ⟨nm.toArray⟩, .int .i64 ln]
      have hne1 : wr.heap.size ≠ w.heap.size := Nat.ne_of_gt hR.lt
      have hne2 : wr.heap.size ≠ w.heap.size + 1 := Nat.ne_of_gt hC.lt
      have hge : w.heap.size ≤ wr.heap.size := hb.size
      replace hR := hR.alloc (.cells #[.int .i64 op, .int .i64 d, .int .i64 s', .int .i64 t, .int .i64 u, .int .i64 a', .int .u32 k', .int .i64 pl, .string ⟨nm.toArray⟩, .int .i64 ln] 204)
      replace hC := hC.alloc (.cells #[.int .i64 op, .int .i64 d, .int .i64 s', .int .i64 t, .int .i64 u, .int .i64 a', .int .u32 k', .int .i64 pl, .string ⟨nm.toArray⟩, .int .i64 ln] 204)
      replace hO := World.ownsRow.alloc hO (.cells #[.int .i64 op, .int .i64 d, .int .i64 s', .int .i64 t, .int .i64 u, .int .i64 a', .int .u32 k', .int .i64 pl, .string ⟨nm.toArray⟩, .int .i64 ln] 204)
      replace hb := hb.alloc (o := .cells #[.int .i64 op, .int .i64 d, .int .i64 s', .int .i64 t, .int .i64 u, .int .i64 a', .int .u32 k', .int .i64 pl, .string ⟨nm.toArray⟩, .int .i64 ln] 204) hb.size
      generalize hq : wr.heap.size = q at *
      generalize wr.alloc (.cells #[.int .i64 op, .int .i64 d, .int .i64 s', .int .i64 t, .int .i64 u, .int .i64 a', .int .u32 k', .int .i64 pl, .string ⟨nm.toArray⟩, .int .i64 ln] 204) = x at *
      have c8 : x.cell? ⟨q, 8, none⟩ = some (.string ⟨nm.toArray⟩) := xq.cell 8
      by_cases hnm : nm = []
      case' pos =>
        subst hnm
        rw [join_skip] at HJ
        go_upto_region 10 with fail
        generalize pl = plx at *
      case' neg =>
        have hn0 : (nm == []) = false := by simpa using hnm
        rcases HL.out nm with ⟨hf, hv⟩ | ⟨hf0, hf1, hv⟩
        case' inl =>
          rw [join_bad _ _ _ _ _ hnm _ _ hf] at HJ
          have HQ := Lib.hid (HE.out _ HJ.out)
          have HP2 := Lib.hid (HP.out x nm hb hnl)
          rw [hv] at HP2
          have c9 : x.cell? ⟨q, 9, none⟩ = some (.int .i64 ln) := xq.cell 9
          obtain ⟨z0, z1, z2⟩ : x.cell? ⟨w.heap.size, 0, none⟩ = some (.slice none 0 0) ∧ x.cell? ⟨w.heap.size, 1, none⟩ = some (.int .i64 0) ∧ x.cell? ⟨w.heap.size, 2, none⟩ = some (.int .i64 0) := ⟨hR.cell 0, hR.cell 1, hR.cell 2⟩
          have zf := hR.free
          clear HJ HE HF HL HP HR hL hnm
          go_wp2_with fail
          refine HP2.out.mono ?_
          rintro e x2 ⟨rfl, rfl⟩
          go_wp2
          go_region
          go_wp2
          have h9 := put3_bk hR (.slice none 0 0) (.int .i64 0) (.int .i64 0)
          have b9 := put3_below hb (Nat.le_refl _) (.slice none 0 0) (.int .i64 0) (.int .i64 0)
          replace b9 : Below w.heap.size w (put3 x w.heap.size (.slice none 0 0) (.int .i64 0) (.int .i64 0)).drew := b9.drew
          replace h9 : Bk (put3 x w.heap.size (.slice none 0 0) (.int .i64 0) (.int .i64 0)).drew w.heap.size 25 #[.slice none 0 0, .int .i64 0, .int .i64 0] := h9
          generalize hv : (((x.setCell ⟨w.heap.size, 0, none⟩ (.slice none 0 0)).setCell ⟨w.heap.size, 1, none⟩ (.int .i64 0)).setCell ⟨w.heap.size, 2, none⟩ (.int .i64 0)).drew = v9
          replace hv : (put3 x w.heap.size (.slice none 0 0) (.int .i64 0) (.int .i64 0)).drew = v9 := hv
          rw [hv] at h9 b9
          obtain ⟨y0, y1, y2⟩ : v9.cell? ⟨w.heap.size, 0, none⟩ = some (.slice none 0 0) ∧ v9.cell? ⟨w.heap.size, 1, none⟩ = some (.int .i64 0) ∧ v9.cell? ⟨w.heap.size, 2, none⟩ = some (.int .i64 0) := ⟨h9.cell 0, h9.cell 1, h9.cell 2⟩
          refine bodyPost_ret (v := .tuple #[.agg #[.slice none 0 0, .int .i64 0, .int .i64 0], .int .i64 ln, .int .i64 10]) (by simp [results, Tryz.results61, go_sem, y0, y1, y2]) rfl ⟨.agg #[.slice none 0 0, .int .i64 0, .int .i64 0], ?_, ?_, b9⟩
          · rw [HQ.out]
          · rw [HQ.out]; exact ⟨_, rfl, World.ownsRow_nil _ _ _ _⟩
        case' inr =>
          rw [join_name _ _ _ _ _ hnm _ _ hf0] at HJ
          have HP2 := Lib.hid (HP.out x nm hb hnl)
          rw [hv] at HP2
          generalize findL ls nm rs.length = plx at *
          have c7 : x.cell? ⟨q, 7, none⟩ = some (.int .i64 pl) := xq.cell 7
          have f7 := xq.free 7
          go_wp2_with fail
          refine HP2.out.mono ?_
          rintro e x2 ⟨rfl, rfl⟩
          go_upto_region 10 with fail
          replace hb := hb.setCell (p := ⟨q, 7, none⟩) hge (.int .i64 plx)
          replace hR := hR.off (p := ⟨q, 7, none⟩) (fun e => hne1 e.symm) (.int .i64 plx)
          replace hC := hC.off (p := ⟨q, 7, none⟩) (fun e => hne2 e.symm) (.int .i64 plx)
          replace hO := own_within hO ((Within.refl x (fun b => b = q)).put q 7 (.int .i64 plx) (.inl rfl)) (fun b e e2 => by
            obtain ⟨cs, hcs⟩ := own_bk hO e
            exact Bk.unlike hcs xq (by decide) e2)
          replace xq := xq.put 7 (.int .i64 plx)
          simp only [List.setIfInBounds_toArray, List.set_cons_zero, List.set_cons_succ] at xq
          generalize x.setCell ⟨q, 7, none⟩ (.int .i64 plx) = x at *
      all_goals (
        obtain ⟨e0, e1, e2, e3, e4, e5, e6, e7⟩ : x.cell? ⟨q, 0, none⟩ = some (.int .i64 op) ∧ x.cell? ⟨q, 1, none⟩ = some (.int .i64 d) ∧ x.cell? ⟨q, 2, none⟩ = some (.int .i64 s') ∧ x.cell? ⟨q, 3, none⟩ = some (.int .i64 t) ∧ x.cell? ⟨q, 4, none⟩ = some (.int .i64 u) ∧ x.cell? ⟨q, 5, none⟩ = some (.int .i64 a') ∧ x.cell? ⟨q, 6, none⟩ = some (.int .u32 k') ∧ x.cell? ⟨q, 7, none⟩ = some (.int .i64 plx) :=
          ⟨xq.cell 0, xq.cell 1, xq.cell 2, xq.cell 3, xq.cell 4, xq.cell 5, xq.cell 6, xq.cell 7⟩
        obtain ⟨a2, cap2, rfl, hcap2, hmax2, _⟩ := own_is hO
        have v0 : x.cell? ⟨w.heap.size + 1, 0, none⟩ = some (.slice a2 k cap2) := hC.cell 0
        have HO := Lib.hid (World.ownsRow.alloc hO (.cells #[.int .i64 op, .int .i64 d, .int .i64 s', .int .i64 t, .int .i64 u, .int .i64 a', .int .u32 k', .int .i64 plx] 119))
        have HN2 := Lib.hid (news_bk (Bk.made x 119 #[.int .i64 op, .int .i64 d, .int .i64 s', .int .i64 t, .int .i64 u, .int .i64 a', .int .u32 k', .int .i64 plx]))
        have HBS : Hid (w.heap.size ≤ (x.alloc (.cells #[.int .i64 op, .int .i64 d, .int .i64 s', .int .i64 t, .int .i64 u, .int .i64 a', .int .u32 k', .int .i64 plx] 119)).heap.size) := Lib.hid (by rw [World.size_alloc]; have := hb.size; omega)
        have HEND : Hid (∀ (w' : World) (v' : Value), w'.ownsRow w.heap.size 119 8 v' (k + 1) (progC done ++ insC ⟨op, d, s', t, u, a', k', plx⟩) → (x.alloc (.cells #[.int .i64 op, .int .i64 d, .int .i64 s', .int .i64 t, .int .i64 u, .int .i64 a', .int .u32 k', .int .i64 plx] 119)).grownBy w' (Value.slice a2 k cap2).ownBlock → CodeStep w w' k (done ++ [⟨op, d, s', t, u, a', k', plx⟩]) v') := Lib.hid fun w' v' hw hg => code_step hb hR hC hO hdl hw hg
        have HCC : Hid (∀ (w' : World), (x.alloc (.cells #[.int .i64 op, .int .i64 d, .int .i64 s', .int .i64 t, .int .i64 u, .int .i64 a', .int .u32 k', .int .i64 plx] 119)).grownBy w' (Value.slice a2 k cap2).ownBlock → Bk w' (w.heap.size + 1) 25 #[.slice a2 k cap2, .int .i64 0, .int .i64 0]) := Lib.hid fun w' hg => code_kept hC hO hg
        clear HR HP HL HE HF hL hcap hmax c8 hR hC hO xq hb
        go_wp2_with (at_builtin; refine wpOwn rfl _ _ 23 rfl _ 64 Tryz.underlying23 insInfo rfl (by omega) (by omega) HO.out rfl (insC ⟨op, d, s', t, u, a', k', plx⟩) rfl (insC_one _) x.heap.size rfl HN2.out (by omega) HBS.out ?_; intro v' w' hown hgr hloc; have hcc := HCC.out w' hgr; have cc0 : w'.cell? ⟨w.heap.size + 1, 0, none⟩ = some (.slice a2 k cap2) := hcc.cell 0; have cf0 := hcc.free 0; have HS := Lib.hid (HEND.out w' v' hown hgr); obtain ⟨a3, cap3, rfl, _, _, _⟩ := own_is hown)
        obtain ⟨s1, s2, s3, s4, s5⟩ := HS.out
        go_roundw
        case rel => exact ⟨k + 1, done ++ [⟨op, d, s', t, u, a', k', plx⟩], .slice a3 (k + 1) cap3, rfl, rfl, by go_num, by omega, s1, s2, s3, s4, s5, HJ⟩
        case measure =>
          show rs.length - ((k : Int) + 1).toNat < rs.length - (k : Int).toNat
          omega)
    · obtain rfl : k = rs.length := by omega
      have hki : ¬ (rs.length : Int) < rs.length := by omega
      have HF2 := Lib.hid (HF.out done (by rw [HJ.out, List.drop_of_length_le (by omega)]; simp [asm2, joinR]))
      have PL : Hid (∀ W : World, Below w.heap.size w W → Calls Tryz.prog 100 #[.pointer (some ⟨p, 0, none⟩), .string ⟨#[108, 111, 99, 107]⟩] W fun e w' => e = .returned (placeV ls lockW rs.length) ∧ W = w') := Lib.hid fun W hW => HP.out W lockW hW (by decide)
      have PU : Hid (∀ W : World, Below w.heap.size w W → Calls Tryz.prog 100 #[.pointer (some ⟨p, 0, none⟩), .string ⟨#[117, 110, 108, 111, 99, 107]⟩] W fun e w' => e = .returned (placeV ls unlockW rs.length) ∧ W = w') := Lib.hid fun W hW => HP.out W unlockW hW (by decide)
      have FL := Lib.hid (HL.out lockW)
      have FU := Lib.hid (HL.out unlockW)
      generalize findL ls lockW rs.length = fl at *
      generalize findL ls unlockW rs.length = fu at *
      generalize placeV ls lockW rs.length = pvl at *
      generalize placeV ls unlockW rs.length = pvu at *
      obtain ⟨z0, z1, z2⟩ : wr.cell? ⟨w.heap.size, 0, none⟩ = some (.slice none 0 0) ∧ wr.cell? ⟨w.heap.size, 1, none⟩ = some (.int .i64 0) ∧ wr.cell? ⟨w.heap.size, 2, none⟩ = some (.int .i64 0) := ⟨hR.cell 0, hR.cell 1, hR.cell 2⟩
      have zf := hR.free
      clear HJ HE HF HL HP HR hL
      go_wp2_with fail
      refine (PL.out _ hb).mono ?_
      rintro e x ⟨rfl, rfl⟩
      by_cases hfl : fl < 0
      case' pos =>
        obtain rfl : pvl = .tuple #[.int .i64 0, .bool false] := by
          rcases FL.out with ⟨_, e⟩ | ⟨h, _⟩
          · exact e
          · omega
        go_wp2_with fail
        refine (PU.out _ hb).mono ?_
        rintro e x ⟨rfl, rfl⟩
        have HQ : Hid (fin = (Prg.zero, 0, 10)) := Lib.hid (by rw [HF2.out, if_pos (.inl hfl)])
        rcases FU.out with ⟨hfu, rfl⟩ | ⟨hfu, hfu2, rfl⟩
        case' inl => go_wp2
        case' inr => go_wp2
      case' neg =>
        obtain rfl : pvl = .tuple #[.int .i64 fl, .bool true] := by
          rcases FL.out with ⟨h, _⟩ | ⟨_, _, e⟩
          · omega
          · exact e
        go_wp2_with fail
        refine (PU.out _ hb).mono ?_
        rintro e x ⟨rfl, rfl⟩
        rcases hfuu : decide (fu < 0)
        case' true =>
          have hfu : fu < 0 := by simpa using hfuu
          obtain rfl : pvu = .tuple #[.int .i64 0, .bool false] := by
            rcases FU.out with ⟨_, e⟩ | ⟨h, _⟩
            · exact e
            · omega
          have HQ : Hid (fin = (Prg.zero, 0, 10)) := Lib.hid (by rw [HF2.out, if_pos (.inr hfu)])
          go_wp2
        case' false =>
          have hfu : ¬ fu < 0 := by simpa using hfuu
          obtain rfl : pvu = .tuple #[.int .i64 fu, .bool true] := by
            rcases FU.out with ⟨h, _⟩ | ⟨_, _, e⟩
            · omega
            · exact e
          have HQ : Hid (fin = (⟨done, fl, fu⟩, 0, 0)) := Lib.hid (by rw [HF2.out, if_neg (by omega)])
          obtain ⟨a2, cap2, rfl, _, _, _⟩ := own_is hO
          obtain ⟨y0, y1, y2⟩ : wr.cell? ⟨w.heap.size + 1, 0, none⟩ = some (.slice a2 rs.length cap2) ∧ wr.cell? ⟨w.heap.size + 1, 1, none⟩ = some (.int .i64 0) ∧ wr.cell? ⟨w.heap.size + 1, 2, none⟩ = some (.int .i64 0) := ⟨hC.cell 0, hC.cell 1, hC.cell 2⟩
          have yf := hC.free
          have hC9 : Bk ((wr.setCell ⟨w.heap.size + 1, 1, none⟩ (.int .i64 fl)).setCell ⟨w.heap.size + 1, 2, none⟩ (.int .i64 fu)) (w.heap.size + 1) 25 #[.slice a2 rs.length cap2, .int .i64 fl, .int .i64 fu] := (hC.put 1 _).put 2 _
          have hR9 := (hR.off (p := ⟨w.heap.size + 1, 1, none⟩) (by show w.heap.size ≠ w.heap.size + 1; omega) (.int .i64 fl)).off (p := ⟨w.heap.size + 1, 2, none⟩) (by show w.heap.size ≠ w.heap.size + 1; omega) (.int .i64 fu)
          have hb9 := (hb.setCell (p := ⟨w.heap.size + 1, 1, none⟩) (by show w.heap.size ≤ w.heap.size + 1; omega) (.int .i64 fl)).setCell (p := ⟨w.heap.size + 1, 2, none⟩) (by show w.heap.size ≤ w.heap.size + 1; omega) (.int .i64 fu)
          have hO9 := own_within hO (((Within.refl wr (fun b => b = w.heap.size + 1)).put (w.heap.size + 1) 1 (.int .i64 fl) (.inl rfl)).put (w.heap.size + 1) 2 (.int .i64 fu) (.inl rfl)) (fun b e e2 => by
            obtain ⟨cs, hcs⟩ := own_bk hO e
            exact Bk.unlike hcs hC (by decide) e2)
          clear HF2 PL PU FL FU hR hC hb hO
          go_upto_region 17 with fail
          clear y0 y1 y2 yf z0 z1 z2 zf
          generalize (wr.setCell ⟨w.heap.size + 1, 1, none⟩ (.int .i64 fl)).setCell ⟨w.heap.size + 1, 2, none⟩ (.int .i64 fu) = y at *
          obtain ⟨y0, y1, y2⟩ : y.cell? ⟨w.heap.size + 1, 0, none⟩ = some (.slice a2 rs.length cap2) ∧ y.cell? ⟨w.heap.size + 1, 1, none⟩ = some (.int .i64 fl) ∧ y.cell? ⟨w.heap.size + 1, 2, none⟩ = some (.int .i64 fu) := ⟨hC9.cell 0, hC9.cell 1, hC9.cell 2⟩
          obtain ⟨z0, z1, z2⟩ : y.cell? ⟨w.heap.size, 0, none⟩ = some (.slice none 0 0) ∧ y.cell? ⟨w.heap.size, 1, none⟩ = some (.int .i64 0) ∧ y.cell? ⟨w.heap.size, 2, none⟩ = some (.int .i64 0) := ⟨hR9.cell 0, hR9.cell 1, hR9.cell 2⟩
          have zf := hR9.free
          go_wp2
          have h9 := put3_bk hR9 (.slice a2 rs.length cap2) (.int .i64 fl) (.int .i64 fu)
          have b9 := put3_below hb9 (Nat.le_refl _) (.slice a2 rs.length cap2) (.int .i64 fl) (.int .i64 fu)
          have o9 : (put3 y w.heap.size (.slice a2 rs.length cap2) (.int .i64 fl) (.int .i64 fu)).ownsRow w.heap.size 119 8 (.slice a2 rs.length cap2) rs.length (progC done) := own_within hO9 ((((Within.refl y (fun b => b = w.heap.size)).put w.heap.size 0 (.slice a2 rs.length cap2) (.inl rfl)).put w.heap.size 1 (.int .i64 fl) (.inl rfl)).put w.heap.size 2 (.int .i64 fu) (.inl rfl)) (fun b e e2 => by
            obtain ⟨cs, hcs⟩ := own_bk hO9 e
            exact Bk.unlike hcs hR9 (by decide) e2)
          generalize hv : (((y.setCell ⟨w.heap.size, 0, none⟩ (.slice a2 rs.length cap2)).setCell ⟨w.heap.size, 1, none⟩ (.int .i64 fl)).setCell ⟨w.heap.size, 2, none⟩ (.int .i64 fu)) = v9
          replace hv : put3 y w.heap.size (.slice a2 rs.length cap2) (.int .i64 fl) (.int .i64 fu) = v9 := hv
          rw [hv] at h9 b9 o9
          obtain ⟨q0, q1, q2⟩ : v9.cell? ⟨w.heap.size, 0, none⟩ = some (.slice a2 rs.length cap2) ∧ v9.cell? ⟨w.heap.size, 1, none⟩ = some (.int .i64 fl) ∧ v9.cell? ⟨w.heap.size, 2, none⟩ = some (.int .i64 fu) := ⟨h9.cell 0, h9.cell 1, h9.cell 2⟩
          refine bodyPost_ret (v := .tuple #[.agg #[.slice a2 rs.length cap2, .int .i64 fl, .int .i64 fu], .int .i64 0, .int .i64 0]) (by simp [results, Tryz.results61, go_sem, q0, q1, q2]) rfl ⟨.agg #[.slice a2 rs.length cap2, .int .i64 fl, .int .i64 fu], ?_, ?_, b9⟩
          · rw [HQ.out]
          · rw [HQ.out]; exact ⟨_, rfl, by simp only [hdl]; exact o9⟩
      all_goals (
        have h9 := put3_bk hR (.slice none 0 0) (.int .i64 0) (.int .i64 0)
        have b9 := put3_below hb (Nat.le_refl _) (.slice none 0 0) (.int .i64 0) (.int .i64 0)
        generalize hv : (((wr.setCell ⟨w.heap.size, 0, none⟩ (.slice none 0 0)).setCell ⟨w.heap.size, 1, none⟩ (.int .i64 0)).setCell ⟨w.heap.size, 2, none⟩ (.int .i64 0)) = v9
        replace hv : put3 wr w.heap.size (.slice none 0 0) (.int .i64 0) (.int .i64 0) = v9 := hv
        rw [hv] at h9 b9
        obtain ⟨y0, y1, y2⟩ : v9.cell? ⟨w.heap.size, 0, none⟩ = some (.slice none 0 0) ∧ v9.cell? ⟨w.heap.size, 1, none⟩ = some (.int .i64 0) ∧ v9.cell? ⟨w.heap.size, 2, none⟩ = some (.int .i64 0) := ⟨h9.cell 0, h9.cell 1, h9.cell 2⟩
        refine bodyPost_ret (v := .tuple #[.agg #[.slice none 0 0, .int .i64 0, .int .i64 0], .int .i64 0, .int .i64 10]) (by simp [results, Tryz.results61, go_sem, y0, y1, y2]) rfl ⟨.agg #[.slice none 0 0, .int .i64 0, .int .i64 0], ?_, ?_, b9⟩
        · rw [HQ.out]
        · rw [HQ.out]; exact ⟨_, rfl, World.ownsRow_nil _ _ _ _⟩)
end Go.Proofs.YthdgehcghklflaaGreatDoor
