/- inst.draft. -/
import Derived.Test.YteohnkilchkhkaaGreatDoorInstE
namespace Go.Proofs.YteohnkilchkhkaaGreatDoor
open Go.ChangeShapes Go.WideShapes Go.ChangeAt Go.RowKit
set_option linter.unusedVariables false

theorem fill_snoc (ws : List (List UInt8)) : ∀ (l : List UInt8) (m : Nat) (i : Ins) (n : Nat), n < l.length → fillI ws (l.take (n + 1)) m i = setI (fillI ws (l.take n) m i) (l.getD n 0).toNat (valAt ws (m + n + 1))
  | [], _, _, n, h => by simp at h
  | c :: l, m, i, 0, _ => by simp [fillI]
  | c :: l, m, i, n + 1, h => by
    have := fill_snoc ws l (m + 1) (setI i c.toNat (valAt ws (m + 1))) n (by simpa using h)
    simp only [List.take_succ_cons, fillI, List.getD_cons_succ]
    rw [this]
    congr 2
    omega
theorem fill_op (ws : List (List UInt8)) : ∀ (l : List UInt8) (m : Nat) (i : Ins), (fillI ws l m i).op = i.op
  | [], _, _ => rfl
  | c :: l, m, i => by
    rw [fillI, fill_op ws l]
    unfold setI
    simp only [apply_ite Ins.op]
    repeat' split
    all_goals rfl

set_option maxHeartbeats 1000000 in
theorem cDraft (v : Value) (ws : List (List UInt8)) (h0 : 0 < ws.length) (hw : ∀ l ∈ ws, l.length < 4294967281) (w : World) (hs : Strs w v ws) (L : Lb w) :
    Calls Tryz.prog 74 #[v] w fun e w' => e = .returned (iv (draftI ws)) ∧ Below w.heap.size w w' := by
  have HD := Lib.hid (show draftI ws = lastI ws (fillI ws (hsL (opN (ws.getD 0 []))) 0 { Ins.zero with op := opN (ws.getD 0 []) }) from rfl)
  generalize draftI ws = res at *
  have HV := Lib.hid (fun n hn W hS LW => cValueAt v ws n hn hw W hS LW)
  have HS := Lib.hid hs
  obtain ⟨g, cap, rfl, hc1, hc2, hg, hcell⟩ := hs
  have hx := hcell 0 h0
  have HO := Lib.hid (fun W => cOpNamed (ws.getD 0 []) W)
  have HX := Lib.hid (show bs (ws.getD 0 []) = bs (ws.getD 0 []) from rfl)
  unfold bs at hx
  have HO2 := Lib.hid (show ∀ W, Calls Tryz.prog 82 #[.string ⟨(ws.getD 0 []).toArray⟩] W fun e w' => e = .returned (.int .i64 (opN (ws.getD 0 []))) ∧ W = w' from HO.out)
  clear HO HX
  generalize opN (ws.getD 0 []) = op at *
  generalize (ws.getD 0 []) = w0 at *
  clear hcell
  have HF := Lib.hid (cForm op)
  have hL := hs_ltr op
  have h6 := hs_len op
  generalize hsL op = hs at *
  generalize nmL op = nm at *
  have HL := Lib.hid hL
  clear hL
  have hlen : (0 : Int) < (ws.length : Int) := by omega
  go_enter Tryz.func74, Tryz.ntmps74
  go_wp2_with fail
  refine (HO2.out _).mono ?_
  rintro e w' ⟨rfl, rfl⟩
  go_wp2_with fail
  refine (HF.out _).mono ?_
  rintro e w' ⟨rfl, rfl⟩
  unfold bs
  go_wp2
  go_loopw [20] (fun v x => ∃ n : Nat, n ≤ hs.length ∧ v = .int .i64 n ∧ Below w.heap.size w x ∧ Bk x w.heap.size 47 #[.int .i64 0, .int .i64 0, .int .i64 0, .int .i64 0, .int .i64 0, .int .i64 0, .int .u32 0, .int .i64 0] ∧ Ib x (w.heap.size + 1) (fillI ws (hs.take n) 0 { Ins.zero with op := op })) (fun v _ => hs.length - (intOf v).toNat)
  case atStart =>
    refine ⟨0, Nat.zero_le _, rfl, ?_, ?_, ?_⟩
    · exact (((Below.refl _ _).alloc (Nat.le_refl _) _).alloc (by simp) _)
    · exact (Bk.made _ _ _).alloc _
    · have := Ib.made (w.alloc (.cells #[.int .i64 0, .int .i64 0, .int .i64 0, .int .i64 0, .int .i64 0, .int .i64 0, .int .u32 0, .int .i64 0] 47)) op 0 0 0 0 0 0 0
      rw [show (w.alloc (.cells #[.int .i64 0, .int .i64 0, .int .i64 0, .int .i64 0, .int .i64 0, .int .i64 0, .int .u32 0, .int .i64 0] 47)).heap.size = w.heap.size + 1 by simp] at this
      exact this
  case round =>
    obtain ⟨n, hn, rfl, hb, hR, hZ⟩ := hrel
    generalize wr = x at *
    have hlt1 : w.heap.size < x.heap.size := Bk.lt hR
    have hlt2 : w.heap.size + 1 < x.heap.size := Bk.lt hZ
    by_cases hlt : n < hs.length
    · have hidx := run_ltr hs n hlt
      have hc : Ltr ((hs.getD n 0).toNat : Int) := HL.out _ (by simp [hlt])
      have hsn := fill_snoc ws hs 0 { Ins.zero with op := op } n hlt
      rw [Nat.zero_add] at hsn
      generalize ((hs.getD n 0).toNat : Int) = c at hidx hc hsn
      generalize fillI ws (hs.take n) 0 { Ins.zero with op := op } = z at hZ hsn
      have HSN := Lib.hid hsn
      clear hsn
      obtain ⟨zop, zd, zs, zt, zu, za, zk, zpl⟩ := z
      have HV2 := Lib.hid (show ∀ W, Below x.heap.size x W → Calls Tryz.prog 83 #[.slice (some ⟨g, 0, none⟩) ws.length cap, .int .i64 ((n : Int) + 1)] W fun e w' => e = .returned (.int .i64 (valAt ws (n + 1))) ∧ Below W.heap.size W w' from fun W hW => by
        have hbw := hb.trans (hW.mono (Nat.le_of_lt hlt1))
        exact HV.out (n + 1) (by omega) W (HS.out.below hbw) (L.below hbw))
      generalize valAt ws (n + 1) = vv at *
      obtain ⟨c0, c1, c2, c3, c4, c5, c6, c7⟩ := hZ.cells
      simp only at c0 c1 c2 c3 c4 c5 c6 c7
      have hw1 : IntKind.i64.wrap ((n : Int) + 1) = (n : Int) + 1 := IntWalk.i64_in _ (by omega)
      go_wp2_with fail
      go_region_law (first | (go_simp; go_at_call 83; refine (HV2.out _ (Below.refl _ _).drew).mono ?_; rintro e y1 ⟨rfl, hy1⟩; replace hy1 := below_of_drew hy1; obtain ⟨d0, d1, d2, d3, d4, d5, d6, d7⟩ := (hZ.below hy1).cells) | (go_simp; go_at_call 47; refine (cSet ⟨zop, zd, zs, zt, zu, za, zk, zpl⟩ _ vv hc _).mono ?_; rintro e y ⟨rfl, hy⟩; replace hy := hy1.trans (hy.mono hy1.size); obtain ⟨e0, e1, e2, e3, e4, e5, e6, e7⟩ := (hZ.below hy).cells; have hf := Bk.free (hZ.below hy); generalize hz2 : setI ⟨zop, zd, zs, zt, zu, za, zk, zpl⟩ c vv = z2; have HZ2 := Lib.hid hz2; clear hz2; obtain ⟨yop, yd, ys, yt, yu, ya, yk, ypl⟩ := z2; unfold iv))
      all_goals
        generalize hv : ((((((((y.setCell ⟨w.heap.size + 1, 0, none⟩ (.int .i64 yop)).setCell ⟨w.heap.size + 1, 1, none⟩ (.int .i64 yd)).setCell ⟨w.heap.size + 1, 2, none⟩ (.int .i64 ys)).setCell ⟨w.heap.size + 1, 3, none⟩ (.int .i64 yt)).setCell ⟨w.heap.size + 1, 4, none⟩ (.int .i64 yu)).setCell ⟨w.heap.size + 1, 5, none⟩ (.int .i64 ya)).setCell ⟨w.heap.size + 1, 6, none⟩ (.int .u32 yk)).setCell ⟨w.heap.size + 1, 7, none⟩ (.int .i64 ypl)) = v
        have hv2 : put8 y (w.heap.size + 1) ⟨yop, yd, ys, yt, yu, ya, yk, ypl⟩ = v := hv
        clear hv
        have hA := put8_ib (i := ⟨yop, yd, ys, yt, yu, ya, yk, ypl⟩) (hZ.below hy)
        have hB := put8_off (i := ⟨yop, yd, ys, yt, yu, ya, yk, ypl⟩) ((hy.block w.heap.size hlt1).trans hR : Bk y w.heap.size 47 _) (show w.heap.size ≠ w.heap.size + 1 by omega)
        have hC := put8_below (i := ⟨yop, yd, ys, yt, yu, ya, yk, ypl⟩) (hb.trans (hy.mono (Nat.le_of_lt hlt1))) (show w.heap.size ≤ w.heap.size + 1 by omega)
        rw [hv2] at hA hB hC
        clear hv2 d0 d1 d2 d3 d4 d5 d6 d7 e0 e1 e2 e3 e4 e5 e6 e7 hf c0 c1 c2 c3 c4 c5 c6 c7 hidx hw1
        have hn1 : (n : Int) + 1 ≤ 6 := by omega
        go_wp2
        go_roundw
        case rel => exact ⟨n + 1, by omega, by go_num, hC, hB, by rw [HSN.out, HZ2.out]; exact hA⟩
        case measure => simp [intOf]; omega
    · obtain rfl : n = hs.length := by omega
      rw [List.take_length] at hZ
      have hop := fill_op ws hs 0 { Ins.zero with op := op }
      have HD2 := Lib.hid HD.out
      generalize fillI ws hs 0 { Ins.zero with op := op } = z at hZ hop HD2
      obtain ⟨zop, zd, zs, zt, zu, za, zk, zpl⟩ := z
      simp only at hop
      obtain ⟨c0, c1, c2, c3, c4, c5, c6, c7⟩ := hZ.cells
      simp only at c0 c1 c2 c3 c4 c5 c6 c7
      subst hop
      by_cases h21 : zop = 21
      · subst h21
        have HV2 := Lib.hid (HV.out 7 (by omega) x (HS.out.below hb) (L.below hb))
        generalize hvv : valAt ws 7 = vv at *
        have E2 := Lib.hid (HD2.out.trans (show lastI ws ⟨21, zd, zs, zt, zu, za, zk, zpl⟩ = ⟨21, zd, zs, zt, zu, za, zk, vv⟩ by unfold lastI; simp [hvv]))
        clear hvv
        go_wp2_with fail
        refine HV2.out.mono ?_
        rintro e y ⟨rfl, hy⟩
        obtain ⟨d0, d1, d2, d3, d4, d5, d6, d7⟩ := (hZ.below hy).cells
        have hf := Bk.free (hZ.below hy)
        have hRy : Ib y w.heap.size Ins.zero := (hy.block w.heap.size hlt1).trans hR
        obtain ⟨r0, r1, r2, r3, r4, r5, r6, r7⟩ := hRy.cells
        have hfR := Bk.free hRy
        go_wp2
        generalize hv : (((((((((y.setCell ⟨w.heap.size + 1, 7, none⟩ (.int .i64 vv)).setCell ⟨w.heap.size, 0, none⟩ (.int .i64 21)).setCell ⟨w.heap.size, 1, none⟩ (.int .i64 zd)).setCell ⟨w.heap.size, 2, none⟩ (.int .i64 zs)).setCell ⟨w.heap.size, 3, none⟩ (.int .i64 zt)).setCell ⟨w.heap.size, 4, none⟩ (.int .i64 zu)).setCell ⟨w.heap.size, 5, none⟩ (.int .i64 za)).setCell ⟨w.heap.size, 6, none⟩ (.int .u32 zk)).setCell ⟨w.heap.size, 7, none⟩ (.int .i64 vv)) = v
        have hv2 : put8 (y.setCell ⟨w.heap.size + 1, 7, none⟩ (.int .i64 vv)) w.heap.size ⟨21, zd, zs, zt, zu, za, zk, vv⟩ = v := hv
        clear hv
        have hA := put8_ib (i := ⟨21, zd, zs, zt, zu, za, zk, vv⟩) (show Ib (y.setCell ⟨w.heap.size + 1, 7, none⟩ (.int .i64 vv)) w.heap.size Ins.zero from Bk.off hRy (show w.heap.size ≠ w.heap.size + 1 by omega) _)
        have hC := put8_below (i := ⟨21, zd, zs, zt, zu, za, zk, vv⟩) ((hb.trans (hy.mono (Nat.le_of_lt hlt1))).setCell (p := ⟨w.heap.size + 1, 7, none⟩) (show w.heap.size ≤ w.heap.size + 1 by omega) (.int .i64 vv)) (Nat.le_refl _)
        rw [hv2] at hA hC
        clear hv2
        obtain ⟨q0, q1, q2, q3, q4, q5, q6, q7⟩ := hA.cells
        simp only at q0 q1 q2 q3 q4 q5 q6 q7
        refine bodyPost_ret (v := .agg #[.int .i64 21, .int .i64 zd, .int .i64 zs, .int .i64 zt, .int .i64 zu, .int .i64 za, .int .u32 zk, .int .i64 vv]) (by simp [results, Tryz.results74, go_sem, q0, q1, q2, q3, q4, q5, q6, q7]) rfl ⟨by rw [E2.out]; rfl, hC⟩
      · have b21 : (zop == 21) = false := by simpa using h21
        have E2 := Lib.hid (HD2.out.trans (show lastI ws ⟨zop, zd, zs, zt, zu, za, zk, zpl⟩ = ⟨zop, zd, zs, zt, zu, za, zk, zpl⟩ by unfold lastI; rw [if_neg h21]))
        have hRy : Ib x w.heap.size Ins.zero := hR
        obtain ⟨r0, r1, r2, r3, r4, r5, r6, r7⟩ := hRy.cells
        have hfR := Bk.free hRy
        clear h21
        go_wp2
        generalize hv : ((((((((x.setCell ⟨w.heap.size, 0, none⟩ (.int .i64 zop)).setCell ⟨w.heap.size, 1, none⟩ (.int .i64 zd)).setCell ⟨w.heap.size, 2, none⟩ (.int .i64 zs)).setCell ⟨w.heap.size, 3, none⟩ (.int .i64 zt)).setCell ⟨w.heap.size, 4, none⟩ (.int .i64 zu)).setCell ⟨w.heap.size, 5, none⟩ (.int .i64 za)).setCell ⟨w.heap.size, 6, none⟩ (.int .u32 zk)).setCell ⟨w.heap.size, 7, none⟩ (.int .i64 zpl)) = v
        have hv2 : put8 x w.heap.size ⟨zop, zd, zs, zt, zu, za, zk, zpl⟩ = v := hv
        clear hv
        have hA := put8_ib (i := ⟨zop, zd, zs, zt, zu, za, zk, zpl⟩) hRy
        have hC := put8_below (i := ⟨zop, zd, zs, zt, zu, za, zk, zpl⟩) hb (Nat.le_refl _)
        rw [hv2] at hA hC
        clear hv2
        obtain ⟨q0, q1, q2, q3, q4, q5, q6, q7⟩ := hA.cells
        simp only at q0 q1 q2 q3 q4 q5 q6 q7
        refine bodyPost_ret (v := .agg #[.int .i64 zop, .int .i64 zd, .int .i64 zs, .int .i64 zt, .int .i64 zu, .int .i64 za, .int .u32 zk, .int .i64 zpl]) (by simp [results, Tryz.results74, go_sem, q0, q1, q2, q3, q4, q5, q6, q7]) rfl ⟨by rw [E2.out]; rfl, hC⟩
end Go.Proofs.YteohnkilchkhkaaGreatDoor
