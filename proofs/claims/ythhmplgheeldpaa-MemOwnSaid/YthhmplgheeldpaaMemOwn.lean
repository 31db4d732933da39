/- For every list of ints: MemOwn returns true, so what was handed in, and changed behind, changes nothing of a memory, and each cell has its own address; no condition. -/
import Derived.Test.YthhmplgheeldpaaArL
import Derived.Test.YthhmplgheeldpaaInts
import Derived.WalkKit
import Derived.ProofKit
import Derived.OpenShut
import Derived.ChangeOld
import Derived.Deep.QuietTactic
import Derived.BigQuiet
import Derived.Deep.DeepCutAuto
import Derived.Deep.CutBlock
namespace Go.Proofs.Ythhmplgheeldpaa.memOwn
open Go.ChangeShapes Go.WideShapes Go.ChangeAt Go.RowKit
set_option linter.unusedVariables false

theorem own : ownKnob Try.prog.godebug = none := by kernel_rfl
theorem laidOut : laidOutB Try.prog = true := by kernel_rfl

/-- What the region that makes the two rows leaves, operation by operation. -/
def emptyI (base : Nat) (v : Value) (W : World) : Prop := ∃ b, v = .slice (some ⟨b, 0, none⟩) 0 0 ∧ Bk W b 3 #[] ∧ base ≤ b
def copyI (base : Nat) (zs : List Int) (v : Value) (W : World) : Prop := ∃ q cap, v = .slice (some ⟨q, 0, none⟩) zs.length cap ∧ Its W q cap zs ∧ base ≤ q
def zerosI (base N : Nat) (v : Value) (W : World) : Prop := ∃ q, v = .slice (some ⟨q, 0, none⟩) N N ∧ Bk W q 23 (words (List.replicate N 0)) ∧ base ≤ q
def FO (base : Nat) (zs : List Int) (N : Nat) (a0 : Option Addr) (cap0 : Nat) (va : Option Addr) (vc : Nat) (i : Nat) (v : Value) (W : World) : Prop :=
  match i with
  | 0 => emptyI base v W
  | 1 => v = .slice a0 zs.length cap0
  | 2 => copyI base zs v W
  | 3 => v = .slice va N vc
  | 4 => v = .int .i64 N
  | 5 => zerosI base N v W
  | 6 => copyI base zs v W
  | _ => zerosI base N v W
theorem bk_below {W W' : World} {b : Nat} {t : TypeId} {cs : Array Value} (h : Bk W b t cs) (hb : Below W.heap.size W W') : Bk W' b t cs := (hb.block b h.lt).trans h
theorem FO_stable {base : Nat} {zs : List Int} {N : Nat} {a0 : Option Addr} {cap0 : Nat} {va : Option Addr} {vc : Nat} (i : Nat) (v : Value) (W W' : World) (h : FO base zs N a0 cap0 va vc i v W) (hb : Below W.heap.size W W') : FO base zs N a0 cap0 va vc i v W' := by
  have hg : W.grownBy W' none := grown_of_below hb
  have k1 : copyI base zs v W → copyI base zs v W' := fun ⟨q, cap, e, hi, hq⟩ => ⟨q, cap, e, hi.kept hg (by simp), hq⟩
  have k2 : zerosI base N v W → zerosI base N v W' := fun ⟨q, e, hi, hq⟩ => ⟨q, e, bk_below hi hb, hq⟩
  match i, h with
  | 0, ⟨b, e, h1, h2⟩ => exact ⟨b, e, bk_below h1 hb, h2⟩
  | 1, h => exact h
  | 2, h => exact k1 h
  | 3, h => exact h
  | 4, h => exact h
  | 5, h => exact k2 h
  | 6, h => exact k1 h
  | n + 7, h => exact k2 h
/-- append to nothing, of a slice that came in. -/
theorem run_app {W : World} {b cap0 : Nat} {a0 : Option Addr} {zs : List Int} (hb : Bk W b 3 #[]) (h : Given .i64 W a0 zs) (h8 : zs.length ≤ 8) (base : Nat) (hbb : base ≤ b) (hbW : base ≤ W.heap.size) :
    ∃ v' W', (Builtin.append_ #[22, 22] 22 #[.slice (some ⟨b, 0, none⟩) 0 0, .slice a0 zs.length cap0]).run Try.prog W = .ok v' W' ∧ copyI base zs v' W' ∧ Below W.heap.size W W' := by
  obtain ⟨i0, hi0, hz0, hz1, hz2⟩ := info_parts intinfo
  by_cases h0 : zs = []
  · subst h0
    refine ⟨.slice (some ⟨b, 0, none⟩) 0 0, W, ?_, ⟨b, 0, rfl, ?_, hbb⟩, Below.refl _ _⟩
    · have hu : Try.prog.underlying 22 = some (.slice 3) := Try.underlying22
      have hl : ∀ (x : Addr), (loadCells x 0).run Try.prog W = .ok #[] W := fun x => by simpa using run_loadCells_list (P := Try.prog) W x [] (by simp)
      cases a0 <;> simp [Builtin.append_, run_underlying hu, sizeOf, typeInfo, hi0, Builtin.lenOf, Builtin.firstCells, storeCells, hl]
    · exact Its.of_bk (xs := []) (by simpa using hb) (by simp)
  · obtain ⟨b', off, rfl, hlt, hc⟩ := h (List.length_pos_iff.2 h0)
    have hpos : 0 < zs.length := List.length_pos_iff.2 h0
    obtain ⟨v', W', hr, ho, hg⟩ := run_append_arg_grows (P := Try.prog) W 22 22 3 i0 _ 1 8 Try.underlying22 hi0 hz0 hz1 hz2 rfl (by omega) ⟨b, 0, none⟩ 0 0 [] rfl (by simp) ⟨b', off, none⟩ zs.length cap0 (zs.map (Value.int .i64)) (by simp) (given_add hc) (by omega) (by unfold maxLen; omega) (by omega)
    refine ⟨v', W', hr, ?_, below_of_grown hg⟩
    simp only [List.nil_append, Nat.zero_add] at ho
    obtain ⟨q, cap, rfl, hi, hq⟩ := Its.of_own ho hpos
    exact ⟨q, cap, rfl, hi, by omega⟩

theorem given_its {W : World} {q cap : Nat} {xs : List Int} (h : Its W q cap xs) : Given .i64 W (some ⟨q, 0, none⟩) xs := by
  intro _
  refine ⟨q, 0, rfl, h.lt, fun i hi => ?_⟩
  rw [Nat.zero_add]
  exact h.at_ hi
theorem nth_zeros (n i : Nat) : nth (List.replicate n 0) i = 0 := by
  unfold nth
  simp only [List.getD_eq_getElem?_getD, List.getElem?_replicate]
  split <;> rfl
/-- What there is while what was handed in is changed. -/
structure St (w : World) (p q g s q2 : Nat) (zs : List Int) (va : Option Addr) (n vc : Nat) (ys : List Int) (wr : World) : Prop where
  m : Mm wr p q g s zs (List.replicate n 0)
  z : Bk wr q2 23 (words ys)
  c : Cs w.heap.size wr (.slice va n vc) (cels zs)
  g : w.grownBy wr none
  len : ys.length = n
theorem St.one {w wr : World} {p q g s q1 q2 n vc cap : Nat} {zs ys xs : List Int} {va : Option Addr} (h : St w p q g s q2 zs va n vc ys wr) (ha : q1 ≠ p ∧ q1 ≠ q ∧ q1 ≠ g ∧ q1 ≠ s) (hb : w.heap.size ≤ q1) (hi : Its wr q1 cap xs) (wx : World) (ho : Only wr wx q1) : St w p q g s q2 zs va n vc ys wx := by
  obtain ⟨cs, hk, _⟩ := hi.bk
  exact ⟨h.m.off ho ha.1 ha.2.1 ha.2.2.1 ha.2.2.2, h.z.grown ho (fun e => by injection e with e; exact h.z.unlike hk (by decide) e), h.c.only ho hk (by decide), grown_then h.g ho (.inr fun x e => by injection e with e; omega), h.len⟩
theorem St.two {w wr : World} {p q g s q2 n vc : Nat} {zs ys : List Int} {va : Option Addr} (h : St w p q g s q2 zs va n vc ys wr) (ha : q2 ≠ p ∧ q2 ≠ q ∧ q2 ≠ g ∧ q2 ≠ s) (hb : w.heap.size ≤ q2) (k : Nat) (v : Int) : St w p q g s q2 zs va n vc (ys.set k v) (wr.setCell ⟨q2, k, none⟩ (.int .u32 v)) := by
  have ho := only_put wr q2 k (.int .u32 v)
  refine ⟨h.m.off ho ha.1 ha.2.1 ha.2.2.1 ha.2.2.2, ?_, h.c.only ho h.z (by decide), grown_then h.g ho (.inr fun x e => by injection e with e; omega), by rw [List.length_set]; exact h.len⟩
  have := h.z.put k (.int .u32 v)
  rwa [words_set] at this

set_option maxHeartbeats 2000000 in
set_option maxRecDepth 100000 in
theorem walk (a0 : Option Addr) (cap0 : Nat) (zs : List Int) (w : World) (g0 : Given .i64 w a0 zs) (u0 : ∀ n ∈ zs, (Lit.int .i64 n).wf = true) (hm : zs.length ≤ maxLen) :
    Calls Try.prog 5 #[.slice a0 zs.length cap0] w fun e w' => e = .returned (.bool true) ∧ Below w.heap.size w w' := by
  have HM := Lib.hid hm
  unfold maxLen at hm
  clear u0
  have hC := Lib.hid (rCells g0 HM.out cap0)
  go_enter Try.func5, Try.ntmps5
  go_wp2_with fail
  refine hC.out.mono ?_
  rintro e w1 hP
  obtain ⟨hg1, va, n, vc, fl, rfl, hn, hcs⟩ := cells_cases hP
  clear hP hC
  by_cases h8 : 8 < zs.length
  · clear hcs
    go_wp2_with fail
    refine (lAwake9 _).mono ?_
    rintro e w2 ⟨rfl, hw2⟩
    go_wp2
    go_ret
    exact ⟨rfl, below_of_grown (grown_then hg1 hw2 (.inl rfl))⟩
  rcases hcs with ⟨hz, rfl, rfl, hcs⟩ | ⟨hz, rfl, rfl⟩
  · by_cases hB : tot zs ≤ 8192
    · have e1 : decide ((tot zs : Int) ≤ 8192) = true := by simp; omega
      rw [e1]
      clear e1
      by_cases h300 : 300 < tot zs
      · go_wp2_with fail
        refine (lAwake9 _).mono ?_
        rintro e w2 ⟨rfl, hw2⟩
        go_wp2
        go_ret
        exact ⟨rfl, below_of_grown (grown_then hg1 hw2 (.inl rfl))⟩
      go_upto_region 4 with fail
      refine wp_region_each (fun vs => { tmps := #[.slice a0 zs.length cap0, undef, .bool false, .slice va (tot zs) vc, .bool true, vs 6, vs 7, undef, undef, undef, undef, undef, undef, undef, undef, .tuple #[.slice va (tot zs) vc, .bool true], .slice a0 zs.length cap0, .tuple #[.slice va (tot zs) vc, .bool true], .slice va (tot zs) vc, .bool true, .slice a0 zs.length cap0, .int .i64 (zs.length : Int), .bool (decide (8 < (zs.length : Int))), .bool (decide (8 < (zs.length : Int))), .bool true, .bool false, .bool (decide (8 < (zs.length : Int))), .bool (decide (8 < (zs.length : Int))), .slice va (tot zs) vc, .int .i64 ((tot zs : Nat) : Int), .bool (decide (300 < ((tot zs : Nat) : Int))), .bool (decide (8 < (zs.length : Int)) || decide (300 < ((tot zs : Nat) : Int))), undef, vs 0, vs 1, vs 2, vs 3, vs 4, vs 5, undef, undef, undef, undef, undef, undef, undef, undef, undef, undef, undef, undef, undef, undef, undef, undef, undef, undef, undef, undef, undef, undef, undef, undef, undef, undef, undef, undef, undef, undef, undef, undef, undef, undef, undef, undef, undef, undef, undef, undef, undef, undef, undef, undef, undef, undef, undef, undef, undef, undef, undef, undef, undef, undef, undef, undef, undef, undef, undef, undef, undef, undef, undef, undef, undef, undef, undef, undef, undef, undef, undef, undef, undef, undef, undef], defers := [] }) (FO w1.heap.size zs (tot zs) a0 cap0 va vc) ?ghm ?ghr ?glit ?gstable ?gops ?gdone
      case ghm => kernel_rfl
      case ghr => rfl
      case glit => intro vs; rfl
      case gstable => exact FO_stable
      case gops =>
        have HSZ : Hid (∀ W, Below w1.heap.size w1 W → w1.heap.size ≤ W.heap.size) := Lib.hid fun W hW => hW.size
        have HGV : Hid (∀ W, Below w1.heap.size w1 W → Given .i64 W a0 zs) := Lib.hid fun W hW => g0.grown (grown_then hg1 (grown_of_below hW) (.inl rfl))
        have h8' : zs.length ≤ 8 := by omega
        have hN' : tot zs ≤ 40000 := by omega
        refine ⟨?_, ?_, ?_, ?_, ?_, ?_, ?_, ?_, trivial⟩
        · intro vs W hW hd
          refine leaves_free rfl ?_
          have hs := HSZ.out W hW
          clear hd HGV
          go_simp
          exact ⟨⟨_, rfl, Bk.made W 3 #[], hs⟩, (Below.refl _ _).alloc (Nat.le_refl _) _⟩
        · intro vs W hW hd
          refine leaves_free rfl ?_
          go_simp
          exact ⟨rfl, Below.refl _ _⟩
        · intro vs W hW hd
          refine leaves_free rfl ?_
          obtain ⟨b, e0, hb, hbb⟩ : emptyI w1.heap.size (vs 0) W := hd 0 (by decide)
          have e1 : vs 1 = .slice a0 zs.length cap0 := hd 1 (by decide)
          obtain ⟨v', W', hr, hk, hB'⟩ := run_app (cap0 := cap0) hb (HGV.out W hW) h8' w1.heap.size hbb (HSZ.out W hW)
          clear hd HGV
          have HK := Lib.hid hk
          have HB := Lib.hid hB'
          clear hk hB'
          simp [execOp, resolve, invoke, builtin, Act.eval, e0, e1, hr, Result.andThen, leaves]
          exact ⟨HK.out, HB.out⟩
        · intro vs W hW hd
          refine leaves_free rfl ?_
          go_simp
          exact ⟨rfl, Below.refl _ _⟩
        · intro vs W hW hd
          refine leaves_free rfl ?_
          have e3 : vs 3 = .slice va (tot zs) vc := hd 3 (by decide)
          go_simp
          exact ⟨rfl, Below.refl _ _⟩
        · intro vs W hW hd
          refine leaves_free rfl ?_
          have e4 : vs 4 = .int .i64 (tot zs : Nat) := hd 4 (by decide)
          have hmk := makeU32 (tot zs) hN' W
          have hs := HSZ.out W hW
          have hB2 : zerosI w1.heap.size (tot zs) (.slice (some ⟨W.heap.size, 0, none⟩) (tot zs) (tot zs)) (W.alloc (.cells (madeCells #[.int .u32 0] (tot zs)) 23)) := by
            rw [made_words]
            exact ⟨_, rfl, Bk.made _ _ _, hs⟩
          have HB2 := Lib.hid hB2
          clear hd HGV hB2
          go_simp
          exact ⟨HB2.out, (Below.refl _ _).alloc (Nat.le_refl _) _⟩
        · intro vs W hW hd
          refine leaves_free rfl ?_
          have e2 : copyI w1.heap.size zs (vs 2) W := hd 2 (by decide)
          have HK := Lib.hid e2
          clear hd HGV e2
          go_simp
          exact ⟨HK.out, Below.refl _ _⟩
        · intro vs W hW hd
          refine leaves_free rfl ?_
          have e2 : zerosI w1.heap.size (tot zs) (vs 5) W := hd 5 (by decide)
          have HK := Lib.hid e2
          clear hd HGV e2
          go_simp
          exact ⟨HK.out, Below.refl _ _⟩
      case gdone =>
        intro vs W hW hf
        obtain ⟨q1, cp1, e6, hI, hq1⟩ : copyI w1.heap.size zs (vs 6) W := hf 6 (by decide)
        obtain ⟨q2, e7, hZ, hq2⟩ : zerosI w1.heap.size (tot zs) (vs 7) W := hf 7 (by decide)
        simp only [e6, e7]
        clear hf e6 e7
        generalize vs 0 = r0
        generalize vs 1 = r1
        generalize vs 2 = r2
        generalize vs 3 = r3
        generalize vs 4 = r4
        generalize vs 5 = r5
        have hg2 := grown_of_below hW
        have hcs2 := hcs.grown hg2
        have hg3 := grown_then hg1 hg2 (.inl rfl)
        have hsz := hg1.size
        clear hcs hW hg1
        have hN := mNew (given_its hI) (given_words hZ) hz (by simp) (by simp; omega) (U32s.zeros _) cp1 (tot zs)
        rw [List.length_replicate] at hN
        have HN := Lib.hid hN
        clear hN hg2
        go_wp2_with fail
        refine HN.out.mono ?_
        rintro e w3 ⟨p, q, g, s, rfl, hM, ⟨n1, n2, n3, n4⟩, hg4⟩
        have hl1 := hI.lt
        have hl2 := hZ.lt
        have c0 := hM.c0
        have hS : St w p q g s q2 zs va (tot zs) vc (List.replicate (tot zs) 0) w3 := ⟨hM, hZ.grown hg4 (by simp), hcs2.grown hg4, grown_then hg3 hg4 (.inl rfl), by simp⟩
        have hI3 := hI.kept hg4 (by simp)
        have HA : Hid ((q1 ≠ p ∧ q1 ≠ q ∧ q1 ≠ g ∧ q1 ≠ s) ∧ (q2 ≠ p ∧ q2 ≠ q ∧ q2 ≠ g ∧ q2 ≠ s) ∧ w.heap.size ≤ q1 ∧ w.heap.size ≤ q2) := Lib.hid ⟨⟨by omega, by omega, by omega, by omega⟩, ⟨by omega, by omega, by omega, by omega⟩, by omega, by omega⟩
        clear HN hM hZ hcs2 hg3 hg4 hI n1 n2 n3 n4 hl1 hl2 hq1 hq2 hsz
        go_upto_region 8 with fail
        clear c0
        go_wp2
        go_loopw [60] (fun t wr => ∃ (k : Nat) (xs : List Int), k ≤ zs.length ∧ t = .int .i64 k ∧ Hid (xs.length = zs.length ∧ ∀ i, k ≤ i → nth xs i = nth zs i) ∧ Its wr q1 cp1 xs ∧ St w p q g s q2 zs va (tot zs) vc (List.replicate (tot zs) 0) wr) (fun t _ => zs.length - (intOf t).toNat)
        case atStart => exact ⟨0, zs, Nat.zero_le _, rfl, Lib.hid ⟨rfl, fun _ _ => rfl⟩, hI3, hS⟩
        case round =>
          clear hI3 hS
          obtain ⟨k, xs, hk, rfl, HX, hI, hS⟩ := hrel
          by_cases hlt : k < zs.length
          · have c1 := hI.at_ (i := k) (by rw [HX.out.1]; exact hlt)
            rw [HX.out.2 k (Nat.le_refl _), sz_eq hz hlt] at c1
            have f1 := hI.free k
            have hs4 := sz_le hz hlt
            have hI' := hI.put k ((sz zs k : Int) + 7)
            have hS' := hS.one HA.out.1 HA.out.2.2.1 hI (wr.setCell ⟨q1, k, none⟩ (.int .i64 ((sz zs k : Int) + 7))) (only_put _ _ _ _)
            clear hS hI
            go_wp2
            go_roundw
            case rel =>
              refine ⟨k + 1, xs.set k ((sz zs k : Int) + 7), by omega, by go_num, Lib.hid ⟨by rw [List.length_set]; exact HX.out.1, fun i hi => ?_⟩, hI', hS'⟩
              rw [nth_set (by rw [HX.out.1]; exact hlt), if_neg (by omega)]
              exact HX.out.2 i (by omega)
            case measure => simp [intOf]; omega
          · obtain rfl : k = zs.length := by omega
            clear HX hI hlt hk
            go_wp2
            go_loopw [72] (fun t wr => ∃ (k : Nat) (ys : List Int), k ≤ tot zs ∧ t = .int .i64 k ∧ St w p q g s q2 zs va (tot zs) vc ys wr) (fun t _ => tot zs - (intOf t).toNat)
            case atStart => exact ⟨0, _, Nat.zero_le _, rfl, hS⟩
            case round =>
              clear hS
              obtain ⟨k, ys, hk, rfl, hS⟩ := hrel
              by_cases hlt : k < tot zs
              · have c1 := hS.z.cell k
                rw [words_at _ k (by rw [hS.len]; exact hlt)] at c1
                have f1 := hS.z.free k
                have hS' := hS.two HA.out.2.1 HA.out.2.2.2 k 9
                clear hS
                go_wp2
                go_roundw
                case rel => exact ⟨k + 1, _, by omega, by go_num, hS'⟩
                case measure => simp [intOf]; omega
              · obtain ⟨hM, _, hc, hg, _⟩ := hS
                obtain rfl : k = tot zs := by omega
                clear hlt hk
                obtain ⟨a1, c1', ea, _, _, hat⟩ := hc.is
                rw [cels_len] at hat
                have HAT := Lib.hid hat
                injection ea with ea1 ea2 ea3
                subst ea1
                clear hat hc HA ea2 ea3
                go_wp2
                go_loopw [81] (fun t wx => ∃ k : Nat, k ≤ tot zs ∧ t = .int .i64 k ∧ wr.grownBy wx none) (fun t _ => tot zs - (intOf t).toNat)
                case atStart => exact ⟨0, Nat.zero_le _, rfl, grown_refl _ _⟩
                case round =>
                  obtain ⟨k, hk, rfl, hgx⟩ := hrel
                  by_cases hlt : k < tot zs
                  · obtain ⟨ca, cp, q1', q2', q3'⟩ := tot_split hlt
                    obtain ⟨gc, rfl, _, _, hgl, _, hcl⟩ := HAT.out (by omega)
                    obtain ⟨d1', d2'⟩ := hcl k (ca, cp) (by rw [q3']; exact cels_at q1' q2')
                    have d1 := ((below_of_grown hgx).cell (p := ⟨gc, k * 2, none⟩) hgl).trans d1'
                    have d2 := ((below_of_grown hgx).cell (p := ⟨gc, k * 2 + 1, none⟩) hgl).trans d2'
                    simp only at d1 d2
                    have hs4 := sz_le hz q1'
                    have hcw : (cp : Int) % 4294967296 = cp := by omega
                    have hpm : (cp : Int) % 4096 = cp := by omega
                    have hMx := hM.grown hgx
                    have hgy := grown_then hgx (grown_made wr (.cells #[.int .i64 ca, .int .i64 cp] 47) none) (.inl rfl)
                    have hMy := hMx.alloc (.cells #[.int .i64 ca, .int .i64 cp] 47)
                    have c0 := hMy.c0
                    have hAd := cAddress hMy ca q1' cp (by omega) (by omega) (by rw [hpm]; omega)
                    rw [hpm, Int.toNat_natCast, ← q3'] at hAd
                    have hL := cLoad hMy.cel k (by simpa using hlt)
                    rw [nth_zeros] at hL
                    have HAd := Lib.hid hAd
                    have HL := Lib.hid hL
                    clear hAd hL hMx hMy q3' hcl d1' d2' hs4 hpm q1' q2'
                    go_wp2_with fail
                    refine HAd.out.mono ?_
                    rintro e w6 ⟨rfl, rfl⟩
                    go_wp2_with fail
                    refine HL.out.mono ?_
                    rintro e w6 ⟨rfl, rfl⟩
                    go_wp2
                    go_roundw
                    case rel => exact ⟨k + 1, by omega, by go_num, hgy⟩
                    case measure => simp [intOf]; omega
                  · obtain rfl : k = tot zs := by omega
                    go_wp2_with fail
                    refine (lAwake9 _).mono ?_
                    rintro e w7 ⟨rfl, hw7⟩
                    go_wp2
                    go_ret
                    exact ⟨rfl, below_of_grown (grown_then (grown_then hg hgx (.inl rfl)) hw7 (.inl rfl))⟩
    · have e1 : decide ((tot zs : Int) ≤ 8192) = false := by simp; omega
      rw [e1]
      go_wp2_with fail
      refine (lAwake9 _).mono ?_
      rintro e w2 ⟨rfl, hw2⟩
      go_wp2
      go_ret
      exact ⟨rfl, below_of_grown (grown_then hg1 hw2 (.inl rfl))⟩
  · go_wp2_with fail
    refine (lAwake9 _).mono ?_
    rintro e w2 ⟨rfl, hw2⟩
    go_wp2
    go_ret
    exact ⟨rfl, below_of_grown (grown_then hg1 hw2 (.inl rfl))⟩
set_option maxRecDepth 100000 in
theorem lifted (os : Os) (started : os.Started) (H : Type) (enc : TypeId × Value → H) :
    ReturnsInHanded {} Try.checked os 5 .any (Rows.memOwnSpec.pre6 enc Try.prog Try.f5 Rows.memOwnRow.domain false) (Rows.memOwnSpec.post enc Try.prog Try.f5 false true false false) := by
  refine returnsInHanded_of_change (C := Try.checked) own started (by kernel_rfl) Try.func5
    (ChangeSpec.witness6 (enc := enc) (C := Try.checked) false ⟨#[], #[.slice none 0 0], []⟩ 8 (by kernel_rfl) (by kernel_rfl) (by kernel_rfl) (by kernel_rfl)) ?_
  intro W base args ds gs before hval0 hW hcnd _
  have hval : ∀ (j : Nat) t v, Try.f5.params[j]? = some t → args[j]? = some v → Value.okWide Try.prog W .any base t v := hval0
  have hW' := hW
  obtain ⟨p, q, hA0, hV, rfl, hfz, hnd⟩ := hW
  have hA : DataW.TrodAll enc Try.prog W 0 (fun _ => true) true Try.f5.params.toList args.toList ds p := hA0
  rw [Try.params5] at hA hval
  obtain ⟨v0, vs0, d0, ds0, p0, q0, hargs, rfl, rfl, h0, r0⟩ := trodAll_cons hA
  obtain ⟨rfl, rfl, rfl⟩ := trodAll_nil r0
  obtain rfl : args = #[v0] := by cases args; simp_all
  obtain ⟨rfl, rfl⟩ := trodVars_none hV
  obtain ⟨a0, len0, cap0, rfl⟩ := okWide_slice Try.underlying22 (hval 0 22 v0 rfl rfl)
  have k0 := h0
  have lt0 : ∀ x ∈ p0, x.block < W.heap.size := by obtain ⟨m, hm⟩ := k0; exact DataW.trod_lt m _ _ _ hm
  obtain ⟨z0, g0, l0, u0, hb0⟩ : ∃ zs, Given .i64 W a0 zs ∧ len0 = zs.length ∧ (∀ n ∈ zs, (Lit.int .i64 n).wf = true) ∧ zs.length ≤ maxLen := by
    obtain ⟨fuel, hf⟩ := h0
    rcases open_ints Try.underlying22 Try.underlying3 (by kernel_rfl) hf with ⟨hcs, _⟩ | ⟨x, l, c, zs, hcs, _, hl, hm, hz, _, hcell, hwz⟩
    · simp [Value.cells] at hcs
      obtain ⟨rfl, rfl, rfl⟩ := hcs
      exact ⟨[], given_nil _ _ _, rfl, by simp, by simp⟩
    · simp [Value.cells] at hcs
      obtain ⟨rfl, rfl, rfl⟩ := hcs
      have hz' : zs.length = cap0 := by simpa using hz
      exact ⟨zs.take len0, given_of (by omega) hcell, by simp; omega, fun n hn => hwz n (List.mem_of_mem_take hn), by simp; omega⟩
  subst l0
  clear hA0 hval0
  refine (walk a0 cap0 z0 W g0 u0 hb0).mono fun e W' ⟨he, bel⟩ => ?_
  subst he
  exact ⟨_, rfl, _, _, _, [], _, [], hW', trodAll_mk1 (shut_bool Try.underlying4 _), (trodAll_cons_mk (Below.trod laidOut (by kernel_rfl) (of_decide_eq_true (by kernel_rfl)) k0 bel lt0) trodAll_mk0), rfl, bel.frame _, fun h => by cases h⟩

theorem over : Rows.memOwnRow.holds Try.pinned (OpenSpec.ofChange Rows.memOwnSpec) :=
  OpenClaim.holds_of_wide 5 Try.f5 rfl rfl rfl rfl rfl rfl rfl ⟨rfl, rfl, rfl, rfl, rfl⟩ rfl rfl rfl rfl rfl (by kernel_rfl) Try.func5 (by kernel_rfl)
    (of_decide_eq_true (by kernel_rfl)) (by unfold Func.isWrapper; first | (rw [if_pos (by decide +kernel)]; kernel_rfl) | (rw [if_neg (by decide +kernel)]; exact ⟨rfl, rfl⟩))
    (fun os started H enc _ => lifted os started H enc)

/-- The statement. -/
theorem proved : Rows.MemOwnSaid := over
#print axioms proved
end Go.Proofs.Ythhmplgheeldpaa.memOwn
