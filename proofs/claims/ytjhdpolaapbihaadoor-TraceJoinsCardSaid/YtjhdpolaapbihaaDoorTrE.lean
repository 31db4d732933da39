/- Layer 12: Count, Of; the law's Ref and Same. -/
import Derived.Test.YtjhdpolaapbihaaDoorTrA
import Derived.BigQuiet
import Derived.Deep.CutBlock
namespace Go.Proofs.YtjhdpolaapbihaaDoor
open Go.ChangeShapes Go.WideShapes Go.ChangeAt Go.RowKit Go.Shelf
set_option linter.unusedVariables false

theorem entInfo : (Tryd.prog.info? 33).map (fun i => (i.zero, i.size, i.bytes)) = some (some (.agg #[.int .i64 0, .int .i64 0, .int .i64 0]), 3, 24) := by kernel_rfl
theorem entInfoR : (Tryd.prog.info? 30).map (fun i => (i.zero, i.size, i.bytes)) = some (some (.agg #[.int .i64 0, .int .i64 0, .int .i64 0]), 3, 24) := by kernel_rfl

/-- One entry more, behind append. -/
theorem en_next {t : TypeId} {w wr : World} {v : Value} {l : List En} {k h n : Int} (hO : EnO w.heap.size t wr v l) (hb : Below w.heap.size w wr) (w' : World) (v' : Value)
    (h1 : w'.ownsRow w.heap.size t 3 v' (l.length + 1) (ensC l ++ enC ⟨k, h, n⟩)) (h2 : (wr.alloc (.cells #[.int .i64 k, .int .i64 h, .int .i64 n] t)).grownBy w' v.ownBlock) : EnO w.heap.size t w' v' (l ++ [⟨k, h, n⟩]) ∧ Below w.heap.size w w' := by
  constructor
  · unfold EnO
    rw [ensC_snoc, List.length_append]
    exact h1
  · have hb1 := hb.alloc (o := .cells #[.int .i64 k, .int .i64 h, .int .i64 n] t) hb.size
    exact hb1.grown h2 hb1.size fun g e => (hO.own_lt g e).1
theorem take_at {α : Type} (l : List α) (k : Nat) (h : k < l.length) : l.take (k + 1) = l.take k ++ [l[k]] := (List.take_append_getElem h).symm

/-- How many are of a kind; those of a thread. -/
def countT (l : List En) (kind : Int) : Nat := (l.filter fun x => decide (x.kind = kind)).length
def ofT (l : List En) (th : Int) : List En := l.filter fun x => decide (x.th = th)
theorem count_le (l : List En) (kind : Int) : countT l kind ≤ l.length := List.length_filter_le _ _
theorem of_le (l : List En) (th : Int) : (ofT l th).length ≤ l.length := List.length_filter_le _ _
theorem count_yes {l : List En} {k : Nat} (h : k < l.length) : countT (l.take (k + 1)) l[k].kind = countT (l.take k) l[k].kind + 1 := by
  rw [take_at l k h]; unfold countT; rw [List.filter_append, List.length_append, List.filter_cons, if_pos (by simp)]; simp
theorem count_no {l : List En} {k : Nat} (h : k < l.length) {kind : Int} (hn : l[k].kind ≠ kind) : countT (l.take (k + 1)) kind = countT (l.take k) kind := by
  rw [take_at l k h]; unfold countT; rw [List.filter_append, List.length_append, List.filter_cons, if_neg (by simpa using hn)]; simp
theorem of_yes {l : List En} {k : Nat} (h : k < l.length) : ofT (l.take (k + 1)) l[k].th = ofT (l.take k) l[k].th ++ [l[k]] := by
  rw [take_at l k h]; unfold ofT; rw [List.filter_append, List.filter_cons, if_pos (by simp)]; rfl
theorem of_no {l : List En} {k : Nat} (h : k < l.length) {th : Int} (hn : l[k].th ≠ th) : ofT (l.take (k + 1)) th = ofT (l.take k) th := by
  rw [take_at l k h]; unfold ofT; rw [List.filter_append, List.filter_cons, if_neg (by simpa using hn), List.filter_nil, List.append_nil]

theorem cCount (l : List En) (a : Option Addr) (cap : Nat) (kind : Int) (w : World) (S : EnS w a l) (hlen : l.length ≤ 10000) :
    Calls Tryd.prog 18 #[.slice a l.length cap, .int .i64 kind] w fun e w' => e = .returned (.int .i64 (countT l kind : Nat)) ∧ Below w.heap.size w w' := by
  have HS := Lib.hid (fun W (hW : Below w.heap.size w W) => S.below hW)
  have HL := Lib.hid (fun k => Nat.le_trans (count_le (l.take k) kind) (by rw [List.length_take]; exact Nat.min_le_right _ _))
  have HE : Hid (countT (l.take l.length) kind = countT l kind) := Lib.hid (by rw [List.take_length])
  clear S
  go_enter Tryd.func18, Tryd.ntmps18
  go_wp2
  go_loopw [5, 10] (fun n q wr => ∃ k : Nat, q = .int .i64 k ∧ n = .int .i64 (countT (l.take k) kind : Nat) ∧ k ≤ l.length ∧ Below w.heap.size w wr) (fun _ q _ => l.length - (intOf q).toNat)
  case atStart => exact ⟨0, rfl, by simp [countT], Nat.zero_le _, Below.refl _ _⟩
  case round =>
    obtain ⟨k, rfl, rfl, hk, hb⟩ := hrel
    by_cases hlt : k < l.length
    · have hki : (k : Int) < l.length := by omega
      obtain ⟨b, off, rfl, hbl, c0, c1, c2⟩ := (HS.out wr hb).at_ (List.getElem?_eq_getElem hlt)
      have hY := Lib.hid (fun (e : l[k].kind = kind) => by have := count_yes hlt; rw [e] at this; exact this)
      have hN := Lib.hid (fun (e : l[k].kind ≠ kind) => count_no hlt e)
      have hl := HL.out k
      have hb2 := hb.alloc (o := .cells #[.int .i64 l[k].kind, .int .i64 l[k].th, .int .i64 l[k].now] 33) hb.size
      generalize l[k].kind = xk at *
      generalize l[k].th = xt at *
      generalize l[k].now = xn at *
      by_cases hq : xk = kind
      · have e := hY.out hq
        have HE2 := Lib.hid e
        have q1 : (xk == kind) = true := by simpa using hq
        have hl2 : countT (l.take k) kind ≤ 10000 := by omega
        clear hY hN e hq hl
        generalize countT (l.take k) kind = m at *
        go_wp2
        go_roundw
        case rel => exact ⟨k + 1, by go_num, by rw [HE2.out]; go_num, by omega, hb2⟩
        case measure => simp [intOf]; omega
      · have e := hN.out hq
        have HE2 := Lib.hid e
        have q1 : (xk == kind) = false := by simpa using hq
        clear hY hN e hq hl
        generalize countT (l.take k) kind = m at *
        go_wp2
        go_roundw
        case rel => exact ⟨k + 1, by go_num, by rw [HE2.out], by omega, hb2⟩
        case measure => simp [intOf]; omega
    · obtain rfl : k = l.length := by omega
      rw [HE.out]
      go_wp2
      go_ret
      exact ⟨rfl, hb⟩

set_option maxHeartbeats 1000000 in
theorem cOf (l : List En) (a : Option Addr) (cap : Nat) (th : Int) (w : World) (S : EnS w a l) (hlen : l.length ≤ 10000) :
    Calls Tryd.prog 19 #[.slice a l.length cap, .int .i64 th] w fun e w' => ∃ v, e = .returned v ∧ EnO w.heap.size 33 w' v (ofT l th) ∧ Below w.heap.size w w' := by
  have HS := Lib.hid (fun W (hW : Below w.heap.size w W) => S.below hW)
  have HL := Lib.hid (fun k => Nat.le_trans (of_le (l.take k) th) (by rw [List.length_take]; exact Nat.min_le_right _ _))
  have HE : Hid (ofT (l.take l.length) th = ofT l th) := Lib.hid (by rw [List.take_length])
  clear S
  go_enter Tryd.func19, Tryd.ntmps19
  go_wp2
  go_loopw [5, 10] (fun o q wr => ∃ k : Nat, q = .int .i64 k ∧ EnO w.heap.size 33 wr o (ofT (l.take k) th) ∧ k ≤ l.length ∧ Below w.heap.size w wr) (fun _ q _ => l.length - (intOf q).toNat)
  case atStart => exact ⟨0, rfl, EnO.nil _ _ _, Nat.zero_le _, Below.refl _ _⟩
  case round =>
    obtain ⟨k, rfl, hO, hk, hb⟩ := hrel
    by_cases hlt : k < l.length
    · have hki : (k : Int) < l.length := by omega
      obtain ⟨b, off, rfl, hbl, c0, c1, c2⟩ := (HS.out wr hb).at_ (List.getElem?_eq_getElem hlt)
      have hY := Lib.hid (fun (e : l[k].th = th) => by have := of_yes hlt; rw [e] at this; exact this)
      have hN := Lib.hid (fun (e : l[k].th ≠ th) => of_no hlt e)
      have hl := HL.out k
      have hb2 := hb.alloc (o := .cells #[.int .i64 l[k].kind, .int .i64 l[k].th, .int .i64 l[k].now] 33) hb.size
      have hO2 := hO.alloc (.cells #[.int .i64 l[k].kind, .int .i64 l[k].th, .int .i64 l[k].now] 33)
      have hNb := Nb.made 33 wr l[k].kind l[k].th l[k].now
      generalize l[k] = x at *
      obtain ⟨xk, xt, xn⟩ := x
      simp only at hY hN hb2 hO2 hNb c0 c1 c2
      by_cases hq : xt = th
      · have HE2 := Lib.hid (hY.out hq)
        have q1 : (xt == th) = true := by simpa using hq
        clear hY hN hq
        go_upto_region 5 with fail
        generalize wr.alloc (.cells #[.int .i64 xk, .int .i64 xt, .int .i64 xn] 33) = z at *
        have hp := Bk.lt hNb
        generalize wr.heap.size = p at *
        obtain ⟨e0, e1, e2⟩ := hNb.cells
        simp only at e0 e1 e2
        have HO := Lib.hid (World.ownsRow.alloc hO2 (.cells #[.int .i64 xk, .int .i64 xt, .int .i64 xn] 33))
        have HN2 := Lib.hid (news_bk (Nb.made 33 z xk xt xn))
        have HBS : Hid (w.heap.size ≤ (z.alloc (.cells #[.int .i64 xk, .int .i64 xt, .int .i64 xn] 33)).heap.size) := Lib.hid (by rw [World.size_alloc]; have := hb2.size; omega)
        have HEND := Lib.hid (en_next (k := xk) (h := xt) (n := xn) hO2 hb2)
        have HLn : Hid ((ofT (l.take k) th).length < 100000) := Lib.hid (by omega)
        clear hO hO2 hb hb2 hl hNb
        go_wp2_with (at_builtin; refine wpOwn rfl _ _ 22 rfl _ 24 Tryd.underlying22 entInfo rfl (by omega) (by omega) HO.out rfl (enC ⟨xk, xt, xn⟩) rfl (enC_one _) z.heap.size rfl HN2.out HLn.out HBS.out ?_; intro v' w' hown hgr hloc)
        obtain ⟨s1, s2⟩ := HEND.out _ _ hown hgr
        rw [← HE2.out] at s1
        go_roundw
        case rel => exact ⟨k + 1, by go_num, s1, by omega, s2⟩
        case measure => simp [intOf]; omega
      · have HE2 := Lib.hid (hN.out hq)
        have q1 : (xt == th) = false := by simpa using hq
        rw [← HE2.out] at hO2
        clear hY hN hO hb hq hl hNb
        go_wp2
        go_roundw
        case rel => exact ⟨k + 1, by go_num, hO2, by omega, hb2⟩
        case measure => simp [intOf]; omega
    · obtain rfl : k = l.length := by omega
      rw [HE.out] at hO
      go_wp2
      go_ret
      exact ⟨_, rfl, hO, hb⟩

set_option maxHeartbeats 1000000 in
theorem lRef12 (l : List En) (a : Option Addr) (cap : Nat) (w : World) (S : EnS w a l) (hlen : l.length ≤ 10000) :
    Calls Tryd.prog 9 #[.slice a l.length cap] w fun e w' => ∃ v, e = .returned v ∧ EnO w.heap.size 30 w' v l ∧ Below w.heap.size w w' := by
  have HS := Lib.hid (fun W (hW : Below w.heap.size w W) => S.below hW)
  have HE : Hid (l.take l.length = l) := Lib.hid (by rw [List.take_length])
  have HT := Lib.hid (fun k h => take_at l k h)
  clear S
  go_enter Tryd.func9, Tryd.ntmps9
  go_wp2
  go_loopw [3, 8] (fun o q wr => ∃ k : Nat, q = .int .i64 k ∧ EnO w.heap.size 30 wr o (l.take k) ∧ k ≤ l.length ∧ Below w.heap.size w wr) (fun _ q _ => l.length - (intOf q).toNat)
  case atStart => exact ⟨0, rfl, EnO.nil _ _ _, Nat.zero_le _, Below.refl _ _⟩
  case round =>
    obtain ⟨k, rfl, hO, hk, hb⟩ := hrel
    by_cases hlt : k < l.length
    · have hki : (k : Int) < l.length := by omega
      obtain ⟨b, off, rfl, hbl, c0, c1, c2⟩ := (HS.out wr hb).at_ (List.getElem?_eq_getElem hlt)
      have HE2 := Lib.hid (HT.out k hlt)
      have hb2 := hb.alloc (o := .cells #[.int .i64 l[k].kind, .int .i64 l[k].th, .int .i64 l[k].now] 33) hb.size
      have hO2 := hO.alloc (.cells #[.int .i64 l[k].kind, .int .i64 l[k].th, .int .i64 l[k].now] 33)
      have hNb := Nb.made 33 wr l[k].kind l[k].th l[k].now
      have hlk : (l.take k).length = k := by simp; omega
      generalize l[k] = x at *
      obtain ⟨xk, xt, xn⟩ := x
      simp only at hb2 hO2 hNb c0 c1 c2
      go_upto_region 5 with fail
      generalize wr.alloc (.cells #[.int .i64 xk, .int .i64 xt, .int .i64 xn] 33) = z at *
      generalize wr.heap.size = p at *
      obtain ⟨e0, e1, e2⟩ := hNb.cells
      simp only at e0 e1 e2
      have HO := Lib.hid (World.ownsRow.alloc hO2 (.cells #[.int .i64 xk, .int .i64 xt, .int .i64 xn] 30))
      have HN2 := Lib.hid (news_bk (Nb.made 30 z xk xt xn))
      have HBS : Hid (w.heap.size ≤ (z.alloc (.cells #[.int .i64 xk, .int .i64 xt, .int .i64 xn] 30)).heap.size) := Lib.hid (by rw [World.size_alloc]; have := hb2.size; omega)
      have HEND := Lib.hid (en_next (k := xk) (h := xt) (n := xn) hO2 hb2)
      have HLn : Hid ((l.take k).length < 100000) := Lib.hid (by omega)
      clear hO hO2 hb hb2 hNb hlk
      go_wp2_with (at_builtin; refine wpOwn rfl _ _ 27 rfl _ 24 Tryd.underlying27 entInfoR rfl (by omega) (by omega) HO.out rfl (enC ⟨xk, xt, xn⟩) rfl (enC_one _) z.heap.size rfl HN2.out HLn.out HBS.out ?_; intro v' w' hown hgr hloc)
      obtain ⟨s1, s2⟩ := HEND.out _ _ hown hgr
      rw [← HE2.out] at s1
      go_roundw
      case rel => exact ⟨k + 1, by go_num, s1, by omega, s2⟩
      case measure => simp [intOf]; omega
    · obtain rfl : k = l.length := by omega
      rw [HE.out] at hO
      go_wp2
      go_ret
      exact ⟨_, rfl, hO, hb⟩

/-- Alike, one by one. -/
def eqEs : List En → List En → Bool
  | [], [] => true
  | x :: l, y :: m => eqE x y && eqEs l m
  | _, _ => false
theorem eqEs_iff : ∀ {l m : List En}, eqEs l m = true ↔ l = m
  | [], [] => by simp [eqEs]
  | [], _ :: _ => by simp [eqEs]
  | _ :: _, [] => by simp [eqEs]
  | x :: l, y :: m => by simp [eqEs, eqE_iff, eqEs_iff (l := l) (m := m)]
theorem eqEs_self (l : List En) : eqEs l l = true := eqEs_iff.2 rfl
theorem run_neE (x y : En) (w : World) : (binOp .neq 30 (enV x) (enV y)).run Tryd.prog w = .ok (.bool (!eqE x y)) w := by
  unfold enV
  have hu := Tryd.underlying30
  go_simp
  unfold eqE
  repeat' split
  all_goals simp [*]

set_option maxHeartbeats 1000000 in
theorem lSame12 (l m : List En) (a b : Option Addr) (cap cap2 : Nat) (w : World) (S : EnS w a l) (T : EnS w b m) (hlen : l.length ≤ 10000) :
    Calls Tryd.prog 14 #[.slice a l.length cap, .slice b m.length cap2] w fun e w' => e = .returned (.bool (eqEs l m)) ∧ Below w.heap.size w w' := by
  by_cases hlm : l.length = m.length
  · have HR := Lib.hid (fun cap W hW => lRef12 l a cap W (S.below (w' := W) hW) hlen)
    have HT := Lib.hid (fun W (hW : Below w.heap.size w W) => T.below hW)
    have HQ : Hid (∀ k (h : k < l.length) (h2 : k < m.length), eqE l[k] m[k] = false → eqEs l m = false) := Lib.hid (fun k h h2 he => by
      rw [Bool.eq_false_iff]
      intro e
      have := eqEs_iff.1 e
      subst this
      rw [eqE_self] at he
      cases he)
    have HY : Hid ((∀ k (h : k < l.length) (h2 : k < m.length), eqE l[k] m[k] = true) → eqEs l m = true) := Lib.hid (fun h => eqEs_iff.2 (List.ext_getElem hlm fun k h1 h2 => eqE_iff.1 (h k h1 h2)))
    generalize eqEs l m = r at *
    clear S T
    rw [← hlm]
    have HM := Lib.hid hlm
    clear hlm
    go_enter Tryd.func14, Tryd.ntmps14
    go_wp2_with fail
    refine (HR.out cap w (Below.refl _ _)).mono ?_
    rintro e y ⟨v, rfl, hO, hy⟩
    obtain ⟨a2, cap3, rfl, hc1, hc2, hS⟩ := hO.is
    have HO := Lib.hid (fun W (hW : Below y.heap.size y W) => hS.below hW)
    clear hO hS HR
    go_wp2
    go_loopw [15] (fun q wr => ∃ k : Nat, q = .int .i64 k ∧ k ≤ l.length ∧ Below y.heap.size y wr ∧ Hid (∀ j (h : j < l.length) (h2 : j < m.length), j < k → eqE l[j] m[j] = true)) (fun q _ => l.length - (intOf q).toNat)
    case atStart => exact ⟨0, rfl, Nat.zero_le _, Below.refl _ _, Lib.hid (fun j _ _ h => by omega)⟩
    case round =>
      obtain ⟨k, rfl, hk, hb, HA⟩ := hrel
      have hbw := hy.trans (hb.mono hy.size)
      by_cases hlt : k < l.length
      · have hki : (k : Int) < l.length := by omega
        have hlt2 : k < m.length := by rw [← HM.out]; exact hlt
        obtain ⟨b1, o1, rfl, hbl, c0, c1, c2⟩ := (HO.out wr hb).at_ (List.getElem?_eq_getElem hlt)
        have hx := (HO.out wr hb).at_ (List.getElem?_eq_getElem hlt)
        have HQ2 := Lib.hid (HQ.out k hlt hlt2)
        have HA2 : Hid (eqE l[k] m[k] = true → ∀ j (h : j < l.length) (h2 : j < m.length), j < k + 1 → eqE l[j] m[j] = true) := Lib.hid (fun e j h h2 hj => by
          rcases Decidable.em (j = k) with rfl | hne
          · exact e
          · exact HA.out j h h2 (by omega))
        have hb2 := hb.alloc (o := .cells #[.int .i64 l[k].kind, .int .i64 l[k].th, .int .i64 l[k].now] 30) hb.size
        have hNb := Nb.made 30 wr l[k].kind l[k].th l[k].now
        have hT := (HT.out _ (hy.trans (hb2.mono hy.size))).at_ (List.getElem?_eq_getElem hlt2)
        generalize l[k] = x at *
        generalize m[k] = x2 at *
        have hcmp := fun W => run_neE x x2 W
        generalize hq : eqE x x2 = q at *
        obtain ⟨xk, xt, xn⟩ := x
        obtain ⟨yk, yt, yn⟩ := x2
        unfold enV at hcmp
        simp only at hb2 hNb c0 c1 c2 hT hcmp
        clear hx hq HA HQ
        go_upto_region 6 with fail
        generalize wr.alloc (.cells #[.int .i64 xk, .int .i64 xt, .int .i64 xn] 30) = z at *
        generalize wr.heap.size = p at *
        obtain ⟨b3, o3, rfl, hbl3, d0, d1, d2⟩ := hT
        obtain ⟨e0, e1, e2⟩ := hNb.cells
        simp only at e0 e1 e2
        clear c0 c1 c2 hNb
        go_quiet (fail)
        have hb3 : Below y.heap.size y (z.drewN nq) := ⟨hb2.os, hb2.tape, hb2.output, hb2.size, hb2.block⟩
        generalize z.drewN nq = u at *
        clear d0 d1 d2 e0 e1 e2 hb2
        cases q with
        | true =>
          have HA3 := Lib.hid (HA2.out rfl)
          clear HA2 HQ2
          go_wp2
          go_roundw
          case rel => exact ⟨k + 1, by go_num, by omega, hb3, HA3⟩
          case measure => simp [intOf]; omega
        | false =>
          have HR2 := Lib.hid (HQ2.out rfl)
          have hb4 := hy.trans (hb3.mono hy.size)
          clear HA2 HQ2
          go_wp2
          go_ret
          exact ⟨by rw [HR2.out]; rfl, hb4⟩
      · obtain rfl : k = l.length := by omega
        have HR2 := Lib.hid (HY.out fun j h h2 => HA.out j h h2 h)
        clear HA HQ HY
        go_wp2
        go_ret
        exact ⟨by rw [HR2.out]; rfl, hbw⟩
  · have HQ : Hid (eqEs l m = false) := Lib.hid (by
      rw [Bool.eq_false_iff]
      intro e
      exact hlm (by rw [eqEs_iff.1 e]))
    generalize eqEs l m = r at *
    have hne : ¬ (l.length : Int) = (m.length : Int) := by omega
    clear S T
    go_enter Tryd.func14, Tryd.ntmps14
    go_wp2
    go_ret
    exact ⟨by rw [HQ.out]; rfl, Below.refl _ _⟩
end Go.Proofs.YtjhdpolaapbihaaDoor
