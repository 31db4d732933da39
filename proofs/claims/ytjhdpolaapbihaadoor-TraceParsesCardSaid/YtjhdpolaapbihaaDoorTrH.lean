/- Layer 12: Holder. -/
import Derived.Test.YtjhdpolaapbihaaDoorTrE
import Derived.Test.YtjhdpolaapbihaaDoorRngG
import Derived.Test.YtjhdpolaapbihaaDoorMapB
import Derived.BigRegionIn
namespace Go.Proofs.YtjhdpolaapbihaaDoor
open Go.ChangeShapes Go.WideShapes Go.ChangeAt Go.RowKit Go.Shelf
attribute [local go_sem] Oper.semAt_some
set_option linter.unusedVariables false

/-- Whose Release stands in it? -/
def relT (l : List En) (t : Int) : Bool := l.any fun x => decide (x.kind = 9) && decide (x.th = t)
/-- The thread of the last Grant behind which none of that thread's Release stands. -/
def holdT : List En → Option Int
  | [] => none
  | x :: l => match holdT l with
    | some t => some t
    | none => if x.kind = 3 ∧ relT l x.th = false then some x.th else none
/-- What Holder answers. -/
def holdV (l : List En) : Value := match holdT l with
  | some t => .tuple #[.int .i64 t, .bool true]
  | none => .tuple #[.int .i64 0, .bool false]
theorem rel_cons (x : En) (l : List En) (t : Int) : relT (x :: l) t = (relT l t || (decide (x.kind = 9) && decide (x.th = t))) := by
  unfold relT
  rw [List.any_cons, Bool.or_comm]
/-- Once one is found, it's the one of any more ahead. -/
theorem hold_app : ∀ (a l : List En) {t : Int}, holdT l = some t → holdT (a ++ l) = some t
  | [], l, t, h => h
  | x :: a, l, t, h => by
    have ih := hold_app a l h
    show holdT (x :: (a ++ l)) = _
    rw [holdT, ih]
theorem hold_drop {l : List En} {k : Nat} {t : Int} (h : holdT (l.drop k) = some t) : holdT l = some t := by
  have := hold_app (l.take k) (l.drop k) h
  rwa [List.take_append_drop] at this
theorem drop_at {α : Type} (l : List α) (k : Nat) (h : k < l.length) : l.drop k = l[k] :: l.drop (k + 1) := List.drop_eq_getElem_cons h

set_option maxHeartbeats 1000000 in
theorem it_back (l : List En) (a : Option Addr) (cap b lp : Nat) (W1 : World) (hlen : l.length < 1000000) :
    IterR (fun W => Bk W b 22 #[.slice a l.length cap] ∧ EnS W a l) Tryd.prog 39 #[.pointer (some ⟨b, 0, none⟩)]
      (fun k => #[.int .i64 ((l.length - 1 - k : Nat) : Int), enV (l.getD (l.length - 1 - k) ⟨0, 0, 0⟩)]) l.length lp W1 (fun _ => False) := by
  intro J Jx hJ hJx hR hY h0
  refine callsIn_of_wp Tryd.func39 rfl trivial ?_ rfl
  simp only [Tryd.ntmps39, List.size_toArray, List.length_cons, List.length_nil, Nat.reduceAdd, Nat.reduceSub, Array.replicate_succ, Array.replicate_zero, List.push_toArray, List.append_toArray, List.nil_append, List.cons_append]
  have cb : W1.cell? ⟨b, 0, none⟩ = some (.slice a l.length cap) := (hR 0 _ h0).1.cell 0
  have HR := Lib.hid hR
  clear hR
  have hw0 : wrap64 ((l.length : Int) - 1) = (l.length : Int) - 1 := by unfold wrap64; omega
  gi_wp2
  gi_loopw [3] (fun p wr => ∃ k : Nat, k ≤ l.length ∧ p = .int .i64 ((l.length : Int) - 1 - k) ∧ J k wr) (fun p wr => ((intOf p) + 1).toNat)
  case atStart => exact ⟨0, Nat.zero_le _, by simp, h0⟩
  case round =>
    obtain ⟨k, hk, rfl, hj⟩ := hrel
    by_cases hlt : k < l.length
    · have hi0 : (l.length : Int) - 1 - k ≥ 0 := by omega
      have hix : l.length - 1 - k < l.length := by omega
      obtain ⟨hb, hS⟩ := HR.out k wr hj
      have cb : wr.cell? ⟨b, 0, none⟩ = some (.slice a l.length cap) := hb.cell 0
      obtain ⟨g, off, rfl, hgl, c0, c1, c2⟩ := hS.at_ (List.getElem?_eq_getElem hix)
      obtain ⟨fn, tmps, assign, body, hy, hRd⟩ := hY k wr hlt hj (fun _ h => h.elim)
      have eg : l.getD (l.length - 1 - k) ⟨0, 0, 0⟩ = l[l.length - 1 - k] := by simp [List.getD_eq_getElem?_getD, hix]
      rw [eg] at hy
      generalize l[l.length - 1 - k] = x at *
      obtain ⟨xk, xt, xn⟩ := x
      unfold enV at hy
      simp only at hy c0 c1 c2
      have ei : (((l.length - 1 - k : Nat) : Int)) = (l.length : Int) - 1 - k := by omega
      have et : ((l.length : Int) - 1 - k).toNat = l.length - 1 - k := by omega
      rw [ei] at hy
      have hw1 : wrap64 ((l.length : Int) - 1 - k - 1) = (l.length : Int) - 1 - k - 1 := by unfold wrap64; omega
      have hx1 : (l.length : Int) - 1 - k < l.length := by omega
      gi_wp2
      refine ⟨rfl, hRd.mono ?_⟩
      rintro e W3 ⟨hh, (⟨rfl, hJ3⟩ | ⟨rfl, hJx3⟩)⟩
      · gi_wp2
        go_roundw
        case rel => exact ⟨k + 1, by omega, by go_num, hJ3⟩
        case measure => simp [intOf]; omega
      · gi_wp2
        refine bodyPost_ret (results_none rfl _ _ _) rfl ?_
        exact ⟨⟨_, rfl⟩, .inr hJx3⟩
    · obtain rfl : k = l.length := by omega
      have hi0 : ¬ (l.length : Int) - 1 - l.length ≥ 0 := by omega
      have hd : decide ((l.length : Int) - 1 - l.length ≥ 0) = false := by simp; omega
      gi_wp2
      go_end0
      exact ⟨⟨_, rfl⟩, .inl hj⟩

theorem lBack (a : Option Addr) (n cap : Nat) (w : World) :
    Calls Tryd.prog 30 #[.slice a n cap] w fun e w' => e = .returned (.func (.func 39) #[] #[.pointer (some ⟨w.heap.size, 0, none⟩)]) ∧ w' = w.alloc (.cells #[.slice a n cap] 22) := by
  go_enter Tryd.func30, Tryd.ntmps30
  go_wp2
  go_ret
  exact ⟨rfl, rfl⟩

/-- What stands while entries are looked at. -/
structure Hol (w : World) (a : Option Addr) (cap : Nat) (l : List En) (k : Nat) (W : World) : Prop where
  bel : Below w.heap.size w W
  q0 : Bk W w.heap.size 3 #[.int .i64 0]
  q1 : Bk W (w.heap.size + 1) 4 #[.bool false]
  m : MapB W (w.heap.size + 2) (relT (l.drop (l.length - k))) k
  q3 : Bk W (w.heap.size + 3) 70 #[.map (some (w.heap.size + 2))]
  q4 : Bk W (w.heap.size + 4) 22 #[.slice a l.length cap]
  no : holdT (l.drop (l.length - k)) = none
/-- One is found. -/
def HolX (w : World) (l : List En) (c : Code) (W : World) : Prop :=
  c = .ret ∧ ∃ t, Below w.heap.size w W ∧ Bk W w.heap.size 3 #[.int .i64 t] ∧ Bk W (w.heap.size + 1) 4 #[.bool true] ∧ holdT l = some t
def HolA (w : World) (a : Option Addr) (cap : Nat) (l : List En) (k p : Nat) (W : World) : Prop :=
  Hol w a cap l k W ∧ w.heap.size + 7 ≤ p ∧ Nb 33 W p (l.getD (l.length - 1 - k) ⟨0, 0, 0⟩)
theorem below_of_withinH {B : Nat} {A W : World} {S : Nat → Prop} (h : Within A W S) (hs : ∀ b, S b → B ≤ b) (hB : B ≤ A.heap.size) : Below B A W := ⟨h.os, h.tape, h.output, h.size, fun i hi => h.block i (by omega) (fun e => by have := hs i e; omega)⟩
theorem Hol.within {w A B : World} {a : Option Addr} {cap k : Nat} {l : List En} {S : Nat → Prop} (h : Hol w a cap l k A) (hw : Within A B S) (hs : ∀ b, S b → w.heap.size + 4 < b) : Hol w a cap l k B :=
  ⟨h.bel.trans (below_of_withinH hw (fun b hb => by have := hs b hb; omega) h.bel.size), h.q0.within hw (fun e => by have := hs _ e; omega), h.q1.within hw (fun e => by have := hs _ e; omega), h.m.within hw (fun e => by have := hs _ e; omega),
    h.q3.within hw (fun e => by have := hs _ e; omega), h.q4.within hw (fun e => by have := hs _ e; omega), h.no⟩
theorem hol_calm {w : World} {a : Option Addr} {cap : Nat} {l : List En} : ∀ k, Calm (fun b => b = w.heap.size + 5 ∨ b = w.heap.size + 5 + 1 ∨ False) (Hol w a cap l k) := fun k A B h hw => h.within hw (by rintro b (rfl | rfl | h) <;> first | omega | exact h.elim)
theorem hol_calma {w : World} {a : Option Addr} {cap : Nat} {l : List En} : ∀ k p, Calm (fun b => b = w.heap.size + 5 ∨ b = w.heap.size + 5 + 1 ∨ False) (HolA w a cap l k p) := fun k p A B ⟨h, h7, hn⟩ hw =>
  ⟨h.within hw (by rintro b (rfl | rfl | h) <;> first | omega | exact h.elim), h7, Bk.within hn hw (by rintro (h | h | h) <;> first | omega | exact h.elim)⟩
theorem hol_calmx {w : World} {l : List En} : ∀ c, Calm (fun b => b = w.heap.size + 5 ∨ b = w.heap.size + 5 + 1 ∨ False) (HolX w l c) := by
  rintro c A B ⟨rfl, t, bl, q0, q1, ht⟩ hw
  exact ⟨rfl, t, bl.trans (below_of_withinH hw (by rintro b (rfl | rfl | h) <;> first | omega | exact h.elim) bl.size), q0.within hw (by rintro (h | h | h) <;> first | omega | exact h.elim), q1.within hw (by rintro (h | h | h) <;> first | omega | exact h.elim), ht⟩
theorem hol_start (w W : World) (hW : W = ((((w.alloc (.cells #[.int .i64 0] 3)).alloc (.cells #[.bool false] 4)).alloc (.map #[] 0)).alloc (.cells #[.map (some (w.heap.size + 1 + 1))] 70))) :
    Below w.heap.size w W ∧ W.heap.size = w.heap.size + 4 ∧ Bk W w.heap.size 3 #[.int .i64 0] ∧ Bk W (w.heap.size + 1) 4 #[.bool false] ∧ MapB W (w.heap.size + 2) (fun _ => false) 0 ∧ Bk W (w.heap.size + 3) 70 #[.map (some (w.heap.size + 2))] := by
  have h1 := Bk.made w 3 #[.int .i64 0]
  have k0 : Within w (w.alloc (.cells #[.int .i64 0] 3)) (fun _ => False) := (Within.refl _ _).alloc _
  generalize e1 : w.alloc (.cells #[.int .i64 0] 3) = w1 at *
  have z1 : w1.heap.size = w.heap.size + 1 := by rw [← e1]; simp
  have h2 := Bk.made w1 4 #[.bool false]
  have k1 : Within w1 (w1.alloc (.cells #[.bool false] 4)) (fun _ => False) := (Within.refl _ _).alloc _
  generalize e2 : w1.alloc (.cells #[.bool false] 4) = w2 at *
  have z2 : w2.heap.size = w.heap.size + 2 := by rw [← e2]; simp [z1]
  have h3 := MapB.made w2
  have k2 : Within w2 (w2.alloc (.map #[] 0)) (fun _ => False) := (Within.refl _ _).alloc _
  generalize e3 : w2.alloc (.map #[] 0) = w3 at *
  have z3 : w3.heap.size = w.heap.size + 3 := by rw [← e3]; simp [z2]
  have h4 := Bk.made w3 70 #[.map (some (w.heap.size + 1 + 1))]
  have k3 : Within w3 W (fun _ => False) := by rw [hW]; exact (Within.refl _ _).alloc _
  rw [← hW] at h4
  rw [z1] at h2
  rw [z2] at h3
  rw [z3] at h4
  have k13 := (k1.then_ k2 (by simp)).then_ k3 (by simp)
  have k23 := k2.then_ k3 (by simp)
  exact ⟨(k0.then_ k13 (by simp)).below (by simp), by rw [hW]; simp [z3], h1.within k13 (by simp), h2.within k23 (by simp), h3.within k3 (by simp), h4⟩

/-- One entry is looked at: it is none. -/
theorem hol_next {w W : World} {a : Option Addr} {cap k : Nat} {l : List En} {x : En} (h : Hol w a cap l k W) (hk : k < l.length) (hx : l.drop (l.length - (k + 1)) = x :: l.drop (l.length - k)) (h9 : x.kind ≠ 9) (hn : ¬ (x.kind = 3 ∧ relT (l.drop (l.length - k)) x.th = false)) : Hol w a cap l (k + 1) W := by
  have e : relT (l.drop (l.length - (k + 1))) = relT (l.drop (l.length - k)) := by
    funext t
    rw [hx, rel_cons]
    simp [h9]
  refine ⟨h.bel, h.q0, h.q1, ?_, h.q3, h.q4, ?_⟩
  · rw [e]
    obtain ⟨D, hD, r⟩ := h.m
    obtain ⟨es, clock, hb, F, hs, r2⟩ := hD
    exact ⟨D, ⟨es, clock, hb, F, by omega, r2⟩, r⟩
  · rw [hx, holdT, h.no, if_neg hn]
theorem hol_rel {w W W' : World} {a : Option Addr} {cap k : Nat} {l : List En} {x : En} (h : Hol w a cap l k W) (hx : l.drop (l.length - (k + 1)) = x :: l.drop (l.length - k)) (h9 : x.kind = 9)
    (hm : MapB W' (w.heap.size + 2) (fun y => relT (l.drop (l.length - k)) y || decide (y = x.th)) (k + 1)) (ho : Only W W' (w.heap.size + 2)) : Hol w a cap l (k + 1) W' ∧ Within W W' (fun b => b = w.heap.size + 2) := by
  have e : relT (l.drop (l.length - (k + 1))) = fun y => relT (l.drop (l.length - k)) y || decide (y = x.th) := by
    funext t
    rw [hx, rel_cons, h9]
    simp [eq_comm]
  have hw : Within W W' (fun b => b = w.heap.size + 2) := .of_grown ho (by simp)
  refine ⟨⟨h.bel.trans (below_of_withinH hw (by omega) h.bel.size), h.q0.within hw (by omega), h.q1.within hw (by omega), by rw [e]; exact hm, h.q3.within hw (by omega), h.q4.within hw (by omega), ?_⟩, hw⟩
  rw [hx, holdT, h.no, if_neg (by omega)]
theorem hol_hit {w W V : World} {a : Option Addr} {cap k : Nat} {l : List En} {x : En} (h : Hol w a cap l k W) (hx : l.drop (l.length - (k + 1)) = x :: l.drop (l.length - k)) (h3 : x.kind = 3) (hr : relT (l.drop (l.length - k)) x.th = false)
    (hV : V = (W.setCell ⟨w.heap.size, 0, none⟩ (.int .i64 x.th)).setCell ⟨w.heap.size + 1, 0, none⟩ (.bool true)) : HolX w l .ret V ∧ Within W V (fun b => b = w.heap.size ∨ b = w.heap.size + 1) := by
  subst hV
  have hw : Within W ((W.setCell ⟨w.heap.size, 0, none⟩ (.int .i64 x.th)).setCell ⟨w.heap.size + 1, 0, none⟩ (.bool true)) (fun b => b = w.heap.size ∨ b = w.heap.size + 1) := ((Within.refl _ _).put _ 0 _ (.inl (.inl rfl))).put _ 0 _ (.inl (.inr rfl))
  refine ⟨⟨rfl, x.th, h.bel.trans (below_of_withinH hw (by omega) h.bel.size), (h.q0.put 0 _).off (by show w.heap.size ≠ w.heap.size + 1; omega) _, (h.q1.off (by show w.heap.size + 1 ≠ w.heap.size; omega) _).put 0 _, ?_⟩, hw⟩
  have : holdT (l.drop (l.length - (k + 1))) = some x.th := by rw [hx, holdT, h.no, if_pos ⟨h3, hr⟩]
  exact hold_drop this

set_option maxHeartbeats 4000000 in
set_option maxRecDepth 100000 in
theorem cHolder (l : List En) (a : Option Addr) (cap : Nat) (w : World) (S : EnS w a l) (hlen : l.length ≤ 10000) (hwf : ∀ x ∈ l, x.Wf) :
    Calls Tryd.prog 16 #[.slice a l.length cap] w fun e w' => e = .returned (holdV l) ∧ Below w.heap.size w w' := by
  refine (callsIn_wide (n := 0)).1 ?_
  refine callsIn_of_wp_marks Tryd.func16 rfl trivial ?_ rfl
  simp only [Tryd.ntmps16, List.size_toArray, List.length_cons, List.length_nil, Nat.reduceAdd, Nat.reduceSub, Array.replicate_succ, Array.replicate_zero, List.push_toArray, List.append_toArray, List.nil_append, List.cons_append]
  have hmm := @run_makeMap Tryd.prog
  have HBk := Lib.hid (fun W => (callsIn_wide (n := 0)).2 (lBack a l.length cap W))
  obtain ⟨b0, s0, r0, r1, r2, r3⟩ := hol_start w _ rfl
  gi_wp2
  refine ⟨trivial, rfl, ?_⟩
  generalize ((((w.alloc (.cells #[.int .i64 0] 3)).alloc (.cells #[.bool false] 4)).alloc (.map #[] 0)).alloc (.cells #[.map (some (w.heap.size + 1 + 1))] 70)) = W0 at *
  refine (HBk.out _).mono ?_
  rintro e W1 ⟨rfl, rfl⟩
  have t1 := Bk.made W0 22 #[.slice a l.length cap]
  have h1 : Within W0 (W0.alloc (.cells #[.slice a l.length cap] 22)) (fun _ => False) := (Within.refl _ _).alloc _
  have s1 : (W0.alloc (.cells #[.slice a l.length cap] 22)).heap.size = w.heap.size + 5 := by simp [s0]
  rw [s0] at t1 ⊢
  have hI0 : Hol w a cap l 0 (W0.alloc (.cells #[.slice a l.length cap] 22)) := by
    refine ⟨b0.trans (below_of_withinH h1 (by simp) (by omega)), r0.within h1 (by simp), r1.within h1 (by simp), ?_, r3.within h1 (by simp), t1, ?_⟩
    · have h2 := r2.within h1 (by simp)
      rw [Nat.sub_zero, List.drop_length]
      exact h2
    · rw [Nat.sub_zero, List.drop_length]; rfl
  generalize W0.alloc (.cells #[.slice a l.length cap] 22) = W1 at *
  clear h1 s0 HBk hmm r0 r1 r2 r3 b0 W0
  gi_wp2
  simp only [Nat.add_assoc, Nat.reduceAdd]
  refine wpIn_rangeG (gf := 39) (lb := #[.pointer (some ⟨w.heap.size + 4, 0, none⟩)]) rfl (enters_of Tryd.func39 (by kernel_rfl) rfl)
    (encs := fun k => #[.int .i64 ((l.length - 1 - k : Nat) : Int), enV (l.getD (l.length - 1 - k) ⟨0, 0, 0⟩)]) (N := l.length) (T := fun _ => False) (R := fun W => Bk W (w.heap.size + 4) 22 #[.slice a l.length cap] ∧ EnS W a l) (fun _ => rfl) (by simp) (by simp)
    (fun W4 hb4 hz4 => it_back l a cap _ _ W4 (by omega)) (Hol w a cap l) (fun k W h => ⟨h.q4, S.below h.bel⟩) (HolA w a cap l) (by rw [s1]; exact hol_calma) (HolX w l) (by rw [s1]; exact hol_calm) (by rw [s1]; exact hol_calmx) hI0
    (fun k p => { tmps := #[.slice a l.length cap, undef, .pointer (some ⟨w.heap.size, 0, none⟩), .pointer (some ⟨w.heap.size + 1, 0, none⟩), .pointer (some ⟨w.heap.size + 3, 0, none⟩), undef, .pointer (some ⟨p, 0, none⟩), .map (some (w.heap.size + 2)), .slice a l.length cap,
      .func (.func 39) #[] #[.pointer (some ⟨w.heap.size + 4, 0, none⟩)], .int .i64 ((l.length - 1 - k : Nat) : Int), enV (l.getD (l.length - 1 - k) ⟨0, 0, 0⟩),
      undef, undef, undef, undef, undef, undef, undef, undef, undef, undef, undef, undef, undef, undef, undef, undef, undef, undef, undef, undef], defers := [] }) ?assign ?body ?done ?stop
  case assign =>
    intro l2 k W K hk hI hT hK
    rw [s1] at hT
    have hsz : w.heap.size + 7 ≤ W.heap.size := hT (w.heap.size + 6) (.inr (.inl rfl))
    generalize hx : l.getD (l.length - 1 - k) ⟨0, 0, 0⟩ = x at *
    obtain ⟨xk, xt, xn⟩ := x
    have hK2 := hK W.heap.size (W.alloc (.cells #[.int .i64 xk, .int .i64 xt, .int .i64 xn] 33)) ((Below.refl _ _).alloc (Nat.le_refl _) _) ⟨hI.within ((Within.refl W (fun _ => False)).alloc _) (by simp), hsz, by rw [hx]; exact Nb.made _ W xk xt xn⟩
    unfold enV at hK2 ⊢
    simp only at hK2 ⊢
    clear hK hI hx
    gi_wp2
    exact hK2
  case body =>
    rintro l2 k p W hk ⟨hI, hp, hN⟩ hT
    simp only [s1] at hT ⊢
    have hsz : w.heap.size + 7 ≤ W.heap.size := hT (w.heap.size + 6) (.inr (.inl rfl))
    have hix : l.length - 1 - k < l.length := by omega
    have eg : l.getD (l.length - 1 - k) ⟨0, 0, 0⟩ = l[l.length - 1 - k] := by simp [List.getD_eq_getElem?_getD, hix]
    have hx : l.drop (l.length - (k + 1)) = l[l.length - 1 - k] :: l.drop (l.length - k) := by
      rw [show l.length - (k + 1) = l.length - 1 - k by omega, drop_at l _ hix, show l.length - 1 - k + 1 = l.length - k by omega]
    have hxw := hwf _ (List.getElem_mem hix)
    rw [eg] at hN ⊢
    generalize l[l.length - 1 - k] = x at *
    have HNx := Lib.hid (hol_next hI hk hx)
    have HRl := Lib.hid (fun w2 => hol_rel (x := x) (W' := w2) hI hx)
    have HHt := Lib.hid (fun w2 h3 hr => hol_hit (x := x) (V := w2) hI hx h3 hr)
    have hl := hI.m.look hxw.t0 hxw.t1
    have hadd := hI.m.add (by omega) hxw.t0 hxw.t1
    generalize relT (l.drop (l.length - k)) = f at *
    obtain ⟨c0, c1, c2⟩ := hN.cells
    have c3 : W.cell? ⟨w.heap.size + 3, 0, none⟩ = some (.map (some (w.heap.size + 2))) := hI.q3.cell 0
    obtain ⟨xk, xt, xn⟩ := x
    unfold enV
    simp only at c0 c1 c2 hl hadd HNx HRl HHt ⊢
    have hH : Held (fun b => b = w.heap.size + 5 ∨ b = w.heap.size + 5 + 1 ∨ False) W W := Held.refl _ _
    by_cases h9 : xk = 9
    · subst h9
      obtain ⟨w', hrun, hm, ho⟩ := hadd
      obtain ⟨hI2, hw2⟩ := HRl.out w' rfl hm ho
      have hH2 : Held (fun b => b = w.heap.size + 5 ∨ b = w.heap.size + 5 + 1 ∨ False) W w' := Held.of_within hw2 (fun b hb => ⟨hT b hb, by rcases hb with rfl | rfl | h <;> first | omega | exact h.elim⟩)
      clear HNx HRl HHt hl hm ho hw2 hI hN hT hH
      gi_wp2
      exact ⟨hH2, hI2⟩
    · have q9 : (xk == 9) = false := by simpa using h9
      by_cases h3 : xk = 3
      · subst h3
        cases hf : f xt with
        | true =>
          rw [hf] at hl
          have hI2 := HNx.out h9 (by rw [hf]; simp)
          clear HNx HRl HHt hadd hI hN hT h9 hf
          gi_wp2
          exact ⟨hH, hI2⟩
        | false =>
          rw [hf] at hl
          have g0 := hI.q0.free 0
          have g1 := hI.q1.free 0
          obtain ⟨v0, v1⟩ : W.cell? ⟨w.heap.size, 0, none⟩ = some (.int .i64 0) ∧ W.cell? ⟨w.heap.size + 1, 0, none⟩ = some (.bool false) := ⟨hI.q0.cell 0, hI.q1.cell 0⟩
          have HX := Lib.hid (HHt.out _ rfl hf rfl)
          have HT := Lib.hid hT
          clear HNx HRl HHt hadd hI hN hT h9 hf hH
          gi_wp2
          exact ⟨Held.of_within HX.out.2 (fun b hb => ⟨HT.out b hb, by rcases hb with rfl | rfl | h <;> first | omega | exact h.elim⟩), HX.out.1⟩
      · have q3 : (xk == 3) = false := by simpa using h3
        have hI2 := HNx.out h9 (by intro h; exact h3 h.1)
        clear HNx HRl HHt hadd hI hN hT hl
        gi_wp2
        exact ⟨hH, hI2⟩
  case done =>
    rintro W hI hd
    have hno := hI.no
    rw [Nat.sub_self, List.drop_zero] at hno
    have HV : Hid (holdV l = .tuple #[.int .i64 0, .bool false]) := Lib.hid (by unfold holdV; rw [hno])
    have g0 := hI.q0.free 0
    have g1 := hI.q1.free 0
    obtain ⟨v0, v1⟩ : W.cell? ⟨w.heap.size, 0, none⟩ = some (.int .i64 0) ∧ W.cell? ⟨w.heap.size + 1, 0, none⟩ = some (.bool false) := ⟨hI.q0.cell 0, hI.q1.cell 0⟩
    have hw : Within W ((W.setCell ⟨w.heap.size, 0, none⟩ (.int .i64 0)).setCell ⟨w.heap.size + 1, 0, none⟩ (.bool false)) (fun b => b = w.heap.size ∨ b = w.heap.size + 1) := ((Within.refl _ _).put _ 0 _ (.inl (.inl rfl))).put _ 0 _ (.inl (.inr rfl))
    have p0 : Bk ((W.setCell ⟨w.heap.size, 0, none⟩ (.int .i64 0)).setCell ⟨w.heap.size + 1, 0, none⟩ (.bool false)) w.heap.size 3 #[.int .i64 0] := (hI.q0.put 0 _).off (by show w.heap.size ≠ w.heap.size + 1; omega) _
    have p1 : Bk ((W.setCell ⟨w.heap.size, 0, none⟩ (.int .i64 0)).setCell ⟨w.heap.size + 1, 0, none⟩ (.bool false)) (w.heap.size + 1) 4 #[.bool false] := (hI.q1.off (by show w.heap.size + 1 ≠ w.heap.size; omega) _).put 0 _
    have bl := hI.bel.trans (below_of_withinH hw (B := w.heap.size) (by omega) hI.bel.size)
    rw [s1] at hd
    have hd2 := (hw.block _ (Array.getElem?_eq_some_iff.1 hd).1 (by omega)).trans hd
    gi_wp2
    generalize (W.setCell ⟨w.heap.size, 0, none⟩ (.int .i64 0)).setCell ⟨w.heap.size + 1, 0, none⟩ (.bool false) = U at *
    rw [s1]
    refine ⟨by simp, .inl ⟨_, _, rfl, run_takeDeferred hd2, ?_⟩⟩
    have hpo := within_putObj U (w.heap.size + 5) (.deferred none) (fun b => b = w.heap.size + 5) rfl
    replace p0 := p0.within hpo (by omega)
    replace p1 := p1.within hpo (by omega)
    replace bl := bl.trans (below_of_withinH hpo (B := w.heap.size) (by omega) bl.size)
    generalize U.putObj (w.heap.size + 5) (.deferred none) = V2 at *
    obtain ⟨y0, y1⟩ : V2.cell? ⟨w.heap.size, 0, none⟩ = some (.int .i64 0) ∧ V2.cell? ⟨w.heap.size + 1, 0, none⟩ = some (.bool false) := ⟨p0.cell 0, p1.cell 0⟩
    refine ⟨.tuple #[.int .i64 0, .bool false], by simp [results, Tryd.results16, go_sem, y0, y1], ?_, bl⟩
    rw [HV.out]
  case stop =>
    rintro c W ⟨rfl, t, bl, q0, q1, ht⟩ hd
    have HV : Hid (holdV l = .tuple #[.int .i64 t, .bool true]) := Lib.hid (by unfold holdV; rw [ht])
    gi_wp2
    refine ⟨by simp, .inl ⟨_, _, rfl, run_takeDeferred hd, ?_⟩⟩
    have hpo := within_putObj W W1.heap.size (.deferred none) (fun b => b = W1.heap.size) rfl
    replace q0 := q0.within hpo (by omega)
    replace q1 := q1.within hpo (by omega)
    replace bl := bl.trans (below_of_withinH hpo (B := w.heap.size) (by omega) bl.size)
    generalize W.putObj W1.heap.size (.deferred none) = V2 at *
    obtain ⟨y0, y1⟩ : V2.cell? ⟨w.heap.size, 0, none⟩ = some (.int .i64 t) ∧ V2.cell? ⟨w.heap.size + 1, 0, none⟩ = some (.bool true) := ⟨q0.cell 0, q1.cell 0⟩
    refine ⟨.tuple #[.int .i64 t, .bool true], by simp [results, Tryd.results16, go_sem, y0, y1], ?_, bl⟩
    rw [HV.out]
end Go.Proofs.YtjhdpolaapbihaaDoor
