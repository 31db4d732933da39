/- Layer 13, the document's: Last, State, Queue, Owner. -/
import Derived.Test.YtipekdeghelpaaaFifoM
import Derived.Test.YtipekdeghelpaaaEnL
import Derived.Test.YtipekdeghelpaaaInts
import Derived.Test.YtipekdeghelpaaaGrow
import Derived.Test.YtipekdeghelpaaaFfM
import Derived.Deep.QuietTactic
import Derived.BigQuiet
namespace Go.Proofs.Ytipekdeghelpaaa
open Go.ChangeShapes Go.WideShapes Go.ChangeAt Go.RowKit
set_option linter.unusedVariables false

theorem last_take (l : List En) (t : Int) (k : Nat) (h : k < l.length) : lastD (l.take (k + 1)) t = if l[k].th = t then l[k].kind else lastD (l.take k) t := by
  rw [take_at l k h, lastD_snoc]

set_option maxHeartbeats 1000000 in
theorem rLast (l : List En) (a : Option Addr) (cap : Nat) (t : Int) (w : World) (S : EnS w a l) (hlen : l.length ≤ 10000) :
    Calls Try.prog 21 #[.slice a l.length cap, .int .i64 t] w fun e w' => e = .returned (.int .i64 (lastD l t)) ∧ Below w.heap.size w w' := by
  have HS := Lib.hid (fun W (hW : Below w.heap.size w W) => S.below hW)
  have HT := Lib.hid (fun k h => last_take l t k h)
  have HE : Hid (lastD (l.take l.length) t = lastD l t) := Lib.hid (by rw [List.take_length])
  clear S
  go_enter Try.func21, Try.ntmps21
  go_wp2
  go_loopw [5, 10] (fun n q wr => ∃ k : Nat, q = .int .i64 k ∧ n = .int .i64 (lastD (l.take k) t) ∧ k ≤ l.length ∧ Below w.heap.size w wr) (fun _ q _ => l.length - (intOf q).toNat)
  case atStart => exact ⟨0, rfl, by simp [lastD], Nat.zero_le _, Below.refl _ _⟩
  case round =>
    obtain ⟨k, rfl, rfl, hk, hb⟩ := hrel
    by_cases hlt : k < l.length
    · have hki : (k : Int) < l.length := by omega
      obtain ⟨b, off, rfl, hbl, c0, c1, c2⟩ := (HS.out wr hb).at_ (List.getElem?_eq_getElem hlt)
      have hHT := HT.out k hlt
      have hb2 := hb.alloc (o := .cells #[.int .i64 l[k].kind, .int .i64 l[k].th, .int .i64 l[k].now] 35) hb.size
      generalize l[k] = x at *
      obtain ⟨xk, xt, xn⟩ := x
      simp only at c0 c1 c2 hb2 hHT
      by_cases hq : xt = t
      · rw [if_pos hq] at hHT
        have HE2 := Lib.hid hHT
        have q1 : (xt == t) = true := by simpa using hq
        clear hHT hq
        generalize lastD (l.take k) t = m at *
        go_wp2
        go_roundw
        case rel => exact ⟨k + 1, by go_num, by rw [HE2.out], by omega, hb2⟩
        case measure => simp [intOf]; omega
      · rw [if_neg hq] at hHT
        have HE2 := Lib.hid hHT
        have q1 : (xt == t) = false := by simpa using hq
        clear hHT hq
        generalize lastD (l.take k) t = m at *
        go_wp2
        go_roundw
        case rel => exact ⟨k + 1, by go_num, by rw [HE2.out], by omega, hb2⟩
        case measure => simp [intOf]; omega
    · obtain rfl : k = l.length := by omega
      rw [HE.out]
      go_wp2
      go_ret
      exact ⟨rfl, hb⟩

theorem rState (l : List En) (a : Option Addr) (cap : Nat) (t : Int) (w : World) (S : EnS w a l) (hlen : l.length ≤ 10000) :
    Calls Try.prog 20 #[.slice a l.length cap, .int .i64 t] w fun e w' => e = .returned (.int .i64 (stK (lastD l t))) ∧ Below w.heap.size w w' := by
  have HL := Lib.hid (rLast l a cap t w S hlen)
  generalize lastD l t = k at *
  clear S
  by_cases h : k = 1 ∨ k = 2 ∨ k = 3 ∨ k = 4 ∨ k = 5 ∨ k = 8 ∨ k = 9
  · rcases h with rfl | rfl | rfl | rfl | rfl | rfl | rfl <;> (
      go_enter Try.func20, Try.ntmps20
      go_wp2_with fail
      refine HL.out.mono ?_
      rintro e y ⟨rfl, hy⟩
      go_wp2
      go_ret
      exact ⟨rfl, hy⟩)
  · have HE : Hid (stK k = 0) := Lib.hid (by
      unfold stK; repeat' split
      all_goals first | rfl | omega)
    have e1 : (k == 1) = false := beq_eq_false_iff_ne.2 (by omega)
    have e2 : (k == 2) = false := beq_eq_false_iff_ne.2 (by omega)
    have e3 : (k == 3) = false := beq_eq_false_iff_ne.2 (by omega)
    have e4 : (k == 4) = false := beq_eq_false_iff_ne.2 (by omega)
    have e5 : (k == 5) = false := beq_eq_false_iff_ne.2 (by omega)
    have e8 : (k == 8) = false := beq_eq_false_iff_ne.2 (by omega)
    have e9 : (k == 9) = false := beq_eq_false_iff_ne.2 (by omega)
    clear h
    generalize stK k = r at *
    go_enter Try.func20, Try.ntmps20
    go_wp2_with fail
    refine HL.out.mono ?_
    rintro e y ⟨rfl, hy⟩
    go_wp2
    go_ret
    exact ⟨by rw [HE.out]; rfl, hy⟩

/-- What stands behind the first k. -/
theorem EnS.behind {w : World} {b off : Nat} {l : List En} (h : EnS w (some ⟨b, off, none⟩) l) (k : Nat) : EnS w (some ⟨b, off + k * 3, none⟩) (l.drop k) := by
  intro h0
  rw [List.length_drop] at h0
  obtain ⟨b2, off2, e, hlt, hc⟩ := h (by omega)
  simp only [Option.some.injEq, Addr.mk.injEq, and_true] at e
  obtain ⟨rfl, rfl⟩ := e
  refine ⟨b, off + k * 3, rfl, hlt, fun i x hi j hj => ?_⟩
  rw [List.getElem?_drop] at hi
  rw [← hc _ x hi j hj]
  congr 2
  omega
theorem EnS.from_ {w : World} {b off cap : Nat} {l : List En} (h : EnS w (some ⟨b, off, none⟩) l) (k : Nat) (hp : l.length ≤ cap) : EnS w (if cap = k then some ⟨b, off, none⟩ else some ⟨b, off + k * 3, none⟩) (l.drop k) := by
  split
  · rw [List.drop_of_length_le (by omega)]
    exact EnS.nil _ _
  · exact h.behind k
theorem queue_take (l : List En) (k : Nat) : (List.range (k + 1)).filterMap (qAt l) = (List.range k).filterMap (qAt l) ++ (match qAt l k with
    | some t => [t]
    | none => []) := by
  rw [List.range_succ, List.filterMap_append]
  congr 1
  cases h : qAt l k <;> simp [h]
theorem qpart_len (l : List En) (k : Nat) : ((List.range k).filterMap (qAt l)).length ≤ k := Nat.le_trans (List.length_filterMap_le _ _) (by simp)

set_option maxHeartbeats 2000000 in
theorem rQueue (l : List En) (a : Option Addr) (cap : Nat) (w : World) (S : EnS w a l) (hp : l.length ≤ cap) (hcm : cap ≤ maxLen) (hlen : l.length ≤ 10000) :
    Calls Try.prog 16 #[.slice a l.length cap] w fun e w' => ∃ v, e = .returned v ∧ Lst .i64 3 w' v (queueD l) ∧ (∀ g, v.ownBlock = some g → w.heap.size ≤ g) ∧ Below w.heap.size w w' := by
  have HS := Lib.hid (fun W (hW : Below w.heap.size w W) => S.below hW)
  have HQ := Lib.hid (queue_take l)
  have HL := Lib.hid (fun k => qpart_len l k)
  have HE : Hid ((List.range l.length).filterMap (qAt l) = queueD l) := Lib.hid rfl
  have HLa := Lib.hid (fun t W (hW : Below w.heap.size w W) => rLast l a cap t W (S.below hW) hlen)
  simp only [maxLen] at hcm
  clear S
  go_enter Try.func16, Try.ntmps16
  go_wp2
  go_loopw [3, 8] (fun o q wr => ∃ k : Nat, q = .int .i64 k ∧ Lst .i64 3 wr o ((List.range k).filterMap (qAt l)) ∧ Hid (∀ g, o.ownBlock = some g → w.heap.size ≤ g) ∧ k ≤ l.length ∧ Below w.heap.size w wr) (fun _ q _ => l.length - (intOf q).toNat)
  case atStart => exact ⟨0, rfl, Lst.nil _ _ _, Lib.hid (fun g e => by cases e), Nat.zero_le _, Below.refl _ _⟩
  case round =>
    obtain ⟨k, rfl, hO, HB, hk, hb⟩ := hrel
    by_cases hlt : k < l.length
    · have hki : (k : Int) < l.length := by omega
      have hS := HS.out wr hb
      obtain ⟨b, off, rfl, hbl, c0, c1, c2⟩ := hS.at_ (List.getElem?_eq_getElem hlt)
      have hNb := Nb.made 35 wr l[k].kind l[k].th l[k].now
      have hb2 := hb.alloc (o := .cells #[.int .i64 l[k].kind, .int .i64 l[k].th, .int .i64 l[k].now] 35) hb.size
      have HQk : Hid (qAt l k = if l[k].kind = 2 ∧ lastD l l[k].th = 2 ∧ lastD (l.drop (k + 1)) l[k].th = 0 then some l[k].th else none) := Lib.hid (by unfold qAt; rw [List.getElem?_eq_getElem hlt])
      generalize l[k] = x at *
      obtain ⟨xk, xt, xn⟩ := x
      simp only at c0 c1 c2 hb2 hNb HQk
      go_upto_region 5 with fail
      have HLk : Hid (((List.range k).filterMap (qAt l)).length ≤ 10000) := Lib.hid (by have := HL.out k; omega)
      have HQ2 := Lib.hid (HQ.out k)
      have hO2 := hO.alloc (.cells #[.int .i64 xk, .int .i64 xt, .int .i64 xn] 35)
      have HL1 : Hid (∀ g : Grw (wr.alloc (.cells #[.int .i64 xk, .int .i64 xt, .int .i64 xn] 35)), Calls Try.prog 21 #[.slice (some ⟨b, off, none⟩) l.length cap, .int .i64 xt] g.x fun e y => e = .returned (.int .i64 (lastD l xt)) ∧ Below g.x.heap.size g.x y) := Lib.hid (fun g => HLa.out xt g.x (hb2.trans (g.ok.mono hb2.size)))
      have HL2 : Hid (∀ g : Grw (wr.alloc (.cells #[.int .i64 xk, .int .i64 xt, .int .i64 xn] 35)), Calls Try.prog 21 #[.slice (if cap = k + 1 then some ⟨b, off, none⟩ else some ⟨b, off + (k + 1) * 3, none⟩) (l.length - (k + 1)) (cap - (k + 1)), .int .i64 xt] g.x fun e y => e = .returned (.int .i64 (lastD (l.drop (k + 1)) xt)) ∧ Below g.x.heap.size g.x y) := Lib.hid (fun g => by
        have := rLast (l.drop (k + 1)) (if cap = k + 1 then some ⟨b, off, none⟩ else some ⟨b, off + (k + 1) * 3, none⟩) (cap - (k + 1)) xt g.x (((HS.out _ hb2).from_ (k + 1) hp).below ((g.ok))) (by rw [List.length_drop]; omega)
        rwa [List.length_drop] at this)
      generalize lastD l xt = la at *
      generalize lastD (l.drop (k + 1)) xt = lb at *
      generalize hz : wr.alloc (.cells #[.int .i64 xk, .int .i64 xt, .int .i64 xn] 35) = z at *
      generalize wr.heap.size = p at *
      obtain ⟨e0, e1, e2⟩ := hNb.cells
      simp only at e0 e1 e2
      have g0 : ∀ g : Grw z, g.x.cell? ⟨p, 0, none⟩ = some (.int .i64 xk) := fun g => g.cell e0
      have g1 : ∀ g : Grw z, g.x.cell? ⟨p, 1, none⟩ = some (.int .i64 xt) := fun g => g.cell e1
      have hkc : ((k : Int) + 1) ≤ (cap : Int) := by omega
      have hkl2 : k + 1 ≤ l.length := by omega
      clear hO hb hS c0 c1 c2 hNb e0 e1 e2 hz
      by_cases h2 : xk = 2
      · have q2 : (xk == 2) = true := by simpa using h2
        by_cases hla : la = 2
        · have q3 : (la == 2) = true := by simpa using hla
          by_cases hlb : lb = 0
          · have q4 : (lb == 0) = true := by simpa using hlb
            have HSk : Hid ((List.range (k + 1)).filterMap (qAt l) = (List.range k).filterMap (qAt l) ++ [xt]) := Lib.hid (by rw [HQ2.out, HQk.out, if_pos (by omega)])
            clear HQ HQ2 HQk h2 hla hlb HL
            refine wp_region_grow (by kernel_rfl) (by kernel_rfl) ?_
            repeat (go_big_quiet_step (first | (go_at_call 21; with_reducible exact grw_call (HL1.out _)) | (go_at_call 21; with_reducible exact grw_call (HL2.out _))))
            refine wpQuiet_nil ?_
            rintro y ⟨⟨_, hy⟩, rfl⟩
            have HY := Lib.hid (hb2.trans (hy.mono hb2.size))
            have hO3 := hO2.within (within_of_below hy) (by simp)
            have e1y : y.cell? ⟨p, 1, none⟩ = some (.int .i64 xt) := g1 ⟨y, hy⟩
            have HO := Lib.hid hO3
            clear HL1 HL2 g0 g1 hb2 hO2 hO3
            generalize (List.range k).filterMap (qAt l) = qs at *
            go_wp2_with (at_builtin; refine wpLstApp rfl _ _ 39 rfl 8 Try.underlying39 intinfo (by omega) HO.out rfl xt rfl (by have := HLk.out; omega) ?_; intro v' w' hown hgr hloc)
            have hfin : Below w.heap.size w w' := HY.out.grown hgr HY.out.size HB.out
            have HB2 : Hid (∀ g, v'.ownBlock = some g → w.heap.size ≤ g) := Lib.hid (fun g e => by
              rcases hloc with e2 | e2
              · exact HB.out g (by rw [← e2]; exact e)
              · rw [e2] at e; injection e with e; have := HY.out.size; omega)
            rw [← HSk.out] at hown
            clear hgr hloc HB HO HSk
            go_roundw
            case rel => exact ⟨k + 1, by go_num, hown, HB2, by omega, hfin⟩
            case measure => simp [intOf]; omega
          · have q4 : (lb == 0) = false := by simpa using hlb
            have HSk : Hid ((List.range (k + 1)).filterMap (qAt l) = (List.range k).filterMap (qAt l)) := Lib.hid (by rw [HQ2.out, HQk.out, if_neg (by omega)]; simp)
            clear HQ HQ2 HQk h2 hla hlb HL
            refine wp_region_grow (by kernel_rfl) (by kernel_rfl) ?_
            repeat (go_big_quiet_step (first | (go_at_call 21; with_reducible exact grw_call (HL1.out _)) | (go_at_call 21; with_reducible exact grw_call (HL2.out _))))
            refine wpQuiet_nil ?_
            rintro y ⟨⟨_, hy⟩, rfl⟩
            have HY := Lib.hid (hb2.trans (hy.mono hb2.size))
            have hO3 := hO2.within (within_of_below hy) (by simp)
            rw [← HSk.out] at hO3
            clear HL1 HL2 g0 g1 hb2 hO2 hy
            go_wp2
            go_roundw
            case rel => exact ⟨k + 1, by go_num, hO3, HB, by omega, HY.out⟩
            case measure => simp [intOf]; omega
        · have q3 : (la == 2) = false := by simpa using hla
          have HSk : Hid ((List.range (k + 1)).filterMap (qAt l) = (List.range k).filterMap (qAt l)) := Lib.hid (by rw [HQ2.out, HQk.out, if_neg (by omega)]; simp)
          clear HQ HQ2 HQk h2 hla HL
          refine wp_region_grow (by kernel_rfl) (by kernel_rfl) ?_
          repeat (go_big_quiet_step (first | (go_at_call 21; with_reducible exact grw_call (HL1.out _)) | (go_at_call 21; with_reducible exact grw_call (HL2.out _))))
          refine wpQuiet_nil ?_
          rintro y ⟨⟨_, hy⟩, rfl⟩
          have HY := Lib.hid (hb2.trans (hy.mono hb2.size))
          have hO3 := hO2.within (within_of_below hy) (by simp)
          rw [← HSk.out] at hO3
          clear HL1 HL2 g0 g1 hb2 hO2 hy
          go_wp2
          go_roundw
          case rel => exact ⟨k + 1, by go_num, hO3, HB, by omega, HY.out⟩
          case measure => simp [intOf]; omega
      · have q2 : (xk == 2) = false := by simpa using h2
        have HSk : Hid ((List.range (k + 1)).filterMap (qAt l) = (List.range k).filterMap (qAt l)) := Lib.hid (by rw [HQ2.out, HQk.out, if_neg (by omega)]; simp)
        clear HQ HQ2 HQk h2 HL
        refine wp_region_grow (by kernel_rfl) (by kernel_rfl) ?_
        repeat (go_big_quiet_step (first | (go_at_call 21; with_reducible exact grw_call (HL1.out _)) | (go_at_call 21; with_reducible exact grw_call (HL2.out _))))
        refine wpQuiet_nil ?_
        rintro y ⟨⟨_, hy⟩, rfl⟩
        have HY := Lib.hid (hb2.trans (hy.mono hb2.size))
        have hO3 := hO2.within (within_of_below hy) (by simp)
        rw [← HSk.out] at hO3
        clear HL1 HL2 g0 g1 hb2 hO2 hy
        go_wp2
        go_roundw
        case rel => exact ⟨k + 1, by go_num, hO3, HB, by omega, HY.out⟩
        case measure => simp [intOf]; omega
    · obtain rfl : k = l.length := by omega
      rw [HE.out] at hO
      go_wp2
      go_ret
      exact ⟨_, rfl, hO, HB.out, hb⟩

theorem ownerD_hit {l : List En} {j : Nat} (hj : j < l.length) (h : ownK (lastD l l[j].th) = true) (hn : ∀ m (hm : m < l.length), j < m → ownK (lastD l l[m].th) = false) : ownerD l = l[j].th := by
  unfold ownerD
  have : l.reverse.find? (fun x => ownK (lastD l x.th)) = some l[j] := by
    rw [List.find?_eq_some_iff_getElem]
    refine ⟨h, l.length - 1 - j, by simp; omega, ?_, fun i hi => ?_⟩
    · rw [List.getElem_reverse]; congr 1; omega
    · rw [List.getElem_reverse]
      have := hn (l.length - 1 - i) (by omega) (by omega)
      rw [this]; rfl
  rw [this]
theorem ownerD_not {l : List En} (hn : ∀ m (hm : m < l.length), ownK (lastD l l[m].th) = false) : ownerD l = -1 := by
  unfold ownerD
  have : l.reverse.find? (fun x => ownK (lastD l x.th)) = none := by
    rw [List.find?_eq_none]
    intro x hx
    rw [List.mem_reverse] at hx
    obtain ⟨m, hm, rfl⟩ := List.getElem_of_mem hx
    rw [hn m hm]; simp
  rw [this]

set_option maxHeartbeats 1000000 in
theorem rOwner (l : List En) (a : Option Addr) (cap : Nat) (w : World) (S : EnS w a l) (hlen : l.length ≤ 10000) :
    Calls Try.prog 18 #[.slice a l.length cap] w fun e w' => e = .returned (.int .i64 (ownerD l)) ∧ Below w.heap.size w w' := by
  have HS := Lib.hid (fun W (hW : Below w.heap.size w W) => S.below hW)
  have HSt := Lib.hid (fun t W (hW : Below w.heap.size w W) => rState l a cap t W (S.below hW) hlen)
  have HN : Hid ((∀ m (hm : m < l.length), ownK (lastD l l[m].th) = false) → ownerD l = -1) := Lib.hid ownerD_not
  have HH : Hid (∀ j (hj : j < l.length), ownK (lastD l l[j].th) = true → (∀ m (hm : m < l.length), j < m → ownK (lastD l l[m].th) = false) → ownerD l = l[j].th) := Lib.hid (fun j hj h1 h2 => ownerD_hit hj h1 h2)
  generalize ownerD l = res at *
  clear S
  go_enter Try.func18, Try.ntmps18
  go_wp2
  go_loopw [3] (fun q wr => ∃ k : Nat, q = .int .i64 ((k : Int) - 1) ∧ k ≤ l.length ∧ Below w.heap.size w wr ∧ Hid (∀ m (hm : m < l.length), k ≤ m → ownK (lastD l l[m].th) = false)) (fun q _ => (intOf q + 1).toNat)
  case atStart => exact ⟨l.length, rfl, Nat.le_refl _, Below.refl _ _, Lib.hid (fun m hm h => by omega)⟩
  case round =>
    obtain ⟨k, rfl, hk, hb, HB⟩ := hrel
    cases k with
    | zero =>
      have HR := Lib.hid (HN.out (fun m hm => HB.out m hm (Nat.zero_le _)))
      clear HB HN HH HS HSt
      go_wp2
      go_ret
      exact ⟨by rw [HR.out]; rfl, hb⟩
    | succ j =>
      have hj : j < l.length := by omega
      have ej : (((j + 1 : Nat) : Int) - 1) = (j : Int) := by omega
      rw [ej]
      have hge : ((j : Int) ≥ 0) := by omega
      have hji : (j : Int) < l.length := by omega
      have hS := HS.out wr hb
      obtain ⟨b, off, rfl, hbl, c0, c1, c2⟩ := hS.at_ (List.getElem?_eq_getElem hj)
      have HSj := Lib.hid (HSt.out l[j].th wr hb)
      have HHj := Lib.hid (HH.out j hj)
      have HBj : Hid (ownK (lastD l l[j].th) = false → ∀ m (hm : m < l.length), j ≤ m → ownK (lastD l l[m].th) = false) := Lib.hid (fun e m hm h => by
        by_cases e2 : m = j
        · subst e2; exact e
        · exact HB.out m hm (by omega))
      rw [← stK_own] at HHj HBj
      generalize lastD l l[j].th = la at *
      generalize stK la = s at *
      have hS2 : Hid (∀ y, Below wr.heap.size wr y → y.cell? ⟨b, off + j * 3 + 1, none⟩ = some (.int .i64 l[j].th)) := Lib.hid (fun y hy => (hy.cell (p := ⟨b, off + j * 3 + 1, none⟩) hbl).trans c1)
      generalize l[j] = x at *
      obtain ⟨xk, xt, xn⟩ := x
      simp only at c0 c1 c2 HSj HHj hS2
      clear HH HN HS HSt hS c0 c2 ej hge
      by_cases hs : s = 3 ∨ s = 4 ∨ s = 6
      · have HR := Lib.hid (HHj.out (by rcases hs with rfl | rfl | rfl <;> decide) (fun m hm h => HB.out m hm (by omega)))
        clear HHj HBj HB
        rcases hs with rfl | rfl | rfl <;> (
          go_wp2_with fail
          refine HSj.out.mono ?_
          rintro e y ⟨rfl, hy⟩
          have hfin := hb.trans (hy.mono hb.size)
          have c1y := hS2.out y hy
          clear HSj hS2 hb hy
          go_wp2
          go_ret
          exact ⟨by rw [HR.out]; rfl, hfin⟩)
      · have e3 : (s == 3) = false := beq_eq_false_iff_ne.2 (by omega)
        have e4 : (s == 4) = false := beq_eq_false_iff_ne.2 (by omega)
        have e6 : (s == 6) = false := beq_eq_false_iff_ne.2 (by omega)
        have HB2 := Lib.hid (HBj.out (by unfold ownS; simp; omega))
        clear HHj HBj HB hs
        go_wp2_with fail
        refine HSj.out.mono ?_
        rintro e y ⟨rfl, hy⟩
        have hfin := hb.trans (hy.mono hb.size)
        clear HSj hS2 hb hy
        go_wp2
        go_roundw
        case rel => exact ⟨j, by go_num, by omega, hfin, HB2⟩
        case measure => simp [intOf]
end Go.Proofs.Ytipekdeghelpaaa
