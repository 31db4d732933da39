/- Layer 13's program: New, Take, Queue, Owner, State and Check, said of the entries that fitted. -/
import Derived.Test.YtipekdeghelpaaaFfD
import Derived.Deep.QuietTactic
namespace Go.Proofs.Ytipekdeghelpaaa
open Go.ChangeShapes Go.WideShapes Go.ChangeAt Go.RowKit
set_option linter.unusedVariables false

/-- A lock of n threads at block p, which the entries had fitted. -/
def Fr (w : World) (p s : Nat) (v : Value) (n : Nat) (had : List En) : Prop := ∃ st q now, Ffk w p s v st q now ∧ Rep n had st q now
/-- .. of the call's own. -/
structure FrO (base : Nat) (w : World) (p s : Nat) (v : Value) (n : Nat) (had : List En) : Prop where
  ok : Fr w p s v n had
  bp : base ≤ p
  bs : base ≤ s
  bv : ∀ g, v.ownBlock = some g → base ≤ g
section
variable {base : Nat} {w w' : World} {p s : Nat} {v : Value} {n : Nat} {had : List En}
theorem Fr.within {S : Nat → Prop} (h : Fr w p s v n had) (k : Within w w' S) (hn : ∀ b, InFf p s v b → ¬ S b) : Fr w' p s v n had := by
  obtain ⟨st, q, now, h1, h2⟩ := h
  exact ⟨st, q, now, h1.within k hn, h2⟩
theorem Fr.below (h : Fr w p s v n had) (k : Below w.heap.size w w') : Fr w' p s v n had := h.within (within_of_below k) (fun _ _ h => h)
theorem Fr.in_lt (h : Fr w p s v n had) : ∀ b, InFf p s v b → b < w.heap.size := by
  obtain ⟨st, q, now, h1, h2⟩ := h
  exact h1.in_lt
theorem FrO.below (h : FrO base w p s v n had) (k : Below w.heap.size w w') : FrO base w' p s v n had := ⟨h.ok.below k, h.bp, h.bs, h.bv⟩
theorem FrO.within {S : Nat → Prop} (h : FrO base w p s v n had) (k : Within w w' S) (hn : ∀ b, InFf p s v b → ¬ S b) : FrO base w' p s v n had := ⟨h.ok.within k hn, h.bp, h.bs, h.bv⟩
theorem FrO.in_ge (h : FrO base w p s v n had) : ∀ b, InFf p s v b → base ≤ b := by
  rintro b (rfl | rfl | e)
  · exact h.bp
  · exact h.bs
  · exact h.bv b e
end

/-- What Take leaves. -/
structure Taker (base : Nat) (w : World) (p s : Nat) (v : Value) (n : Nat) (had : List En) (w' : World) (v' : Value) : Prop where
  ok : FrO base w' p s v' n had
  within : Within w w' (InFf p s v)
  own : ∀ g, v'.ownBlock = some g → v.ownBlock = some g ∨ w.heap.size ≤ g
theorem rTakeC {base : Nat} {w : World} {p s : Nat} {v : Value} {n : Nat} {had : List En} (h : FrO base w p s v n had) (hb : base ≤ w.heap.size) (hn : n ≤ 64) (x : En) :
    Calls Try.prog 14 #[.pointer (some ⟨p, 0, none⟩), enV x] w fun e w' => e = .returned (.bool (decide (fitsD n had x))) ∧ ∃ v', Taker base w p s v n (takeD n had x) w' v' := by
  obtain ⟨⟨st, q, now, h1, h2⟩, b1, b2, b3⟩ := h
  refine (fTake h1 x (by have := h2.qlen; omega) ?_).mono ?_
  · intro hf hk
    rw [h2.fits] at hf
    have hf := of_decide_eq_true hf
    have hm := (mem_q had h2.tr).1 x.th
    rw [q_is, ← h2.q] at hm
    rw [hm]
    have := hf.2.2.2
    unfold kindD at this
    omega
  · rintro e w' ⟨rfl, v', ht⟩
    rw [h2.fits] at ht ⊢
    refine ⟨rfl, v', ?_⟩
    have hok : Fr w' p s v' n (takeD n had x) := by
      refine ⟨_, _, _, ht.ok, ?_⟩
      unfold takeD
      by_cases hf : fitsD n had x
      · simp only [decide_eq_true hf, if_true, if_pos hf]
        exact h2.take hf
      · simp only [decide_eq_false hf, Bool.false_eq_true, if_false, if_neg hf]
        exact h2
    refine ⟨⟨hok, b1, b2, fun g e => ?_⟩, ht.within, ht.own⟩
    rcases ht.own g e with e2 | e2
    · exact b3 g e2
    · omega

/-- What Owner answers. -/
def ownR (had : List En) : Value := .tuple #[.int .i64 (max (ownerD had) 0), .bool (decide (ownerD had ≥ 0))]
theorem rOwnerC {w : World} {p s : Nat} {v : Value} {n : Nat} {had : List En} (h : Fr w p s v n had) :
    Calls Try.prog 17 #[.pointer (some ⟨p, 0, none⟩)] w fun e w' => e = .returned (ownR had) ∧ w' = w := by
  obtain ⟨st, q, now, h1, h2⟩ := h
  refine (fOwner h1).mono ?_
  rintro e w' ⟨rfl, rfl⟩
  refine ⟨?_, rfl⟩
  congr 1
  unfold ownR
  rcases h2.ow with ⟨o, e⟩ | ⟨t, _, o, e⟩
  · rw [ownV_none o, e]; rfl
  · rw [ownV_some o, e]
    have e1 : max (t : Int) 0 = (t : Int) := by omega
    rw [e1]
    simp
/-- What State answers. -/
theorem rStateC {w : World} {p s : Nat} {v : Value} {n : Nat} {had : List En} (h : Fr w p s v n had) (t : Int) :
    Calls Try.prog 19 #[.pointer (some ⟨p, 0, none⟩), .int .i64 t] w fun e w' => e = .returned (.int .i64 (stK (lastD had t))) ∧ w' = w := by
  obtain ⟨st, q, now, h1, h2⟩ := h
  refine (fState h1 t).mono ?_
  rintro e w' ⟨rfl, rfl⟩
  refine ⟨?_, rfl⟩
  congr 2
  unfold stateI
  rw [h2.len]
  by_cases ht : 0 ≤ t ∧ t < (n : Int)
  · rw [if_pos ht, h2.st _ (by omega)]
    congr 2
    omega
  · rw [if_neg ht]
    have : lastD had t = 0 := by
      by_cases e : lastD had t = 0
      · exact e
      · exact absurd (last_thread had h2.tr t e) ht
    rw [this]; rfl

theorem rQueueC {w : World} {p s : Nat} {v : Value} {n : Nat} {had : List En} (h : Fr w p s v n had) (hn : n ≤ 64) :
    Calls Try.prog 15 #[.pointer (some ⟨p, 0, none⟩)] w fun e w' => ∃ v', e = .returned v' ∧ Lst .i64 3 w' v' (queueD had) ∧ (∀ g, v'.ownBlock = some g → w.heap.size ≤ g) ∧ Below w.heap.size w w' := by
  obtain ⟨st, q, now, h1, h2⟩ := h
  rw [← h2.q]
  have HC := Lib.hid (fClone h1.lst (by have := h2.qlen; omega))
  obtain ⟨_, c1, _⟩ := h1.cells
  clear h1 h2
  go_enter Try.func15, Try.ntmps15
  go_wp2_with fail
  refine HC.out.mono ?_
  rintro e w' ⟨v', rfl, hl, ho, hb⟩
  clear HC
  go_wp2
  go_ret
  exact ⟨v', rfl, hl, ho, hb⟩

/-- What New leaves. -/
theorem fNewBad (n : Int) (h : ¬ (1 ≤ n ∧ n ≤ 64)) (w : World) : Calls Try.prog 12 #[.int .i64 n] w fun e w' => e = .returned (.tuple #[.pointer none, .int .i64 1]) ∧ w' = w := by
  by_cases h1 : n < 1
  · have d1 : decide (n < 1) = true := by simpa using h1
    clear h
    go_enter Try.func12, Try.ntmps12
    go_wp2
    go_ret2
    exact ⟨rfl, rfl⟩
  · have d1 : decide (n < 1) = false := by simpa using h1
    have d2 : decide (n > 64) = true := by simp; omega
    clear h h1
    go_enter Try.func12, Try.ntmps12
    go_wp2
    go_ret2
    exact ⟨rfl, rfl⟩
theorem fNew (n : Nat) (h0 : 1 ≤ n) (h1 : n ≤ 64) (w : World) : Calls Try.prog 12 #[.int .i64 n] w fun e w' =>
    ∃ p s, e = .returned (.tuple #[.pointer (some ⟨p, 0, none⟩), .int .i64 0]) ∧ FrO w.heap.size w' p s (.slice none 0 0) n [] ∧ Below w.heap.size w w' := by
  have d1 : decide ((n : Int) < 1) = false := by simp; omega
  have d2 : decide ((n : Int) > 64) = false := by simp; omega
  have hs := Its.made w n (by simp only [maxLen]; omega)
  have hb := Bk.made (w.alloc (.cells (madeCells #[.int .i64 0] n) 3)) 48 #[.slice (some ⟨w.heap.size, 0, none⟩) n n, .slice none 0 0, .int .i64 0]
  have hbel : Below w.heap.size w ((w.alloc (.cells (madeCells #[.int .i64 0] n) 3)).alloc (.cells #[.slice (some ⟨w.heap.size, 0, none⟩) n n, .slice none 0 0, .int .i64 0] 48)) := ((Below.refl _ w).alloc (Nat.le_refl _) _).alloc (by rw [World.size_alloc]; omega) _
  have HEND : Hid (FrO w.heap.size ((w.alloc (.cells (madeCells #[.int .i64 0] n) 3)).alloc (.cells #[.slice (some ⟨w.heap.size, 0, none⟩) n n, .slice none 0 0, .int .i64 0] 48)) (w.heap.size + 1) w.heap.size (.slice none 0 0) n []) := Lib.hid (by
    rw [World.size_alloc] at hb
    refine ⟨⟨List.replicate n 0, [], 0, ⟨?_, ?_, Lst.nil _ _ _, by simp [Value.ownBlock]⟩, rep_zero n⟩, by omega, Nat.le_refl _, fun g e => by cases e⟩
    · rw [List.length_replicate]; exact hb
    · rw [List.length_replicate]
      exact hs.within (S := fun _ => False) ((Within.refl _ _).alloc _) (fun h => h))
  obtain ⟨i0, hi0, hz0, hz1, hz2⟩ := info_parts intinfo
  have hmk := fun W : World => run_make (P := Try.prog) W 39 3 i0 _ Try.underlying39 hi0 hz0 .i64 .i64 n n (by omega) (by omega) (by rw [hz2]; omega) (by omega)
  rw [hz1] at hmk
  simp only [Nat.mul_one] at hmk
  have HB := Lib.hid hbel
  clear hs hb hi0 hz0 hz1 hz2 hbel
  go_enter Try.func12, Try.ntmps12
  go_wp2
  go_ret2
  exact ⟨_, _, rfl, HEND.out, HB.out⟩

theorem below_within {B : Nat} {w z u : World} {S : Nat → Prop} (h : Below B w z) (hB : B ≤ z.heap.size) (k : Within z u S) (hs : ∀ i, S i → B ≤ i) : Below B w u :=
  h.trans ⟨k.os, k.tape, k.output, k.size, fun i hi => k.block i (by omega) (fun e => by have := hs i e; omega)⟩
theorem Fr.tr {w : World} {p s : Nat} {v : Value} {n : Nat} {had : List En} (h : Fr w p s v n had) : Trace n had := by
  obtain ⟨_, _, _, _, h2⟩ := h
  exact h2.tr

/-- What Check answers. -/
def chkV (n : Int) (l : List En) : Value := .tuple #[.int .i64 (checkN n l : Nat), .bool (decide (checkN n l = l.length) && decide (1 ≤ n ∧ n ≤ 64))]

set_option maxHeartbeats 1000000 in
theorem fCheck (n : Int) (l : List En) (a : Option Addr) (cap : Nat) (w : World) (S : EnS w a l) (hlen : l.length ≤ 10000) :
    Calls Try.prog 9 #[.int .i64 n, .slice a l.length cap] w fun e w' => e = .returned (chkV n l) ∧ Below w.heap.size w w' := by
  by_cases hn : 1 ≤ n ∧ n ≤ 64
  · obtain ⟨m, rfl⟩ : ∃ m : Nat, n = (m : Int) := ⟨n.toNat, by omega⟩
    have HNew := Lib.hid (fNew m (by omega) (by omega) w)
    have hm64 : m ≤ 64 := by omega
    have HV : Hid (∀ k : Nat, checkD (m : Int) l = k → chkV m l = .tuple #[.int .i64 (k : Nat), .bool (decide (k = l.length))]) := Lib.hid (fun k hk => by
      unfold chkV checkN
      rw [if_pos hn, hk, decide_eq_true hn, Bool.and_true])
    generalize chkV (m : Int) l = res at *
    have HS := Lib.hid (fun W (hW : Below w.heap.size w W) => S.below hW)
    have HM := Lib.hid hm64
    clear S hn hm64
    go_enter Try.func9, Try.ntmps9
    go_wp2_with fail
    refine HNew.out.mono ?_
    rintro e y ⟨p, s, rfl, hF, hy⟩
    have HF := Lib.hid hF
    clear hF HNew
    go_wp2
    go_loopw [19] (fun x wr => ∃ (k : Nat) (v : Value), x = .int .i64 k ∧ k ≤ l.length ∧ Below w.heap.size w wr ∧ Hid (FrO w.heap.size wr p s v m (l.take k))) (fun x _ => l.length - (intOf x).toNat)
    case atStart => exact ⟨0, _, rfl, Nat.zero_le _, hy, Lib.hid (by rw [List.take_zero]; exact HF.out)⟩
    case round =>
      obtain ⟨k, v, rfl, hk, hb, HO⟩ := hrel
      by_cases hlt : k < l.length
      · have hki : (k : Int) < l.length := by omega
        obtain ⟨b, off, rfl, hbl, c0, c1, c2⟩ := (HS.out wr hb).at_ (List.getElem?_eq_getElem hlt)
        have hb2 := hb.alloc (o := .cells #[.int .i64 l[k].kind, .int .i64 l[k].th, .int .i64 l[k].now] 38) hb.size
        have HTk := Lib.hid (rTakeC (HO.out.below ((Below.refl _ wr).alloc (o := .cells #[.int .i64 l[k].kind, .int .i64 l[k].th, .int .i64 l[k].now] 38) (Nat.le_refl _))) hb2.size HM.out l[k])
        have HY : Hid (fitsD m (l.take k) l[k] → takeD m (l.take k) l[k] = l.take (k + 1)) := Lib.hid (fun h => takeD_fits hlt h)
        have HNo : Hid (¬ fitsD m (l.take k) l[k] → res = .tuple #[.int .i64 (k : Nat), .bool false]) := Lib.hid (fun h => by
          rw [HV.out k (checkD_at hlt HO.out.ok.tr h), decide_eq_false (by omega)])
        have hNb := Nb.made 38 wr l[k].kind l[k].th l[k].now
        have HP := Lib.hid (fun g (hg : InFf p s v g) => HO.out.in_ge g hg)
        generalize takeD (m : Int) (l.take k) l[k] = had' at *
        by_cases hf : fitsD m (l.take k) l[k]
        · rw [decide_eq_true hf] at HTk
          have HE2 := Lib.hid (HY.out hf)
          generalize l[k] = x at *
          obtain ⟨xk, xt, xn⟩ := x
          unfold enV at HTk
          simp only at hb2 hNb c0 c1 c2 HTk
          clear HO hb hf HNo HY
          go_upto_region 7 with fail
          generalize wr.alloc (.cells #[.int .i64 xk, .int .i64 xt, .int .i64 xn] 38) = z at *
          generalize wr.heap.size = bz at *
          obtain ⟨e0, e1, e2⟩ := hNb.cells
          simp only at e0 e1 e2
          clear hNb c0 c1 c2
          go_wp2_with fail
          refine HTk.out.mono ?_
          rintro e u ⟨rfl, v', ht⟩
          have hbu : Below w.heap.size w u := below_within hb2 hb2.size ht.within HP.out
          have HO2 := Lib.hid ht.ok
          rw [HE2.out] at HO2
          clear ht HTk hb2 e0 e1 e2 HE2 HP
          go_wp2
          go_roundw
          case rel => exact ⟨k + 1, v', by go_num, by omega, hbu, HO2⟩
          case measure => simp [intOf]; omega
        · rw [decide_eq_false hf] at HTk
          have HR := Lib.hid (HNo.out hf)
          generalize l[k] = x at *
          obtain ⟨xk, xt, xn⟩ := x
          unfold enV at HTk
          simp only at hb2 hNb c0 c1 c2 HTk
          clear HO hb hf HNo HY
          go_upto_region 7 with fail
          generalize wr.alloc (.cells #[.int .i64 xk, .int .i64 xt, .int .i64 xn] 38) = z at *
          generalize wr.heap.size = bz at *
          obtain ⟨e0, e1, e2⟩ := hNb.cells
          simp only at e0 e1 e2
          clear hNb c0 c1 c2
          go_wp2_with fail
          refine HTk.out.mono ?_
          rintro e u ⟨rfl, v', ht⟩
          have hbu : Below w.heap.size w u := below_within hb2 hb2.size ht.within HP.out
          clear ht HTk hb2 e0 e1 e2 HP HF HS HV
          go_wp2
          go_ret2
          exact ⟨by rw [HR.out]; rfl, hbu⟩
      · obtain rfl : k = l.length := by omega
        have HR : Hid (res = .tuple #[.int .i64 (l.length : Nat), .bool true]) := Lib.hid (by
          have htr := HO.out.ok.tr
          rw [List.take_length] at htr
          rw [HV.out _ (checkD_all htr), decide_eq_true rfl])
        clear HO HV HF HS
        go_wp2
        go_ret2
        exact ⟨by rw [HR.out]; rfl, hb⟩
  · have HE : Hid (chkV n l = .tuple #[.int .i64 0, .bool false]) := Lib.hid (by
      unfold chkV checkN
      rw [if_neg hn, decide_eq_false hn, Bool.and_false]
      rfl)
    have HNew := Lib.hid (fNewBad n hn w)
    generalize chkV n l = res at *
    clear hn S
    go_enter Try.func9, Try.ntmps9
    go_wp2_with fail
    refine HNew.out.mono ?_
    rintro e y ⟨rfl, rfl⟩
    go_wp2
    go_ret2
    exact ⟨by rw [HE.out]; rfl, Below.refl _ _⟩
end Go.Proofs.Ytipekdeghelpaaa
