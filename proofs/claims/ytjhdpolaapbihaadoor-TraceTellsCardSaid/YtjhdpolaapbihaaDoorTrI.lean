/- Layer 12, the document's Parse and Holder; the law's awake. -/
import Derived.Test.YtjhdpolaapbihaaDoorTrD
import Derived.Test.YtjhdpolaapbihaaDoorTrG
import Derived.Test.YtjhdpolaapbihaaDoorTrH
namespace Go.Proofs.YtjhdpolaapbihaaDoor
open Go.ChangeShapes Go.WideShapes Go.ChangeAt Go.RowKit Go.Shelf
set_option linter.unusedVariables false

/-- What the document's Parse answers. -/
def PrsR (w : World) (text : List UInt8) (e : Ending) (w' : World) : Prop :=
  ∃ v, e = .returned (.tuple #[v, .int .i64 ((readL text).2.1 : Nat), .int .i64 (readL text).2.2]) ∧ EnO w.heap.size 30 w' v (readL text).1 ∧ Below w.heap.size w w'
theorem cut_nl {s : List UInt8} {f i : Nat} (hi : i ≤ s.length) (h : ∀ j, f ≤ j → j < i → s.getD j 0 ≠ 10) : Nl ((s.take i).drop f) := by
  intro c hc
  obtain ⟨n, hn, rfl⟩ := List.getElem_of_mem hc
  have h1 := h (f + n) (by omega) (by simp at hn; omega)
  simp at hn
  rw [List.getElem_drop, List.getElem_take]
  simpa [show f + n < s.length by omega] using h1
theorem drop_cut {s : List UInt8} {f i : Nat} (hf : f ≤ i) (hi : i < s.length) (hc : s.getD i 0 = 10) : s.drop f = (s.take i).drop f ++ 10 :: s.drop (i + 1) := by
  have e1 : s = s.take i ++ 10 :: s.drop (i + 1) := by
    have hg : s[i] = 10 := by simpa [hi] using hc
    rw [← hg, ← List.drop_eq_getElem_cons hi, List.take_append_drop]
  have hle : f ≤ (s.take i).length := by simp; omega
  rw [← List.drop_append_of_le_length hle, ← e1]
/-- Between two signs. -/
structure RdAt (s : List UInt8) (out : List En) (f i : Nat) : Prop where
  le : f ≤ i
  no : ∀ j, f ≤ j → j < i → s.getD j 0 ≠ 10
  all : readL s = readT (linesL (s.drop f)) out
  few : out.length ≤ f
theorem RdAt.on {s : List UInt8} {out : List En} {f i : Nat} (h : RdAt s out f i) (hc : s.getD i 0 ≠ 10) : RdAt s out f (i + 1) :=
  ⟨by have := h.le; omega, fun j h1 h2 => by
    by_cases e : j = i
    · subst e; exact hc
    · exact h.no j h1 (by omega), h.all, h.few⟩
theorem RdAt.line {s : List UInt8} {out : List En} {f i : Nat} (h : RdAt s out f i) (hi : i < s.length) (hc : s.getD i 0 = 10) :
    (∀ x, docT ((s.take i).drop f) = some x → RdAt s (out ++ [x]) (i + 1) (i + 1)) ∧ (docT ((s.take i).drop f) = none → readL s = ([], out.length, 8)) := by
  have h1 := h.all
  rw [drop_cut h.le hi hc, read_more _ (cut_nl (by omega) h.no)] at h1
  constructor
  · intro x hx
    rw [hx] at h1
    exact ⟨Nat.le_refl _, fun j h1 h2 => by omega, h1, by have := h.few; have := h.le; simp; omega⟩
  · intro hx
    rw [hx] at h1
    exact h1
theorem RdAt.end_ {s : List UInt8} {out : List En} {f : Nat} (h : RdAt s out f s.length) : readL s = if f < s.length then ([], out.length, 8) else (out, out.length, 0) := by
  have h1 := h.all
  by_cases hf : f < s.length
  · have hn : Nl (s.drop f) := by
      have := cut_nl (Nat.le_refl _) h.no
      rwa [List.take_length] at this
    rw [if_pos hf, h1]
    exact read_last hn (by intro e; have := congrArg List.length e; simp at this; omega) out
  · rw [if_neg hf, h1, List.drop_of_length_le (by omega)]
    rfl

set_option maxRecDepth 100000 in
set_option maxHeartbeats 4000000 in
theorem rParse (s : List UInt8) (hl : s.length < 20000) (w : World) : Calls Tryd.prog 15 #[bs s] w (PrsR w s) := by
  have HP := Lib.hid (fun f i W => rParseLine ((s.take i).drop f) (by simp; omega) W)
  have HX : Hid (∀ k, k < s.length → ∀ W, (Instr.index 9 (.string ⟨s.toArray⟩) (.int .i64 k)).run Tryd.prog W = .ok (.int .u8 ((s.getD k 0).toNat : Int)) W) := Lib.hid fun k hk W => run_ltr s k hk W
  have HC := Lib.hid (fun f i h hi W => run_cutS s f i h hi W)
  unfold bs
  go_enter Tryd.func15, Tryd.ntmps15
  go_wp2
  go_loopw [5, 6, 7] (fun o f i wr => ∃ (out : List En) (fn n : Nat), i = .int .i64 n ∧ f = .int .i64 fn ∧ n ≤ s.length ∧ EnO w.heap.size 30 wr o out ∧ Below w.heap.size w wr ∧ Hid (RdAt s out fn n)) (fun _ _ i _ => s.length - (intOf i).toNat)
  case atStart => exact ⟨[], 0, 0, rfl, rfl, Nat.zero_le _, EnO.nil _ _ _, Below.refl _ _, Lib.hid ⟨Nat.le_refl _, fun j h1 h2 => by omega, rfl, Nat.le_refl _⟩⟩
  case round =>
    obtain ⟨out, fn, n, rfl, rfl, hn, hO, hb, HR⟩ := hrel
    obtain ⟨av, capv, rfl, hc1, hc2, _⟩ := hO.is
    have hfn := HR.out.le
    have hfew := HR.out.few
    by_cases hlt : n < s.length
    · have hni : (n : Int) < s.length := by omega
      have hix := HX.out n hlt
      by_cases hc : s.getD n 0 = 10
      · rw [hc] at hix
        have e10 : (((10 : UInt8).toNat : Nat) : Int) = 10 := rfl
        rw [e10] at hix
        have hcut := HC.out fn n hfn hn
        obtain ⟨H1, H2⟩ := HR.out.line hlt hc
        have HP2 := Lib.hid (HP.out fn n)
        generalize (s.take n).drop fn = pc at *
        obtain ⟨pk, pt, pn, pb, hpv, hdoc⟩ := par_two pc
        rw [hpv] at HP2
        rw [hdoc] at H1 H2
        have HH1 := Lib.hid H1
        have HH2 := Lib.hid H2
        unfold bs at HP2
        clear hpv hdoc H1 H2 hc HR HC HX e10
        go_wp2_with fail
        refine (HP2.out wr).mono ?_
        rintro e y ⟨rfl, hy⟩
        have hb2 := (hb.trans (hy.mono hb.size)).alloc (o := .cells #[.int .i64 pk, .int .i64 pt, .int .i64 pn] 30) (hb.trans (hy.mono hb.size)).size
        have hO2 := (hO.below hy).alloc (.cells #[.int .i64 pk, .int .i64 pt, .int .i64 pn] 30)
        have hNb := Nb.made 30 y pk pt pn
        cases pb with
        | false =>
          have HQ := Lib.hid (HH2.out (by simp))
          clear HH1 HH2 hO hb hy
          go_wp2
          go_ret3
          refine ⟨.slice none 0 0, ?_, ?_, hb2⟩
          · rw [HQ.out]; rfl
          · rw [HQ.out]; exact EnO.nil _ _ _
        | true =>
          have HQ := Lib.hid (HH1.out ⟨pk, pt, pn⟩ (by simp))
          go_upto_region 8 with fail
          generalize y.alloc (.cells #[.int .i64 pk, .int .i64 pt, .int .i64 pn] 30) = z at *
          generalize y.heap.size = p at *
          obtain ⟨e0, e1, e2⟩ := hNb.cells
          simp only at e0 e1 e2
          have HO := Lib.hid (World.ownsRow.alloc hO2 (.cells #[.int .i64 pk, .int .i64 pt, .int .i64 pn] 30))
          have HN2 := Lib.hid (news_bk (Nb.made 30 z pk pt pn))
          have HBS : Hid (w.heap.size ≤ (z.alloc (.cells #[.int .i64 pk, .int .i64 pt, .int .i64 pn] 30)).heap.size) := Lib.hid (by rw [World.size_alloc]; have := hb2.size; omega)
          have HEND := Lib.hid (en_next (k := pk) (h := pt) (n := pn) hO2 hb2)
          have HLn : Hid (out.length < 100000) := Lib.hid (by omega)
          clear HH1 HH2 hO hO2 hb hb2 hy hNb
          go_wp2_with (at_builtin; refine wpOwn rfl _ _ 27 rfl _ 24 Tryd.underlying27 entInfoR rfl (by omega) (by omega) HO.out rfl (enC ⟨pk, pt, pn⟩) rfl (enC_one _) z.heap.size rfl HN2.out HLn.out HBS.out ?_; intro v' w' hown hgr hloc)
          obtain ⟨s1, s2⟩ := HEND.out _ _ hown hgr
          go_roundw
          case rel => exact ⟨out ++ [⟨pk, pt, pn⟩], n + 1, n + 1, by go_num, by go_num, by omega, s1, s2, HQ⟩
          case measure => simp [intOf]; omega
      · have HR2 := Lib.hid (HR.out.on hc)
        have dc : ((((s.getD n 0).toNat : Nat) : Int) == 10) = false := by
          have h : (s.getD n 0).toNat ≠ 10 := fun e => hc (UInt8.toNat_inj.1 e)
          generalize (s.getD n 0).toNat = c at *
          simp; omega
        generalize (s.getD n 0).toNat = c at *
        clear hc HR HC HX HP
        go_wp2
        go_roundw
        case rel => exact ⟨out, fn, n + 1, by go_num, rfl, by omega, hO, hb, HR2⟩
        case measure => simp [intOf]; omega
    · obtain rfl : n = s.length := by omega
      have HE := Lib.hid HR.out.end_
      clear HR HC HX HP
      by_cases hf : fn < s.length
      · have hfi : (fn : Int) < s.length := by omega
        have HQ : Hid (readL s = ([], out.length, 8)) := Lib.hid (by rw [HE.out, if_pos hf])
        go_wp2
        go_ret3
        refine ⟨.slice none 0 0, ?_, ?_, hb⟩
        · rw [HQ.out]; rfl
        · rw [HQ.out]; exact EnO.nil _ _ _
      · have hfi : ¬ (fn : Int) < s.length := by omega
        have HQ : Hid (readL s = (out, out.length, 0)) := Lib.hid (by rw [HE.out, if_neg hf])
        go_wp2
        go_ret3
        refine ⟨.slice av out.length capv, ?_, ?_, hb⟩
        · rw [HQ.out]; rfl
        · rw [HQ.out]; exact hO

/-- What the document's Holder answers. -/
def holdN (l : List En) : Int := match holdT l with
  | some t => t
  | none => -1
theorem rel_take {l : List En} {i j : Nat} (hi : i ≤ j) (hj : j < l.length) (t : Int) : relT ((l.take (j + 1)).drop i) t = (relT ((l.take j).drop i) t || (decide (l[j].kind = 9) && decide (l[j].th = t))) := by
  rw [take_at l j hj, List.drop_append_of_le_length (by simp; omega)]
  unfold relT
  rw [List.any_append]
  simp

set_option maxRecDepth 100000 in
set_option maxHeartbeats 4000000 in
theorem rHolder (l : List En) (a : Option Addr) (cap : Nat) (w : World) (S : EnS w a l) (hlen : l.length ≤ 10000) :
    Calls Tryd.prog 17 #[.slice a l.length cap] w fun e w' => e = .returned (.int .i64 (holdN l)) ∧ Below w.heap.size w w' := by
  have HS := Lib.hid (fun W (hW : Below w.heap.size w W) => S.below hW)
  have HD := Lib.hid (fun k (h : k < l.length) => drop_at l k h)
  have HT : Hid (∀ {i j : Nat} (hi : i ≤ j) (hj : j < l.length) (t : Int), relT ((l.take (j + 1)).drop i) t = (relT ((l.take j).drop i) t || (decide (l[j].kind = 9) && decide (l[j].th = t)))) := Lib.hid (fun hi hj t => rel_take hi hj t)
  clear S
  have hw0 : IntKind.i64.wrap ((l.length : Int) - 1) = (l.length : Int) - 1 := IntWalk.i64_in _ (by omega)
  go_enter Tryd.func17, Tryd.ntmps17
  go_wp2
  go_loopw [3] (fun p wr => ∃ k : Nat, k ≤ l.length ∧ p = .int .i64 ((l.length : Int) - 1 - k) ∧ Below w.heap.size w wr ∧ Hid (holdT (l.drop (l.length - k)) = none)) (fun p _ => ((intOf p) + 1).toNat)
  case atStart => exact ⟨0, Nat.zero_le _, by simp, Below.refl _ _, Lib.hid (by rw [Nat.sub_zero, List.drop_length]; rfl)⟩
  case round =>
    obtain ⟨k, hk, rfl, hb, HN⟩ := hrel
    by_cases hlt : k < l.length
    · have hix : l.length - 1 - k < l.length := by omega
      have hx : l.drop (l.length - (k + 1)) = l[l.length - 1 - k] :: l.drop (l.length - k) := by
        have := HD.out _ hix
        rw [show l.length - 1 - k + 1 = l.length - k by omega] at this
        rw [← this]
        congr 1
        omega
      obtain ⟨g, off, rfl, hgl, c0, c1, c2⟩ := (HS.out wr hb).at_ (List.getElem?_eq_getElem hix)
      have HHx : Hid (holdT (l.drop (l.length - (k + 1))) = if l[l.length - 1 - k].kind = 3 ∧ relT (l.drop (l.length - k)) l[l.length - 1 - k].th = false then some l[l.length - 1 - k].th else none) := Lib.hid (by rw [hx, holdT, HN.out])
      have HAt : Hid (l[l.length - 1 - k]? = some l[l.length - 1 - k]) := Lib.hid (List.getElem?_eq_getElem hix)
      generalize l[l.length - 1 - k] = x at *
      obtain ⟨xk, xt, xn⟩ := x
      simp only at c0 c1 c2 HHx
      have hi0 : (l.length : Int) - 1 - k ≥ 0 := by omega
      have et : ((l.length : Int) - 1 - k).toNat = l.length - 1 - k := by omega
      have hx1 : (l.length : Int) - 1 - k < l.length := by omega
      have hw1 : IntKind.i64.wrap ((l.length : Int) - 1 - k - 1) = (l.length : Int) - 1 - ((k : Int) + 1) := by rw [IntWalk.i64_in _ (by omega)]; omega
      clear hx
      by_cases h3 : xk = 3
      · subst h3
        have hw2 : IntKind.i64.wrap ((l.length : Int) - 1 - k + 1) = ((l.length - k : Nat) : Int) := by rw [IntWalk.i64_in _ (by omega)]; omega
        have HHy : Hid (∀ f : Bool, f = relT (l.drop (l.length - k)) xt → holdT (l.drop (l.length - (k + 1))) = if f = false then some xt else none) := Lib.hid (by
          rintro f rfl
          rw [HHx.out]
          simp)
        have HLst : Hid ((l.take l.length).drop (l.length - k) = l.drop (l.length - k)) := Lib.hid (by rw [List.take_length])
        clear HHx
        go_wp2
        go_loopw [4, 5] (fun o q W => ∃ (j : Nat) (f : Bool), o = .bool f ∧ q = .int .i64 j ∧ l.length - k ≤ j ∧ j ≤ l.length ∧ Below w.heap.size w W ∧ Hid (f = relT ((l.take j).drop (l.length - k)) xt)) (fun _ q _ => l.length - (intOf q).toNat)
        case atStart => exact ⟨l.length - k, false, rfl, rfl, Nat.le_refl _, by omega, hb, Lib.hid (by rw [List.drop_of_length_le (by simp)]; rfl)⟩
        case round =>
          clear hb c0 c1 c2
          obtain ⟨j, f, rfl, rfl, hj, hjl, hb, HF⟩ := hrel
          by_cases hjt : j < l.length
          · have hji : (j : Int) < l.length := by omega
            obtain ⟨g2, off2, hgg, _, d0, d1, d2⟩ := (HS.out wr hb).at_ (List.getElem?_eq_getElem hjt)
            obtain ⟨rfl, rfl⟩ : g = g2 ∧ off = off2 := by injection hgg with hgg; injection hgg with h1 h2; exact ⟨h1, h2⟩
            obtain ⟨g3, off3, hgg3, _, f0, f1, f2⟩ := (HS.out wr hb).at_ HAt.out
            obtain ⟨rfl, rfl⟩ : g = g3 ∧ off = off3 := by injection hgg3 with hgg3; injection hgg3 with h1 h2; exact ⟨h1, h2⟩
            have HF2 := Lib.hid (HT.out hj hjt xt)
            rw [← HF.out] at HF2
            generalize l[j] = y at *
            obtain ⟨yk, yt, yn⟩ := y
            simp only at d0 d1 d2 f0 f1 f2 HF2
            clear hgg hgg3 HF
            go_upto_region 9 with fail
            cases f with
            | true =>
              have HF3 : Hid (true = relT ((l.take (j + 1)).drop (l.length - k)) xt) := Lib.hid (by rw [HF2.out]; simp)
              clear HF2
              go_quiet (fail)
              have hb2 : Below w.heap.size w (wr.drewN nq) := below_draws hb nq
              generalize wr.drewN nq = u at *
              clear d0 d1 d2 f0 f1 f2
              go_wp2
              go_roundw
              case rel => exact ⟨j + 1, true, rfl, by go_num, by omega, by omega, hb2, HF3⟩
              case measure => simp [intOf]; omega
            | false =>
              by_cases h9 : yk = 9
              · by_cases ht : yt = xt
                · have HF3 : Hid (true = relT ((l.take (j + 1)).drop (l.length - k)) xt) := Lib.hid (by rw [HF2.out]; simp [h9, ht])
                  have q9 : (yk == 9) = true := by simpa using h9
                  have qt : (yt == xt) = true := by simpa using ht
                  clear HF2 h9 ht
                  go_quiet (fail)
                  have hb2 : Below w.heap.size w (wr.drewN nq) := below_draws hb nq
                  generalize wr.drewN nq = u at *
                  clear d0 d1 d2 f0 f1 f2
                  go_wp2
                  go_roundw
                  case rel => exact ⟨j + 1, true, rfl, by go_num, by omega, by omega, hb2, HF3⟩
                  case measure => simp [intOf]; omega
                · have HF3 : Hid (false = relT ((l.take (j + 1)).drop (l.length - k)) xt) := Lib.hid (by rw [HF2.out]; simp [ht])
                  have q9 : (yk == 9) = true := by simpa using h9
                  have qt : (yt == xt) = false := by simpa using ht
                  clear HF2 h9 ht
                  go_quiet (fail)
                  have hb2 : Below w.heap.size w (wr.drewN nq) := below_draws hb nq
                  generalize wr.drewN nq = u at *
                  clear d0 d1 d2 f0 f1 f2
                  go_wp2
                  go_roundw
                  case rel => exact ⟨j + 1, false, rfl, by go_num, by omega, by omega, hb2, HF3⟩
                  case measure => simp [intOf]; omega
              · have HF3 : Hid (false = relT ((l.take (j + 1)).drop (l.length - k)) xt) := Lib.hid (by rw [HF2.out]; simp [h9])
                have q9 : (yk == 9) = false := by simpa using h9
                clear HF2 h9
                go_quiet (fail)
                have hb2 : Below w.heap.size w (wr.drewN nq) := below_draws hb nq
                generalize wr.drewN nq = u at *
                clear d0 d1 d2 f0 f1 f2
                go_wp2
                go_roundw
                case rel => exact ⟨j + 1, false, rfl, by go_num, by omega, by omega, hb2, HF3⟩
                case measure => simp [intOf]; omega
          · obtain rfl : j = l.length := by omega
            have hF := HF.out
            rw [HLst.out] at hF
            have HR := Lib.hid (HHy.out f hF)
            clear hF HF HHy HT HD
            cases f with
            | true =>
              have HN2 : Hid (holdT (l.drop (l.length - (k + 1))) = none) := Lib.hid (by rw [HR.out, if_neg (by simp)])
              go_wp2
              go_roundw
              case rel => exact ⟨k + 1, by omega, by simp, hb, HN2⟩
              case measure => simp [intOf]; omega
            | false =>
              have HQ : Hid (holdN l = xt) := Lib.hid (by
                have h := HR.out
                rw [if_pos rfl] at h
                unfold holdN
                rw [hold_drop h])
              obtain ⟨g3, off3, hgg3, _, f0, f1, f2⟩ := (HS.out wr hb).at_ HAt.out
              obtain ⟨rfl, rfl⟩ : g = g3 ∧ off = off3 := by injection hgg3 with hgg3; injection hgg3 with h1 h2; exact ⟨h1, h2⟩
              simp only at f0 f1 f2
              clear hgg3
              go_wp2
              go_ret
              exact ⟨by rw [HQ.out]; rfl, hb⟩
      · have q3 : (xk == 3) = false := by simpa using h3
        have HN2 : Hid (holdT (l.drop (l.length - (k + 1))) = none) := Lib.hid (by rw [HHx.out, if_neg (by intro h; exact h3 h.1)])
        clear h3
        go_wp2
        go_roundw
        case rel => exact ⟨k + 1, by omega, by simp, hb, HN2⟩
        case measure => simp [intOf]; omega
    · obtain rfl : k = l.length := by omega
      have hd : decide ((l.length : Int) - 1 - l.length ≥ 0) = false := by simp; omega
      have HQ : Hid (holdN l = -1) := Lib.hid (by
        have := HN.out
        rw [Nat.sub_self, List.drop_zero] at this
        unfold holdN
        rw [this])
      go_wp2
      go_ret
      exact ⟨by rw [HQ.out]; rfl, hb⟩
end Go.Proofs.YtjhdpolaapbihaaDoor
