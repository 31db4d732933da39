/- Entries in memory: the block of one, lists of the call's own that grow, the law's Ref, entries that came in. Over any program. -/
import Derived.Test.YtipekdeghelpaaaEnM
import Derived.Test.YtipekdeghelpaaaRecs
import Derived.BigQuiet
import Derived.Deep.CutBlock
namespace Go.Proofs.Ytipekdeghelpaaa
open Go.ChangeShapes Go.WideShapes Go.ChangeAt Go.RowKit Go.Deep
set_option linter.unusedVariables false

/-- x has grown out of w. -/
def Up (w x : World) : Prop := Below w.heap.size w x
/-- An entry's block. -/
def Nb (t : TypeId) (w : World) (g : Nat) (x : En) : Prop := Bk w g t #[.int .i64 x.kind, .int .i64 x.th, .int .i64 x.now]
theorem Nb.cells {t : TypeId} {w : World} {g : Nat} {x : En} (h : Nb t w g x) : w.cell? ⟨g, 0, none⟩ = some (.int .i64 x.kind) ∧ w.cell? ⟨g, 1, none⟩ = some (.int .i64 x.th) ∧ w.cell? ⟨g, 2, none⟩ = some (.int .i64 x.now) := ⟨Bk.cell h 0, Bk.cell h 1, Bk.cell h 2⟩
theorem Nb.below {t : TypeId} {w w' : World} {g : Nat} {x : En} (h : Nb t w g x) (hb : Below w.heap.size w w') : Nb t w' g x := (hb.block g (Bk.lt h)).trans h
theorem Nb.made (t : TypeId) (w : World) (k h n : Int) : Nb t (w.alloc (.cells #[.int .i64 k, .int .i64 h, .int .i64 n] t)) w.heap.size ⟨k, h, n⟩ := Bk.made _ _ _
theorem entInfo : (Try.prog.info? 38).map (fun i => (i.zero, i.size, i.bytes)) = some (some (.agg #[.int .i64 0, .int .i64 0, .int .i64 0]), 3, 24) := by kernel_rfl
theorem entInfoR : (Try.prog.info? 35).map (fun i => (i.zero, i.size, i.bytes)) = some (some (.agg #[.int .i64 0, .int .i64 0, .int .i64 0]), 3, 24) := by kernel_rfl

/-- One entry more, behind append. -/
theorem en_next {t : TypeId} {w wr : World} {v : Value} {l : List En} {k h n : Int} (hO : EnO w.heap.size t wr v l) (hb : Below w.heap.size w wr) (w' : World) (v' : Value)
    (h1 : w'.ownsRow w.heap.size t 3 v' (l.length + 1) (ensC l ++ enC ⟨k, h, n⟩)) (h2 : (wr.alloc (.cells #[.int .i64 k, .int .i64 h, .int .i64 n] t)).grownBy w' v.ownBlock) : EnO w.heap.size t w' v' (l ++ [⟨k, h, n⟩]) ∧ Below w.heap.size w w' := by
  constructor
  · unfold EnO
    rw [ensC_snoc, List.length_append]
    exact h1
  · have hb1 := hb.alloc (o := .cells #[.int .i64 k, .int .i64 h, .int .i64 n] t) hb.size
    exact hb1.grown h2 hb1.size fun g e => (hO.own_lt g e).1

set_option maxHeartbeats 1000000 in
theorem lRef12 (l : List En) (a : Option Addr) (cap : Nat) (w : World) (S : EnS w a l) (hlen : l.length ≤ 10000) :
    Calls Try.prog 11 #[.slice a l.length cap] w fun e w' => ∃ v, e = .returned v ∧ EnO w.heap.size 35 w' v l ∧ Below w.heap.size w w' := by
  have HS := Lib.hid (fun W (hW : Below w.heap.size w W) => S.below hW)
  have HE : Hid (l.take l.length = l) := Lib.hid (by rw [List.take_length])
  have HT := Lib.hid (fun k h => take_at l k h)
  clear S
  go_enter Try.func11, Try.ntmps11
  go_wp2
  go_loopw [3, 8] (fun o q wr => ∃ k : Nat, q = .int .i64 k ∧ EnO w.heap.size 35 wr o (l.take k) ∧ k ≤ l.length ∧ Below w.heap.size w wr) (fun _ q _ => l.length - (intOf q).toNat)
  case atStart => exact ⟨0, rfl, EnO.nil _ _ _, Nat.zero_le _, Below.refl _ _⟩
  case round =>
    obtain ⟨k, rfl, hO, hk, hb⟩ := hrel
    by_cases hlt : k < l.length
    · have hki : (k : Int) < l.length := by omega
      obtain ⟨b, off, rfl, hbl, c0, c1, c2⟩ := (HS.out wr hb).at_ (List.getElem?_eq_getElem hlt)
      have HE2 := Lib.hid (HT.out k hlt)
      have hb2 := hb.alloc (o := .cells #[.int .i64 l[k].kind, .int .i64 l[k].th, .int .i64 l[k].now] 38) hb.size
      have hO2 := hO.alloc (.cells #[.int .i64 l[k].kind, .int .i64 l[k].th, .int .i64 l[k].now] 38)
      have hNb := Nb.made 38 wr l[k].kind l[k].th l[k].now
      have hlk : (l.take k).length = k := by simp; omega
      generalize l[k] = x at *
      obtain ⟨xk, xt, xn⟩ := x
      simp only at hb2 hO2 hNb c0 c1 c2
      go_upto_region 5 with fail
      generalize wr.alloc (.cells #[.int .i64 xk, .int .i64 xt, .int .i64 xn] 38) = z at *
      generalize wr.heap.size = p at *
      obtain ⟨e0, e1, e2⟩ := hNb.cells
      simp only at e0 e1 e2
      have HO := Lib.hid (World.ownsRow.alloc hO2 (.cells #[.int .i64 xk, .int .i64 xt, .int .i64 xn] 35))
      have HN2 := Lib.hid (news_bk (Nb.made 35 z xk xt xn))
      have HBS : Hid (w.heap.size ≤ (z.alloc (.cells #[.int .i64 xk, .int .i64 xt, .int .i64 xn] 35)).heap.size) := Lib.hid (by rw [World.size_alloc]; have := hb2.size; omega)
      have HEND := Lib.hid (en_next (k := xk) (h := xt) (n := xn) hO2 hb2)
      have HLn : Hid ((l.take k).length < 100000) := Lib.hid (by omega)
      clear hO hO2 hb hb2 hNb hlk
      go_wp2_with (at_builtin; refine wpOwn rfl _ _ 27 rfl _ 24 Try.underlying27 entInfoR rfl (by omega) (by omega) HO.out rfl (enC ⟨xk, xt, xn⟩) rfl (enC_one _) z.heap.size rfl HN2.out HLn.out HBS.out ?_; intro v' w' hown hgr hloc)
      obtain ⟨s1, s2⟩ := HEND.out _ _ hown hgr
      rw [← HE2.out] at s1
      go_roundw
      case rel => exact ⟨k + 1, by go_num, s1, by omega, s2⟩
      case measure => simp [intOf]; omega
    · obtain rfl : k = l.length := by omega
      rw [HE.out] at hO
      go_wp2
      go_ret
      exact ⟨_, rfl, hO, hb⟩

set_option maxRecDepth 100000 in
/-- Entries that came in. -/
theorem open_ents2 {H : Type} {enc : TypeId × Value → H} {W : World} {base b0 : Nat} {sp : Nat → Bool} {held : Bool} {r : Reach} {v : Value} {d : DataW H} {ps : List MemPlace}
    (hval : Value.okWide Try.prog W r b0 22 v) (h : DataW.Trod enc Try.prog W base sp held 22 v d ps) :
    ∃ (l : List En) (a : Option Addr) (cap : Nat), v = .slice a l.length cap ∧ EnS W a l ∧ (∀ x ∈ l, x.Wf) ∧ l.length ≤ maxLen ∧ (a = none → cap = 0) ∧ l.length ≤ cap := by
  obtain ⟨a, len, cap, rfl⟩ := okWide_slice Try.underlying22 hval
  obtain ⟨fuel, hf⟩ := h
  obtain ⟨hle, hr⟩ := open_recs Try.underlying22 Try.underlying38 (by kernel_rfl) (by kernel_rfl) (by decide) (by simpa [Value.cells] using hf)
  have hn : (a = none → cap = 0) ∧ len ≤ cap := by
    rcases open_slice Try.underlying22 hf with ⟨hcs, _⟩ | ⟨ad, l, c, m, n', D, Pl, hcs, _, hl, _⟩
    · simp only [Value.cells, List.cons.injEq, Value.slice.injEq, and_true] at hcs
      exact ⟨fun _ => hcs.2.2, by omega⟩
    · simp only [Value.cells, List.cons.injEq, Value.slice.injEq, and_true] at hcs
      obtain ⟨rfl, rfl, rfl⟩ := hcs
      exact ⟨fun e => (by cases e), by omega⟩
  by_cases h0 : 0 < len
  · obtain ⟨b, off, rfl, hlt, hc⟩ := hr h0
    have one : ∀ i, i < len → ∃ x : En, x.Wf ∧ ∀ j, j < 3 → W.cell? ⟨b, off + i * 3 + j, none⟩ = (enC x)[j]? := by
      intro i hi
      have get : ∀ j, j < 3 → ∃ n : Int, W.cell? ⟨b, off + i * 3 + j, none⟩ = some (.int .i64 n) ∧ (Lit.int .i64 n).wf = true := by
        intro j hj
        obtain ⟨u, hu, hw⟩ := hc i hi j hj
        match j, hj with
        | 0, _ => obtain ⟨n, y, hy⟩ := hw _ rfl; obtain ⟨x, e, _, wx⟩ := DataW.trod_int Try.underlying3 hy; simp at e; subst e; exact ⟨x, hu, wx⟩
        | 1, _ => obtain ⟨n, y, hy⟩ := hw _ rfl; obtain ⟨x, e, _, wx⟩ := DataW.trod_int Try.underlying3 hy; simp at e; subst e; exact ⟨x, hu, wx⟩
        | 2, _ => obtain ⟨n, y, hy⟩ := hw _ rfl; obtain ⟨x, e, _, wx⟩ := DataW.trod_int Try.underlying3 hy; simp at e; subst e; exact ⟨x, hu, wx⟩
      obtain ⟨k, hk, wk⟩ := get 0 (by omega)
      obtain ⟨t, ht, wt⟩ := get 1 (by omega)
      obtain ⟨n, hn, wn⟩ := get 2 (by omega)
      simp [Lit.wf, IntKind.min, IntKind.max, IntKind.bits, IntKind.signed] at wk wt wn
      refine ⟨⟨k, t, n⟩, ⟨show _ ≤ k by omega, show k ≤ _ by omega, show _ ≤ t by omega, show t ≤ _ by omega, show _ ≤ n by omega, show n ≤ _ by omega⟩, fun j hj => ?_⟩
      match j, hj with
      | 0, _ => exact hk
      | 1, _ => exact ht
      | 2, _ => exact hn
    obtain ⟨l, hl, hp⟩ := list_of len one
    subst hl
    refine ⟨l, _, cap, rfl, fun _ => ⟨b, off, rfl, hlt, fun k x hk j hj => (hp k x hk).2 j hj⟩, fun x hx => ?_, hle, hn⟩
    obtain ⟨k, hk, rfl⟩ := List.getElem_of_mem hx
    exact (hp k _ (List.getElem?_eq_getElem hk)).1
  · obtain rfl : len = 0 := by omega
    exact ⟨[], a, cap, rfl, EnS.nil _ _, by simp, by simp, hn⟩

theorem open_ents {H : Type} {enc : TypeId × Value → H} {W : World} {base b0 : Nat} {sp : Nat → Bool} {held : Bool} {r : Reach} {v : Value} {d : DataW H} {ps : List MemPlace}
    (hval : Value.okWide Try.prog W r b0 22 v) (h : DataW.Trod enc Try.prog W base sp held 22 v d ps) :
    ∃ (l : List En) (a : Option Addr) (cap : Nat), v = .slice a l.length cap ∧ EnS W a l ∧ (∀ x ∈ l, x.Wf) ∧ l.length ≤ maxLen ∧ (a = none → cap = 0) := by
  obtain ⟨l, a, cap, e, h1, h2, h3, h4, _⟩ := open_ents2 hval h
  exact ⟨l, a, cap, e, h1, h2, h3, h4⟩
/-- The first k of them. -/
theorem EnS.cut {w : World} {a : Option Addr} {l : List En} (h : EnS w a l) (k : Nat) : EnS w a (l.take k) := by
  intro h0
  rw [List.length_take] at h0
  obtain ⟨b, off, e, hlt, hc⟩ := h (by omega)
  refine ⟨b, off, e, hlt, fun i x hi j hj => hc i x ?_ j hj⟩
  rw [List.getElem?_take] at hi
  split at hi
  · exact hi
  · cases hi
end Go.Proofs.Ytipekdeghelpaaa
