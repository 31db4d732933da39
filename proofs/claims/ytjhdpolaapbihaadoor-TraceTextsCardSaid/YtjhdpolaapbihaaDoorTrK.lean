/- The frame of a law of layer 12: entries that came in, opened; what the listed variables hold, and the world's shape, handed to the walk; the law's awake. -/
import Derived.Test.YtjhdpolaapbihaaDoorTrC
import Derived.Test.YtjhdpolaapbihaaDoorTrE
import Derived.Test.YtjhdpolaapbihaaDoorRecs
import Derived.Test.YtjhdpolaapbihaaDoorTie
import Derived.Test.YtjhdpolaapbihaaDoorCards
import Derived.Lay
import Derived.Handed
import Derived.ProofKit
import Derived.PinnedBridge
import Derived.SevenTiedAt
import Derived.Shelf.Vars
import Derived.Lib.LaidTab
import Derived.Stop.LaidErr
import Derived.Lib.SmallJoins
namespace Go.Proofs.YtjhdpolaapbihaaDoor
open Go.Joins Go.ChangeShapes Go.WideShapes Go.ChangeAt Go.RowKit Go.Deep
set_option linter.unusedVariables false

theorem own : ownKnob Tryd.prog.godebug = none := by kernel_rfl
theorem laidOut : laidOutB Tryd.prog = true := by kernel_rfl
theorem star : "*errors.errorString" = "*" ++ "errors.errorString" := by decide
theorem errRow (u : TypeId) (h : Tryd.prog.typeName? 3 u = some "*errors.errorString") : u = 121 :=
  typeName_ptr_named (nm := "errors.errorString") (by rw [← star]; kernel_rfl) (by kernel_rfl) (by decide) u (by rw [← star]; exact h)

/-- An array of strings, read cell for cell. -/
theorem cells_of_strs {H : Type} {enc : TypeId × Value → H} {P : Program} {w : World} {base : Nat} {sp : Nat → Bool} {held : Bool} {fuel : Nat} {t e : TypeId} {n : Nat} {cs : List Value} {zs : List (List UInt8)} {p : List MemPlace}
    (ht : P.underlying t = some (.array n e)) (he : P.underlying e = some .string) (hce : P.cellsOf e = 1) (hct : P.cellsOf t = n)
    (h : DataW.trod enc P w base sp held fuel t cs = some (.agg (zs.map fun z => .lit (.string z)), p)) : cs = zs.map bs := by
  cases fuel with
  | zero => simp [DataW.trod] at h
  | succ fuel =>
    simp only [DataW.trod, ht, hce, hct, Nat.mul_one] at h
    split at h
    · rename_i hl
      obtain ⟨xs, hm, hx⟩ := Option.map_eq_some_iff.1 h
      have hxs : xs.map (·.1) = zs.map fun z => (DataW.lit (.string z) : DataW H) := by
        have := congrArg Prod.fst hx
        simpa using this
      have hxl : xs.length = n := by simpa using Lib.mapM_length hm
      have hzl : zs.length = n := by
        have := congrArg List.length hxs
        simp at this
        omega
      apply List.ext_getElem?
      intro i
      by_cases hi : i < n
      · obtain ⟨b, hb, hf⟩ := Lib.mapM_at hm i i (by simp [hi])
        obtain ⟨z, hc, rfl, _⟩ := DataW.trod_string he hf
        have h1 : cs[i]? = some (.string z) := by
          have := congrArg (·[0]?) hc
          simpa [List.getElem?_take, List.getElem?_drop] using this
        have h2 : (xs.map (·.1))[i]? = some (DataW.lit (.string z.data.toList) : DataW H) := by simp [hb]
        rw [hxs] at h2
        simp only [List.getElem?_map, Option.map_eq_some_iff, DataW.lit.injEq, Lit.string.injEq] at h2
        obtain ⟨z', hz', rfl⟩ := h2
        simp [h1, hz', bs]
      · rw [List.getElem?_eq_none (by omega), List.getElem?_eq_none (by simp; omega)]
    · cases h
theorem strs_of_head {P : Program} {W : World} {name : String} {zs : List (List UInt8)} {rest : List (String × DataW Unit)} {g : Nat} {t e : TypeId} {n : Nat}
    (hg : P.globalNamed name = some g) (hty : (P.globals[g]?).map (·.type) = some t) (ht : P.underlying t = some (.array n e)) (he : P.underlying e = some .string) (hce : P.cellsOf e = 1) (hct : P.cellsOf t = n)
    (h : laidMet P ((name, .agg (zs.map fun z => .lit (.string z))) :: rest) W) (i : Nat) (hi : i < zs.length) : W.cell? ⟨g, i, none⟩ = some (bs (zs.getD i [])) := by
  obtain ⟨ps, ⟨g', t', cs, fuel, p, q, hg', ht', hvar, hd, _, _⟩, _⟩ := h
  obtain rfl := Option.some.inj (hg.symm.trans hg')
  obtain rfl := Option.some.inj (hty.symm.trans ht')
  have ec := cells_of_strs ht he hce hct hd
  obtain rfl : cs = (zs.map bs).toArray := by rw [← ec]
  have := World.var?_cell hg hvar i
  simpa [List.getD, hi] using this

/-- What the listed variables hold, and the shape of the world, are what the calls read. -/
theorem lt_of {W : World} (hL : laidMet Tryd.prog Rows.traceTextsRow.laid W) (hsh : W.ShapedOpen Tryd.prog) : Lt W := by
  have h2 := hL.tail.tail
  have h3 := h2.tail
  have h5 := h3.tail.tail
  have tab : Lib.TabIs Tryd.prog W "internal/strconv.uint64pow10" .u64 Lib.pow10Tab :=
    Lib.tabIs_of_head (g := 1) (by kernel_rfl) (by kernel_rfl) Tryd.underlying97 Tryd.underlying88 (by kernel_rfl) (by kernel_rfl) h2
  obtain ⟨a1, _, hv1, _⟩ := laid_sentinel h3 (g := 4) (by kernel_rfl) (by kernel_rfl) Tryd.underlying57 (errRow) Tryd.underlying121 Tryd.underlying123 rfl rfl Tryd.underlying9 (by kernel_rfl) (by kernel_rfl)
  obtain ⟨a2, _, hv2, _⟩ := laid_sentinel h3.tail (g := 3) (by kernel_rfl) (by kernel_rfl) Tryd.underlying57 (errRow) Tryd.underlying121 Tryd.underlying123 rfl rfl Tryd.underlying9 (by kernel_rfl) (by kernel_rfl)
  obtain ⟨m, hm⟩ := Tryd.laysM145.s1_3 W hsh
  have c0 : W.cell? ⟨2, 0, none⟩ = some (.int .i64 m) := hm
  have c1 := tab.cell (g := 1) (by kernel_rfl) 0 (by decide)
  have c2 := World.var?_cell (g := 3) (by kernel_rfl) hv2 0
  have c3 := World.var?_cell (g := 4) (by kernel_rfl) hv1 0
  have hw := strs_of_head (zs := [[], [99, 97, 108, 108], [101, 110, 113], [103, 114, 97, 110, 116], [97, 98, 111, 114, 116], [103, 111, 116], [108, 111, 115, 116], [102, 117, 108, 108], [117, 110, 108, 111, 99, 107], [114, 101, 108, 101, 97, 115, 101], [111, 118, 101, 114]])
    (g := 0) (by kernel_rfl) (by kernel_rfl) Tryd.underlying62 Tryd.underlying9 (by kernel_rfl) (by kernel_rfl) h5
  have c4 := hw 0 (by decide)
  refine ⟨⟨tab, ⟨_, _, hv2⟩, ⟨_, _, hv1⟩, ⟨m, c0⟩, World.block_lt_of_cell? W _ c0, World.block_lt_of_cell? W _ c1, World.block_lt_of_cell? W _ c2, World.block_lt_of_cell? W _ c3⟩, World.block_lt_of_cell? W _ c4, fun n hn => ?_⟩
  have hn2 : n = 0 ∨ n = 1 ∨ n = 2 ∨ n = 3 ∨ n = 4 ∨ n = 5 ∨ n = 6 ∨ n = 7 ∨ n = 8 ∨ n = 9 ∨ n = 10 := by omega
  rcases hn2 with rfl | rfl | rfl | rfl | rfl | rfl | rfl | rfl | rfl | rfl | rfl <;> exact hw _ (by decide)

set_option maxRecDepth 100000 in
/-- Entries that came in. -/
theorem open_ents {H : Type} {enc : TypeId × Value → H} {W : World} {base b0 : Nat} {sp : Nat → Bool} {held : Bool} {r : Reach} {v : Value} {d : DataW H} {ps : List MemPlace}
    (hval : Value.okWide Tryd.prog W r b0 22 v) (h : DataW.Trod enc Tryd.prog W base sp held 22 v d ps) :
    ∃ (l : List En) (a : Option Addr) (cap : Nat), v = .slice a l.length cap ∧ EnS W a l ∧ (∀ x ∈ l, x.Wf) ∧ l.length ≤ maxLen ∧ (a = none → cap = 0) := by
  obtain ⟨a, len, cap, rfl⟩ := okWide_slice Tryd.underlying22 hval
  obtain ⟨fuel, hf⟩ := h
  obtain ⟨hle, hr⟩ := open_recs Tryd.underlying22 Tryd.underlying33 (by kernel_rfl) (by kernel_rfl) (by decide) (by simpa [Value.cells] using hf)
  have hn : a = none → cap = 0 := by
    rcases open_slice Tryd.underlying22 hf with ⟨hcs, _⟩ | ⟨ad, l, c, m, n', D, Pl, hcs, _⟩
    · simp only [Value.cells, List.cons.injEq, Value.slice.injEq, and_true] at hcs
      exact fun _ => hcs.2.2
    · simp only [Value.cells, List.cons.injEq, Value.slice.injEq, and_true] at hcs
      rintro rfl
      exact absurd hcs.1 (by simp)
  by_cases h0 : 0 < len
  · obtain ⟨b, off, rfl, hlt, hc⟩ := hr h0
    have one : ∀ i, i < len → ∃ x : En, x.Wf ∧ ∀ j, j < 3 → W.cell? ⟨b, off + i * 3 + j, none⟩ = (enC x)[j]? := by
      intro i hi
      have get : ∀ j, j < 3 → ∃ n : Int, W.cell? ⟨b, off + i * 3 + j, none⟩ = some (.int .i64 n) ∧ (Lit.int .i64 n).wf = true := by
        intro j hj
        obtain ⟨u, hu, hw⟩ := hc i hi j hj
        match j, hj with
        | 0, _ => obtain ⟨n, y, hy⟩ := hw _ rfl; obtain ⟨x, e, _, wx⟩ := DataW.trod_int Tryd.underlying3 hy; simp at e; subst e; exact ⟨x, hu, wx⟩
        | 1, _ => obtain ⟨n, y, hy⟩ := hw _ rfl; obtain ⟨x, e, _, wx⟩ := DataW.trod_int Tryd.underlying3 hy; simp at e; subst e; exact ⟨x, hu, wx⟩
        | 2, _ => obtain ⟨n, y, hy⟩ := hw _ rfl; obtain ⟨x, e, _, wx⟩ := DataW.trod_int Tryd.underlying3 hy; simp at e; subst e; exact ⟨x, hu, wx⟩
      obtain ⟨k, hk, wk⟩ := get 0 (by omega)
      obtain ⟨t, ht, wt⟩ := get 1 (by omega)
      obtain ⟨n, hn, wn⟩ := get 2 (by omega)
      simp [Lit.wf, IntKind.min, IntKind.max, IntKind.bits, IntKind.signed] at wk wt wn
      refine ⟨⟨k, t, n⟩, ⟨show _ ≤ k by omega, show k ≤ _ by omega, show _ ≤ t by omega, show t ≤ _ by omega, show _ ≤ n by omega, show n ≤ _ by omega⟩, fun j hj => ?_⟩
      match j, hj with
      | 0, _ => exact hk
      | 1, _ => exact ht
      | 2, _ => exact hn
    obtain ⟨l, hl, hp⟩ := list_of len one
    subst hl
    refine ⟨l, _, cap, rfl, fun _ => ⟨b, off, rfl, hlt, fun k x hk j hj => (hp k x hk).2 j hj⟩, fun x hx => ?_, hle, hn⟩
    obtain ⟨k, hk, rfl⟩ := List.getElem_of_mem hx
    exact (hp k _ (List.getElem?_eq_getElem hk)).1
  · obtain rfl : len = 0 := by omega
    exact ⟨[], a, cap, rfl, EnS.nil _ _, by simp, by simp, hn⟩

/-- A law's walk, handed what the row lists, and the world's shape beside it. -/
theorem returns_laid {H : Type} {enc : TypeId × Value → H} {a : Assume} {C : Checked} {os : Os} {f : FuncId} {fn : Func} {s : ChangeSpec} {conds : List PathCond} {apart fresh handsOn again : Bool} {X : World → Array Value → Prop}
    (hX : ∀ (w w' : World) (args : Array Value), w.heap = w'.heap → X w args → X w' args)
    (own : ownKnob C.prog.godebug = none) (started : os.Started) (noInit : C.prog.inits.idxOf? f = none) (hfn : C.prog.funcs[f]? = some fn)
    (witness : ∃ (w : World) (tape : Tape) (i : Input), w.os = os ∧ (w.forCall tape i).Shaped C.prog ∧ i.vars = [] ∧ Input.okWide C.prog (w.forCall tape i) .any w.heap.size f i ∧
      ((s.pre enc C.prog fn conds apart (w.forCall tape i).memory i.args ∧ X (w.forCall tape i).memory i.args) ∧ sizedMet enc C.prog fn (OpenSpec.ofChange s) apart (w.forCall tape i).memory i.args) ∧ a.holds C.prog (lone (Frame.enter C.prog f i.args .normal) [] (w.forCall tape i)))
    (walk : ∀ (W : World) (base : Nat) (args : Array Value) (ds gs : List (DataW H)) (before : List MemPlace),
      (∀ (j : Nat) t v, fn.params[j]? = some t → args[j]? = some v → Value.okWide C.prog W .any base t v) →
      DataW.Whole enc C.prog fn.params.toList s.vars apart W args.toList ds gs before → X W args → W.ShapedOpen C.prog →
      Calls C.prog f args W fun e W' => ∃ v, e = .returned v ∧ s.post enc C.prog fn apart fresh handsOn again W args v W') :
    ReturnsInHanded a C os f .any (fun w args => (s.pre enc C.prog fn conds apart w args ∧ X w args) ∧ sizedMet enc C.prog fn (OpenSpec.ofChange s) apart w args) (s.post enc C.prog fn apart fresh handsOn again) := by
  refine returnsInHanded_of_calls own started noInit witness fun w tape i _ hsh _ hok hpre _ => ?_
  obtain ⟨_, _, _, fn', hfn', _, _, _, _, hval⟩ := hok
  obtain rfl : fn' = fn := Option.some.inj (hfn'.symm.trans hfn)
  obtain ⟨⟨⟨ds, gs, before, hw, _⟩, hx⟩, _⟩ := hpre
  refine (walk (w.forCall tape i) w.heap.size i.args ds gs before hval (DataW.Whole.of_heap (by rfl) hw) (hX _ _ _ (by rfl) hx) hsh).mono fun e W' ⟨v, he, hp⟩ => ?_
  subst he
  exact ChangeSpec.post_blind hp

-- the law's awake
theorem example12 : docT [101, 110, 113, 32, 51, 32, 49, 55] = some ⟨2, 3, 17⟩ := by
  rw [doc_iff]
  refine ⟨⟨by decide, by decide, by decide, by decide, by decide, by decide⟩, ?_⟩
  have e3 : Lib.decDigits 3 = [51] := by rw [Lib.decDigits, dif_pos (by omega)]; rfl
  have e1 : Lib.decDigits 1 = [49] := by rw [Lib.decDigits, dif_pos (by omega)]; rfl
  have e17 : Lib.decDigits 17 = [49, 55] := by rw [Lib.decDigits, dif_neg (by omega)]; show Lib.decDigits 1 ++ _ = _; rw [e1]; rfl
  unfold lineT
  rw [show Lib.itoa 3 = [51] from e3, show Lib.itoa 17 = [49, 55] from e17]
  rfl
theorem run_eqE (x y : En) (w : World) : (binOp .eql 33 (enV x) (enV y)).run Tryd.prog w = .ok (.bool (eqE x y)) w := by
  unfold enV
  have hu := Tryd.underlying33
  go_simp
  unfold eqE
  repeat' split
  all_goals simp [*]

set_option maxHeartbeats 1000000 in
theorem lAwake12 (w : World) (L : Lt w) : Calls Tryd.prog 7 #[] w fun e w' => e = .returned (.bool true) ∧ Below w.heap.size w w' := by
  have HP := Lib.hid (cParseLine [101, 110, 113, 32, 51, 32, 49, 55] (by decide) w L)
  rw [show parV [101, 110, 113, 32, 51, 32, 49, 55] = .tuple #[.agg #[.int .i64 2, .int .i64 3, .int .i64 17], .bool true] by unfold parV; rw [example12]; rfl] at HP
  have hq := run_eqE ⟨2, 3, 17⟩ ⟨2, 3, 17⟩
  rw [eqE_self] at hq
  unfold enV at hq
  simp only at hq
  unfold bs at HP
  go_enter Tryd.func7, Tryd.ntmps7
  go_wp2_with fail
  refine HP.out.mono ?_
  rintro e x ⟨rfl, hx⟩
  have hb := hx.alloc (o := .cells #[.int .i64 2, .int .i64 3, .int .i64 17] 33) hx.size
  go_wp2
  go_ret
  exact ⟨rfl, hb⟩
end Go.Proofs.YtjhdpolaapbihaaDoor
