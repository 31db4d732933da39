/- For every list of words of 32 bits and every two words old and new: CellSums returns true, so what is added to a cell makes its sum, each time telling what was there, and a Cas does it just if the cell is what is said; no condition. -/
import Derived.Test.YtplfcfijopdmfaaCellLaw
import Derived.WalkKit
import Derived.ProofKit
import Derived.OpenShut
import Derived.ChangeOld
namespace Go.Proofs.Ytplfcfijopdmfaa.cellSums
open Go.ChangeShapes Go.WideShapes Go.ChangeAt Go.RowKit
set_option linter.unusedVariables false

theorem own : ownKnob Try.prog.godebug = none := by kernel_rfl
theorem laidOut : laidOutB Try.prog = true := by kernel_rfl

theorem add1 {w : World} {p g : Nat} {s : Int} (h : Cel w p g [s]) (v : Int) (hv : 0 ≤ v ∧ v < 4294967296) :
    Calls Try.prog 14 #[.pointer (some ⟨p, 0, none⟩), .int .i64 0, .int .u32 v] w (Did w p g (.int .u32 s) [two32 (s + v)]) :=
  cAdd h 0 (by simp) v hv
theorem load1 {w : World} {p g : Nat} {s : Int} (h : Cel w p g [s]) :
    Calls Try.prog 13 #[.pointer (some ⟨p, 0, none⟩), .int .i64 0] w fun e w' => e = .returned (.int .u32 s) ∧ w = w' :=
  cLoad h 0 (by simp)
theorem swap1 {w : World} {p g : Nat} {s : Int} (h : Cel w p g [s]) (v : Int) (hv : 0 ≤ v ∧ v < 4294967296) :
    Calls Try.prog 16 #[.pointer (some ⟨p, 0, none⟩), .int .i64 0, .int .u32 v] w (Did w p g (.int .u32 s) [v]) :=
  cSwap h 0 (by simp) v hv
theorem cas1 {w : World} {p g : Nat} {s : Int} (h : Cel w p g [s]) (v : Int) (hv : 0 ≤ v ∧ v < 4294967296) :
    Calls Try.prog 15 #[.pointer (some ⟨p, 0, none⟩), .int .i64 0, .int .u32 s, .int .u32 v] w (Did w p g (.bool true) [v]) :=
  cCasHit h 0 (by simp) v hv
theorem cas0 {w : World} {p g : Nat} {s : Int} (h : Cel w p g [s]) (o v : Int) (hne : ¬ s = o) :
    Calls Try.prog 15 #[.pointer (some ⟨p, 0, none⟩), .int .i64 0, .int .u32 o, .int .u32 v] w (Did w p g (.bool false) [s]) :=
  cCasMiss h 0 (by simp) o v hne

theorem own_then {a b c : World} {g : Nat} (h : a.grownBy b none) (k : Only b c g) (hg : a.heap.size ≤ g) : a.grownBy c none :=
  grown_then h k (.inr fun x e => by injection e with e; omega)

def Rel (w : World) (p g : Nat) (s : Int) (wr : World) : Prop := Cel wr p g [s] ∧ w.grownBy wr none

set_option maxHeartbeats 1000000 in
set_option maxRecDepth 100000 in
theorem walk (a0 : Option Addr) (cap0 : Nat) (xs : List Int) (old new : Int) (w : World) (g0 : Given .u32 w a0 xs) (u0 : ∀ n ∈ xs, (Lit.int .u32 n).wf = true) (hm : xs.length ≤ maxLen) (w1 : (Lit.int .u32 old).wf = true) (w2 : (Lit.int .u32 new).wf = true) :
    Calls Try.prog 5 #[.slice a0 xs.length cap0, .int .u32 old, .int .u32 new] w fun e w' => e = .returned (.bool true) ∧ Below w.heap.size w w' := by
  have hu : U32s xs := fun x hx => u32_bounds (u0 x hx)
  have ho := u32_bounds w1
  have hn := u32_bounds w2
  clear u0 w1 w2
  unfold maxLen at hm
  by_cases h60 : 60 < xs.length
  · go_enter Try.func5, Try.ntmps5
    go_wp2_with fail
    refine (cNew 1 (by omega) w).mono ?_
    rintro e wr ⟨p, g, rfl, hc, hp, hg, hw1⟩
    go_wp2_with fail
    refine (lAwake _).mono ?_
    rintro e w2 ⟨rfl, hw2⟩
    go_wp2
    go_ret
    exact ⟨rfl, below_of_grown (grown_then hw1 hw2 (.inl rfl))⟩
  · go_enter Try.func5, Try.ntmps5
    go_wp2_with fail
    refine (cNew 1 (by omega) w).mono ?_
    rintro e w1 ⟨p, g, rfl, hc, hp, hg, hw1⟩
    go_wp2
    go_loopw [9, 38] (fun t i wr => ∃ (k : Nat) (s : Int), k ≤ xs.length ∧ i = .int .i64 k ∧ t = .int .u32 s ∧ Rel w p g s wr) (fun _ i _ => xs.length - (intOf i).toNat)
    case atStart => exact ⟨0, 0, Nat.zero_le _, rfl, rfl, hc, hw1⟩
    case round =>
      obtain ⟨k, s, hk, rfl, rfl, hr⟩ := hrel
      by_cases hlt : k < xs.length
      · obtain ⟨b, off, rfl, hcell⟩ := g0.at_ hlt (below_of_grown hr.2)
        have hx := hu.at_ k
        go_wp2_with fail
        refine (add1 hr.1 (nth xs k) hx).mono ?_
        rintro e w2 ⟨rfl, hc2, hw2⟩
        have hr2 : Rel w p g (two32 (s + nth xs k)) w2 := ⟨hc2, own_then hr.2 hw2 hg⟩
        go_wp2
        go_roundw
        case rel => exact ⟨k + 1, _, by omega, by go_num, rfl, hr2⟩
        case measure => simp [intOf]; omega
      · obtain ⟨hcs, hws⟩ := hr
        by_cases he : old = s
        · subst he
          go_wp2_with fail
          refine (cas1 hcs new hn).mono ?_
          rintro e w2 ⟨rfl, hc2, hw2⟩
          go_wp2_with fail
          refine (load1 hc2).mono ?_
          rintro e w3 ⟨rfl, rfl⟩
          go_wp2_with fail
          refine (swap1 hc2 old ho).mono ?_
          rintro e w4 ⟨rfl, hc4, hw4⟩
          go_wp2_with fail
          refine (load1 hc4).mono ?_
          rintro e w5 ⟨rfl, rfl⟩
          go_wp2_with fail
          refine (lAwake _).mono ?_
          rintro e w6 ⟨rfl, hw6⟩
          go_wp2
          go_ret
          exact ⟨rfl, below_of_grown (grown_then (own_then (own_then hws hw2 hg) hw4 hg) hw6 (.inl rfl))⟩
        · have he' : (old == s) = false := by simp [he]
          go_wp2_with fail
          refine (cas0 hcs old new (fun h => he h.symm)).mono ?_
          rintro e w2 ⟨rfl, hc2, hw2⟩
          go_wp2_with fail
          refine (load1 hc2).mono ?_
          rintro e w3 ⟨rfl, rfl⟩
          go_wp2_with fail
          refine (swap1 hc2 old ho).mono ?_
          rintro e w4 ⟨rfl, hc4, hw4⟩
          go_wp2_with fail
          refine (load1 hc4).mono ?_
          rintro e w5 ⟨rfl, rfl⟩
          go_wp2_with fail
          refine (lAwake _).mono ?_
          rintro e w6 ⟨rfl, hw6⟩
          go_wp2
          go_ret
          exact ⟨rfl, below_of_grown (grown_then (own_then (own_then hws hw2 hg) hw4 hg) hw6 (.inl rfl))⟩

set_option maxRecDepth 100000 in
theorem lifted (os : Os) (started : os.Started) (H : Type) (enc : TypeId × Value → H) :
    ReturnsInHanded {} Try.checked os 5 .any (Rows.cellSumsSpec.pre6 enc Try.prog Try.f5 Rows.cellSumsRow.domain false) (Rows.cellSumsSpec.post enc Try.prog Try.f5 false true false false) := by
  refine returnsInHanded_of_change (C := Try.checked) own started (by kernel_rfl) Try.func5
    (ChangeSpec.witness6 (enc := enc) (C := Try.checked) false ⟨#[], #[.slice none 0 0, .int .u32 0, .int .u32 0], []⟩ 8 (by kernel_rfl) (by kernel_rfl) (by kernel_rfl) (by kernel_rfl)) ?_
  intro W base args ds gs before hval0 hW hcnd _
  have hval : ∀ (j : Nat) t v, Try.f5.params[j]? = some t → args[j]? = some v → Value.okWide Try.prog W .any base t v := hval0
  have hW' := hW
  obtain ⟨p, q, hA0, hV, rfl, hfz, hnd⟩ := hW
  have hA : DataW.TrodAll enc Try.prog W 0 (fun _ => true) true Try.f5.params.toList args.toList ds p := hA0
  rw [Try.params5] at hA hval
  obtain ⟨v0, vs0, d0, ds0, p0, q0, hargs, rfl, rfl, h0, r0⟩ := trodAll_cons hA
  obtain ⟨v1, vs1, d1, ds1, p1, q1, rfl, rfl, rfl, h1, r1⟩ := trodAll_cons r0
  obtain ⟨v2, vs2, d2, ds2, p2, q2, rfl, rfl, rfl, h2, r2⟩ := trodAll_cons r1
  obtain ⟨rfl, rfl, rfl⟩ := trodAll_nil r2
  obtain rfl : args = #[v0, v1, v2] := by cases args; simp_all
  obtain ⟨rfl, rfl⟩ := trodVars_none hV
  obtain ⟨a0, len0, cap0, rfl⟩ := okWide_slice Try.underlying29 (hval 0 29 v0 rfl rfl)
  have k0 := h0
  have lt0 : ∀ x ∈ p0, x.block < W.heap.size := by obtain ⟨m, hm⟩ := k0; exact DataW.trod_lt m _ _ _ hm
  obtain ⟨z0, g0, l0, u0, hb0⟩ : ∃ zs, Given .u32 W a0 zs ∧ len0 = zs.length ∧ (∀ n ∈ zs, (Lit.int .u32 n).wf = true) ∧ zs.length ≤ maxLen := by
    obtain ⟨fuel, hf⟩ := h0
    rcases open_ints Try.underlying29 Try.underlying30 (by kernel_rfl) hf with ⟨hcs, _⟩ | ⟨x, l, c, zs, hcs, _, hl, hm, hz, _, hcell, hwz⟩
    · simp [Value.cells] at hcs
      obtain ⟨rfl, rfl, rfl⟩ := hcs
      exact ⟨[], given_nil _ _ _, rfl, by simp, by simp⟩
    · simp [Value.cells] at hcs
      obtain ⟨rfl, rfl, rfl⟩ := hcs
      have hz' : zs.length = cap0 := by simpa using hz
      exact ⟨zs.take len0, given_of (by omega) hcell, by simp; omega, fun n hn => hwz n (List.mem_of_mem_take hn), by simp; omega⟩
  subst l0
  obtain ⟨a1, rfl, rfl, rfl, w1⟩ := open_int Try.underlying30 (hval 1 30 v1 rfl rfl) h1
  obtain ⟨a2, rfl, rfl, rfl, w2⟩ := open_int Try.underlying30 (hval 2 30 v2 rfl rfl) h2
  clear hA0 hval0
  refine (walk a0 cap0 z0 a1 a2 W g0 u0 hb0 w1 w2).mono fun e W' ⟨he, bel⟩ => ?_
  subst he
  exact ⟨_, rfl, _, _, _, [], _, [], hW', trodAll_mk1 (shut_bool Try.underlying4 _), (trodAll_cons_mk (Below.trod laidOut (by kernel_rfl) (of_decide_eq_true (by kernel_rfl)) k0 bel lt0) (trodAll_cons_mk (shut_int Try.underlying30 w1) (trodAll_cons_mk (shut_int Try.underlying30 w2) trodAll_mk0))), rfl, bel.frame _, fun h => by cases h⟩

theorem over : Rows.cellSumsRow.holds Try.pinned (OpenSpec.ofChange Rows.cellSumsSpec) :=
  OpenClaim.holds_of_wide 5 Try.f5 rfl rfl rfl rfl rfl rfl rfl ⟨rfl, rfl, rfl, rfl, rfl⟩ rfl rfl rfl rfl rfl (by kernel_rfl) Try.func5 (by kernel_rfl)
    (of_decide_eq_true (by kernel_rfl)) (by unfold Func.isWrapper; first | (rw [if_pos (by decide +kernel)]; kernel_rfl) | (rw [if_neg (by decide +kernel)]; exact ⟨rfl, rfl⟩))
    (fun os started H enc _ => lifted os started H enc)

/-- The statement. -/
theorem proved : Rows.CellSumsSaid := over
#print axioms proved
end Go.Proofs.Ytplfcfijopdmfaa.cellSums
