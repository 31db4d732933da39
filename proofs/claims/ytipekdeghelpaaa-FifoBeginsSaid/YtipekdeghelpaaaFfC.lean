/- Layer 13's program: behind: whether an entry fits, and where it leads. -/
import Derived.Test.YtipekdeghelpaaaFfB
import Derived.Deep.QuietTactic
namespace Go.Proofs.Ytipekdeghelpaaa
open Go.ChangeShapes Go.WideShapes Go.ChangeAt Go.RowKit
set_option linter.unusedVariables false

theorem Ffk.drewN {w : World} {p s : Nat} {v : Value} {st q : List Int} {now : Int} (h : Ffk w p s v st q now) (m : Nat) : Ffk (w.drewN m) p s v st q now := ⟨h.bk, h.its, h.lst, h.apart⟩
/-- What behind answers. -/
def behV (b : Bool) (k : Int) : Value := .tuple #[.int .i64 (if b = true then mvT k else 0), .bool b]
theorem boxE {w x : World} {t : TypeId} {k h n : Int} (hb : Below (w.alloc (.cells #[.int .i64 k, .int .i64 h, .int .i64 n] t)).heap.size (w.alloc (.cells #[.int .i64 k, .int .i64 h, .int .i64 n] t)) x) : Up w x :=
  ((Below.refl _ _).alloc (Nat.le_refl _) _).trans (hb.mono (by simp))

theorem below_drewN {B : Nat} {w z : World} (h : Below B w z) (n : Nat) : Below B w (z.drewN n) := ⟨h.os, h.tape, h.output, h.size, h.block⟩

set_option maxHeartbeats 2000000 in
theorem fBehind {w : World} {p s : Nat} {v : Value} {st q : List Int} {now : Int} (h : Ffk w p s v st q now) (x : En) :
    Calls Try.prog 22 #[.pointer (some ⟨p, 0, none⟩), enV x] w fun e w' => e = .returned (behV (fitB st q now x) x.kind) ∧ Below w.heap.size w w' := by
  obtain ⟨xk, xt, xn⟩ := x
  unfold enV
  simp only
  have hz := h.below (w' := w.alloc (.cells #[.int .i64 xk, .int .i64 xt, .int .i64 xn] 38)) ((Below.refl _ _).alloc (Nat.le_refl _) _)
  have hNb := Nb.made 38 w xk xt xn
  have HEND := Lib.hid (fun x => boxE (w := w) (x := x) (t := 38) (k := xk) (h := xt) (n := xn))
  have HF : Hid (fitB st q now ⟨xk, xt, xn⟩ = (decide (0 ≤ xt ∧ xt < (st.length : Int)) && (decide (now ≤ xn) && (mvB xk && (decide (nth st xt.toNat = mvF xk) && (!decide (xk = 3) || nextB st q xt)))))) := Lib.hid rfl
  generalize fitB st q now ⟨xk, xt, xn⟩ = r at *
  have HM := Lib.hid (fMove xk)
  by_cases hT : 0 ≤ xt ∧ xt < (st.length : Int)
  · have HT := Lib.hid (fun m => fThread (hz.drewN m) xt)
    rw [decide_eq_true hT] at HT
    rw [decide_eq_true hT] at HF
    obtain ⟨k, rfl⟩ : ∃ k : Nat, xt = (k : Int) := ⟨xt.toNat, by omega⟩
    have hk : k < st.length := by omega
    rw [Int.toNat_natCast] at HF
    have HCZ := Lib.hid (hz.its.at_ hk)
    obtain ⟨h0, h1⟩ := hT
    by_cases hN : now ≤ xn
    · rw [decide_eq_true hN] at HF
      have dN : decide (xn < now) = false := by simp; omega
      cases hB : mvB xk with
      | false =>
        have HR : Hid (r = false) := Lib.hid (by rw [HF.out, hB]; rfl)
        rw [hB] at HM
        clear HF h hB hN
        go_enter Try.func22, Try.ntmps22
        go_upto_region 1 with fail
        generalize w.alloc (.cells #[.int .i64 xk, .int .i64 (k : Int), .int .i64 xn] 38) = z at *
        generalize w.heap.size = b at *
        obtain ⟨e0, e1, e2⟩ := hNb.cells
        obtain ⟨f0, f1, f2⟩ := hz.cells
        simp only at e0 e1 e2
        clear hNb hz
        go_quiet ((go_at_call 26; exact Calls.quiet_of_same (HT.out _)))
        have hbu : Below z.heap.size z (z.drewN nq) := below_drewN (Below.refl _ z) nq
        have e0u : (z.drewN nq).cell? ⟨b, 0, none⟩ = some (.int .i64 xk) := e0
        have e1u : (z.drewN nq).cell? ⟨b, 1, none⟩ = some (.int .i64 (k : Int)) := e1
        have f0u : (z.drewN nq).cell? ⟨p, 0, none⟩ = some (.slice (some ⟨s, 0, none⟩) st.length st.length) := f0
        have hcu : (z.drewN nq).cell? ⟨s, k, none⟩ = some (.int .i64 (nth st k)) := HCZ.out
        generalize z.drewN nq = u at *
        clear e0 e1 e2 f0 f1 f2 HCZ HT
        go_wp2_with fail
        refine (HM.out _).mono ?_
        rintro e w' ⟨rfl, rfl⟩
        go_wp2
        go_quiet (fail)
        have hbu2 : Below z.heap.size z (w'.drewN nq) := below_drewN hbu nq
        have e0v : (w'.drewN nq).cell? ⟨b, 0, none⟩ = some (.int .i64 xk) := e0u
        have e1v : (w'.drewN nq).cell? ⟨b, 1, none⟩ = some (.int .i64 (k : Int)) := e1u
        generalize w'.drewN nq = u2 at *
        clear e0u e1u f0u hcu hbu
        go_wp2
        go_ret2
        exact ⟨by rw [HR.out]; rfl, HEND.out _ hbu2⟩
      | true =>
        rw [hB] at HM HF
        have HX := Lib.hid (fun W (hW : Up w W) => fNext (h.below hW) (k : Int))
        have HV := Lib.hid (fun y (e : r = true) => (show behV r y = .tuple #[.int .i64 (mvT y), .bool true] by rw [e]; rfl))
        generalize mvF xk = mf at *
        generalize hmt : mvT xk = mt at *
        have HMT := Lib.hid hmt
        clear hmt
        generalize hy : nth st k = y at *
        clear hy
        by_cases hS : y = mf
        · have dS : (y != mf) = false := by simpa using hS
          rw [decide_eq_true hS] at HF
          cases hX : nextB st q (k : Int) with
          | false =>
            by_cases h3 : xk = 3
            · have HR : Hid (r = false) := Lib.hid (by rw [HF.out, hX]; simp [h3])
              have d3 : (xk == 3) = true := by simpa using h3
              rw [hX] at HX
              clear HF h hN HV hS hX h3
              go_enter Try.func22, Try.ntmps22
              go_upto_region 1 with fail
              generalize w.alloc (.cells #[.int .i64 xk, .int .i64 (k : Int), .int .i64 xn] 38) = z at *
              generalize w.heap.size = b at *
              obtain ⟨e0, e1, e2⟩ := hNb.cells
              obtain ⟨f0, f1, f2⟩ := hz.cells
              simp only at e0 e1 e2
              clear hNb hz
              go_quiet ((go_at_call 26; exact Calls.quiet_of_same (HT.out _)))
              have hbu : Below z.heap.size z (z.drewN nq) := below_drewN (Below.refl _ z) nq
              have e0u : (z.drewN nq).cell? ⟨b, 0, none⟩ = some (.int .i64 xk) := e0
              have e1u : (z.drewN nq).cell? ⟨b, 1, none⟩ = some (.int .i64 (k : Int)) := e1
              have f0u : (z.drewN nq).cell? ⟨p, 0, none⟩ = some (.slice (some ⟨s, 0, none⟩) st.length st.length) := f0
              have hcu : (z.drewN nq).cell? ⟨s, k, none⟩ = some (.int .i64 (y)) := HCZ.out
              generalize z.drewN nq = u at *
              clear e0 e1 e2 f0 f1 f2 HCZ HT
              go_wp2_with fail
              refine (HM.out _).mono ?_
              rintro e w' ⟨rfl, rfl⟩
              go_wp2
              go_quiet (fail)
              have hbu2 : Below z.heap.size z (w'.drewN nq) := below_drewN hbu nq
              have e0v : (w'.drewN nq).cell? ⟨b, 0, none⟩ = some (.int .i64 xk) := e0u
              have e1v : (w'.drewN nq).cell? ⟨b, 1, none⟩ = some (.int .i64 (k : Int)) := e1u
              generalize w'.drewN nq = u2 at *
              clear e0u e1u f0u hcu hbu
              have HXu := Lib.hid (HX.out u2 (HEND.out _ hbu2))
              clear HX
              go_wp2_with fail
              refine HXu.out.mono ?_
              rintro e w'' ⟨rfl, rfl⟩
              go_wp2
              go_ret2
              exact ⟨by rw [HR.out]; rfl, HEND.out _ hbu2⟩
            · have HR : Hid (r = true) := Lib.hid (by rw [HF.out]; simp [h3])
              have d3 : (xk == 3) = false := by simpa using h3
              clear HF h hN hS hX h3 HX
              go_enter Try.func22, Try.ntmps22
              go_upto_region 1 with fail
              generalize w.alloc (.cells #[.int .i64 xk, .int .i64 (k : Int), .int .i64 xn] 38) = z at *
              generalize w.heap.size = b at *
              obtain ⟨e0, e1, e2⟩ := hNb.cells
              obtain ⟨f0, f1, f2⟩ := hz.cells
              simp only at e0 e1 e2
              clear hNb hz
              go_quiet ((go_at_call 26; exact Calls.quiet_of_same (HT.out _)))
              have hbu : Below z.heap.size z (z.drewN nq) := below_drewN (Below.refl _ z) nq
              have e0u : (z.drewN nq).cell? ⟨b, 0, none⟩ = some (.int .i64 xk) := e0
              have e1u : (z.drewN nq).cell? ⟨b, 1, none⟩ = some (.int .i64 (k : Int)) := e1
              have f0u : (z.drewN nq).cell? ⟨p, 0, none⟩ = some (.slice (some ⟨s, 0, none⟩) st.length st.length) := f0
              have hcu : (z.drewN nq).cell? ⟨s, k, none⟩ = some (.int .i64 (y)) := HCZ.out
              generalize z.drewN nq = u at *
              clear e0 e1 e2 f0 f1 f2 HCZ HT
              go_wp2_with fail
              refine (HM.out _).mono ?_
              rintro e w' ⟨rfl, rfl⟩
              go_wp2
              go_quiet (fail)
              have hbu2 : Below z.heap.size z (w'.drewN nq) := below_drewN hbu nq
              have e0v : (w'.drewN nq).cell? ⟨b, 0, none⟩ = some (.int .i64 xk) := e0u
              have e1v : (w'.drewN nq).cell? ⟨b, 1, none⟩ = some (.int .i64 (k : Int)) := e1u
              generalize w'.drewN nq = u2 at *
              clear e0u e1u f0u hcu hbu
              go_wp2
              go_ret2
              exact ⟨by rw [HV.out _ HR.out, HMT.out]; rfl, HEND.out _ hbu2⟩
          | true =>
            have HR : Hid (r = true) := Lib.hid (by rw [HF.out, hX]; simp)
            rw [hX] at HX
            by_cases h3 : xk = 3
            · have d3 : (xk == 3) = true := by simpa using h3
              clear HF h hN hS hX h3
              go_enter Try.func22, Try.ntmps22
              go_upto_region 1 with fail
              generalize w.alloc (.cells #[.int .i64 xk, .int .i64 (k : Int), .int .i64 xn] 38) = z at *
              generalize w.heap.size = b at *
              obtain ⟨e0, e1, e2⟩ := hNb.cells
              obtain ⟨f0, f1, f2⟩ := hz.cells
              simp only at e0 e1 e2
              clear hNb hz
              go_quiet ((go_at_call 26; exact Calls.quiet_of_same (HT.out _)))
              have hbu : Below z.heap.size z (z.drewN nq) := below_drewN (Below.refl _ z) nq
              have e0u : (z.drewN nq).cell? ⟨b, 0, none⟩ = some (.int .i64 xk) := e0
              have e1u : (z.drewN nq).cell? ⟨b, 1, none⟩ = some (.int .i64 (k : Int)) := e1
              have f0u : (z.drewN nq).cell? ⟨p, 0, none⟩ = some (.slice (some ⟨s, 0, none⟩) st.length st.length) := f0
              have hcu : (z.drewN nq).cell? ⟨s, k, none⟩ = some (.int .i64 (y)) := HCZ.out
              generalize z.drewN nq = u at *
              clear e0 e1 e2 f0 f1 f2 HCZ HT
              go_wp2_with fail
              refine (HM.out _).mono ?_
              rintro e w' ⟨rfl, rfl⟩
              go_wp2
              go_quiet (fail)
              have hbu2 : Below z.heap.size z (w'.drewN nq) := below_drewN hbu nq
              have e0v : (w'.drewN nq).cell? ⟨b, 0, none⟩ = some (.int .i64 xk) := e0u
              have e1v : (w'.drewN nq).cell? ⟨b, 1, none⟩ = some (.int .i64 (k : Int)) := e1u
              generalize w'.drewN nq = u2 at *
              clear e0u e1u f0u hcu hbu
              have HXu := Lib.hid (HX.out u2 (HEND.out _ hbu2))
              clear HX
              go_wp2_with fail
              refine HXu.out.mono ?_
              rintro e w'' ⟨rfl, rfl⟩
              go_wp2
              go_ret2
              exact ⟨by rw [HV.out _ HR.out, HMT.out]; rfl, HEND.out _ hbu2⟩
            · have d3 : (xk == 3) = false := by simpa using h3
              clear HF h hN hS hX h3 HX
              go_enter Try.func22, Try.ntmps22
              go_upto_region 1 with fail
              generalize w.alloc (.cells #[.int .i64 xk, .int .i64 (k : Int), .int .i64 xn] 38) = z at *
              generalize w.heap.size = b at *
              obtain ⟨e0, e1, e2⟩ := hNb.cells
              obtain ⟨f0, f1, f2⟩ := hz.cells
              simp only at e0 e1 e2
              clear hNb hz
              go_quiet ((go_at_call 26; exact Calls.quiet_of_same (HT.out _)))
              have hbu : Below z.heap.size z (z.drewN nq) := below_drewN (Below.refl _ z) nq
              have e0u : (z.drewN nq).cell? ⟨b, 0, none⟩ = some (.int .i64 xk) := e0
              have e1u : (z.drewN nq).cell? ⟨b, 1, none⟩ = some (.int .i64 (k : Int)) := e1
              have f0u : (z.drewN nq).cell? ⟨p, 0, none⟩ = some (.slice (some ⟨s, 0, none⟩) st.length st.length) := f0
              have hcu : (z.drewN nq).cell? ⟨s, k, none⟩ = some (.int .i64 (y)) := HCZ.out
              generalize z.drewN nq = u at *
              clear e0 e1 e2 f0 f1 f2 HCZ HT
              go_wp2_with fail
              refine (HM.out _).mono ?_
              rintro e w' ⟨rfl, rfl⟩
              go_wp2
              go_quiet (fail)
              have hbu2 : Below z.heap.size z (w'.drewN nq) := below_drewN hbu nq
              have e0v : (w'.drewN nq).cell? ⟨b, 0, none⟩ = some (.int .i64 xk) := e0u
              have e1v : (w'.drewN nq).cell? ⟨b, 1, none⟩ = some (.int .i64 (k : Int)) := e1u
              generalize w'.drewN nq = u2 at *
              clear e0u e1u f0u hcu hbu
              go_wp2
              go_ret2
              exact ⟨by rw [HV.out _ HR.out, HMT.out]; rfl, HEND.out _ hbu2⟩
        · have HR : Hid (r = false) := Lib.hid (by rw [HF.out, decide_eq_false hS]; rfl)
          have dS : (y != mf) = true := by simpa using hS
          clear HF h hB hN HX HV hS
          go_enter Try.func22, Try.ntmps22
          go_upto_region 1 with fail
          generalize w.alloc (.cells #[.int .i64 xk, .int .i64 (k : Int), .int .i64 xn] 38) = z at *
          generalize w.heap.size = b at *
          obtain ⟨e0, e1, e2⟩ := hNb.cells
          obtain ⟨f0, f1, f2⟩ := hz.cells
          simp only at e0 e1 e2
          clear hNb hz
          go_quiet ((go_at_call 26; exact Calls.quiet_of_same (HT.out _)))
          have hbu : Below z.heap.size z (z.drewN nq) := below_drewN (Below.refl _ z) nq
          have e0u : (z.drewN nq).cell? ⟨b, 0, none⟩ = some (.int .i64 xk) := e0
          have e1u : (z.drewN nq).cell? ⟨b, 1, none⟩ = some (.int .i64 (k : Int)) := e1
          have f0u : (z.drewN nq).cell? ⟨p, 0, none⟩ = some (.slice (some ⟨s, 0, none⟩) st.length st.length) := f0
          have hcu : (z.drewN nq).cell? ⟨s, k, none⟩ = some (.int .i64 (y)) := HCZ.out
          generalize z.drewN nq = u at *
          clear e0 e1 e2 f0 f1 f2 HCZ HT
          go_wp2_with fail
          refine (HM.out _).mono ?_
          rintro e w' ⟨rfl, rfl⟩
          go_wp2
          go_quiet (fail)
          have hbu2 : Below z.heap.size z (w'.drewN nq) := below_drewN hbu nq
          have e0v : (w'.drewN nq).cell? ⟨b, 0, none⟩ = some (.int .i64 xk) := e0u
          have e1v : (w'.drewN nq).cell? ⟨b, 1, none⟩ = some (.int .i64 (k : Int)) := e1u
          generalize w'.drewN nq = u2 at *
          clear e0u e1u f0u hcu hbu
          go_wp2
          go_ret2
          exact ⟨by rw [HR.out]; rfl, HEND.out _ hbu2⟩
    · have HR : Hid (r = false) := Lib.hid (by rw [HF.out, decide_eq_false hN]; rfl)
      have dN : decide (xn < now) = true := by simp; omega
      clear HF h HM hN hk h0 h1 HCZ
      go_enter Try.func22, Try.ntmps22
      go_upto_region 1 with fail
      generalize w.alloc (.cells #[.int .i64 xk, .int .i64 (k : Int), .int .i64 xn] 38) = z at *
      generalize w.heap.size = b at *
      obtain ⟨e0, e1, e2⟩ := hNb.cells
      obtain ⟨f0, f1, f2⟩ := hz.cells
      simp only at e0 e1 e2
      clear hNb hz
      go_quiet ((go_at_call 26; exact Calls.quiet_of_same (HT.out _)))
      go_wp2
      go_ret2
      exact ⟨by rw [HR.out]; rfl, HEND.out _ (below_drewN (Below.refl _ z) nq)⟩
  · have HR : Hid (r = false) := Lib.hid (by rw [HF.out, decide_eq_false hT]; rfl)
    have HT := Lib.hid (fun m => fThread (hz.drewN m) xt)
    rw [decide_eq_false hT] at HT
    clear HF h HM hT
    go_enter Try.func22, Try.ntmps22
    go_upto_region 1 with fail
    generalize w.alloc (.cells #[.int .i64 xk, .int .i64 xt, .int .i64 xn] 38) = z at *
    generalize w.heap.size = b at *
    obtain ⟨e0, e1, e2⟩ := hNb.cells
    obtain ⟨f0, f1, f2⟩ := hz.cells
    simp only at e0 e1 e2
    clear hNb hz
    go_quiet ((go_at_call 26; exact Calls.quiet_of_same (HT.out _)))
    go_wp2
    go_ret2
    exact ⟨by rw [HR.out]; rfl, HEND.out _ (below_drewN (Below.refl _ z) nq)⟩
end Go.Proofs.Ytipekdeghelpaaa
