/- Layer 12: Text. -/
import Derived.Test.YtjhdpolaapbihaaDoorTrE
import Derived.Test.YtjhdpolaapbihaaDoorTrB
import Derived.Test.YtjhdpolaapbihaaDoorBld
namespace Go.Proofs.YtjhdpolaapbihaaDoor
open Go.ChangeShapes Go.WideShapes Go.ChangeAt Go.RowKit Go.Shelf
set_option linter.unusedVariables false

/-- What Text answers. -/
def textV (l : List En) : Value := if l.all fitsB = true then .tuple #[bs (textT l), .int .i64 0] else .tuple #[bs [], .int .i64 8]
theorem all_take {l : List En} {k : Nat} (h : k < l.length) : (l.take (k + 1)).all fitsB = ((l.take k).all fitsB && fitsB l[k]) := by
  rw [take_at l k h, List.all_append]
  simp
theorem all_no {l : List En} {k : Nat} (h : k < l.length) (hn : fitsB l[k] = false) : l.all fitsB = false := by
  rw [Bool.eq_false_iff]
  intro e
  rw [List.all_eq_true] at e
  rw [e _ (List.getElem_mem h)] at hn
  cases hn
theorem all_len {l : List En} (h : l.all fitsB = true) : (textT l).length ≤ l.length * 81 := textT_len l fun x hx => fits_iff.1 (List.all_eq_true.1 h x hx)

set_option maxRecDepth 100000 in
set_option maxHeartbeats 2000000 in
theorem cTextL (l : List En) (a : Option Addr) (cap : Nat) (w : World) (S : EnS w a l) (hlen : l.length ≤ 10000) (L : Lt w) :
    Calls Tryd.prog 8 #[.slice a l.length cap] w fun e w' => e = .returned (textV l) ∧ Below w.heap.size w w' := by
  have HS := Lib.hid (fun W (hW : Below w.heap.size w W) => S.below hW)
  have HLn := Lib.hid (fun (x : En) W (hW : Below w.heap.size w W) => cLine x W (L.below hW))
  have HW := Lib.hid lWrite
  have HST := Lib.hid lString
  have HX : Hid (textV l = if l.all fitsB = true then .tuple #[bs (textT l), .int .i64 0] else .tuple #[bs [], .int .i64 8]) := Lib.hid rfl
  have HA := Lib.hid (fun k (h : k < l.length) => all_take h)
  have HNo := Lib.hid (fun k (h : k < l.length) hn => all_no (l := l) (k := k) h hn)
  have HT := Lib.hid (fun k (h : k < l.length) => show textT (l.take (k + 1)) = textT (l.take k) ++ (lineT l[k] ++ [10]) by rw [take_at l k h, textT_snoc])
  have HE : Hid (l.take l.length = l) := Lib.hid (by rw [List.take_length])
  have HK := Lib.hid (fun k => all_len (l := l.take k))
  have HLK := Lib.hid (fun (k : Nat) (h : k ≤ l.length) => show (l.take k).length = k by simp; omega)
  generalize textV l = r at *
  clear L S
  have B0 := Lib.IsBuilderF.of (Lib.fresh_isBuilder 55 5 w)
  have yb : Below w.heap.size w (w.alloc (.cells #[.pointer none, .slice none 0 0] 55)) := (Below.refl _ _).alloc (Nat.le_refl _) _
  go_enter Tryd.func8, Tryd.ntmps8
  go_upto_region 2 with fail
  generalize w.alloc (.cells #[.pointer none, .slice none 0 0] 55) = Y at *
  go_wp2
  go_loopw [11] (fun q wr => ∃ k : Nat, q = .int .i64 k ∧ k ≤ l.length ∧ Below w.heap.size w wr ∧ Lib.IsBuilderF 55 5 w.heap.size w.heap.size (Lib.byteCells (textT (l.take k))) wr ∧ Hid ((l.take k).all fitsB = true)) (fun q _ => l.length - (intOf q).toNat)
  case atStart => exact ⟨0, rfl, Nat.zero_le _, yb, B0, Lib.hid (by simp)⟩
  case round =>
    obtain ⟨k, rfl, hk, hb, Bd, HF⟩ := hrel
    clear yb B0
    by_cases hlt : k < l.length
    · have hki : (k : Int) < l.length := by omega
      obtain ⟨g, off, rfl, hgl, c0, c1, c2⟩ := (HS.out wr hb).at_ (List.getElem?_eq_getElem hlt)
      have HA2 := Lib.hid (HA.out k hlt)
      rw [HF.out, Bool.true_and] at HA2
      have HN2 := Lib.hid (HNo.out k hlt)
      have HT2 := Lib.hid (HT.out k hlt)
      have HKl : Hid ((textT (l.take k)).length ≤ k * 81) := Lib.hid (by have := HK.out k HF.out; rw [HLK.out k hk] at this; exact this)
      have HL2 := Lib.hid (fun W hW => HLn.out l[k] W hW)
      have Bd2 := bld_below Bd ((Below.refl _ _).alloc (Nat.le_refl _) (.cells #[.int .i64 l[k].kind, .int .i64 l[k].th, .int .i64 l[k].now] 33))
      have hb2 := hb.alloc (o := .cells #[.int .i64 l[k].kind, .int .i64 l[k].th, .int .i64 l[k].now] 33) hb.size
      have hNb := Nb.made 33 wr l[k].kind l[k].th l[k].now
      generalize l[k] = x at *
      generalize textT (l.take k) = t1 at *
      unfold lineV at HL2
      generalize hq : fitsB x = fx at *
      have HFit : Hid (fx = true → (lineT x).length ≤ 80) := Lib.hid (fun e => line_len (fits_iff.1 (by rw [hq, e])))
      generalize lineT x = tx at *
      clear hq
      obtain ⟨xk, xt, xn⟩ := x
      unfold enV at HL2
      simp only at hb2 Bd2 hNb c0 c1 c2 HL2
      go_upto_region 5 with fail
      clear Bd hb c0 c1 c2 HF
      generalize wr.alloc (.cells #[.int .i64 xk, .int .i64 xt, .int .i64 xn] 33) = z at *
      generalize wr.heap.size = p at *
      obtain ⟨e0, e1, e2⟩ := hNb.cells
      simp only at e0 e1 e2
      cases fx with
      | false =>
        rw [if_neg (by simp)] at HL2
        have HR : Hid (r = .tuple #[bs [], .int .i64 8]) := Lib.hid (by rw [HX.out, HN2.out rfl, if_neg (by simp)])
        unfold bs at HL2
        go_wp2_with fail
        refine (HL2.out z hb2).mono ?_
        rintro e u ⟨rfl, hu⟩
        have hbu := hb2.trans (hu.mono hb2.size)
        go_wp2
        go_ret2
        exact ⟨by rw [HR.out]; rfl, hbu⟩
      | true =>
        rw [if_pos rfl] at HL2
        have hfl := HFit.out rfl
        unfold bs at HL2
        go_wp2_with fail
        refine (HL2.out z hb2).mono ?_
        rintro e u ⟨rfl, hu⟩
        replace Bd2 := bld_below Bd2 hu
        replace hb2 := hb2.trans (hu.mono hb2.size)
        clear hu hNb e0 e1 e2
        go_wp2_with fail
        refine (HW.out w.heap.size w.heap.size _ ⟨tx.toArray⟩ u Bd2 (by have := HKl.out; show (Lib.byteCells t1).length + tx.toArray.size ≤ _; simp [Lib.byteCells]; omega) hb2.size).mono ?_
        rintro e z2 ⟨rfl, Be, hz, ho⟩
        rw [cells_str] at Be
        replace Bd2 := Or.inr (a := Lib.BuilderAtF 55 5 w.heap.size w.heap.size (.pointer none) (Lib.byteCells (t1 ++ tx)) z2) Be
        clear Be ho
        replace hb2 := hb2.trans hz
        clear hz
        go_wp2_with fail
        refine (HW.out w.heap.size w.heap.size _ ⟨([10] : List UInt8).toArray⟩ z2 Bd2 (by have := HKl.out; show (Lib.byteCells (t1 ++ tx)).length + 1 ≤ _; simp [Lib.byteCells]; omega) hb2.size).mono ?_
        rintro e z3 ⟨rfl, Be, hz, ho⟩
        rw [cells_str, List.append_assoc, ← HT2.out] at Be
        replace hb2 := hb2.trans hz
        replace Bd2 := Or.inr (a := Lib.BuilderAtF 55 5 w.heap.size w.heap.size (.pointer none) (Lib.byteCells (textT (l.take (k + 1)))) z3) Be
        clear Be ho hz HL2
        go_wp2
        go_roundw
        case rel => exact ⟨k + 1, by go_num, by omega, hb2, Bd2, HA2⟩
        case measure => simp [intOf]; omega
    · obtain rfl : k = l.length := by omega
      rw [HE.out] at HF Bd
      have HR : Hid (r = .tuple #[bs (textT l), .int .i64 0]) := Lib.hid (by rw [HX.out, if_pos HF.out])
      clear HX HA HNo HT HK HLK HW
      go_wp2_with fail
      refine (HST.out w.heap.size w.heap.size (textT l) wr Bd hb.size).mono ?_
      rintro e z ⟨rfl, _, hz, _⟩
      replace hb := hb.trans hz
      go_wp2
      go_ret2
      exact ⟨by rw [HR.out]; rfl, hb⟩
end Go.Proofs.YtjhdpolaapbihaaDoor
