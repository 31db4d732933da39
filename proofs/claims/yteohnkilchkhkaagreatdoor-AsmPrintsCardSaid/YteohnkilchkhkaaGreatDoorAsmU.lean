/- asm.Print. -/
import Derived.Test.YteohnkilchkhkaaGreatDoorAsmT
import Derived.Test.YteohnkilchkhkaaGreatDoorBld
namespace Go.Proofs.YteohnkilchkhkaaGreatDoor
open Go.ChangeShapes Go.WideShapes Go.ChangeAt Go.RowKit Go.Shelf
set_option linter.unusedVariables false

theorem bld_below {T e : TypeId} {B b : Nat} {l : List Value} {w w' : World} (h : Lib.IsBuilderF T e B b l w) (hb : Below w.heap.size w w') : Lib.IsBuilderF T e B b l w' := by
  have one : ∀ p, Lib.BuilderAtF T e B b p l w → Lib.BuilderAtF T e B b p l w' := by
    rintro p ⟨h0, v, h1, h2, h3⟩
    refine ⟨h0, v, ?_, ⟨h2.1, ?_⟩, h3⟩
    · rw [hb.block b (Array.getElem?_eq_some_iff.1 h1).1]; exact h1
    · rcases h2.2 with hn | ⟨g, cap, cur, fz, e1, e2, e3, e4⟩
      · exact .inl hn
      · exact .inr ⟨g, cap, cur, fz, e1, e2, by rw [hb.block g (Array.getElem?_eq_some_iff.1 e3).1]; exact e3, e4⟩
  exact h.elim (fun x => .inl (one _ x)) (fun x => .inr (one _ x))

theorem Bk.others {e t : TypeId} {b g : Nat} {cs : Array Value} {w w' : World} (h : Bk w g t cs) (hk : Lib.OthersKept e (some b) w w') (hg : g ≠ b) (ht : t ≠ e) : Bk w' g t cs :=
  hk g _ h (by simpa using hg) (by intro c fz he; injection he with _ he; exact ht he)

/-- The text of the first k instructions. -/
def txF (c : Prg) (k : Nat) : List UInt8 := (linesFrom c (c.l.take k) 0).flatMap fun s => s ++ [10]

theorem txF_step (c : Prg) (k : Nat) (h : k < c.l.length) : txF c (k + 1) = txF c k ++ labsTx c k ++ insLine c c.l[k] ++ [10] := by
  have e : c.l.take (k + 1) = c.l.take k ++ [c.l[k]] := by simp
  have e2 : (0 : Int) + ((c.l.take k).length : Int) = k := by simp; omega
  unfold txF labsTx
  rw [e, linesFrom_snoc, e2]
  simp [List.flatMap_append, List.flatMap_map]

theorem labsTx_len (c : Prg) {p : Int} (p0 : 0 ≤ p) (p1 : p < 1000000) : (labsTx c p).length ≤ 100 := by
  have h := label_len c p0 p1
  have h1 : lockW.length = 4 := rfl
  have h2 : unlockW.length = 6 := rfl
  unfold labsTx labsAt
  split <;> split <;> split <;> simp [h1, h2] <;> omega

theorem insLine_len (c : Prg) (i : Ins) (hi : i.Wf) (hp : goesB i = true → 0 ≤ i.pl ∧ i.pl < 1000000) : (insLine c i).length ≤ 400 := by
  have h := text_len i hi
  unfold insLine
  split
  · rename_i hg
    have h2 := label_len c (hp hg).1 (hp hg).2
    have h3 : (headI i).length ≤ 300 := by
      rw [← headW_text i hg (hp hg).1]
      unfold headW
      simp; omega
    rw [List.length_append]
    omega
  · omega

def printV (c : Prg) : Value := if prgB c = true then .tuple #[bs (printL c), .int .i64 0] else .tuple #[bs [], .int .i64 1]

set_option maxHeartbeats 2000000 in
theorem cAsmPrint (c : Prg) (v : Value) (w : World) (hv : Pv w v c) (hw : ∀ i ∈ c.l, i.Wf) (L : Lb w) :
    Calls Tryz.prog 12 #[v] w fun e w' => e = .returned (printV c) ∧ Below w.heap.size w w' := by
  have hv2 := hv
  have HV := Lib.hid (fun W (hW : Below w.heap.size w W) => hv2.below hW)
  obtain ⟨a, ca, rfl, hc1, hc2, _, hsl⟩ := hv
  have HSL := Lib.hid (fun W (hW : Below w.heap.size w W) => hsl.below hW)
  clear hsl
  have k1 := Bk.made w 25 #[.slice a c.l.length ca, .int .i64 c.lo, .int .i64 c.un]
  have b0 : Below w.heap.size w (w.alloc (.cells #[.slice a c.l.length ca, .int .i64 c.lo, .int .i64 c.un] 25)) := (Below.refl _ _).alloc (Nat.le_refl _) _
  have HR := Lib.hid (fun W (hW : Below w.heap.size w W) => cAsmRight c _ W (HV.out W hW) hw)
  have HLB := Lib.hid (fun W (hW : Below w.heap.size w W) => L.below hW)
  have HX : Hid (printV c = if prgB c = true then .tuple #[bs (printL c), .int .i64 0] else .tuple #[bs [], .int .i64 1]) := Lib.hid rfl
  generalize printV c = r at *
  clear L hv2
  go_enter Tryz.func12, Tryz.ntmps12
  go_upto_region 1 with fail
  generalize w.alloc (.cells #[.slice a c.l.length ca, .int .i64 c.lo, .int .i64 c.un] 25) = x at *
  obtain ⟨x0, x1, x2⟩ : x.cell? ⟨w.heap.size, 0, none⟩ = some (.slice a c.l.length ca) ∧ x.cell? ⟨w.heap.size, 1, none⟩ = some (.int .i64 c.lo) ∧ x.cell? ⟨w.heap.size, 2, none⟩ = some (.int .i64 c.un) := ⟨k1.cell 0, k1.cell 1, k1.cell 2⟩
  go_wp2_with fail
  refine (HR.out x b0).mono ?_
  rintro e y ⟨rfl, hy⟩
  replace k1 : Bk y _ _ _ := (hy.block _ k1.lt).trans k1
  replace b0 := b0.trans (hy.mono b0.size)
  clear x0 x1 x2 hy HR
  obtain ⟨x0, x1, x2⟩ : y.cell? ⟨w.heap.size, 0, none⟩ = some (.slice a c.l.length ca) ∧ y.cell? ⟨w.heap.size, 1, none⟩ = some (.int .i64 c.lo) ∧ y.cell? ⟨w.heap.size, 2, none⟩ = some (.int .i64 c.un) := ⟨k1.cell 0, k1.cell 1, k1.cell 2⟩
  cases hpr : prgB c with
  | false =>
    have HQ : Hid (r = .tuple #[bs [], .int .i64 1]) := Lib.hid (by rw [HX.out, hpr]; simp)
    clear HX hpr
    go_wp2
    go_ret2
    exact ⟨by rw [HQ.out]; rfl, b0⟩
  | true =>
    have HQ : Hid (r = .tuple #[bs (printL c), .int .i64 0]) := Lib.hid (by rw [HX.out, hpr]; simp)
    have hpr2 : c.l.length ≤ 64 ∧ ∀ i ∈ c.l, rightB i c.l.length = true := by
      unfold prgB at hpr
      simp only [Bool.and_eq_true, decide_eq_true_eq, List.all_eq_true] at hpr
      exact ⟨hpr.2.1, hpr.2.2.2.2.2.2⟩
    obtain ⟨hl64, hri⟩ := hpr2
    have hpl : ∀ i ∈ c.l, goesB i = true → 0 ≤ i.pl ∧ i.pl < 1000000 := fun i hi hg => by
      have := goes_pl (hri i hi) hg
      omega
    have HT := Lib.hid (fun W (hW : Below w.heap.size w W) (i : Ins) (hi : i ∈ c.l) => cOwnText c _ W (HV.out W hW) i (hw i hi) (right_more (by omega) (hri i hi)) (hpl i hi) (HLB.out W hW))
    have HLA := Lib.hid (fun W (hW : Below w.heap.size w W) (k : Nat) (hk : k < c.l.length) => cOwnLabels c _ W (HV.out W hW) (by omega) (fun i hi => place_goes (hri i hi)) (k : Int) (by omega) (by omega) (HLB.out W hW))
    have HS := Lib.hid (fun k h => txF_step c k h)
    have HN := Lib.hid (fun (k : Nat) (hk : k < c.l.length) => labsTx_len c (p := (k : Int)) (by omega) (by omega))
    have HM := Lib.hid (fun i hi => insLine_len c i (hw i hi) (hpl i hi))
    have HE : Hid (txF c c.l.length = printL c) := Lib.hid (by unfold txF printL; rw [List.take_length])
    have HW := Lib.hid lWrite
    have HST := Lib.hid lString
    clear HX hpr hri hpl
    go_upto_region 4 with fail
    have B0 := Lib.IsBuilderF.of (Lib.fresh_isBuilder 71 5 y)
    have yb : Below y.heap.size y (y.alloc (.cells #[.pointer none, .slice none 0 0] 71)) := (Below.refl _ _).alloc (Nat.le_refl _) _
    have klt := k1.lt
    have ky := k1
    replace k1 := k1.alloc (.cells #[.pointer none, .slice none 0 0] 71)
    generalize y.alloc (.cells #[.pointer none, .slice none 0 0] 71) = Y at *
    clear x0 x1 x2
    obtain ⟨x0, x1, x2⟩ : Y.cell? ⟨w.heap.size, 0, none⟩ = some (.slice a c.l.length ca) ∧ Y.cell? ⟨w.heap.size, 1, none⟩ = some (.int .i64 c.lo) ∧ Y.cell? ⟨w.heap.size, 2, none⟩ = some (.int .i64 c.un) := ⟨k1.cell 0, k1.cell 1, k1.cell 2⟩
    go_wp2
    go_loopw [13] (fun q wr => ∃ k : Nat, q = .int .i64 k ∧ k ≤ c.l.length ∧ Below y.heap.size y wr ∧ Lib.IsBuilderF 71 5 y.heap.size y.heap.size (Lib.byteCells (txF c k)) wr ∧ Hid ((txF c k).length ≤ k * 1000)) (fun q _ => c.l.length - (intOf q).toNat)
    case atStart => exact ⟨0, rfl, Nat.zero_le _, yb, B0, Lib.hid (by unfold txF; simp [linesFrom])⟩
    case round =>
      obtain ⟨k, rfl, hk, hb, Bd, HB⟩ := hrel
      have hbw := b0.trans (hb.mono b0.size)
      clear x0 x1 x2 k1 B0 yb
      by_cases hlt : k < c.l.length
      · have hki : (k : Int) < c.l.length := by omega
        have hge := List.getElem?_eq_getElem hlt
        obtain ⟨g, off, rfl, hgl, e0, e1, e2, e3, e4, e5, e6, e7⟩ := (HSL.out wr hbw).at_ hge
        have hmem : c.l[k] ∈ c.l := List.getElem_mem hlt
        have HT2 := Lib.hid (fun W hW => HT.out W hW _ hmem)
        have HLA2 := Lib.hid (fun W hW => HLA.out W hW k hlt)
        have HS2 := Lib.hid (HS.out k hlt)
        have HN2 := Lib.hid (HN.out k hlt)
        have HM2 := Lib.hid (HM.out _ hmem)
        clear hge hmem
        generalize c.l[k] = i at *
        generalize insLine c i = t3 at *
        generalize labsTx c k = t2 at *
        generalize ht4 : txF c (k + 1) = t4 at *
        generalize txF c k = t1 at *
        obtain ⟨op, d, s, t, u, a', k', pl⟩ := i
        unfold iv at HT2
        simp only at e0 e1 e2 e3 e4 e5 e6 e7 HT2
        go_upto_region 7 with fail
        have m2 := Ib.made wr op d s t u a' k' pl
        have hq : wr.heap.size ≠ y.heap.size := by
          have := Bd.elim (fun x => x.lt) (fun x => x.lt)
          omega
        replace Bd := bld_below Bd ((Below.refl _ _).alloc (Nat.le_refl _) (.cells #[.int .i64 op, .int .i64 d, .int .i64 s, .int .i64 t, .int .i64 u, .int .i64 a', .int .u32 k', .int .i64 pl] 47))
        replace hb := hb.alloc (o := .cells #[.int .i64 op, .int .i64 d, .int .i64 s, .int .i64 t, .int .i64 u, .int .i64 a', .int .u32 k', .int .i64 pl] 47) hb.size
        clear e0 e1 e2 e3 e4 e5 e6 e7 hbw
        generalize wr.heap.size = q at *
        generalize wr.alloc (.cells #[.int .i64 op, .int .i64 d, .int .i64 s, .int .i64 t, .int .i64 u, .int .i64 a', .int .u32 k', .int .i64 pl] 47) = z at *
        have hbw := b0.trans (hb.mono b0.size)
        have k1 : Bk z _ _ _ := (hb.block _ klt).trans ky
        obtain ⟨x0, x1, x2⟩ : z.cell? ⟨w.heap.size, 0, none⟩ = some (.slice (some ⟨g, off, none⟩) c.l.length ca) ∧ z.cell? ⟨w.heap.size, 1, none⟩ = some (.int .i64 c.lo) ∧ z.cell? ⟨w.heap.size, 2, none⟩ = some (.int .i64 c.un) := ⟨k1.cell 0, k1.cell 1, k1.cell 2⟩
        go_wp2_with fail
        refine (HLA2.out z hbw).mono ?_
        rintro e z1 ⟨rfl, hz⟩
        replace m2 := m2.below hz
        replace Bd := bld_below Bd hz
        replace hb := hb.trans (hz.mono hb.size)
        clear x0 x1 x2 k1 hbw hz
        unfold bs
        go_wp2_with fail
        refine (HW.out y.heap.size y.heap.size _ ⟨t2.toArray⟩ z1 Bd (by have := HB.out; have := HN2.out; show (Lib.byteCells t1).length + t2.toArray.size ≤ _; simp [Lib.byteCells]; omega) hb.size).mono ?_
        rintro e z2 ⟨rfl, Be, hz, ho⟩
        rw [cells_str] at Be
        replace Bd := Or.inr (a := Lib.BuilderAtF 71 5 y.heap.size y.heap.size (.pointer none) (Lib.byteCells (t1 ++ t2)) z2) Be
        clear Be
        replace m2 : Ib z2 _ _ := Bk.others m2 ho hq (by decide)
        replace hb := hb.trans hz
        have hbw := b0.trans (hb.mono b0.size)
        have k1 : Bk z2 _ _ _ := (hb.block _ klt).trans ky
        obtain ⟨x0, x1, x2⟩ : z2.cell? ⟨w.heap.size, 0, none⟩ = some (.slice (some ⟨g, off, none⟩) c.l.length ca) ∧ z2.cell? ⟨w.heap.size, 1, none⟩ = some (.int .i64 c.lo) ∧ z2.cell? ⟨w.heap.size, 2, none⟩ = some (.int .i64 c.un) := ⟨k1.cell 0, k1.cell 1, k1.cell 2⟩
        obtain ⟨e0, e1, e2, e3, e4, e5, e6, e7⟩ := m2.cells
        simp only at e0 e1 e2 e3 e4 e5 e6 e7
        clear hz ho
        go_wp2_with fail
        refine (HT2.out z2 hbw).mono ?_
        rintro e z3 ⟨rfl, hz⟩
        replace Bd := bld_below Bd hz
        replace hb := hb.trans (hz.mono hb.size)
        clear x0 x1 x2 k1 hbw hz e0 e1 e2 e3 e4 e5 e6 e7 m2
        unfold bs
        go_wp2_with fail
        refine (HW.out y.heap.size y.heap.size _ ⟨t3.toArray⟩ z3 Bd (by have := HB.out; have := HN2.out; have := HM2.out; show (Lib.byteCells (t1 ++ t2)).length + t3.toArray.size ≤ _; simp [Lib.byteCells]; omega) hb.size).mono ?_
        rintro e z4 ⟨rfl, Be, hz, ho⟩
        rw [cells_str] at Be
        replace Bd := Or.inr (a := Lib.BuilderAtF 71 5 y.heap.size y.heap.size (.pointer none) (Lib.byteCells (t1 ++ t2 ++ t3)) z4) Be
        clear Be ho
        replace hb := hb.trans hz
        clear hz
        go_wp2_with fail
        refine (HW.out y.heap.size y.heap.size _ ⟨([10] : List UInt8).toArray⟩ z4 Bd (by have := HB.out; have := HN2.out; have := HM2.out; show (Lib.byteCells (t1 ++ t2 ++ t3)).length + 1 ≤ _; simp [Lib.byteCells]; omega) hb.size).mono ?_
        rintro e z5 ⟨rfl, Be, hz, ho⟩
        rw [cells_str] at Be
        replace hb := hb.trans hz
        rw [← HS2.out] at Be
        replace Bd := Or.inr (a := Lib.BuilderAtF 71 5 y.heap.size y.heap.size (.pointer none) (Lib.byteCells t4) z5) Be
        clear Be ho hz
        have HB2 : Hid (t4.length ≤ (k + 1) * 1000) := Lib.hid (by
          have := HB.out; have := HN2.out; have := HM2.out
          rw [HS2.out]
          simp
          omega)
        clear HB HN2 HM2 HLA2 HT2
        go_wp2
        go_roundw
        case rel => subst ht4; exact ⟨k + 1, by go_num, by omega, hb, Bd, HB2⟩
        case measure =>
          show c.l.length - ((k : Int) + 1).toNat < c.l.length - (k : Int).toNat
          omega
      · have hki : ¬ (k : Int) < c.l.length := by omega
        have hk2 : k = c.l.length := by omega
        subst hk2
        rw [HE.out] at Bd HB
        clear HT HLA HS HN HM HW hk hlt
        go_wp2_with fail
        refine (HST.out y.heap.size y.heap.size (printL c) wr Bd hb.size).mono ?_
        rintro e z ⟨rfl, _, hz, _⟩
        replace hbw := b0.trans ((hb.trans hz).mono b0.size)
        go_wp2
        go_ret2
        exact ⟨by rw [HQ.out]; rfl, hbw⟩
end Go.Proofs.YteohnkilchkhkaaGreatDoor
