/- CoreP. -/
import Derived.Test.YtpinpipjlongaaaGreatKCoreM
import Derived.Test.YtpinpipjlongaaaGreatKHold
import Derived.Deep.Cut
import Derived.Deep.QuietTactic
import Derived.Deep.RegionHeld3
/- Contracts of layer 8's leaf functions: register, at, value, placeBehind. -/
namespace Go.Proofs.YtpinpipjlongaaaGreat
open Go.ChangeShapes Go.WideShapes Go.ChangeAt Go.RowKit
set_option linter.unusedVariables false

/-- A core's cells: eight registers and a place. -/
def corC (xs : List Int) (pc : Int) : List Value := xs.map (Value.int .u32) ++ [.int .i64 pc]
def cv (xs : List Int) (pc : Int) : Value := .agg (corC xs pc).toArray
theorem corC_at {xs : List Int} {pc : Int} (h : xs.length = 8) {k : Nat} (hk : k < 8) : (corC xs pc).toArray[k]? = some (.int .u32 (nth xs k)) := by
  rw [List.getElem?_toArray, corC, List.getElem?_append_left (by simp; omega), List.getElem?_map, nth_get (by omega)]
  rfl
theorem corC_pc {xs : List Int} {pc : Int} (h : xs.length = 8) : (corC xs pc).toArray[8]? = some (.int .i64 pc) := by
  rw [List.getElem?_toArray, corC, List.getElem?_append_right (by simp; omega)]
  simp [h]
theorem corC_set {xs : List Int} {pc : Int} (h : xs.length = 8) (k : Nat) (hk : k < 8) (v : Int) : (corC xs pc).toArray.setIfInBounds k (.int .u32 v) = (corC (xs.set k v) pc).toArray := by
  rw [List.setIfInBounds_toArray, corC, corC, List.set_append_left _ _ (by simp; omega), List.map_set]

/-- Block g is a core. -/
def Cb (w : World) (g : Nat) (xs : List Int) (pc : Int) : Prop := Bk w g 66 (corC xs pc).toArray
theorem Cb.at_ {w : World} {g : Nat} {xs : List Int} {pc : Int} (h : Cb w g xs pc) (h8 : xs.length = 8) {k : Nat} (hk : k < 8) : w.cell? ⟨g, k, none⟩ = some (.int .u32 (nth xs k)) := (Bk.cell h k).trans (corC_at h8 hk)
theorem Cb.pc {w : World} {g : Nat} {xs : List Int} {pc : Int} (h : Cb w g xs pc) (h8 : xs.length = 8) : w.cell? ⟨g, 8, none⟩ = some (.int .i64 pc) := (Bk.cell h 8).trans (corC_pc h8)
theorem Cb.cells {w : World} {g : Nat} {r0 r1 r2 r3 r4 r5 r6 r7 pc : Int} (h : Cb w g [r0, r1, r2, r3, r4, r5, r6, r7] pc) :
    w.cell? ⟨g, 0, none⟩ = some (.int .u32 r0) ∧ w.cell? ⟨g, 1, none⟩ = some (.int .u32 r1) ∧ w.cell? ⟨g, 2, none⟩ = some (.int .u32 r2) ∧ w.cell? ⟨g, 3, none⟩ = some (.int .u32 r3) ∧
    w.cell? ⟨g, 4, none⟩ = some (.int .u32 r4) ∧ w.cell? ⟨g, 5, none⟩ = some (.int .u32 r5) ∧ w.cell? ⟨g, 6, none⟩ = some (.int .u32 r6) ∧ w.cell? ⟨g, 7, none⟩ = some (.int .u32 r7) ∧ w.cell? ⟨g, 8, none⟩ = some (.int .i64 pc) :=
  ⟨Bk.cell h 0, Bk.cell h 1, Bk.cell h 2, Bk.cell h 3, Bk.cell h 4, Bk.cell h 5, Bk.cell h 6, Bk.cell h 7, Bk.cell h 8⟩
theorem Cb.below {w w' : World} {g : Nat} {xs : List Int} {pc : Int} (h : Cb w g xs pc) (hb : Below w.heap.size w w') : Cb w' g xs pc := (hb.block g (Bk.lt h)).trans h
theorem Cb.set {w : World} {g : Nat} {xs : List Int} {pc : Int} (h : Cb w g xs pc) (h8 : xs.length = 8) {k : Nat} (hk : k < 8) (v : Int) : Cb (w.setCell ⟨g, k, none⟩ (.int .u32 v)) g (xs.set k v) pc := by
  unfold Cb
  rw [← corC_set h8 k hk v]
  exact Bk.put h k _

theorem and7 (n : Int) (h : 0 ≤ n ∧ n ≤ 7) : bits .and .i64 n 7 = n := by
  have : n = 0 ∨ n = 1 ∨ n = 2 ∨ n = 3 ∨ n = 4 ∨ n = 5 ∨ n = 6 ∨ n = 7 := by omega
  rcases this with rfl | rfl | rfl | rfl | rfl | rfl | rfl | rfl <;> rfl
theorem cRegister (n : Int) (h : 0 ≤ n ∧ n ≤ 7) (w : World) : Calls Tryz.prog 90 #[.int .i64 n] w fun e w' => e = .returned (.int .i64 n) ∧ w = w' := by
  go_enter Tryz.func90, Tryz.ntmps90
  go_wp2
  go_ret
  exact ⟨ret_int (by first | exact and7 n h | rw [and7 n h]), rfl⟩

set_option maxHeartbeats 1000000 in
theorem cAt (c : Prg) (v : Value) (w : World) (hv : Pv w v c) (p : Int) (i : Ins) (b : Bool)
    (h : (b = false ∧ i = Ins.zero ∧ (p < 0 ∨ c.l.length ≤ p)) ∨ (b = true ∧ ∃ k : Nat, p = k ∧ c.l[k]? = some i)) :
    Calls Tryz.prog 56 #[v, .int .i64 p] w fun e w' => e = .returned (.tuple #[iv i, .bool b]) ∧ Below w.heap.size w w' := by
  obtain ⟨a, ca, rfl, hc1, hc2, _, ha⟩ := hv
  unfold iv
  rcases h with ⟨rfl, rfl, hp⟩ | ⟨rfl, k, rfl, hk⟩
  · unfold Ins.zero
    by_cases h0 : p < 0
    · go_enter Tryz.func56, Tryz.ntmps56
      go_wp2
      refine bodyPost_ret (v := .tuple #[.agg #[.int .i64 0, .int .i64 0, .int .i64 0, .int .i64 0, .int .i64 0, .int .i64 0, .int .u32 0, .int .i64 0], .bool false]) (by simp [results, Tryz.results56, go_sem]) rfl ⟨rfl, ?_⟩
      exact ((Below.refl _ _).alloc (Nat.le_refl _) _).alloc (by simp) _
    · have h1 : p ≥ c.l.length := by omega
      go_enter Tryz.func56, Tryz.ntmps56
      go_wp2
      refine bodyPost_ret (v := .tuple #[.agg #[.int .i64 0, .int .i64 0, .int .i64 0, .int .i64 0, .int .i64 0, .int .i64 0, .int .u32 0, .int .i64 0], .bool false]) (by simp [results, Tryz.results56, go_sem]) rfl ⟨rfl, ?_⟩
      exact ((Below.refl _ _).alloc (Nat.le_refl _) _).alloc (by simp) _
  · obtain ⟨op, d, s, t, u, a', k', pl⟩ := i
    obtain ⟨g, off, rfl, hgl, e0, e1, e2, e3, e4, e5, e6, e7⟩ := ha.at_ hk
    have hlt := (List.getElem?_eq_some_iff.1 hk).1
    have hki : (k : Int) < c.l.length := by omega
    have hki2 : decide ((k : Int) ≥ c.l.length) = false := by simpa using hlt
    have hng : g ≠ w.heap.size := Nat.ne_of_lt hgl
    simp only at e0 e1 e2 e3 e4 e5 e6 e7
    go_enter Tryz.func56, Tryz.ntmps56
    go_wp2
    refine bodyPost_ret (v := .tuple #[.agg #[.int .i64 op, .int .i64 d, .int .i64 s, .int .i64 t, .int .i64 u, .int .i64 a', .int .u32 k', .int .i64 pl], .bool true]) (by simp [results, Tryz.results56, go_sem]) rfl ⟨rfl, ?_⟩
    exact ((Below.refl _ _).alloc (Nat.le_refl _) _).alloc (by simp) _

theorem Cb.made (w : World) (xs : List Int) (pc : Int) : Cb (w.alloc (.cells (corC xs pc).toArray 66)) w.heap.size xs pc := Bk.made _ _ _

set_option maxHeartbeats 2000000 in
theorem cValue (xs : List Int) (pc : Int) (i : Ins) (self : Int) (hx : Eight xs) (hi : OkI i) (hm : memB i.op = false) (h0 : 0 ≤ self) (h1 : self < 4294967296) (w : World) :
    Calls Tryz.prog 89 #[cv xs pc, iv i, .int .i64 self] w fun e w' => e = .returned (.tuple #[.int .u32 ((valueO xs i self).getD 0), .bool (valueO xs i self).isSome]) ∧ Below w.heap.size w w' := by
  obtain ⟨h8, hxu⟩ := hx
  have hs := hi.s
  have ht := hi.t
  have hk := hi.k
  have hsh := hi.sh
  have hop : 1 ≤ i.op ∧ i.op ≤ 13 := by
    rcases hi.op with h | h
    · exact h
    · exfalso; simp [memB] at hm; omega
  clear hi hm
  obtain ⟨op, d, s, t, u, a', k, pl⟩ := i
  simp only at hs ht hk hsh hop
  obtain ⟨sn, rfl⟩ : ∃ n : Nat, s = n := ⟨s.toNat, by omega⟩
  obtain ⟨tn, rfl⟩ : ∃ n : Nat, t = n := ⟨t.toNat, by omega⟩
  have hs8 : sn < 8 := by omega
  have ht8 : tn < 8 := by omega
  have HR : Hid (∀ n : Int, 0 ≤ n ∧ n ≤ 7 → ∀ W, Calls Tryz.prog 90 #[.int .i64 n] W fun e w' => e = .returned (.int .i64 n) ∧ w' = W) := Lib.hid fun n h W => (cRegister n h W).mono fun _ _ ⟨h1, h2⟩ => ⟨h1, h2.symm⟩
  have HS := Lib.hid (HR.out sn (by omega))
  have HT := Lib.hid (HR.out tn (by omega))
  clear HR
  have hA := hxu.at_ sn
  have hB := hxu.at_ tn
  obtain ⟨r0, r1, r2, r3, r4, r5, r6, r7, rfl⟩ := eight_cons h8
  have q0 := (Cb.made w [r0, r1, r2, r3, r4, r5, r6, r7] pc).below (Below.alloc (o := .cells #[.int .i64 op, .int .i64 d, .int .i64 sn, .int .i64 tn, .int .i64 u, .int .i64 a', .int .u32 k, .int .i64 pl] 45) (Below.refl _ _) (Nat.le_refl _))
  have q1 := Ib.made (w.alloc (.cells (corC [r0, r1, r2, r3, r4, r5, r6, r7] pc).toArray 66)) op d sn tn u a' k pl
  have b0 : Below w.heap.size w ((w.alloc (.cells (corC [r0, r1, r2, r3, r4, r5, r6, r7] pc).toArray 66)).alloc (.cells #[.int .i64 op, .int .i64 d, .int .i64 sn, .int .i64 tn, .int .i64 u, .int .i64 a', .int .u32 k, .int .i64 pl] 45)) := ((Below.refl _ _).alloc (Nat.le_refl _) _).alloc (by simp) _
  rw [World.size_alloc] at q1
  unfold cv iv
  simp only [corC, List.map_cons, List.map_nil, List.cons_append, List.nil_append] at q0 q1 b0 ⊢
  have HV : Hid (valueO [r0, r1, r2, r3, r4, r5, r6, r7] ⟨op, d, sn, tn, u, a', k, pl⟩ self = valA op (nth [r0, r1, r2, r3, r4, r5, r6, r7] sn) (nth [r0, r1, r2, r3, r4, r5, r6, r7] tn) k self) := Lib.hid (by simp [valueO])
  generalize valueO [r0, r1, r2, r3, r4, r5, r6, r7] ⟨op, d, sn, tn, u, a', k, pl⟩ self = V at *
  go_enter Tryz.func89, Tryz.ntmps89
  go_upto_region 1 with fail
  generalize (w.alloc (.cells #[.int .u32 r0, .int .u32 r1, .int .u32 r2, .int .u32 r3, .int .u32 r4, .int .u32 r5, .int .u32 r6, .int .u32 r7, .int .i64 pc] 66)).alloc (.cells #[.int .i64 op, .int .i64 d, .int .i64 sn, .int .i64 tn, .int .i64 u, .int .i64 a', .int .u32 k, .int .i64 pl] 45) = x at *
  have cA := q0.at_ rfl hs8
  have cB := q0.at_ rfl ht8
  obtain ⟨e0, e1, e2, e3, e4, e5, e6, e7⟩ := q1.cells
  simp only at e0 e1 e2 e3 e4 e5 e6 e7
  generalize nth [r0, r1, r2, r3, r4, r5, r6, r7] sn = A at *
  generalize nth [r0, r1, r2, r3, r4, r5, r6, r7] tn = B at *
  clear q0 q1 h8 hxu
  go_quiet ((go_at_call 90; first | (with_reducible exact Calls.quiet_of_same (HS.out _)) | (with_reducible exact Calls.quiet_of_same (HT.out _))))
  have ev : ∀ (v : Option Int) (x : Int) (b : Bool), V = v → v.getD 0 = x → v.isSome = b → (Ending.returned (.tuple #[.int .u32 x, .bool b]) = .returned (.tuple #[.int .u32 (V.getD 0), .bool V.isSome])) := by
    rintro v x b rfl rfl rfl; rfl
  have HE := Lib.hid ev
  have bq := below_drewN b0 nq
  clear ev b0
  have hop2 : op = 1 ∨ op = 2 ∨ op = 3 ∨ op = 4 ∨ op = 5 ∨ op = 6 ∨ op = 7 ∨ op = 8 ∨ op = 9 ∨ op = 10 ∨ op = 11 ∨ op = 12 ∨ op = 13 := by omega
  clear hop
  rcases hop2 with rfl | rfl | rfl | rfl | rfl | rfl | rfl | rfl | rfl | rfl | rfl | rfl | rfl
  · go_wp2
    go_ret2
    exact ⟨HE.out _ _ _ HV.out rfl rfl, bq⟩
  · go_wp2
    go_ret2
    exact ⟨HE.out _ _ _ HV.out rfl rfl, bq⟩
  · go_wp2
    go_ret2
    exact ⟨HE.out _ _ _ HV.out (by first | rfl | simp [valA, IntKind.wrap_u32]) rfl, bq⟩
  · go_wp2
    go_ret2
    exact ⟨HE.out _ _ _ HV.out (by first | rfl | simp [valA, andI, u32_and A k hA.1 hA.2 hk.1 hk.2]) rfl, bq⟩
  · have hk31 := hsh (.inl rfl)
    have hmin : min k.toNat 32 = k.toNat := by omega
    go_wp2
    go_ret2
    exact ⟨HE.out _ _ _ HV.out rfl rfl, bq⟩
  · have hk31 := hsh (.inr rfl)
    have hmin : min k.toNat 32 = k.toNat := by omega
    go_wp2
    go_ret2
    exact ⟨HE.out _ _ _ HV.out rfl rfl, bq⟩
  · go_wp2
    go_ret2
    exact ⟨HE.out _ _ _ HV.out (by first | rfl | simp [valA, orI, u32_or A B hA.1 hA.2 hB.1 hB.2]) rfl, bq⟩
  · go_wp2
    go_ret2
    exact ⟨HE.out _ _ _ HV.out rfl rfl, bq⟩
  · go_wp2
    go_ret2
    exact ⟨HE.out _ _ _ HV.out rfl rfl, bq⟩
  · go_wp2
    go_ret2
    exact ⟨HE.out _ _ _ HV.out rfl rfl, bq⟩
  · go_wp2
    go_ret2
    exact ⟨HE.out _ _ _ HV.out (by first | rfl | (simp [valA, IntKind.wrap_u32]; omega)) rfl, bq⟩
  · go_wp2
    go_ret2
    exact ⟨HE.out _ _ _ HV.out rfl rfl, bq⟩
  · go_wp2
    go_ret2
    exact ⟨HE.out _ _ _ HV.out rfl rfl, bq⟩

set_option maxHeartbeats 2000000 in
theorem cPlaceBehind (xs : List Int) (pc : Int) (i : Ins) (hx : Eight xs) (hi : OkI i) (hm : memB i.op = false) (p0 : -9223372036854775808 ≤ pc) (p1 : pc ≤ 1099511627776) (w : World) :
    Calls Tryz.prog 88 #[cv xs pc, iv i] w fun e w' => e = .returned (.int .i64 (placeL xs pc i)) ∧ Below w.heap.size w w' := by
  obtain ⟨h8, hxu⟩ := hx
  have hs := hi.s
  have ht := hi.t
  have hk := hi.k
  have hsh := hi.sh
  have hop : 1 ≤ i.op ∧ i.op ≤ 13 := by
    rcases hi.op with h | h
    · exact h
    · exfalso; simp [memB] at hm; omega
  clear hi hm
  obtain ⟨op, d, s, t, u, a', k, pl⟩ := i
  simp only at hs ht hk hsh hop
  obtain ⟨sn, rfl⟩ : ∃ n : Nat, s = n := ⟨s.toNat, by omega⟩
  obtain ⟨tn, rfl⟩ : ∃ n : Nat, t = n := ⟨t.toNat, by omega⟩
  have hs8 : sn < 8 := by omega
  have ht8 : tn < 8 := by omega
  have HR : Hid (∀ n : Int, 0 ≤ n ∧ n ≤ 7 → ∀ W, Calls Tryz.prog 90 #[.int .i64 n] W fun e w' => e = .returned (.int .i64 n) ∧ w' = W) := Lib.hid fun n h W => (cRegister n h W).mono fun _ _ ⟨h1, h2⟩ => ⟨h1, h2.symm⟩
  have HS := Lib.hid (HR.out sn (by omega))
  have HT := Lib.hid (HR.out tn (by omega))
  clear HR
  have hA := hxu.at_ sn
  have hB := hxu.at_ tn
  obtain ⟨r0, r1, r2, r3, r4, r5, r6, r7, rfl⟩ := eight_cons h8
  have q0 := (Cb.made w [r0, r1, r2, r3, r4, r5, r6, r7] pc).below (Below.alloc (o := .cells #[.int .i64 op, .int .i64 d, .int .i64 sn, .int .i64 tn, .int .i64 u, .int .i64 a', .int .u32 k, .int .i64 pl] 45) (Below.refl _ _) (Nat.le_refl _))
  have q1 := Ib.made (w.alloc (.cells (corC [r0, r1, r2, r3, r4, r5, r6, r7] pc).toArray 66)) op d sn tn u a' k pl
  have b0 : Below w.heap.size w ((w.alloc (.cells (corC [r0, r1, r2, r3, r4, r5, r6, r7] pc).toArray 66)).alloc (.cells #[.int .i64 op, .int .i64 d, .int .i64 sn, .int .i64 tn, .int .i64 u, .int .i64 a', .int .u32 k, .int .i64 pl] 45)) := ((Below.refl _ _).alloc (Nat.le_refl _) _).alloc (by simp) _
  rw [World.size_alloc] at q1
  unfold cv iv
  simp only [corC, List.map_cons, List.map_nil, List.cons_append, List.nil_append] at q0 q1 b0 ⊢
  have HV : Hid (placeL [r0, r1, r2, r3, r4, r5, r6, r7] pc ⟨op, d, sn, tn, u, a', k, pl⟩ = placeA op (nth [r0, r1, r2, r3, r4, r5, r6, r7] sn) (nth [r0, r1, r2, r3, r4, r5, r6, r7] tn) pl pc) := Lib.hid (by simp [placeL])
  generalize placeL [r0, r1, r2, r3, r4, r5, r6, r7] pc ⟨op, d, sn, tn, u, a', k, pl⟩ = V at *
  have hmx : (pc == 9223372036854775807) = false := by simp; omega
  go_enter Tryz.func88, Tryz.ntmps88
  go_upto_region 1 with fail
  generalize (w.alloc (.cells #[.int .u32 r0, .int .u32 r1, .int .u32 r2, .int .u32 r3, .int .u32 r4, .int .u32 r5, .int .u32 r6, .int .u32 r7, .int .i64 pc] 66)).alloc (.cells #[.int .i64 op, .int .i64 d, .int .i64 sn, .int .i64 tn, .int .i64 u, .int .i64 a', .int .u32 k, .int .i64 pl] 45) = x at *
  have cA := q0.at_ rfl hs8
  have cB := q0.at_ rfl ht8
  have cp : x.cell? ⟨w.heap.size, 8, none⟩ = some (.int .i64 pc) := q0.pc rfl
  obtain ⟨e0, e1, e2, e3, e4, e5, e6, e7⟩ := q1.cells
  simp only at e0 e1 e2 e3 e4 e5 e6 e7
  generalize nth [r0, r1, r2, r3, r4, r5, r6, r7] sn = A at *
  generalize nth [r0, r1, r2, r3, r4, r5, r6, r7] tn = B at *
  clear q0 q1 h8 hxu
  have hop2 : op = 1 ∨ op = 2 ∨ op = 3 ∨ op = 4 ∨ op = 5 ∨ op = 6 ∨ op = 7 ∨ op = 8 ∨ op = 9 ∨ op = 10 ∨ op = 11 ∨ op = 12 ∨ op = 13 := by omega
  clear hop
  by_cases hAB : A = B
  · subst hAB
    go_quiet ((go_at_call 90; first | (with_reducible exact Calls.quiet_of_same (HS.out _)) | (with_reducible exact Calls.quiet_of_same (HT.out _))))
    have bq := below_drewN b0 nq
    clear b0
    rcases hop2 with rfl | rfl | rfl | rfl | rfl | rfl | rfl | rfl | rfl | rfl | rfl | rfl | rfl
    all_goals
      go_wp2
      go_ret
      exact ⟨ret_int (by rw [HV.out]; first | rfl | simp [placeA] | (simp [placeA]; omega)), bq⟩
  · have hne : (A == B) = false := by simpa using hAB
    go_quiet ((go_at_call 90; first | (with_reducible exact Calls.quiet_of_same (HS.out _)) | (with_reducible exact Calls.quiet_of_same (HT.out _))))
    have bq := below_drewN b0 nq
    have HN := Lib.hid hAB
    clear b0 hAB
    rcases hop2 with rfl | rfl | rfl | rfl | rfl | rfl | rfl | rfl | rfl | rfl | rfl | rfl | rfl
    all_goals
      go_wp2
      go_ret
      exact ⟨ret_int (by rw [HV.out]; have := HN.out; first | rfl | simp [placeA, this] | (simp [placeA, this]; omega)), bq⟩
end Go.Proofs.YtpinpipjlongaaaGreat
