/- The document's core: Ref, pow, bits. -/
import Derived.Test.YtmjmedbepmdjcaaCoreP
import Derived.Deep.DeepCutAuto
import Derived.Deep.LoopGhost
namespace Go.Proofs.Ytmjmedbepmdjcaa
open Go.ChangeShapes Go.WideShapes Go.ChangeAt Go.RowKit
set_option linter.unusedVariables false

/-- The document's core: its cells. -/
def rorC (xs : List Int) (pc : Int) : List Value := xs.map (Value.int .i64) ++ [.int .i64 pc]
def rv (xs : List Int) (pc : Int) : Value := .agg (rorC xs pc).toArray
theorem rorC_at {xs : List Int} {pc : Int} (h : xs.length = 8) {k : Nat} (hk : k < 8) : (rorC xs pc).toArray[k]? = some (.int .i64 (nth xs k)) := by
  rw [List.getElem?_toArray, rorC, List.getElem?_append_left (by simp; omega), List.getElem?_map, nth_get (by omega)]
  rfl
theorem rorC_pc {xs : List Int} {pc : Int} (h : xs.length = 8) : (rorC xs pc).toArray[8]? = some (.int .i64 pc) := by
  rw [List.getElem?_toArray, rorC, List.getElem?_append_right (by simp; omega)]
  simp [h]
theorem rorC_set {xs : List Int} {pc : Int} (h : xs.length = 8) (k : Nat) (hk : k < 8) (v : Int) : (rorC xs pc).toArray.setIfInBounds k (.int .i64 v) = (rorC (xs.set k v) pc).toArray := by
  rw [List.setIfInBounds_toArray, rorC, rorC, List.set_append_left _ _ (by simp; omega), List.map_set]
theorem rorC_setpc {xs : List Int} {pc : Int} (h : xs.length = 8) (v : Int) : (rorC xs pc).toArray.setIfInBounds 8 (.int .i64 v) = (rorC xs v).toArray := by
  rw [List.setIfInBounds_toArray, rorC, rorC, List.set_append_right _ _ (by simp; omega)]
  simp [h]

/-- Block g is a core of the document. -/
def Rb (w : World) (g : Nat) (xs : List Int) (pc : Int) : Prop := Bk w g 34 (rorC xs pc).toArray
section
variable {w w' : World} {g : Nat} {xs : List Int} {pc : Int}
theorem Rb.made (w : World) (xs : List Int) (pc : Int) : Rb (w.alloc (.cells (rorC xs pc).toArray 34)) w.heap.size xs pc := Bk.made _ _ _
theorem Rb.at_ (h : Rb w g xs pc) (h8 : xs.length = 8) {k : Nat} (hk : k < 8) : w.cell? ⟨g, k, none⟩ = some (.int .i64 (nth xs k)) := (Bk.cell h k).trans (rorC_at h8 hk)
theorem Rb.place (h : Rb w g xs pc) (h8 : xs.length = 8) : w.cell? ⟨g, 8, none⟩ = some (.int .i64 pc) := (Bk.cell h 8).trans (rorC_pc h8)
theorem Rb.cells {r0 r1 r2 r3 r4 r5 r6 r7 : Int} (h : Rb w g [r0, r1, r2, r3, r4, r5, r6, r7] pc) :
    w.cell? ⟨g, 0, none⟩ = some (.int .i64 r0) ∧ w.cell? ⟨g, 1, none⟩ = some (.int .i64 r1) ∧ w.cell? ⟨g, 2, none⟩ = some (.int .i64 r2) ∧ w.cell? ⟨g, 3, none⟩ = some (.int .i64 r3) ∧
    w.cell? ⟨g, 4, none⟩ = some (.int .i64 r4) ∧ w.cell? ⟨g, 5, none⟩ = some (.int .i64 r5) ∧ w.cell? ⟨g, 6, none⟩ = some (.int .i64 r6) ∧ w.cell? ⟨g, 7, none⟩ = some (.int .i64 r7) ∧ w.cell? ⟨g, 8, none⟩ = some (.int .i64 pc) :=
  ⟨Bk.cell h 0, Bk.cell h 1, Bk.cell h 2, Bk.cell h 3, Bk.cell h 4, Bk.cell h 5, Bk.cell h 6, Bk.cell h 7, Bk.cell h 8⟩
theorem Rb.below (h : Rb w g xs pc) (hb : Below w.heap.size w w') : Rb w' g xs pc := (hb.block g (Bk.lt h)).trans h
theorem Rb.set (h : Rb w g xs pc) (h8 : xs.length = 8) {k : Nat} (hk : k < 8) (v : Int) : Rb (w.setCell ⟨g, k, none⟩ (.int .i64 v)) g (xs.set k v) pc := by
  unfold Rb
  rw [← rorC_set h8 k hk v]
  exact Bk.put h k _
theorem Rb.setpc (h : Rb w g xs pc) (h8 : xs.length = 8) (v : Int) : Rb (w.setCell ⟨g, 8, none⟩ (.int .i64 v)) g xs v := by
  unfold Rb
  rw [← rorC_setpc h8 v]
  exact Bk.put h 8 _
end

theorem pow2 (k : Nat) (h : k ≤ 61) : (1 : Int) ≤ 2 ^ k ∧ (2 : Int) ^ k ≤ 2305843009213693952 ∧ (2 : Int) ^ (k + 1) = 2 ^ k * 2 := by
  have a := Nat.one_le_two_pow (n := k)
  have b := Nat.pow_le_pow_right (n := 2) (by omega) h
  have e : ((2 ^ k : Nat) : Int) = (2 : Int) ^ k := by simp
  exact ⟨by omega, by omega, Int.pow_succ 2 k⟩

theorem rPow (n : Nat) (hn : n ≤ 62) (w : World) : Calls Try.prog 27 #[.int .i64 n] w fun e w' => e = .returned (.int .i64 (2 ^ n)) ∧ w = w' := by
  go_enter Try.func27, Try.ntmps27
  go_wp2
  go_loopw [3, 4] (fun x i wr => ∃ k : Nat, x = .int .i64 (2 ^ k) ∧ i = .int .i64 k ∧ k ≤ n ∧ wr = w) (fun _ i _ => n - (intOf i).toNat)
  case atStart => exact ⟨0, rfl, rfl, Nat.zero_le _, rfl⟩
  case round =>
    obtain ⟨k, rfl, rfl, hk, rfl⟩ := hrel
    by_cases hlt : k < n
    · have hki : (k : Int) < n := by omega
      obtain ⟨p0, p1, p2⟩ := pow2 k (by omega)
      have HP := Lib.hid p2
      clear p2
      generalize (2 : Int) ^ k = p at *
      go_wp2
      go_roundw
      case rel => exact ⟨k + 1, by rw [HP.out], rfl, by omega, trivial⟩
      case measure =>
        show n - ((k : Int) + 1).toNat < n - (k : Int).toNat
        omega
    · have hki : ¬ (k : Int) < n := by omega
      obtain rfl : k = n := by omega
      go_wp2
      go_ret
      exact ⟨rfl, rfl⟩

theorem bit_le (x k : Nat) : x / 2 ^ k % 2 = 0 ∨ x / 2 ^ k % 2 = 1 := by omega

theorem half_bit (x k : Nat) (hx : (x : Int) < 4294967296) : (wrap64 ((x : Int) / 2 ^ k)).tmod 2 = ((x / 2 ^ k % 2 : Nat) : Int) := by
  have e : (x : Int) / 2 ^ k = ((x / 2 ^ k : Nat) : Int) := by simp
  have hle : x / 2 ^ k ≤ x := Nat.div_le_self _ _
  rw [e]
  generalize x / 2 ^ k = q at *
  rw [IntWalk.wrap64_in _ (by omega), Int.tmod_eq_emod_of_nonneg (by omega)]
  omega

set_option maxHeartbeats 1000000 in
theorem rBits (a b : Int) (both : Bool) (h0 : 0 ≤ a) (h1 : a < 4294967296) (h2 : 0 ≤ b) (h3 : b < 4294967296) (w : World) :
    Calls Try.prog 26 #[.int .i64 a, .int .i64 b, .int .i64 (if both then 1 else 0)] w fun e w' => e = .returned (.int .i64 (if both then andI a b else orI a b)) ∧ ∃ m, w' = w.drewN m := by
  have HE := Lib.hid (bitN_is both a b h0 h1 h2 h3)
  generalize (if both then andI a b else orI a b) = R at *
  obtain ⟨x, rfl⟩ : ∃ n : Nat, a = n := ⟨a.toNat, by omega⟩
  obtain ⟨y, rfl⟩ : ∃ n : Nat, b = n := ⟨b.toNat, by omega⟩
  simp only [Int.toNat_natCast] at HE
  have HW := Lib.hid (fun (k : Nat) (hk : k ≤ 62) (W : World) => (rPow k hk W).mono fun e w' ⟨he, hw⟩ => (show e = Ending.returned (.int .i64 (2 ^ k)) ∧ w' = W from ⟨he, hw.symm⟩))
  have HL := Lib.hid (bitN_le both x y)
  have HB := Lib.hid (show ∀ k, bitN both x y (k + 1) = bitN both x y k + (if (if both then x / 2 ^ k % 2 + y / 2 ^ k % 2 = 2 else 0 < x / 2 ^ k % 2 + y / 2 ^ k % 2) then 2 ^ k else 0) from fun k => rfl)
  generalize hbo : (if both = true then (1 : Int) else 0) = bo
  go_enter Try.func26, Try.ntmps26
  go_wp2
  go_loopw [7, 8] (fun o i wr => ∃ k m : Nat, o = .int .i64 (bitN both x y k : Nat) ∧ i = .int .i64 k ∧ k ≤ 32 ∧ wr = w.drewN m) (fun _ i _ => 32 - (intOf i).toNat)
  case atStart => exact ⟨0, 0, rfl, rfl, Nat.zero_le _, rfl⟩
  case round =>
    obtain ⟨k, m, rfl, rfl, hk, hwr⟩ := hrel
    have HWr := Lib.hid hwr
    clear hwr
    by_cases hlt : k < 32
    · have hki : (k : Int) < 32 := by omega
      obtain ⟨p0, p1, p2⟩ := pow2 k (by omega)
      have HS := Lib.hid (HB.out k)
      have hBk : ((bitN both x y k : Nat) : Int) < 4294967296 := by
        have := Nat.pow_le_pow_right (n := 2) (by omega) (show k ≤ 32 by omega)
        have := HL.out k
        omega
      have hBk0 : (0 : Int) ≤ ((bitN both x y k : Nat) : Int) := by omega
      have HW2 := Lib.hid (HW.out k (by omega))
      have EA := half_bit x k h1
      have EB := half_bit y k h3
      have HA := Lib.hid (bit_le x k)
      have HBB := Lib.hid (bit_le y k)
      have HE1 := Lib.hid EA
      have HE2 := Lib.hid EB
      clear p2 HE HB HL HW EA EB
      go_upto_region 5 with fail
      go_quiet ((go_at_call 27; with_reducible exact Calls.quiet_of_same (HW2.out _)))
      rw [HE1.out, HE2.out]
      replace HWr : Hid (∃ q, wr.drewN nq = w.drewN q) := Lib.hid ⟨m + nq, by rw [HWr.out]; simp [World.drewN, Nat.add_assoc]⟩
      generalize wr.drewN nq = wr at *
      have HA2 := HA.out
      have HB2 := HBB.out
      generalize x / 2 ^ k % 2 = A at *
      generalize y / 2 ^ k % 2 = B at *
      clear HE1 HE2 HA HBB
      cases both
      · obtain rfl : bo = 0 := by rw [← hbo]; rfl
        clear hbo
        simp only [Bool.false_eq_true, if_false] at HS
        rcases HA2 with rfl | rfl <;> rcases HB2 with rfl | rfl
        · go_wp2
          obtain ⟨q, hq⟩ := HWr.out
          go_roundw
          case rel => exact ⟨k + 1, q, by rw [HS.out]; simp, rfl, by omega, hq⟩
          case measure =>
            show 32 - ((k : Int) + 1).toNat < 32 - (k : Int).toNat
            omega
        · go_wp2_with fail
          refine (HW2.out _).mono ?_
          rintro e w' ⟨rfl, rfl⟩
          go_wp2
          obtain ⟨q, hq⟩ := HWr.out
          go_roundw
          case rel => exact ⟨k + 1, q, by rw [HS.out]; simp, rfl, by omega, hq⟩
          case measure =>
            show 32 - ((k : Int) + 1).toNat < 32 - (k : Int).toNat
            omega
        · go_wp2_with fail
          refine (HW2.out _).mono ?_
          rintro e w' ⟨rfl, rfl⟩
          go_wp2
          obtain ⟨q, hq⟩ := HWr.out
          go_roundw
          case rel => exact ⟨k + 1, q, by rw [HS.out]; simp, rfl, by omega, hq⟩
          case measure =>
            show 32 - ((k : Int) + 1).toNat < 32 - (k : Int).toNat
            omega
        · go_wp2_with fail
          refine (HW2.out _).mono ?_
          rintro e w' ⟨rfl, rfl⟩
          go_wp2
          obtain ⟨q, hq⟩ := HWr.out
          go_roundw
          case rel => exact ⟨k + 1, q, by rw [HS.out]; simp, rfl, by omega, hq⟩
          case measure =>
            show 32 - ((k : Int) + 1).toNat < 32 - (k : Int).toNat
            omega
      · obtain rfl : bo = 1 := by rw [← hbo]; rfl
        clear hbo
        simp only [if_true] at HS
        rcases HA2 with rfl | rfl <;> rcases HB2 with rfl | rfl
        · go_wp2
          obtain ⟨q, hq⟩ := HWr.out
          go_roundw
          case rel => exact ⟨k + 1, q, by rw [HS.out]; simp, rfl, by omega, hq⟩
          case measure =>
            show 32 - ((k : Int) + 1).toNat < 32 - (k : Int).toNat
            omega
        · go_wp2
          obtain ⟨q, hq⟩ := HWr.out
          go_roundw
          case rel => exact ⟨k + 1, q, by rw [HS.out]; simp, rfl, by omega, hq⟩
          case measure =>
            show 32 - ((k : Int) + 1).toNat < 32 - (k : Int).toNat
            omega
        · go_wp2
          obtain ⟨q, hq⟩ := HWr.out
          go_roundw
          case rel => exact ⟨k + 1, q, by rw [HS.out]; simp, rfl, by omega, hq⟩
          case measure =>
            show 32 - ((k : Int) + 1).toNat < 32 - (k : Int).toNat
            omega
        · go_wp2_with fail
          refine (HW2.out _).mono ?_
          rintro e w' ⟨rfl, rfl⟩
          go_wp2
          obtain ⟨q, hq⟩ := HWr.out
          go_roundw
          case rel => exact ⟨k + 1, q, by rw [HS.out]; simp, rfl, by omega, hq⟩
          case measure =>
            show 32 - ((k : Int) + 1).toNat < 32 - (k : Int).toNat
            omega
    · have hki : ¬ (k : Int) < 32 := by omega
      obtain rfl : k = 32 := by omega
      go_wp2
      go_ret
      exact ⟨ret_int HE.out, _, HWr.out⟩
end Go.Proofs.Ytmjmedbepmdjcaa
