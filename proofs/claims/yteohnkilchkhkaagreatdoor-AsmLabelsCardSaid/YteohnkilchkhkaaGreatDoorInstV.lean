/- The document's texts, Op by Op, as lists of bytes. -/
import Derived.Test.YteohnkilchkhkaaGreatDoorInstR
import Derived.Test.YteohnkilchkhkaaGreatDoorInstU
import Derived.Test.YteohnkilchkhkaaGreatDoorInstD
namespace Go.Proofs.YteohnkilchkhkaaGreatDoor
open Go.ChangeShapes Go.WideShapes Go.ChangeAt Go.RowKit
set_option linter.unusedVariables false

theorem itoa_nat (n : Nat) : Lib.itoa (n : Int) = Lib.decDigits n := by
  unfold Lib.itoa
  rw [if_neg (by omega)]
  rfl
theorem rL_len (n : Nat) (h : n < 5000000000) : (rL n).length ≤ 40 := by
  have := dec_len n h
  unfold rL
  simp
  omega
theorem rDig (n : Nat) (w : World) (h : n < 5000000000) : Calls Tryz.prog 56 #[.int .i64 n] w fun e w' => e = .returned (.string ⟨(Lib.decDigits n).toArray⟩) ∧ Below w.heap.size w w' := rDigits n w h
/-- Two strings, one behind the other. -/
theorem cat2 (a b : List UInt8) (m n : Nat) (ha : a.length ≤ m) (hb : b.length ≤ n) (hm : m ≤ 1000 := by decide) (hn : n ≤ 1000 := by decide) :
    ∃ z, z = a ++ b ∧ (⟨a.toArray⟩ : ByteArray) ++ ⟨b.toArray⟩ = ⟨z.toArray⟩ ∧ ¬ 9223372036854775807 < a.length + b.length ∧ z.length ≤ m + n :=
  ⟨a ++ b, rfl, cat_bs a b, by omega, by simp; omega⟩

theorem txt_1 (dn sn tn un an kn pn : Nat) : textL ⟨1, dn, sn, tn, un, an, kn, pn⟩ = nmL 1 ++ ((rL dn) ++ (32 :: Lib.decDigits kn)) := by
  simp [textL, hsL, partsL, partL, getI, rL, itoa_nat]
theorem txt_2 (dn sn tn un an kn pn : Nat) : textL ⟨2, dn, sn, tn, un, an, kn, pn⟩ = nmL 2 ++ ((rL dn) ++ (rL sn)) := by
  simp [textL, hsL, partsL, partL, getI, rL, itoa_nat]
theorem txt_3 (dn sn tn un an kn pn : Nat) : textL ⟨3, dn, sn, tn, un, an, kn, pn⟩ = nmL 3 ++ (((rL dn) ++ (rL sn)) ++ (32 :: Lib.decDigits kn)) := by
  simp [textL, hsL, partsL, partL, getI, rL, itoa_nat]
theorem txt_4 (dn sn tn un an kn pn : Nat) : textL ⟨4, dn, sn, tn, un, an, kn, pn⟩ = nmL 4 ++ (((rL dn) ++ (rL sn)) ++ (32 :: Lib.decDigits kn)) := by
  simp [textL, hsL, partsL, partL, getI, rL, itoa_nat]
theorem txt_5 (dn sn tn un an kn pn : Nat) : textL ⟨5, dn, sn, tn, un, an, kn, pn⟩ = nmL 5 ++ (((rL dn) ++ (rL sn)) ++ (32 :: Lib.decDigits kn)) := by
  simp [textL, hsL, partsL, partL, getI, rL, itoa_nat]
theorem txt_6 (dn sn tn un an kn pn : Nat) : textL ⟨6, dn, sn, tn, un, an, kn, pn⟩ = nmL 6 ++ (((rL dn) ++ (rL sn)) ++ (32 :: Lib.decDigits kn)) := by
  simp [textL, hsL, partsL, partL, getI, rL, itoa_nat]
theorem txt_7 (dn sn tn un an kn pn : Nat) : textL ⟨7, dn, sn, tn, un, an, kn, pn⟩ = nmL 7 ++ (((rL dn) ++ (rL sn)) ++ (rL tn)) := by
  simp [textL, hsL, partsL, partL, getI, rL, itoa_nat]
theorem txt_8 (dn sn tn un an kn pn : Nat) : textL ⟨8, dn, sn, tn, un, an, kn, pn⟩ = nmL 8 ++ (((rL sn) ++ (rL tn)) ++ (32 :: Lib.decDigits pn)) := by
  simp [textL, hsL, partsL, partL, getI, rL, itoa_nat]
theorem txt_9 (dn sn tn un an kn pn : Nat) : textL ⟨9, dn, sn, tn, un, an, kn, pn⟩ = nmL 9 ++ (((rL sn) ++ (rL tn)) ++ (32 :: Lib.decDigits pn)) := by
  simp [textL, hsL, partsL, partL, getI, rL, itoa_nat]
theorem txt_10 (dn sn tn un an kn pn : Nat) : textL ⟨10, dn, sn, tn, un, an, kn, pn⟩ = nmL 10 ++ (32 :: Lib.decDigits pn) := by
  simp [textL, hsL, partsL, partL, getI, itoa_nat]
theorem txt_11 (dn sn tn un an kn pn : Nat) : textL ⟨11, dn, sn, tn, un, an, kn, pn⟩ = nmL 11 ++ (rL dn) := by
  simp [textL, hsL, partsL, partL, getI, rL, itoa_nat]
theorem txt_22 (dn sn tn un an kn pn : Nat) : textL ⟨22, dn, sn, tn, un, an, kn, pn⟩ = nmL 22 ++ (rL dn) := by
  simp [textL, hsL, partsL, partL, getI, rL, itoa_nat]
theorem txt_12 (dn sn tn un an kn pn : Nat) : textL ⟨12, dn, sn, tn, un, an, kn, pn⟩ = nmL 12 ++ (32 :: Lib.decDigits kn) := by
  simp [textL, hsL, partsL, partL, getI, itoa_nat]
theorem txt_13 (dn sn tn un an kn pn : Nat) : textL ⟨13, dn, sn, tn, un, an, kn, pn⟩ = nmL 13 ++ (32 :: Lib.decDigits kn) := by
  simp [textL, hsL, partsL, partL, getI, itoa_nat]
theorem txt_16 (dn sn tn un an kn pn : Nat) : textL ⟨16, dn, sn, tn, un, an, kn, pn⟩ = nmL 16 ++ (((rL dn) ++ (32 :: Lib.decDigits an)) ++ (rL sn)) := by
  simp [textL, hsL, partsL, partL, getI, rL, itoa_nat]
theorem txt_17 (dn sn tn un an kn pn : Nat) : textL ⟨17, dn, sn, tn, un, an, kn, pn⟩ = nmL 17 ++ (((32 :: Lib.decDigits an) ++ (rL sn)) ++ (rL tn)) := by
  simp [textL, hsL, partsL, partL, getI, rL, itoa_nat]
theorem txt_18 (dn sn tn un an kn pn : Nat) : textL ⟨18, dn, sn, tn, un, an, kn, pn⟩ = nmL 18 ++ ((((rL dn) ++ (32 :: Lib.decDigits an)) ++ (rL sn)) ++ (rL tn)) := by
  simp [textL, hsL, partsL, partL, getI, rL, itoa_nat]
theorem txt_19 (dn sn tn un an kn pn : Nat) : textL ⟨19, dn, sn, tn, un, an, kn, pn⟩ = nmL 19 ++ (((((rL dn) ++ (32 :: Lib.decDigits an)) ++ (rL sn)) ++ (rL tn)) ++ (rL un)) := by
  simp [textL, hsL, partsL, partL, getI, rL, itoa_nat]
theorem txt_20 (dn sn tn un an kn pn : Nat) : textL ⟨20, dn, sn, tn, un, an, kn, pn⟩ = nmL 20 ++ ((((rL dn) ++ (32 :: Lib.decDigits an)) ++ (rL sn)) ++ (32 :: Lib.decDigits kn)) := by
  simp [textL, hsL, partsL, partL, getI, rL, itoa_nat]
theorem txt_23 (dn sn tn un an kn pn : Nat) : textL ⟨23, dn, sn, tn, un, an, kn, pn⟩ = nmL 23 ++ (rL sn) := by
  simp [textL, hsL, partsL, partL, getI, rL, itoa_nat]
end Go.Proofs.YteohnkilchkhkaaGreatDoor
