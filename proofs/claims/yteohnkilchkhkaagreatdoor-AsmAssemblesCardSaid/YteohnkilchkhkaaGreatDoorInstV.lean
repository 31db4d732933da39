/- InstU, InstV, one behind the other. -/
import Derived.Test.YteohnkilchkhkaaGreatDoorInstC
import Derived.Deep.RegionLaw
import Derived.Laws.IdiomStrings
import Derived.Test.YteohnkilchkhkaaGreatDoorInstR
/- The document's Digits, r. -/
namespace Go.Proofs.YteohnkilchkhkaaGreatDoor
open Go.ChangeShapes Go.WideShapes Go.ChangeAt Go.RowKit
set_option linter.unusedVariables false

theorem run_str1 (W : World) (b : Nat) (c : UInt8) (h : W.cell? ⟨b, 0, none⟩ = some (.int .u8 (c.toNat : Int))) :
    (convert 42 9 (.slice (some ⟨b, 0, none⟩) 1 1)).run Tryz.prog W = .ok (.string ⟨#[c]⟩) W :=
  run_convert_bytes_back W 42 9 5 ⟨b, 0, none⟩ 1 [c] Tryz.underlying42 Tryz.underlying5 Tryz.underlying9 (fun j hj => by
    simp only [List.length_cons, List.length_nil] at hj
    obtain rfl : j = 0 := by omega
    have e : (⟨b, 0, none⟩ : Addr).add 0 = ⟨b, 0, none⟩ := by unfold Addr.add; simp
    rw [e]
    exact h)
theorem dec_len (n : Nat) (h : n < 5000000000) : (Lib.decDigits n).length ≤ 30 := by
  have := itoa_len n (by omega) (by omega)
  unfold Lib.itoa at this
  rw [if_neg (by omega)] at this
  simpa using this

set_option maxRecDepth 20000 in
theorem rDigits : ∀ (n : Nat) (w : World), n < 5000000000 → Calls Tryz.prog 56 #[.int .i64 n] w fun e w' => e = .returned (bs (Lib.decDigits n)) ∧ Below w.heap.size w w' := by
  intro n
  induction n using Nat.strongRecOn with
  | _ n ih =>
    intro w hn
    by_cases h : n < 10
    · have E := Lib.hid (show Lib.decDigits n = [UInt8.ofNat (48 + n)] by rw [Lib.decDigits, dif_pos h])
      clear ih
      have hi : (n : Int) < 10 := by omega
      have hc : ((UInt8.ofNat (48 + n)).toNat : Int) = 48 + (n : Int) := by
        rw [UInt8.toNat_ofNat', Nat.mod_eq_of_lt (by omega)]; omega
      have hcv := run_str1 (w.alloc (.cells #[.int .u8 (48 + (n : Int))] 5)) w.heap.size (UInt8.ofNat (48 + n)) (by rw [hc]; exact Bk.cell (Bk.made w _ _) 0)
      clear hc
      generalize UInt8.ofNat (48 + n) = c at *
      go_enter Tryz.func56, Tryz.ntmps56
      go_wp2
      go_ret
      exact ⟨by rw [E.out]; rfl, (Below.refl _ _).alloc (Nat.le_refl _) _⟩
    · have E := Lib.hid (show Lib.decDigits n = Lib.decDigits (n / 10) ++ [UInt8.ofNat (48 + n % 10)] by rw [Lib.decDigits, dif_neg h])
      have hsz : ¬ 9223372036854775807 < (Lib.decDigits (n / 10)).length + 1 := by have := dec_len (n / 10) (by omega); omega
      have HI := Lib.hid (fun W => ih (n / 10) (by omega) W (by omega))
      clear ih
      have hm : n % 10 < 10 := by omega
      have hl := dec_len (n / 10) (by omega)
      have hc : ((UInt8.ofNat (48 + n % 10)).toNat : Int) = 48 + ((n % 10 : Nat) : Int) := by
        rw [UInt8.toNat_ofNat', Nat.mod_eq_of_lt (by omega)]; omega
      have hcv : ∀ W b, W.cell? ⟨b, 0, none⟩ = some (.int .u8 (48 + ((n % 10 : Nat) : Int))) → (convert 42 9 (.slice (some ⟨b, 0, none⟩) 1 1)).run Tryz.prog W = .ok (.string ⟨#[UInt8.ofNat (48 + n % 10)]⟩) W := fun W b h => run_str1 W b _ (by rw [hc]; exact h)
      have hd : ¬ (n : Int) < 10 := by omega
      have hcat := cat_bs (Lib.decDigits (n / 10)) [UInt8.ofNat (48 + n % 10)]
      have hq1 : (n : Int) / 10 = ((n / 10 : Nat) : Int) := by omega
      have hq2 : (n : Int) % 10 = ((n % 10 : Nat) : Int) := by omega
      have hq3 : (n : Int).tmod 10 = ((n % 10 : Nat) : Int) := by rw [Int.tmod_eq_emod_of_nonneg (by omega)]; omega
      have hw1 : IntKind.i64.wrap ((n / 10 : Nat) : Int) = ((n / 10 : Nat) : Int) := IntWalk.i64_in _ (by omega)
      have hw2 : IntKind.i64.wrap ((n % 10 : Nat) : Int) = ((n % 10 : Nat) : Int) := IntWalk.i64_in _ (by omega)
      have hw3 : IntKind.i64.wrap (48 + ((n % 10 : Nat) : Int)) = 48 + ((n % 10 : Nat) : Int) := IntWalk.i64_in _ (by omega)
      have hw4 : IntKind.u8.wrap (48 + ((n % 10 : Nat) : Int)) = 48 + ((n % 10 : Nat) : Int) := by simp [IntKind.wrap, IntKind.signed, IntKind.bits]; omega
      clear hc
      generalize UInt8.ofNat (48 + n % 10) = c at *
      generalize Lib.decDigits (n / 10) = l at *
      generalize hmm : n % 10 = m at *
      generalize hqq : n / 10 = q at *
      clear hmm hqq
      go_enter Tryz.func56, Tryz.ntmps56
      go_wp2
      go_region_law (first | (go_simp; go_at_call 56; refine (HI.out _).mono ?_; rintro e y ⟨rfl, hy⟩; have hcy : ∀ b o, b < _ → y.cell? ⟨b, o, none⟩ = _ := fun b o h => hy.cell (p := ⟨b, o, none⟩) h; unfold bs))
      all_goals
        clear hq1 hq2 hq3 hw1 hw2 hw3 hw4 hcv
        go_wp2
        go_ret
        refine ⟨by rw [E.out]; rfl, ?_⟩
        first | exact (((Below.refl _ _).alloc (Nat.le_refl _) _).drew).trans (hy.mono (by simp)) | exact (below_of_drew hy).alloc (below_of_drew hy).size _

/-- A register's word, with the blank ahead. -/
def rL (n : Nat) : List UInt8 := [32, 114] ++ Lib.decDigits n
theorem rR (n : Nat) (w : World) (hn : n < 5000000000) : Calls Tryz.prog 57 #[.int .i64 n] w fun e w' => e = .returned (.string ⟨(rL n).toArray⟩) ∧ Below w.heap.size w w' := by
  have HI := Lib.hid (rDigits n w hn)
  have hl := dec_len n hn
  have hcat := run_cat [32, 114] (Lib.decDigits n) (by simp; omega)
  unfold rL
  generalize Lib.decDigits n = l at *
  go_enter Tryz.func57, Tryz.ntmps57
  go_wp2_with fail
  refine HI.out.mono ?_
  rintro e y ⟨rfl, hy⟩
  unfold bs
  go_wp2
  go_ret
  exact ⟨rfl, hy⟩
end Go.Proofs.YteohnkilchkhkaaGreatDoor

/- The document's texts, Op by Op, as lists of bytes. -/
namespace Go.Proofs.YteohnkilchkhkaaGreatDoor
open Go.ChangeShapes Go.WideShapes Go.ChangeAt Go.RowKit
set_option linter.unusedVariables false

theorem itoa_nat (n : Nat) : Lib.itoa (n : Int) = Lib.decDigits n := by
  unfold Lib.itoa
  rw [if_neg (by omega)]
  rfl
theorem rL_len (n : Nat) (h : n < 5000000000) : (rL n).length ≤ 40 := by
  have := dec_len n h
  unfold rL
  simp
  omega
theorem rDig (n : Nat) (w : World) (h : n < 5000000000) : Calls Tryz.prog 56 #[.int .i64 n] w fun e w' => e = .returned (.string ⟨(Lib.decDigits n).toArray⟩) ∧ Below w.heap.size w w' := rDigits n w h
/-- Two strings, one behind the other. -/
theorem cat2 (a b : List UInt8) (m n : Nat) (ha : a.length ≤ m) (hb : b.length ≤ n) (hm : m ≤ 1000 := by decide) (hn : n ≤ 1000 := by decide) :
    ∃ z, z = a ++ b ∧ (⟨a.toArray⟩ : ByteArray) ++ ⟨b.toArray⟩ = ⟨z.toArray⟩ ∧ ¬ 9223372036854775807 < a.length + b.length ∧ z.length ≤ m + n :=
  ⟨a ++ b, rfl, cat_bs a b, by omega, by simp; omega⟩

theorem txt_1 (dn sn tn un an kn pn : Nat) : textL ⟨1, dn, sn, tn, un, an, kn, pn⟩ = nmL 1 ++ ((rL dn) ++ (32 :: Lib.decDigits kn)) := by
  simp [textL, hsL, partsL, partL, getI, rL, itoa_nat]
theorem txt_2 (dn sn tn un an kn pn : Nat) : textL ⟨2, dn, sn, tn, un, an, kn, pn⟩ = nmL 2 ++ ((rL dn) ++ (rL sn)) := by
  simp [textL, hsL, partsL, partL, getI, rL, itoa_nat]
theorem txt_3 (dn sn tn un an kn pn : Nat) : textL ⟨3, dn, sn, tn, un, an, kn, pn⟩ = nmL 3 ++ (((rL dn) ++ (rL sn)) ++ (32 :: Lib.decDigits kn)) := by
  simp [textL, hsL, partsL, partL, getI, rL, itoa_nat]
theorem txt_4 (dn sn tn un an kn pn : Nat) : textL ⟨4, dn, sn, tn, un, an, kn, pn⟩ = nmL 4 ++ (((rL dn) ++ (rL sn)) ++ (32 :: Lib.decDigits kn)) := by
  simp [textL, hsL, partsL, partL, getI, rL, itoa_nat]
theorem txt_5 (dn sn tn un an kn pn : Nat) : textL ⟨5, dn, sn, tn, un, an, kn, pn⟩ = nmL 5 ++ (((rL dn) ++ (rL sn)) ++ (32 :: Lib.decDigits kn)) := by
  simp [textL, hsL, partsL, partL, getI, rL, itoa_nat]
theorem txt_6 (dn sn tn un an kn pn : Nat) : textL ⟨6, dn, sn, tn, un, an, kn, pn⟩ = nmL 6 ++ (((rL dn) ++ (rL sn)) ++ (32 :: Lib.decDigits kn)) := by
  simp [textL, hsL, partsL, partL, getI, rL, itoa_nat]
theorem txt_7 (dn sn tn un an kn pn : Nat) : textL ⟨7, dn, sn, tn, un, an, kn, pn⟩ = nmL 7 ++ (((rL dn) ++ (rL sn)) ++ (rL tn)) := by
  simp [textL, hsL, partsL, partL, getI, rL, itoa_nat]
theorem txt_8 (dn sn tn un an kn pn : Nat) : textL ⟨8, dn, sn, tn, un, an, kn, pn⟩ = nmL 8 ++ (((rL sn) ++ (rL tn)) ++ (32 :: Lib.decDigits pn)) := by
  simp [textL, hsL, partsL, partL, getI, rL, itoa_nat]
theorem txt_9 (dn sn tn un an kn pn : Nat) : textL ⟨9, dn, sn, tn, un, an, kn, pn⟩ = nmL 9 ++ (((rL sn) ++ (rL tn)) ++ (32 :: Lib.decDigits pn)) := by
  simp [textL, hsL, partsL, partL, getI, rL, itoa_nat]
theorem txt_10 (dn sn tn un an kn pn : Nat) : textL ⟨10, dn, sn, tn, un, an, kn, pn⟩ = nmL 10 ++ (32 :: Lib.decDigits pn) := by
  simp [textL, hsL, partsL, partL, getI, itoa_nat]
theorem txt_11 (dn sn tn un an kn pn : Nat) : textL ⟨11, dn, sn, tn, un, an, kn, pn⟩ = nmL 11 ++ (rL dn) := by
  simp [textL, hsL, partsL, partL, getI, rL, itoa_nat]
theorem txt_22 (dn sn tn un an kn pn : Nat) : textL ⟨22, dn, sn, tn, un, an, kn, pn⟩ = nmL 22 ++ (rL dn) := by
  simp [textL, hsL, partsL, partL, getI, rL, itoa_nat]
theorem txt_12 (dn sn tn un an kn pn : Nat) : textL ⟨12, dn, sn, tn, un, an, kn, pn⟩ = nmL 12 ++ (32 :: Lib.decDigits kn) := by
  simp [textL, hsL, partsL, partL, getI, itoa_nat]
theorem txt_13 (dn sn tn un an kn pn : Nat) : textL ⟨13, dn, sn, tn, un, an, kn, pn⟩ = nmL 13 ++ (32 :: Lib.decDigits kn) := by
  simp [textL, hsL, partsL, partL, getI, itoa_nat]
theorem txt_16 (dn sn tn un an kn pn : Nat) : textL ⟨16, dn, sn, tn, un, an, kn, pn⟩ = nmL 16 ++ (((rL dn) ++ (32 :: Lib.decDigits an)) ++ (rL sn)) := by
  simp [textL, hsL, partsL, partL, getI, rL, itoa_nat]
theorem txt_17 (dn sn tn un an kn pn : Nat) : textL ⟨17, dn, sn, tn, un, an, kn, pn⟩ = nmL 17 ++ (((32 :: Lib.decDigits an) ++ (rL sn)) ++ (rL tn)) := by
  simp [textL, hsL, partsL, partL, getI, rL, itoa_nat]
theorem txt_18 (dn sn tn un an kn pn : Nat) : textL ⟨18, dn, sn, tn, un, an, kn, pn⟩ = nmL 18 ++ ((((rL dn) ++ (32 :: Lib.decDigits an)) ++ (rL sn)) ++ (rL tn)) := by
  simp [textL, hsL, partsL, partL, getI, rL, itoa_nat]
theorem txt_19 (dn sn tn un an kn pn : Nat) : textL ⟨19, dn, sn, tn, un, an, kn, pn⟩ = nmL 19 ++ (((((rL dn) ++ (32 :: Lib.decDigits an)) ++ (rL sn)) ++ (rL tn)) ++ (rL un)) := by
  simp [textL, hsL, partsL, partL, getI, rL, itoa_nat]
theorem txt_20 (dn sn tn un an kn pn : Nat) : textL ⟨20, dn, sn, tn, un, an, kn, pn⟩ = nmL 20 ++ ((((rL dn) ++ (32 :: Lib.decDigits an)) ++ (rL sn)) ++ (32 :: Lib.decDigits kn)) := by
  simp [textL, hsL, partsL, partL, getI, rL, itoa_nat]
theorem txt_23 (dn sn tn un an kn pn : Nat) : textL ⟨23, dn, sn, tn, un, an, kn, pn⟩ = nmL 23 ++ (rL sn) := by
  simp [textL, hsL, partsL, partL, getI, rL, itoa_nat]
end Go.Proofs.YteohnkilchkhkaaGreatDoor
