/- Strings as lists of bytes: how two are joined, a byte of one, a slice of one, digits; the document's Digits. -/
import Derived.Test.YtjhdpolaapbihaaDoorProg
import Derived.Test.YtjhdpolaapbihaaDoorGrow
import Derived.Lib.Hide
import Derived.WalkKit
import Derived.ProofKit
import Derived.WalkLawsBesides
import Derived.Lib.ItoaNum
import Derived.Lib.Strings
import Derived.Deep.RegionLaw
import Derived.Laws.IdiomStrings
namespace Go.Proofs.YtjhdpolaapbihaaDoor
open Go.ChangeShapes Go.WideShapes Go.ChangeAt Go.RowKit
set_option linter.unusedVariables false

/-- A list of bytes as a string. -/
def bs (l : List UInt8) : Value := .string ⟨l.toArray⟩

theorem run_ltr (hs : List UInt8) (n : Nat) (h : n < hs.length) (w : World) : (Instr.index 9 (.string ⟨hs.toArray⟩) (.int .i64 n)).run Tryd.prog w = .ok (.int .u8 ((hs.getD n 0).toNat : Int)) w := by
  have hu := Tryd.underlying9
  have h2 : (n : Int) < (hs.length : Int) := by omega
  go_simp
  rfl

theorem cat_bs (a b : List UInt8) : (⟨a.toArray⟩ : ByteArray) ++ ⟨b.toArray⟩ = ⟨(a ++ b).toArray⟩ := by
  apply ByteArray.ext
  simp
theorem run_cat (a b : List UInt8) (h : a.length + b.length < 1000000) (w : World) : (binOp .add 9 (.string ⟨a.toArray⟩) (.string ⟨b.toArray⟩)).run Tryd.prog w = .ok (.string ⟨(a ++ b).toArray⟩) w := by
  have hu := Tryd.underlying9
  go_simp
  rw [if_neg (by omega), cat_bs]
theorem ret_bs {a b : List UInt8} (h : a = b) : Ending.returned (.string ⟨a.toArray⟩) = .returned (bs b) := by rw [h]; rfl

theorem itoa_len (n : Int) (h0 : -9223372036854775808 ≤ n) (h1 : n ≤ 9223372036854775807) : (Lib.itoa n).length ≤ 30 := by
  have key : ∀ (m u : Nat), u < 10 ^ (m + 1) → (Lib.decDigits u).length ≤ m + 1 := by
    intro m
    induction m with
    | zero => intro u hu; rw [Lib.decDigits, dif_pos (by simpa using hu)]; simp
    | succ m ih =>
      intro u hu
      rw [Lib.decDigits]
      by_cases h : u < 10
      · rw [dif_pos h]; simp
      · rw [dif_neg h]
        have h2 : u / 10 < 10 ^ (m + 1) := by
          rw [Nat.div_lt_iff_lt_mul (by decide)]
          rw [Nat.pow_succ] at hu
          exact hu
        have := ih _ h2
        simp
        omega
  have e : (10 : Nat) ^ (19 + 1) = 100000000000000000000 := by decide
  unfold Lib.itoa
  split
  · have := key 19 n.natAbs (by rw [e]; omega)
    simp; omega
  · have := key 19 n.toNat (by rw [e]; omega)
    omega

theorem run_str1 (W : World) (b : Nat) (c : UInt8) (h : W.cell? ⟨b, 0, none⟩ = some (.int .u8 (c.toNat : Int))) :
    (convert 53 9 (.slice (some ⟨b, 0, none⟩) 1 1)).run Tryd.prog W = .ok (.string ⟨#[c]⟩) W :=
  run_convert_bytes_back W 53 9 5 ⟨b, 0, none⟩ 1 [c] Tryd.underlying53 Tryd.underlying5 Tryd.underlying9 (fun j hj => by
    simp only [List.length_cons, List.length_nil] at hj
    obtain rfl : j = 0 := by omega
    have e : (⟨b, 0, none⟩ : Addr).add 0 = ⟨b, 0, none⟩ := by unfold Addr.add; simp
    rw [e]
    exact h)
theorem dec_lenB (n : Nat) (h : n < 5000000000000000) : (Lib.decDigits n).length ≤ 30 := by
  have := itoa_len n (by omega) (by omega)
  unfold Lib.itoa at this
  rw [if_neg (by omega)] at this
  simpa using this

set_option maxRecDepth 20000 in
theorem rDigB : ∀ (n : Nat) (w : World), n < 5000000000000000 → Calls Tryd.prog 26 #[.int .i64 n] w fun e w' => e = .returned (bs (Lib.decDigits n)) ∧ Below w.heap.size w w' := by
  intro n
  induction n using Nat.strongRecOn with
  | _ n ih =>
    intro w hn
    by_cases h : n < 10
    · have E := Lib.hid (show Lib.decDigits n = [UInt8.ofNat (48 + n)] by rw [Lib.decDigits, dif_pos h])
      clear ih
      have hi : (n : Int) < 10 := by omega
      have hc : ((UInt8.ofNat (48 + n)).toNat : Int) = 48 + (n : Int) := by
        rw [UInt8.toNat_ofNat', Nat.mod_eq_of_lt (by omega)]; omega
      have hcv := run_str1 (w.alloc (.cells #[.int .u8 (48 + (n : Int))] 5)) w.heap.size (UInt8.ofNat (48 + n)) (by rw [hc]; exact Bk.cell (Bk.made w _ _) 0)
      clear hc
      generalize UInt8.ofNat (48 + n) = c at *
      go_enter Tryd.func26, Tryd.ntmps26
      go_wp2
      go_ret
      exact ⟨by rw [E.out]; rfl, (Below.refl _ _).alloc (Nat.le_refl _) _⟩
    · have E := Lib.hid (show Lib.decDigits n = Lib.decDigits (n / 10) ++ [UInt8.ofNat (48 + n % 10)] by rw [Lib.decDigits, dif_neg h])
      have hsz : ¬ 9223372036854775807 < (Lib.decDigits (n / 10)).length + 1 := by have := dec_lenB (n / 10) (by omega); omega
      have HI := Lib.hid (fun W => ih (n / 10) (by omega) W (by omega))
      clear ih
      have hm : n % 10 < 10 := by omega
      have hl := dec_lenB (n / 10) (by omega)
      have hc : ((UInt8.ofNat (48 + n % 10)).toNat : Int) = 48 + ((n % 10 : Nat) : Int) := by
        rw [UInt8.toNat_ofNat', Nat.mod_eq_of_lt (by omega)]; omega
      have hcv : ∀ W b, W.cell? ⟨b, 0, none⟩ = some (.int .u8 (48 + ((n % 10 : Nat) : Int))) → (convert 53 9 (.slice (some ⟨b, 0, none⟩) 1 1)).run Tryd.prog W = .ok (.string ⟨#[UInt8.ofNat (48 + n % 10)]⟩) W := fun W b h => run_str1 W b _ (by rw [hc]; exact h)
      have hd : ¬ (n : Int) < 10 := by omega
      have hcat := cat_bs (Lib.decDigits (n / 10)) [UInt8.ofNat (48 + n % 10)]
      have hq1 : (n : Int) / 10 = ((n / 10 : Nat) : Int) := by omega
      have hq2 : (n : Int) % 10 = ((n % 10 : Nat) : Int) := by omega
      have hq3 : (n : Int).tmod 10 = ((n % 10 : Nat) : Int) := by rw [Int.tmod_eq_emod_of_nonneg (by omega)]; omega
      have hw1 : IntKind.i64.wrap ((n / 10 : Nat) : Int) = ((n / 10 : Nat) : Int) := IntWalk.i64_in _ (by omega)
      have hw2 : IntKind.i64.wrap ((n % 10 : Nat) : Int) = ((n % 10 : Nat) : Int) := IntWalk.i64_in _ (by omega)
      have hw3 : IntKind.i64.wrap (48 + ((n % 10 : Nat) : Int)) = 48 + ((n % 10 : Nat) : Int) := IntWalk.i64_in _ (by omega)
      have hw4 : IntKind.u8.wrap (48 + ((n % 10 : Nat) : Int)) = 48 + ((n % 10 : Nat) : Int) := by simp [IntKind.wrap, IntKind.signed, IntKind.bits]; omega
      clear hc
      generalize UInt8.ofNat (48 + n % 10) = c at *
      generalize Lib.decDigits (n / 10) = l at *
      generalize hmm : n % 10 = m at *
      generalize hqq : n / 10 = q at *
      clear hmm hqq
      go_enter Tryd.func26, Tryd.ntmps26
      go_wp2
      go_region_law (first | (go_simp; go_at_call 26; refine (HI.out _).mono ?_; rintro e y ⟨rfl, hy⟩; have hcy : ∀ b o, b < _ → y.cell? ⟨b, o, none⟩ = _ := fun b o h => hy.cell (p := ⟨b, o, none⟩) h; unfold bs))
      all_goals
        clear hq1 hq2 hq3 hw1 hw2 hw3 hw4 hcv
        go_wp2
        go_ret
        refine ⟨by rw [E.out]; rfl, ?_⟩
        first | exact (((Below.refl _ _).alloc (Nat.le_refl _) _).drew).trans (hy.mono (by simp)) | exact (below_of_drew hy).alloc (below_of_drew hy).size _

theorem dec_len (n : Nat) (h : n < 5000000000) : (Lib.decDigits n).length ≤ 30 := dec_lenB n (by omega)
theorem rDigits (n : Nat) (w : World) (h : n < 5000000000) : Calls Tryd.prog 26 #[.int .i64 n] w fun e w' => e = .returned (bs (Lib.decDigits n)) ∧ Below w.heap.size w w' := rDigB n w (by omega)

theorem itoa_nat (n : Nat) : Lib.itoa (n : Int) = Lib.decDigits n := by
  unfold Lib.itoa
  rw [if_neg (by omega)]
  rfl
theorem rDig (n : Nat) (w : World) (h : n < 5000000000) : Calls Tryd.prog 26 #[.int .i64 n] w fun e w' => e = .returned (.string ⟨(Lib.decDigits n).toArray⟩) ∧ Below w.heap.size w w' := rDigits n w h
/-- Two strings, one behind the other. -/
theorem cat2 (a b : List UInt8) (m n : Nat) (ha : a.length ≤ m) (hb : b.length ≤ n) (hm : m ≤ 1000 := by decide) (hn : n ≤ 1000 := by decide) :
    ∃ z, z = a ++ b ∧ (⟨a.toArray⟩ : ByteArray) ++ ⟨b.toArray⟩ = ⟨z.toArray⟩ ∧ ¬ 9223372036854775807 < a.length + b.length ∧ z.length ≤ m + n :=
  ⟨a ++ b, rfl, cat_bs a b, by omega, by simp; omega⟩

/-- A slice of a string. -/
theorem run_cutS (s : List UInt8) (f i : Nat) (h : f ≤ i) (hi : i ≤ s.length) (w : World) : (Instr.slice 9 (.string ⟨s.toArray⟩) (some (.int .i64 f)) (some (.int .i64 i)) none).run Tryd.prog w = .ok (.string ⟨((s.take i).drop f).toArray⟩) w := by
  have hu := Tryd.underlying9
  go_simp
  apply ByteArray.ext
  rw [ByteArray.data_extract]
  apply Array.ext'
  simp [List.drop_take]

end Go.Proofs.YtjhdpolaapbihaaDoor
