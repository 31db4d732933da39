/- What each function of layer 1 (handle), and of the document's own answers to it, returns: one contract a function, for every word (a number from 0 to 2^32 - 1), every index and every generation. For the layers above: over the text on rows; a function that the seat hasn't is left out. -/
import Derived.Test.YteeaminfhpcdmaaRow
import Derived.Laws.BitsAllLaws
namespace Go.Proofs.Yteeaminfhpcdmaa
open Go.ChangeShapes Go.WideShapes Go.ChangeAt Go.RowKit

theorem and12 (x : Int) (h0 : 0 ≤ x) (h1 : x < 4294967296) : bits .and .u32 x 4095 = x % 4096 := by
  rw [u32_and x 4095 h0 h1 (by omega) (by omega), show (4095 : Int).toNat = 4095 from rfl, nat_mask12]; omega
theorem and18 (x : Int) (h0 : 0 ≤ x) (h1 : x < 4294967296) : bits .and .u32 x 262143 = x % 262144 := by
  rw [u32_and x 262143 h0 h1 (by omega) (by omega), show (262143 : Int).toNat = 262143 from rfl, nat_mask18]; omega
theorem or12 (g i : Int) (g0 : 0 ≤ g) (g1 : g < 262144) (i0 : 0 ≤ i) (i1 : i < 4096) : bits .or .u32 (g * 4096) i = g * 4096 + i := by
  rw [u32_or _ _ (by omega) (by omega) (by omega) (by omega), nat_join 12 _ _ (by omega) (by omega)]; omega

theorem hIndex (h : Int) (h0 : 0 ≤ h) (h1 : h < 4294967296) (w : World) :
    Calls Try.prog 29 #[.int .u32 h] w fun e w' => e = .returned (.int .i64 (h % 4096)) ∧ w = w' := by
  go_enter Try.func29, Try.ntmps29
  go_wp2
  go_ret
  exact ⟨ret_int (by rw [and12 h h0 h1, IntWalk.wrap64_in _ (by omega)]), rfl⟩



theorem hPack (i g : Int) (i0 : 0 ≤ i) (i1 : i < 4096) (g0 : 0 ≤ g) (g1 : g < 262144) (w : World) :
    Calls Try.prog 36 #[.int .u32 i, .int .u32 g] w fun e w' => e = .returned (.int .u32 (g * 4096 + i)) ∧ w = w' := by
  go_enter Try.func36, Try.ntmps36
  go_wp2
  go_ret
  exact ⟨ret_int (or12 g i g0 g1 i0 i1), rfl⟩

theorem hNext (h : Int) (h0 : 0 ≤ h) (h1 : h < 4294967296) (w : World) :
    Calls Try.prog 25 #[.int .u32 h] w fun e w' => e = .returned (.int .u32 ((h / 4096 + 1) % 262144 * 4096 + h % 4096)) ∧ w = w' := by
  go_enter Try.func25, Try.ntmps25
  go_wp2_with fail
  rw [and12 h h0 h1, and18 (h / 4096 + 1) (by omega) (by omega)]
  refine (hPack _ _ (by omega) (by omega) (by omega) (by omega) _).mono ?_
  rintro e w' ⟨rfl, rfl⟩
  go_wp2
  go_ret
  exact ⟨rfl, rfl⟩

theorem rIndex (h : Int) (h0 : 0 ≤ h) (h1 : h < 4294967296) (w : World) :
    Calls Try.prog 16 #[.int .u32 h] w fun e w' => e = .returned (.int .i64 (h % 4096)) ∧ w = w' := by
  go_enter Try.func16, Try.ntmps16
  go_wp2
  go_ret
  exact ⟨ret_int (by first | rfl | omega), rfl⟩

theorem rGen (h : Int) (h0 : 0 ≤ h) (h1 : h < 4294967296) (w : World) :
    Calls Try.prog 21 #[.int .u32 h] w fun e w' => e = .returned (.int .i64 (h / 4096 % 262144)) ∧ w = w' := by
  go_enter Try.func21, Try.ntmps21
  go_wp2
  go_ret
  exact ⟨ret_int (by first | rfl | omega), rfl⟩

theorem rNext (h : Int) (h0 : 0 ≤ h) (h1 : h < 4294967296) (w : World) :
    Calls Try.prog 26 #[.int .u32 h] w fun e w' => e = .returned (.int .u32 ((h / 4096 + 1) % 262144 * 4096 + h % 4096)) ∧ w = w' := by
  have hg0 : 0 ≤ h / 4096 % 262144 := by omega
  have hg1 : h / 4096 % 262144 < 262144 := by omega
  have hi0 : 0 ≤ h % 4096 := by omega
  have hi1 : h % 4096 < 4096 := by omega
  by_cases hl : h / 4096 % 262144 < 262143
  · have hb : (h / 4096 % 262144 + 1 == (262144 : Int)) = false := by simp; omega
    go_enter Try.func26, Try.ntmps26
    go_wp2_with (first | (go_at_call 21; refine (rGen _ h0 h1 _).mono ?_; rintro e w' ⟨rfl, rfl⟩) | (go_at_call 16; refine (rIndex _ h0 h1 _).mono ?_; rintro e w' ⟨rfl, rfl⟩))
    go_ret
    exact ⟨ret_int (by clear hb; first | omega | (go_unwrap; omega)), rfl⟩
  · have hb : (h / 4096 % 262144 + 1 == (262144 : Int)) = true := by simp; omega
    go_enter Try.func26, Try.ntmps26
    go_wp2_with (first | (go_at_call 21; refine (rGen _ h0 h1 _).mono ?_; rintro e w' ⟨rfl, rfl⟩) | (go_at_call 16; refine (rIndex _ h0 h1 _).mono ?_; rintro e w' ⟨rfl, rfl⟩))
    go_ret
    exact ⟨ret_int (by clear hb; first | omega | (go_unwrap; omega)), rfl⟩

/-- No handle has this index and generation. -/
def Bad (i g : Int) : Prop := i < 0 ∨ 4095 < i ∨ g < 0 ∨ 262143 < g

theorem bad_cases {i g : Int} (h : Bad i g) : i < 0 ∨ (0 ≤ i ∧ 4095 < i) ∨ (0 ≤ i ∧ i ≤ 4095 ∧ g < 0) ∨ (0 ≤ i ∧ i ≤ 4095 ∧ 0 ≤ g ∧ 262143 < g) := by
  unfold Bad at h; omega

theorem hNewBad (i g : Int) (h : Bad i g) (w : World) :
    Calls Try.prog 32 #[.int .i64 i, .int .i64 g] w fun e w' => e = .returned (.tuple #[.int .u32 0, .int .i64 1]) ∧ w = w' := by
  rcases bad_cases h with h | ⟨h1, h⟩ | ⟨h1, h2, h⟩ | ⟨h1, h2, h3, h⟩
  all_goals
    go_enter Try.func32, Try.ntmps32
    go_wp2
    go_ret2
    exact ⟨rfl, rfl⟩

theorem hNewGood (i g : Int) (i0 : 0 ≤ i) (i1 : i < 4096) (g0 : 0 ≤ g) (g1 : g < 262144) (w : World) :
    Calls Try.prog 32 #[.int .i64 i, .int .i64 g] w fun e w' => e = .returned (.tuple #[.int .u32 (g * 4096 + i), .int .i64 0]) ∧ w = w' := by
  go_enter Try.func32, Try.ntmps32
  go_wp2_with fail
  refine (hPack _ _ (by omega) (by omega) (by omega) (by omega) _).mono ?_
  rintro e w' ⟨rfl, rfl⟩
  go_wp2
  go_ret2
  exact ⟨rfl, rfl⟩

theorem rNewBad (i g : Int) (h : Bad i g) (w : World) :
    Calls Try.prog 33 #[.int .i64 i, .int .i64 g] w fun e w' => e = .returned (.tuple #[.int .u32 0, .bool false]) ∧ w = w' := by
  rcases bad_cases h with h | ⟨h1, h⟩ | ⟨h1, h2, h⟩ | ⟨h1, h2, h3, h⟩
  all_goals
    go_enter Try.func33, Try.ntmps33
    go_wp2
    go_ret2
    exact ⟨rfl, rfl⟩

theorem rNewGood (i g : Int) (i0 : 0 ≤ i) (i1 : i < 4096) (g0 : 0 ≤ g) (g1 : g < 262144) (w : World) :
    Calls Try.prog 33 #[.int .i64 i, .int .i64 g] w fun e w' => e = .returned (.tuple #[.int .u32 (g * 4096 + i), .bool true]) ∧ w = w' := by
  go_enter Try.func33, Try.ntmps33
  go_wp2
  go_ret2
  exact ⟨rfl, rfl⟩
end Go.Proofs.Yteeaminfhpcdmaa
