/- What each function of layer 1 (handle), and of the document's own answers to it, returns: one contract a function, for every word (a number from 0 to 2^32 - 1), every index and every generation. For the layers above: over the text on rows; a function that the seat hasn't is left out. -/
import Derived.Test.YtpinpipjlongaaaRow
import Derived.Laws.BitsAllLaws
namespace Go.Proofs.Ytpinpipjlongaaa
set_option maxRecDepth 100000
open Go.ChangeShapes Go.WideShapes Go.ChangeAt Go.RowKit

theorem and12 (x : Int) (h0 : 0 ≤ x) (h1 : x < 4294967296) : bits .and .u32 x 4095 = x % 4096 := by
  rw [u32_and x 4095 h0 h1 (by omega) (by omega), show (4095 : Int).toNat = 4095 from rfl, nat_mask12]; omega
theorem and18 (x : Int) (h0 : 0 ≤ x) (h1 : x < 4294967296) : bits .and .u32 x 262143 = x % 262144 := by
  rw [u32_and x 262143 h0 h1 (by omega) (by omega), show (262143 : Int).toNat = 262143 from rfl, nat_mask18]; omega
theorem or12 (g i : Int) (g0 : 0 ≤ g) (g1 : g < 262144) (i0 : 0 ≤ i) (i1 : i < 4096) : bits .or .u32 (g * 4096) i = g * 4096 + i := by
  rw [u32_or _ _ (by omega) (by omega) (by omega) (by omega), nat_join 12 _ _ (by omega) (by omega)]; omega

theorem hIndex (h : Int) (h0 : 0 ≤ h) (h1 : h < 4294967296) (w : World) :
    Calls Try.prog 62 #[.int .u32 h] w fun e w' => e = .returned (.int .i64 (h % 4096)) ∧ w = w' := by
  go_enter Try.func62, Try.ntmps62
  go_wp2
  go_ret
  exact ⟨ret_int (by rw [and12 h h0 h1, IntWalk.wrap64_in _ (by omega)]), rfl⟩



theorem hPack (i g : Int) (i0 : 0 ≤ i) (i1 : i < 4096) (g0 : 0 ≤ g) (g1 : g < 262144) (w : World) :
    Calls Try.prog 74 #[.int .u32 i, .int .u32 g] w fun e w' => e = .returned (.int .u32 (g * 4096 + i)) ∧ w = w' := by
  go_enter Try.func74, Try.ntmps74
  go_wp2
  go_ret
  exact ⟨ret_int (or12 g i g0 g1 i0 i1), rfl⟩

theorem hNext (h : Int) (h0 : 0 ≤ h) (h1 : h < 4294967296) (w : World) :
    Calls Try.prog 61 #[.int .u32 h] w fun e w' => e = .returned (.int .u32 ((h / 4096 + 1) % 262144 * 4096 + h % 4096)) ∧ w = w' := by
  go_enter Try.func61, Try.ntmps61
  go_wp2_with fail
  rw [and12 h h0 h1, and18 (h / 4096 + 1) (by omega) (by omega)]
  refine (hPack _ _ (by omega) (by omega) (by omega) (by omega) _).mono ?_
  rintro e w' ⟨rfl, rfl⟩
  go_wp2
  go_ret
  exact ⟨rfl, rfl⟩




/-- No handle has this index and generation. -/
def Bad (i g : Int) : Prop := i < 0 ∨ 4095 < i ∨ g < 0 ∨ 262143 < g

theorem bad_cases {i g : Int} (h : Bad i g) : i < 0 ∨ (0 ≤ i ∧ 4095 < i) ∨ (0 ≤ i ∧ i ≤ 4095 ∧ g < 0) ∨ (0 ≤ i ∧ i ≤ 4095 ∧ 0 ≤ g ∧ 262143 < g) := by
  unfold Bad at h; omega

theorem hNewBad (i g : Int) (h : Bad i g) (w : World) :
    Calls Try.prog 54 #[.int .i64 i, .int .i64 g] w fun e w' => e = .returned (.tuple #[.int .u32 0, .int .i64 1]) ∧ w = w' := by
  rcases bad_cases h with h | ⟨h1, h⟩ | ⟨h1, h2, h⟩ | ⟨h1, h2, h3, h⟩
  all_goals
    go_enter Try.func54, Try.ntmps54
    go_wp2
    go_ret2
    exact ⟨rfl, rfl⟩

theorem hNewGood (i g : Int) (i0 : 0 ≤ i) (i1 : i < 4096) (g0 : 0 ≤ g) (g1 : g < 262144) (w : World) :
    Calls Try.prog 54 #[.int .i64 i, .int .i64 g] w fun e w' => e = .returned (.tuple #[.int .u32 (g * 4096 + i), .int .i64 0]) ∧ w = w' := by
  go_enter Try.func54, Try.ntmps54
  go_wp2_with fail
  refine (hPack _ _ (by omega) (by omega) (by omega) (by omega) _).mono ?_
  rintro e w' ⟨rfl, rfl⟩
  go_wp2
  go_ret2
  exact ⟨rfl, rfl⟩


end Go.Proofs.Ytpinpipjlongaaa
