/- What each function of layer 9 (mem) but New returns, and what a memory is then: one contract a function, for all sizes that there may be, every area, word and address. -/
import Derived.Test.YtpinpipjlongaaaCoreM
import Derived.Test.YtpinpipjlongaaaCell
import Derived.Test.YtpinpipjlongaaaHandleB
namespace Go.Proofs.Ytpinpipjlongaaa
set_option maxRecDepth 100000
open Go.ChangeShapes Go.WideShapes Go.ChangeAt Go.RowKit

/-- Ints as cells. -/
def intsC (zs : List Int) : Array Value := (zs.map (Value.int .i64)).toArray
theorem intsC_at (zs : List Int) (i : Nat) (h : i < zs.length) : (intsC zs)[i]? = some (.int .i64 (nth zs i)) := by simp [intsC, h, nth]
theorem nth_take (zs : List Int) {k i : Nat} (h : i < k) : nth (zs.take k) i = nth zs i := by
  unfold nth; simp only [List.getD_eq_getElem?_getD, List.getElem?_take]; rw [if_pos h]
theorem right_take {zs : List Int} (h : RightZ zs) (k : Nat) : RightZ (zs.take k) := by
  refine ⟨by have := h.1; simp; omega, fun i hi => ?_⟩
  simp at hi
  rw [nth_take zs (by omega)]
  exact h.2 i (by omega)
theorem pre_take (zs : List Int) {k : Nat} : ∀ j, j ≤ k → pre (zs.take k) j = pre zs j
  | 0, _ => rfl
  | j + 1, h => by rw [pre_succ, pre_succ, pre_take zs j (by omega)]; unfold sz; rw [nth_take zs (by omega)]
theorem tot_take {zs : List Int} {k : Nat} (h : k ≤ zs.length) : tot (zs.take k) = pre zs k := by
  unfold tot; rw [List.length_take, Nat.min_eq_left h, pre_take zs k (Nat.le_refl _)]

/-- A slice whose cells are in a block that is known: the first k of them. -/
theorem given_bk {w : World} {s k : Nat} {zs : List Int} (h : Bk w s 3 (intsC zs)) (hk : k ≤ zs.length) : Given .i64 w (some ⟨s, 0, none⟩) (zs.take k) := by
  intro _
  refine ⟨s, 0, rfl, h.lt, fun i hi => ?_⟩
  simp at hi
  rw [Nat.zero_add, h.cell, intsC_at zs i (by omega), nth_take zs (by omega)]
theorem Given.here {k : IntKind} {w : World} {a : Option Addr} {xs : List Int} (h : Given k w a xs) {i : Nat} (hi : i < xs.length) : ∃ b off, a = some ⟨b, off, none⟩ ∧ w.cell? ⟨b, off + i, none⟩ = some (.int k (nth xs i)) := by
  obtain ⟨b, off, e, _, hc⟩ := h (by omega)
  exact ⟨b, off, e, hc i hi⟩
theorem Given.grown {k : IntKind} {w w' : World} {a : Option Addr} {xs : List Int} (h : Given k w a xs) (hb : w.grownBy w' none) : Given k w' a xs := by
  intro h0
  obtain ⟨b, off, e, hlt, hc⟩ := h h0
  exact ⟨b, off, e, Nat.lt_of_lt_of_le hlt hb.size, fun i hi => ((below_of_grown hb).cell (p := ⟨b, off + i, none⟩) hlt).trans (hc i hi)⟩

set_option maxHeartbeats 400000 in
theorem cTogether {w : World} {a : Option Addr} {zs : List Int} (h : Given .i64 w a zs) (hz : RightZ zs) (cap : Nat) :
    Calls Try.prog 32 #[.slice a zs.length cap] w fun e w' => e = .returned (.int .i64 (tot zs)) ∧ w = w' := by
  have h8 := hz.1
  go_enter Try.func32, Try.ntmps32
  go_wp2
  go_loopw [3, 8] (fun s t wr => ∃ k : Nat, k ≤ zs.length ∧ t = .int .i64 k ∧ s = .int .i64 (pre zs k) ∧ w = wr) (fun _ t _ => zs.length - (intOf t).toNat)
  case atStart => exact ⟨0, Nat.zero_le _, rfl, rfl, by trivial⟩
  case round =>
    obtain ⟨k, hk, rfl, rfl, rfl⟩ := hrel
    by_cases hlt : k < zs.length
    · obtain ⟨b, off, rfl, hc⟩ := h.here hlt
      rw [sz_eq hz hlt] at hc
      have h1 := sz_le hz hlt
      have h2 := pre_le hz k hk
      have hs := pre_succ zs k
      go_wp2
      go_roundw
      case rel => exact ⟨k + 1, by omega, by go_num, by rw [hs]; go_num, by trivial⟩
      case measure => simp [intOf]; omega
    · obtain rfl : k = zs.length := by omega
      go_wp2
      go_ret
      exact ⟨rfl, rfl⟩

theorem mRight {w : World} {a : Option Addr} {zs : List Int} (h : Given .i64 w a zs) (hz : RightZ zs) (cap : Nat) :
    Calls Try.prog 31 #[.slice a zs.length cap] w fun e w' => e = .returned (.bool true) ∧ w = w' := by
  have h8 := hz.1
  go_enter Try.func31, Try.ntmps31
  go_wp2
  go_loopw [10] (fun t wr => ∃ k : Nat, k ≤ zs.length ∧ t = .int .i64 k ∧ w = wr) (fun t _ => zs.length - (intOf t).toNat)
  case atStart => exact ⟨0, Nat.zero_le _, rfl, by trivial⟩
  case round =>
    obtain ⟨k, hk, rfl, rfl⟩ := hrel
    by_cases hlt : k < zs.length
    · obtain ⟨b, off, rfl, hc⟩ := h.here hlt
      obtain ⟨h1, h2⟩ := hz.2 k hlt
      go_wp2
      go_roundw
      case rel => exact ⟨k + 1, by omega, by go_num, by trivial⟩
      case measure => simp [intOf]; omega
    · obtain rfl : k = zs.length := by omega
      go_wp2
      go_ret
      exact ⟨rfl, rfl⟩

theorem cRightNot {w : World} {a : Option Addr} {zs : List Int} (h : Given .i64 w a zs) (hz : ¬ RightZ zs) (hm : zs.length ≤ maxLen) (cap : Nat) :
    Calls Try.prog 31 #[.slice a zs.length cap] w fun e w' => e = .returned (.bool false) ∧ w = w' := by
  unfold maxLen at hm
  by_cases h8 : 8 < zs.length
  · go_enter Try.func31, Try.ntmps31
    go_wp2
    go_ret
    exact ⟨rfl, rfl⟩
  go_enter Try.func31, Try.ntmps31
  go_wp2
  go_loopw [10] (fun t wr => ∃ k : Nat, k ≤ zs.length ∧ t = .int .i64 k ∧ (∀ i, i < k → 0 ≤ nth zs i ∧ nth zs i ≤ 4096) ∧ w = wr) (fun t _ => zs.length - (intOf t).toNat)
  case atStart => exact ⟨0, Nat.zero_le _, rfl, fun i hi => by omega, by trivial⟩
  case round =>
    obtain ⟨k, hk, rfl, hall, rfl⟩ := hrel
    have HA := Lib.hid hall
    clear hall
    by_cases hlt : k < zs.length
    · obtain ⟨b, off, rfl, hc⟩ := h.here hlt
      rcases (show nth zs k < 0 ∨ (0 ≤ nth zs k ∧ 4096 < nth zs k) ∨ (0 ≤ nth zs k ∧ nth zs k ≤ 4096) by omega) with h1 | h1 | h1
      · go_wp2
        go_ret
        exact ⟨rfl, rfl⟩
      · go_wp2
        go_ret
        exact ⟨rfl, rfl⟩
      · go_wp2
        go_roundw
        case rel =>
          refine ⟨k + 1, by omega, by go_num, fun i hi => ?_, by trivial⟩
          by_cases e : i = k
          · subst e; exact h1
          · exact HA.out i (by omega)
        case measure => simp [intOf]; omega
    · exact absurd ⟨by omega, fun i hi => HA.out i (by omega)⟩ hz

/-- A memory: the struct is block p, its cells block q, their words block g, its sizes block s. -/
structure Mm (w : World) (p q g s : Nat) (zs xs : List Int) : Prop where
  ptr : Bk w p 79 #[.pointer (some ⟨q, 0, none⟩), .slice (some ⟨s, 0, none⟩) zs.length zs.length]
  cel : Cel w q g xs
  row : Bk w s 3 (intsC zs)
  right : RightZ zs
  len : xs.length = tot zs
section
variable {w w' : World} {p q g s : Nat} {zs xs ys : List Int}
theorem Mm.grown (h : Mm w p q g s zs xs) (hg : w.grownBy w' none) : Mm w' p q g s zs xs :=
  ⟨h.ptr.grown hg (by simp), h.cel.kept hg (by simp) (by simp), h.row.grown hg (by simp), h.right, h.len⟩
theorem Mm.alloc (h : Mm w p q g s zs xs) (o : Obj) : Mm (w.alloc o) p q g s zs xs := h.grown (grown_made _ _ none)
theorem Mm.drewN (h : Mm w p q g s zs xs) (n : Nat) : Mm (w.drewN n) p q g s zs xs := h.grown (grown_draws (grown_refl w none) n)
/-- Behind an access of its cells. -/
theorem Mm.only (h : Mm w p q g s zs xs) (hc : Cel w' q g ys) (ho : Only w w' g) (hl : ys.length = xs.length) : Mm w' p q g s zs ys :=
  ⟨h.ptr.grown ho (fun e => by injection e with e; exact h.ptr.unlike h.cel.row (by decide) e), hc, h.row.grown ho (fun e => by injection e with e; exact h.row.unlike h.cel.row (by decide) e), h.right, hl.trans h.len⟩
theorem Mm.off {b : Nat} (h : Mm w p q g s zs xs) (ho : Only w w' b) (h1 : b ≠ p) (h2 : b ≠ q) (h3 : b ≠ g) (h4 : b ≠ s) : Mm w' p q g s zs xs :=
  ⟨h.ptr.grown ho (fun e => by injection e with e; exact h1 e.symm), h.cel.kept ho (fun e => by injection e with e; exact h2 e.symm) (fun e => by injection e with e; exact h3 e.symm), h.row.grown ho (fun e => by injection e with e; exact h4 e.symm), h.right, h.len⟩
theorem Mm.c0 (h : Mm w p q g s zs xs) : w.cell? ⟨p, 0, none⟩ = some (.pointer (some ⟨q, 0, none⟩)) := by rw [h.ptr.cell]; rfl
theorem Mm.c1 (h : Mm w p q g s zs xs) : w.cell? ⟨p, 1, none⟩ = some (.slice (some ⟨s, 0, none⟩) zs.length zs.length) := by rw [h.ptr.cell]; rfl
theorem Mm.at_ (h : Mm w p q g s zs xs) {i : Nat} (hi : i < zs.length) : w.cell? ⟨s, i, none⟩ = some (.int .i64 (sz zs i)) := by rw [h.row.cell, intsC_at zs i hi, sz_eq h.right hi]

theorem cAddress (h : Mm w p q g s zs xs) (a : Nat) (ha : a < zs.length) (v : Int) (h0 : 0 ≤ v) (h1 : v < 4294967296) (hv : v % 4096 < sz zs a) :
    Calls Try.prog 41 #[.pointer (some ⟨p, 0, none⟩), .int .i64 a, .int .u32 v] w fun e w' => e = .returned (.tuple #[.int .i64 ((pre zs a + (v % 4096).toNat : Nat) : Int), .bool true]) ∧ w = w' := by
  have c1 := h.c1
  have c2 := h.at_ ha
  have h8 := h.right.1
  have hT := cTogether (given_bk h.row (k := a) (by omega)) (right_take h.right a) zs.length
  rw [tot_take (by omega), List.length_take, Nat.min_eq_left (by omega)] at hT
  have hp := pre_le h.right a (by omega)
  obtain ⟨pl, hpl, hpl2⟩ : ∃ pl : Nat, v % 4096 = pl ∧ pl < 4096 := ⟨(v % 4096).toNat, by omega, by omega⟩
  rw [hpl] at hv ⊢
  have HT := Lib.hid hT
  clear hT
  go_enter Try.func41, Try.ntmps41
  go_wp2_with fail
  refine (hIndex v h0 h1 w).mono ?_
  rw [hpl]
  rintro e w' ⟨rfl, rfl⟩
  go_wp2_with fail
  refine HT.out.mono ?_
  rintro e w' ⟨rfl, rfl⟩
  go_wp2
  go_ret2
  exact ⟨by simp, rfl⟩

theorem cAddressNo (h : Mm w p q g s zs xs) (a : Int) (v : Int) (h0 : 0 ≤ v) (h1 : v < 4294967296) (hv : a < 0 ∨ (zs.length : Int) ≤ a ∨ (sz zs a.toNat : Int) ≤ v % 4096) :
    Calls Try.prog 41 #[.pointer (some ⟨p, 0, none⟩), .int .i64 a, .int .u32 v] w fun e w' => e = .returned (.tuple #[.int .i64 0, .bool false]) ∧ w = w' := by
  have c1 := h.c1
  have h8 := h.right.1
  rcases (show a < 0 ∨ (0 ≤ a ∧ (zs.length : Int) ≤ a) ∨ (0 ≤ a ∧ a < zs.length) by omega) with hb | hb | hb
  · go_enter Try.func41, Try.ntmps41
    go_wp2
    go_ret2
    exact ⟨rfl, rfl⟩
  · go_enter Try.func41, Try.ntmps41
    go_wp2
    go_ret2
    exact ⟨rfl, rfl⟩
  obtain ⟨n, rfl⟩ := Int.eq_ofNat_of_zero_le hb.1
  have c2 := h.at_ (i := n) (by omega)
  have hv2 : (sz zs n : Int) ≤ v % 4096 := by
    rw [Int.toNat_natCast] at hv; omega
  obtain ⟨pl, hpl, hpl2⟩ : ∃ pl : Nat, v % 4096 = pl ∧ pl < 4096 := ⟨(v % 4096).toNat, by omega, by omega⟩
  rw [hpl] at hv2
  have hn : n < zs.length := by omega
  clear hv
  go_enter Try.func41, Try.ntmps41
  go_wp2_with fail
  refine (hIndex v h0 h1 w).mono ?_
  rw [hpl]
  rintro e w' ⟨rfl, rfl⟩
  go_wp2
  go_ret2
  exact ⟨rfl, rfl⟩

end
end Go.Proofs.Ytpinpipjlongaaa
