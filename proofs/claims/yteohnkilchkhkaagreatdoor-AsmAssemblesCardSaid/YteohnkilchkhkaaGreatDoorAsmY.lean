/- The document's find. -/
import Derived.Test.YteohnkilchkhkaaGreatDoorAsmW
namespace Go.Proofs.YteohnkilchkhkaaGreatDoor
open Go.ChangeShapes Go.WideShapes Go.ChangeAt Go.RowKit
set_option linter.unusedVariables false

/-- Labels and their places, as they lie. -/
def LsAt (w : World) (a : Option Addr) (ls : List (List UInt8 × Int)) : Prop := ∀ j x, ls[j]? = some x → ∃ g, a = some ⟨g, 0, none⟩ ∧ g < w.heap.size ∧ w.cell? ⟨g, j * 2, none⟩ = some (bs x.1) ∧ w.cell? ⟨g, j * 2 + 1, none⟩ = some (.int .i64 x.2)
theorem LsAt.below {w w' : World} {a : Option Addr} {ls : List (List UInt8 × Int)} (h : LsAt w a ls) (hb : Below w.heap.size w w') : LsAt w' a ls := fun j x hx => by
  obtain ⟨g, e, h1, h2, h3⟩ := h j x hx
  exact ⟨g, e, Nat.lt_of_lt_of_le h1 hb.size, (hb.cell (p := ⟨g, j * 2, none⟩) h1).trans h2, (hb.cell (p := ⟨g, j * 2 + 1, none⟩) h1).trans h3⟩

theorem findL_drop (ls : List (List UInt8 × Int)) (s : List UInt8) (n : Int) (j : Nat) (h : j < ls.length) : findL (ls.drop j) s n = if (ls[j].1 == s && decide (ls[j].2 < n)) = true then ls[j].2 else findL (ls.drop (j + 1)) s n := by
  unfold findL
  rw [List.drop_eq_getElem_cons h, List.find?_cons]
  cases (ls[j].1 == s && decide (ls[j].2 < n)) <;> simp

set_option maxHeartbeats 1000000 in
theorem rFind (ls : List (List UInt8 × Int)) (s : List UInt8) (n : Int) (a : Option Addr) (cap : Nat) (w : World) (ha : LsAt w a ls) (hl : ls.length ≤ 1000000) :
    Calls Tryz.prog 21 #[.slice a ls.length cap, bs s, .int .i64 n] w fun e w' => e = .returned (.int .i64 (findL ls s n)) ∧ Below w.heap.size w w' := by
  have HR : Hid (findL ls s n = findL (ls.drop 0) s n) := Lib.hid rfl
  have HS := Lib.hid (fun j h => findL_drop ls s n j h)
  have HE : Hid (∀ j, ¬ j < ls.length → findL (ls.drop j) s n = -1) := Lib.hid fun j h => by rw [List.drop_eq_nil_of_le (by omega)]; rfl
  generalize findL ls s n = r at *
  unfold bs
  go_enter Tryz.func21, Tryz.ntmps21
  go_wp2
  go_loopw [6, 11] (fun v i wr => ∃ j : Nat, v = .int .i64 0 ∧ i = .int .i64 j ∧ j ≤ ls.length ∧ Below w.heap.size w wr ∧ Hid (r = findL (ls.drop j) s n)) (fun _ i _ => ls.length - (intOf i).toNat)
  case atStart => exact ⟨0, rfl, rfl, Nat.zero_le _, Below.refl _ _, HR⟩
  case round =>
    clear HR
    obtain ⟨j, rfl, rfl, hj, hb, HR⟩ := hrel
    by_cases hlt : j < ls.length
    · have hji : (j : Int) < ls.length := by omega
      obtain ⟨g, rfl, hgl, e0, e1⟩ := (ha.below hb) j _ (List.getElem?_eq_getElem hlt)
      have HD := Lib.hid (HS.out j hlt)
      generalize ls[j] = x at *
      obtain ⟨nm, at_⟩ := x
      simp only at e0 e1 HD
      unfold bs at e0
      go_upto_region 4 with fail
      have k1 := Bk.made wr 61 #[.string ⟨nm.toArray⟩, .int .i64 at_]
      replace hb := hb.alloc (o := .cells #[.string ⟨nm.toArray⟩, .int .i64 at_] 61) hb.size
      generalize wr.heap.size = q at *
      generalize wr.alloc (.cells #[.string ⟨nm.toArray⟩, .int .i64 at_] 61) = y at *
      clear e0 e1
      obtain ⟨y0, y1⟩ : y.cell? ⟨q, 0, none⟩ = some (.string ⟨nm.toArray⟩) ∧ y.cell? ⟨q, 1, none⟩ = some (.int .i64 at_) := ⟨k1.cell 0, k1.cell 1⟩
      cases h1 : (nm == s) with
      | true =>
        by_cases h2 : at_ < n
        · have HQ : Hid (r = at_) := Lib.hid (by rw [HR.out, HD.out, h1]; simp [h2])
          obtain rfl : nm = s := by simpa using h1
          clear HD HR HS HE h1
          go_wp2
          go_ret
          exact ⟨by rw [HQ.out]; rfl, hb⟩
        · have HQ : Hid (r = findL (ls.drop (j + 1)) s n) := Lib.hid (by rw [HR.out, HD.out, h1]; simp [h2])
          obtain rfl : nm = s := by simpa using h1
          clear HD HR HS HE h1
          go_wp2
          go_roundw
          case rel => exact ⟨j + 1, rfl, by go_num, by omega, hb, HQ⟩
          case measure =>
            show ls.length - ((j : Int) + 1).toNat < ls.length - (j : Int).toNat
            omega
      | false =>
        have HQ : Hid (r = findL (ls.drop (j + 1)) s n) := Lib.hid (by rw [HR.out, HD.out, h1]; simp)
        clear HD HR HS HE
        go_wp2
        go_roundw
        case rel => exact ⟨j + 1, rfl, by go_num, by omega, hb, HQ⟩
        case measure =>
          show ls.length - ((j : Int) + 1).toNat < ls.length - (j : Int).toNat
          omega
    · have hji : ¬ (j : Int) < ls.length := by omega
      have HQ : Hid (r = -1) := Lib.hid (by rw [HR.out, HE.out j hlt])
      clear HR HS HE
      go_wp2
      go_ret
      exact ⟨by rw [HQ.out]; rfl, hb⟩
end Go.Proofs.YteohnkilchkhkaaGreatDoor
