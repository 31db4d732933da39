/- Names and places of layer 7, as plain lists. No walk stands here. -/
import Derived.Test.YteohnkilchkhkaaGreatDoorInstM
namespace Go.Proofs.YteohnkilchkhkaaGreatDoor
set_option linter.unusedVariables false

def lowB (c : UInt8) : Bool := decide (97 ≤ c.toNat) && decide (c.toNat ≤ 122)
def digB (c : UInt8) : Bool := decide (48 ≤ c.toNat) && decide (c.toNat ≤ 57)
/-- A name. -/
def nameB (s : List UInt8) : Bool := decide (1 ≤ s.length) && (decide (s.length ≤ 16) && (lowB (s.getD 0 0) && s.all fun c => lowB c || digB c))
/-- It goes to a place. -/
def goesB (i : Ins) : Bool := (decide (8 ≤ i.op) && decide (i.op ≤ 10)) || (decide (i.op = 21) && decide (0 ≤ i.pl))
/-- .. as the program asks it. -/
def placeB (i : Ins) : Bool := decide (i.op = 8 ∨ i.op = 9 ∨ i.op = 10) || (decide (i.op = 21) && decide (i.pl ≠ -1))

/-- What is asked of byte c at place n of a name. -/
def okAt (n : Nat) (c : UInt8) : Bool := lowB c || (digB c && decide (n ≠ 0))
/-- From place n on. -/
def restB : List UInt8 → Nat → Bool
  | [], _ => true
  | c :: r, n => okAt n c && restB r (n + 1)
theorem rest_all : ∀ (s : List UInt8) (n : Nat), 0 < n → restB s n = s.all fun c => lowB c || digB c
  | [], _, _ => rfl
  | c :: r, n, h => by
    have hn : decide (n ≠ 0) = true := by simpa using Nat.ne_of_gt h
    rw [restB, rest_all r (n + 1) (by omega), List.all_cons, okAt, hn, Bool.and_true]
theorem name_rest (s : List UInt8) (h0 : 1 ≤ s.length) (h1 : s.length ≤ 16) : nameB s = restB s 0 := by
  cases s with
  | nil => simp at h0
  | cons c r =>
    unfold nameB
    rw [restB, rest_all r 1 (by omega)]
    simp only [h0, h1, decide_true, Bool.true_and, List.getD_cons_zero, List.all_cons, okAt]
    cases lowB c <;> simp
end Go.Proofs.YteohnkilchkhkaaGreatDoor
