/- The document's Text, of any right instruction. -/
import Derived.Test.YtgbblpmdoacinaaDoorInstTA
import Derived.Test.YtgbblpmdoacinaaDoorInstTB
import Derived.Test.YtgbblpmdoacinaaDoorInstTC
import Derived.Test.YtgbblpmdoacinaaDoorInstN
namespace Go.Proofs.YtgbblpmdoacinaaDoor
open Go.ChangeShapes Go.WideShapes Go.ChangeAt Go.RowKit
set_option linter.unusedVariables false

theorem rTextAll (i : Ins) (h : rightB i 1073741824 = true) (k0 : 0 ≤ i.k) (k1 : i.k < 4294967296) (w : World) :
    Calls Tryd.prog 14 #[iv i] w fun e w' => e = .returned (bs (textL i)) ∧ Below w.heap.size w w' := by
  obtain ⟨hd, hs, ht, hu, ha⟩ := right_regs i _ h
  obtain ⟨op, d, s, t, u, a, k, pl⟩ := i
  simp only at hd hs ht hu ha k0 k1
  rcases op_cases op with rfl | rfl | rfl | rfl | rfl | rfl | rfl | rfl | rfl | rfl | rfl | rfl | rfl | rfl | rfl | rfl | rfl | rfl | rfl | rfl | rfl | hn
  · skip
    have hr := right_1 d s t u a k pl 1073741824 hd hs ht hu ha k0 k1
    rw [h] at hr
    simp [eqI] at hr
    obtain ⟨dn, rfl⟩ : ∃ n : Nat, d = n := ⟨d.toNat, by omega⟩
    obtain ⟨sn, rfl⟩ : ∃ n : Nat, s = n := ⟨s.toNat, by omega⟩
    obtain ⟨tn, rfl⟩ : ∃ n : Nat, t = n := ⟨t.toNat, by omega⟩
    obtain ⟨un, rfl⟩ : ∃ n : Nat, u = n := ⟨u.toNat, by omega⟩
    obtain ⟨an, rfl⟩ : ∃ n : Nat, a = n := ⟨a.toNat, by omega⟩
    obtain ⟨kn, rfl⟩ : ∃ n : Nat, k = n := ⟨k.toNat, by omega⟩
    obtain ⟨pn, rfl⟩ : ∃ n : Nat, pl = n := ⟨pl.toNat, by omega⟩
    exact rTextA 1 dn sn tn un an kn pn (by decide) (by omega) (by omega) (by omega) (by omega) (by omega) (by omega) (by omega) w
  · skip
    have hr := right_2 d s t u a k pl 1073741824 hd hs ht hu ha k0 k1
    rw [h] at hr
    simp [eqI] at hr
    obtain ⟨dn, rfl⟩ : ∃ n : Nat, d = n := ⟨d.toNat, by omega⟩
    obtain ⟨sn, rfl⟩ : ∃ n : Nat, s = n := ⟨s.toNat, by omega⟩
    obtain ⟨tn, rfl⟩ : ∃ n : Nat, t = n := ⟨t.toNat, by omega⟩
    obtain ⟨un, rfl⟩ : ∃ n : Nat, u = n := ⟨u.toNat, by omega⟩
    obtain ⟨an, rfl⟩ : ∃ n : Nat, a = n := ⟨a.toNat, by omega⟩
    obtain ⟨kn, rfl⟩ : ∃ n : Nat, k = n := ⟨k.toNat, by omega⟩
    obtain ⟨pn, rfl⟩ : ∃ n : Nat, pl = n := ⟨pl.toNat, by omega⟩
    exact rTextA 2 dn sn tn un an kn pn (by decide) (by omega) (by omega) (by omega) (by omega) (by omega) (by omega) (by omega) w
  · skip
    have hr := right_3 d s t u a k pl 1073741824 hd hs ht hu ha k0 k1
    rw [h] at hr
    simp [eqI] at hr
    obtain ⟨dn, rfl⟩ : ∃ n : Nat, d = n := ⟨d.toNat, by omega⟩
    obtain ⟨sn, rfl⟩ : ∃ n : Nat, s = n := ⟨s.toNat, by omega⟩
    obtain ⟨tn, rfl⟩ : ∃ n : Nat, t = n := ⟨t.toNat, by omega⟩
    obtain ⟨un, rfl⟩ : ∃ n : Nat, u = n := ⟨u.toNat, by omega⟩
    obtain ⟨an, rfl⟩ : ∃ n : Nat, a = n := ⟨a.toNat, by omega⟩
    obtain ⟨kn, rfl⟩ : ∃ n : Nat, k = n := ⟨k.toNat, by omega⟩
    obtain ⟨pn, rfl⟩ : ∃ n : Nat, pl = n := ⟨pl.toNat, by omega⟩
    exact rTextA 3 dn sn tn un an kn pn (by decide) (by omega) (by omega) (by omega) (by omega) (by omega) (by omega) (by omega) w
  · skip
    have hr := right_4 d s t u a k pl 1073741824 hd hs ht hu ha k0 k1
    rw [h] at hr
    simp [eqI] at hr
    obtain ⟨dn, rfl⟩ : ∃ n : Nat, d = n := ⟨d.toNat, by omega⟩
    obtain ⟨sn, rfl⟩ : ∃ n : Nat, s = n := ⟨s.toNat, by omega⟩
    obtain ⟨tn, rfl⟩ : ∃ n : Nat, t = n := ⟨t.toNat, by omega⟩
    obtain ⟨un, rfl⟩ : ∃ n : Nat, u = n := ⟨u.toNat, by omega⟩
    obtain ⟨an, rfl⟩ : ∃ n : Nat, a = n := ⟨a.toNat, by omega⟩
    obtain ⟨kn, rfl⟩ : ∃ n : Nat, k = n := ⟨k.toNat, by omega⟩
    obtain ⟨pn, rfl⟩ : ∃ n : Nat, pl = n := ⟨pl.toNat, by omega⟩
    exact rTextA 4 dn sn tn un an kn pn (by decide) (by omega) (by omega) (by omega) (by omega) (by omega) (by omega) (by omega) w
  · skip
    have hr := right_5 d s t u a k pl 1073741824 hd hs ht hu ha k0 k1
    rw [h] at hr
    simp [eqI] at hr
    obtain ⟨dn, rfl⟩ : ∃ n : Nat, d = n := ⟨d.toNat, by omega⟩
    obtain ⟨sn, rfl⟩ : ∃ n : Nat, s = n := ⟨s.toNat, by omega⟩
    obtain ⟨tn, rfl⟩ : ∃ n : Nat, t = n := ⟨t.toNat, by omega⟩
    obtain ⟨un, rfl⟩ : ∃ n : Nat, u = n := ⟨u.toNat, by omega⟩
    obtain ⟨an, rfl⟩ : ∃ n : Nat, a = n := ⟨a.toNat, by omega⟩
    obtain ⟨kn, rfl⟩ : ∃ n : Nat, k = n := ⟨k.toNat, by omega⟩
    obtain ⟨pn, rfl⟩ : ∃ n : Nat, pl = n := ⟨pl.toNat, by omega⟩
    exact rTextA 5 dn sn tn un an kn pn (by decide) (by omega) (by omega) (by omega) (by omega) (by omega) (by omega) (by omega) w
  · skip
    have hr := right_6 d s t u a k pl 1073741824 hd hs ht hu ha k0 k1
    rw [h] at hr
    simp [eqI] at hr
    obtain ⟨dn, rfl⟩ : ∃ n : Nat, d = n := ⟨d.toNat, by omega⟩
    obtain ⟨sn, rfl⟩ : ∃ n : Nat, s = n := ⟨s.toNat, by omega⟩
    obtain ⟨tn, rfl⟩ : ∃ n : Nat, t = n := ⟨t.toNat, by omega⟩
    obtain ⟨un, rfl⟩ : ∃ n : Nat, u = n := ⟨u.toNat, by omega⟩
    obtain ⟨an, rfl⟩ : ∃ n : Nat, a = n := ⟨a.toNat, by omega⟩
    obtain ⟨kn, rfl⟩ : ∃ n : Nat, k = n := ⟨k.toNat, by omega⟩
    obtain ⟨pn, rfl⟩ : ∃ n : Nat, pl = n := ⟨pl.toNat, by omega⟩
    exact rTextA 6 dn sn tn un an kn pn (by decide) (by omega) (by omega) (by omega) (by omega) (by omega) (by omega) (by omega) w
  · skip
    have hr := right_7 d s t u a k pl 1073741824 hd hs ht hu ha k0 k1
    rw [h] at hr
    simp [eqI] at hr
    obtain ⟨dn, rfl⟩ : ∃ n : Nat, d = n := ⟨d.toNat, by omega⟩
    obtain ⟨sn, rfl⟩ : ∃ n : Nat, s = n := ⟨s.toNat, by omega⟩
    obtain ⟨tn, rfl⟩ : ∃ n : Nat, t = n := ⟨t.toNat, by omega⟩
    obtain ⟨un, rfl⟩ : ∃ n : Nat, u = n := ⟨u.toNat, by omega⟩
    obtain ⟨an, rfl⟩ : ∃ n : Nat, a = n := ⟨a.toNat, by omega⟩
    obtain ⟨kn, rfl⟩ : ∃ n : Nat, k = n := ⟨k.toNat, by omega⟩
    obtain ⟨pn, rfl⟩ : ∃ n : Nat, pl = n := ⟨pl.toNat, by omega⟩
    exact rTextA 7 dn sn tn un an kn pn (by decide) (by omega) (by omega) (by omega) (by omega) (by omega) (by omega) (by omega) w
  · skip
    have hr := right_8 d s t u a k pl 1073741824 hd hs ht hu ha k0 k1
    rw [h] at hr
    simp [eqI] at hr
    obtain ⟨dn, rfl⟩ : ∃ n : Nat, d = n := ⟨d.toNat, by omega⟩
    obtain ⟨sn, rfl⟩ : ∃ n : Nat, s = n := ⟨s.toNat, by omega⟩
    obtain ⟨tn, rfl⟩ : ∃ n : Nat, t = n := ⟨t.toNat, by omega⟩
    obtain ⟨un, rfl⟩ : ∃ n : Nat, u = n := ⟨u.toNat, by omega⟩
    obtain ⟨an, rfl⟩ : ∃ n : Nat, a = n := ⟨a.toNat, by omega⟩
    obtain ⟨kn, rfl⟩ : ∃ n : Nat, k = n := ⟨k.toNat, by omega⟩
    obtain ⟨pn, rfl⟩ : ∃ n : Nat, pl = n := ⟨pl.toNat, by omega⟩
    exact rTextA 8 dn sn tn un an kn pn (by decide) (by omega) (by omega) (by omega) (by omega) (by omega) (by omega) (by omega) w
  · skip
    have hr := right_9 d s t u a k pl 1073741824 hd hs ht hu ha k0 k1
    rw [h] at hr
    simp [eqI] at hr
    obtain ⟨dn, rfl⟩ : ∃ n : Nat, d = n := ⟨d.toNat, by omega⟩
    obtain ⟨sn, rfl⟩ : ∃ n : Nat, s = n := ⟨s.toNat, by omega⟩
    obtain ⟨tn, rfl⟩ : ∃ n : Nat, t = n := ⟨t.toNat, by omega⟩
    obtain ⟨un, rfl⟩ : ∃ n : Nat, u = n := ⟨u.toNat, by omega⟩
    obtain ⟨an, rfl⟩ : ∃ n : Nat, a = n := ⟨a.toNat, by omega⟩
    obtain ⟨kn, rfl⟩ : ∃ n : Nat, k = n := ⟨k.toNat, by omega⟩
    obtain ⟨pn, rfl⟩ : ∃ n : Nat, pl = n := ⟨pl.toNat, by omega⟩
    exact rTextA 9 dn sn tn un an kn pn (by decide) (by omega) (by omega) (by omega) (by omega) (by omega) (by omega) (by omega) w
  · skip
    have hr := right_10 d s t u a k pl 1073741824 hd hs ht hu ha k0 k1
    rw [h] at hr
    simp [eqI] at hr
    obtain ⟨dn, rfl⟩ : ∃ n : Nat, d = n := ⟨d.toNat, by omega⟩
    obtain ⟨sn, rfl⟩ : ∃ n : Nat, s = n := ⟨s.toNat, by omega⟩
    obtain ⟨tn, rfl⟩ : ∃ n : Nat, t = n := ⟨t.toNat, by omega⟩
    obtain ⟨un, rfl⟩ : ∃ n : Nat, u = n := ⟨u.toNat, by omega⟩
    obtain ⟨an, rfl⟩ : ∃ n : Nat, a = n := ⟨a.toNat, by omega⟩
    obtain ⟨kn, rfl⟩ : ∃ n : Nat, k = n := ⟨k.toNat, by omega⟩
    obtain ⟨pn, rfl⟩ : ∃ n : Nat, pl = n := ⟨pl.toNat, by omega⟩
    exact rTextA 10 dn sn tn un an kn pn (by decide) (by omega) (by omega) (by omega) (by omega) (by omega) (by omega) (by omega) w
  · skip
    have hr := right_11 d s t u a k pl 1073741824 hd hs ht hu ha k0 k1
    rw [h] at hr
    simp [eqI] at hr
    obtain ⟨dn, rfl⟩ : ∃ n : Nat, d = n := ⟨d.toNat, by omega⟩
    obtain ⟨sn, rfl⟩ : ∃ n : Nat, s = n := ⟨s.toNat, by omega⟩
    obtain ⟨tn, rfl⟩ : ∃ n : Nat, t = n := ⟨t.toNat, by omega⟩
    obtain ⟨un, rfl⟩ : ∃ n : Nat, u = n := ⟨u.toNat, by omega⟩
    obtain ⟨an, rfl⟩ : ∃ n : Nat, a = n := ⟨a.toNat, by omega⟩
    obtain ⟨kn, rfl⟩ : ∃ n : Nat, k = n := ⟨k.toNat, by omega⟩
    obtain ⟨pn, rfl⟩ : ∃ n : Nat, pl = n := ⟨pl.toNat, by omega⟩
    exact rTextB 11 dn sn tn un an kn pn (by decide) (by omega) (by omega) (by omega) (by omega) (by omega) (by omega) (by omega) w
  · skip
    have hr := right_12 d s t u a k pl 1073741824 hd hs ht hu ha k0 k1
    rw [h] at hr
    simp [eqI] at hr
    obtain ⟨dn, rfl⟩ : ∃ n : Nat, d = n := ⟨d.toNat, by omega⟩
    obtain ⟨sn, rfl⟩ : ∃ n : Nat, s = n := ⟨s.toNat, by omega⟩
    obtain ⟨tn, rfl⟩ : ∃ n : Nat, t = n := ⟨t.toNat, by omega⟩
    obtain ⟨un, rfl⟩ : ∃ n : Nat, u = n := ⟨u.toNat, by omega⟩
    obtain ⟨an, rfl⟩ : ∃ n : Nat, a = n := ⟨a.toNat, by omega⟩
    obtain ⟨kn, rfl⟩ : ∃ n : Nat, k = n := ⟨k.toNat, by omega⟩
    obtain ⟨pn, rfl⟩ : ∃ n : Nat, pl = n := ⟨pl.toNat, by omega⟩
    exact rTextB 12 dn sn tn un an kn pn (by decide) (by omega) (by omega) (by omega) (by omega) (by omega) (by omega) (by omega) w
  · skip
    have hr := right_13 d s t u a k pl 1073741824 hd hs ht hu ha k0 k1
    rw [h] at hr
    simp [eqI] at hr
    obtain ⟨dn, rfl⟩ : ∃ n : Nat, d = n := ⟨d.toNat, by omega⟩
    obtain ⟨sn, rfl⟩ : ∃ n : Nat, s = n := ⟨s.toNat, by omega⟩
    obtain ⟨tn, rfl⟩ : ∃ n : Nat, t = n := ⟨t.toNat, by omega⟩
    obtain ⟨un, rfl⟩ : ∃ n : Nat, u = n := ⟨u.toNat, by omega⟩
    obtain ⟨an, rfl⟩ : ∃ n : Nat, a = n := ⟨a.toNat, by omega⟩
    obtain ⟨kn, rfl⟩ : ∃ n : Nat, k = n := ⟨k.toNat, by omega⟩
    obtain ⟨pn, rfl⟩ : ∃ n : Nat, pl = n := ⟨pl.toNat, by omega⟩
    exact rTextB 13 dn sn tn un an kn pn (by decide) (by omega) (by omega) (by omega) (by omega) (by omega) (by omega) (by omega) w
  · skip
    have hr := right_16 d s t u a k pl 1073741824 hd hs ht hu ha k0 k1
    rw [h] at hr
    simp [eqI] at hr
    obtain ⟨dn, rfl⟩ : ∃ n : Nat, d = n := ⟨d.toNat, by omega⟩
    obtain ⟨sn, rfl⟩ : ∃ n : Nat, s = n := ⟨s.toNat, by omega⟩
    obtain ⟨tn, rfl⟩ : ∃ n : Nat, t = n := ⟨t.toNat, by omega⟩
    obtain ⟨un, rfl⟩ : ∃ n : Nat, u = n := ⟨u.toNat, by omega⟩
    obtain ⟨an, rfl⟩ : ∃ n : Nat, a = n := ⟨a.toNat, by omega⟩
    obtain ⟨kn, rfl⟩ : ∃ n : Nat, k = n := ⟨k.toNat, by omega⟩
    obtain ⟨pn, rfl⟩ : ∃ n : Nat, pl = n := ⟨pl.toNat, by omega⟩
    exact rTextB 16 dn sn tn un an kn pn (by decide) (by omega) (by omega) (by omega) (by omega) (by omega) (by omega) (by omega) w
  · skip
    have hr := right_17 d s t u a k pl 1073741824 hd hs ht hu ha k0 k1
    rw [h] at hr
    simp [eqI] at hr
    obtain ⟨dn, rfl⟩ : ∃ n : Nat, d = n := ⟨d.toNat, by omega⟩
    obtain ⟨sn, rfl⟩ : ∃ n : Nat, s = n := ⟨s.toNat, by omega⟩
    obtain ⟨tn, rfl⟩ : ∃ n : Nat, t = n := ⟨t.toNat, by omega⟩
    obtain ⟨un, rfl⟩ : ∃ n : Nat, u = n := ⟨u.toNat, by omega⟩
    obtain ⟨an, rfl⟩ : ∃ n : Nat, a = n := ⟨a.toNat, by omega⟩
    obtain ⟨kn, rfl⟩ : ∃ n : Nat, k = n := ⟨k.toNat, by omega⟩
    obtain ⟨pn, rfl⟩ : ∃ n : Nat, pl = n := ⟨pl.toNat, by omega⟩
    exact rTextB 17 dn sn tn un an kn pn (by decide) (by omega) (by omega) (by omega) (by omega) (by omega) (by omega) (by omega) w
  · skip
    have hr := right_18 d s t u a k pl 1073741824 hd hs ht hu ha k0 k1
    rw [h] at hr
    simp [eqI] at hr
    obtain ⟨dn, rfl⟩ : ∃ n : Nat, d = n := ⟨d.toNat, by omega⟩
    obtain ⟨sn, rfl⟩ : ∃ n : Nat, s = n := ⟨s.toNat, by omega⟩
    obtain ⟨tn, rfl⟩ : ∃ n : Nat, t = n := ⟨t.toNat, by omega⟩
    obtain ⟨un, rfl⟩ : ∃ n : Nat, u = n := ⟨u.toNat, by omega⟩
    obtain ⟨an, rfl⟩ : ∃ n : Nat, a = n := ⟨a.toNat, by omega⟩
    obtain ⟨kn, rfl⟩ : ∃ n : Nat, k = n := ⟨k.toNat, by omega⟩
    obtain ⟨pn, rfl⟩ : ∃ n : Nat, pl = n := ⟨pl.toNat, by omega⟩
    exact rTextB 18 dn sn tn un an kn pn (by decide) (by omega) (by omega) (by omega) (by omega) (by omega) (by omega) (by omega) w
  · skip
    have hr := right_19 d s t u a k pl 1073741824 hd hs ht hu ha k0 k1
    rw [h] at hr
    simp [eqI] at hr
    obtain ⟨dn, rfl⟩ : ∃ n : Nat, d = n := ⟨d.toNat, by omega⟩
    obtain ⟨sn, rfl⟩ : ∃ n : Nat, s = n := ⟨s.toNat, by omega⟩
    obtain ⟨tn, rfl⟩ : ∃ n : Nat, t = n := ⟨t.toNat, by omega⟩
    obtain ⟨un, rfl⟩ : ∃ n : Nat, u = n := ⟨u.toNat, by omega⟩
    obtain ⟨an, rfl⟩ : ∃ n : Nat, a = n := ⟨a.toNat, by omega⟩
    obtain ⟨kn, rfl⟩ : ∃ n : Nat, k = n := ⟨k.toNat, by omega⟩
    obtain ⟨pn, rfl⟩ : ∃ n : Nat, pl = n := ⟨pl.toNat, by omega⟩
    exact rTextB 19 dn sn tn un an kn pn (by decide) (by omega) (by omega) (by omega) (by omega) (by omega) (by omega) (by omega) w
  · skip
    have hr := right_20 d s t u a k pl 1073741824 hd hs ht hu ha k0 k1
    rw [h] at hr
    simp [eqI] at hr
    obtain ⟨dn, rfl⟩ : ∃ n : Nat, d = n := ⟨d.toNat, by omega⟩
    obtain ⟨sn, rfl⟩ : ∃ n : Nat, s = n := ⟨s.toNat, by omega⟩
    obtain ⟨tn, rfl⟩ : ∃ n : Nat, t = n := ⟨t.toNat, by omega⟩
    obtain ⟨un, rfl⟩ : ∃ n : Nat, u = n := ⟨u.toNat, by omega⟩
    obtain ⟨an, rfl⟩ : ∃ n : Nat, a = n := ⟨a.toNat, by omega⟩
    obtain ⟨kn, rfl⟩ : ∃ n : Nat, k = n := ⟨k.toNat, by omega⟩
    obtain ⟨pn, rfl⟩ : ∃ n : Nat, pl = n := ⟨pl.toNat, by omega⟩
    exact rTextB 20 dn sn tn un an kn pn (by decide) (by omega) (by omega) (by omega) (by omega) (by omega) (by omega) (by omega) w
  · skip
    have hr := right_21 d s t u a k pl 1073741824 hd hs ht hu ha k0 k1
    rw [h] at hr
    simp [eqI] at hr
    obtain ⟨dn, rfl⟩ : ∃ n : Nat, d = n := ⟨d.toNat, by omega⟩
    obtain ⟨sn, rfl⟩ : ∃ n : Nat, s = n := ⟨s.toNat, by omega⟩
    obtain ⟨tn, rfl⟩ : ∃ n : Nat, t = n := ⟨t.toNat, by omega⟩
    obtain ⟨un, rfl⟩ : ∃ n : Nat, u = n := ⟨u.toNat, by omega⟩
    obtain ⟨an, rfl⟩ : ∃ n : Nat, a = n := ⟨a.toNat, by omega⟩
    obtain ⟨kn, rfl⟩ : ∃ n : Nat, k = n := ⟨k.toNat, by omega⟩
    by_cases hm : pl = -1
    · subst hm
      by_cases hk : kn = 0
      · subst hk; exact rText21_0m dn sn tn un an 0 (by omega) (by omega) (by omega) (by omega) (by omega) (by omega) w
      · obtain rfl : kn = 1 := by omega
        exact rText21_1m dn sn tn un an 0 (by omega) (by omega) (by omega) (by omega) (by omega) (by omega) w
    · obtain ⟨pn, rfl⟩ : ∃ n : Nat, pl = n := ⟨pl.toNat, by omega⟩
      by_cases hk : kn = 0
      · subst hk; exact rText21_0p dn sn tn un an pn (by omega) (by omega) (by omega) (by omega) (by omega) (by omega) w
      · obtain rfl : kn = 1 := by omega
        exact rText21_1p dn sn tn un an pn (by omega) (by omega) (by omega) (by omega) (by omega) (by omega) w
  · skip
    have hr := right_22 d s t u a k pl 1073741824 hd hs ht hu ha k0 k1
    rw [h] at hr
    simp [eqI] at hr
    obtain ⟨dn, rfl⟩ : ∃ n : Nat, d = n := ⟨d.toNat, by omega⟩
    obtain ⟨sn, rfl⟩ : ∃ n : Nat, s = n := ⟨s.toNat, by omega⟩
    obtain ⟨tn, rfl⟩ : ∃ n : Nat, t = n := ⟨t.toNat, by omega⟩
    obtain ⟨un, rfl⟩ : ∃ n : Nat, u = n := ⟨u.toNat, by omega⟩
    obtain ⟨an, rfl⟩ : ∃ n : Nat, a = n := ⟨a.toNat, by omega⟩
    obtain ⟨kn, rfl⟩ : ∃ n : Nat, k = n := ⟨k.toNat, by omega⟩
    obtain ⟨pn, rfl⟩ : ∃ n : Nat, pl = n := ⟨pl.toNat, by omega⟩
    exact rTextB 22 dn sn tn un an kn pn (by decide) (by omega) (by omega) (by omega) (by omega) (by omega) (by omega) (by omega) w
  · skip
    have hr := right_23 d s t u a k pl 1073741824 hd hs ht hu ha k0 k1
    rw [h] at hr
    simp [eqI] at hr
    obtain ⟨dn, rfl⟩ : ∃ n : Nat, d = n := ⟨d.toNat, by omega⟩
    obtain ⟨sn, rfl⟩ : ∃ n : Nat, s = n := ⟨s.toNat, by omega⟩
    obtain ⟨tn, rfl⟩ : ∃ n : Nat, t = n := ⟨t.toNat, by omega⟩
    obtain ⟨un, rfl⟩ : ∃ n : Nat, u = n := ⟨u.toNat, by omega⟩
    obtain ⟨an, rfl⟩ : ∃ n : Nat, a = n := ⟨a.toNat, by omega⟩
    obtain ⟨kn, rfl⟩ : ∃ n : Nat, k = n := ⟨k.toNat, by omega⟩
    obtain ⟨pn, rfl⟩ : ∃ n : Nat, pl = n := ⟨pl.toNat, by omega⟩
    exact rTextB 23 dn sn tn un an kn pn (by decide) (by omega) (by omega) (by omega) (by omega) (by omega) (by omega) (by omega) w
  · exfalso
    unfold rightB at h
    simp only [(hs_none hn).1] at h
    cases h
end Go.Proofs.YtgbblpmdoacinaaDoor
