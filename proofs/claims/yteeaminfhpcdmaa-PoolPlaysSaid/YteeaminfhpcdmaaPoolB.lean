/- Owner and Free of layer 5 (pool): contracts, for every pool and every word. -/
import Derived.Test.YteeaminfhpcdmaaPool
import Derived.Maps.RangeWalk
namespace Go.Proofs.Yteeaminfhpcdmaa
open Go.ChangeShapes Go.WideShapes Go.ChangeAt Go.RowKit
section
variable {w w' : World} {p n each c : Nat} {M : PM} {fr : Nat → List Int} {os : Int → Bool}

/-- No node has the index of this word. -/
def NoNode (n each : Nat) (x : Int) : Prop := x % 4096 < 1 ∨ ((n * each : Nat) : Int) < x % 4096
theorem plOwnerNo (h : Pl w p n each M fr os c) (x : Int) (h0 : 0 ≤ x) (h1 : x < 4294967296) (hx : NoNode n each x) :
    Calls Try.prog 17 #[.pointer (some ⟨p, 0, none⟩), .int .u32 x] w fun e w' => e = .returned (.tuple #[.int .i64 0, .bool false]) ∧ ∃ m, w' = w.drewN m := by
  have c0 := h.c0
  have c1 := h.c1
  have hf := h.few
  have he := h.eight
  rcases hx with hx | hx
  · have t1 : decide (x % 4096 < 1) = true := decide_eq_true hx
    go_enter Try.func17, Try.ntmps17
    go_wp2_with fail
    refine (hIndex x h0 h1 _).mono ?_
    rintro e w' ⟨rfl, rfl⟩
    go_wp2
    go_quiet (fail)
    go_wp2
    go_ret2
    exact ⟨rfl, _, rfl⟩
  · have hb : n * each ≤ 64 * 8 := Nat.mul_le_mul hf he
    have e1 : ((n * each : Nat) : Int) = (n : Int) * (each : Int) := by simp
    have t1 : decide (x % 4096 < 1) = false := by simp; omega
    have t2 : decide (((n : Int) * (each : Int)) < x % 4096) = true := by rw [← e1]; exact decide_eq_true hx
    have t3 : wrap64 ((n : Int) * (each : Int)) = (n : Int) * (each : Int) := IntWalk.wrap64_in _ (by omega)
    clear hx hb e1
    go_enter Try.func17, Try.ntmps17
    go_wp2_with fail
    refine (hIndex x h0 h1 _).mono ?_
    rintro e w' ⟨rfl, rfl⟩
    go_wp2
    go_quiet (fail)
    go_wp2
    go_ret2
    exact ⟨rfl, _, rfl⟩

/-- Whose node it is. -/
theorem plOwner (h : Pl w p n each M fr os c) (x : Int) (h0 : 0 ≤ x) (h1 : x < 4294967296) {t i : Nat} (hi : i < each) (ht : t < n) (hx : x % 4096 = ((t * each + i + 1 : Nat) : Int)) :
    Calls Try.prog 17 #[.pointer (some ⟨p, 0, none⟩), .int .u32 x] w fun e w' => e = .returned (.tuple #[.int .i64 t, .bool true]) ∧ ∃ m, w' = w.drewN m := by
  have c0 := h.c0
  have c1 := h.c1
  have hf := h.few
  have he := h.eight
  have hb : n * each ≤ 64 * 8 := Nat.mul_le_mul hf he
  have hle : t * each + i + 1 ≤ n * each := by
    have : (t + 1) * each ≤ n * each := Nat.mul_le_mul_right _ ht
    rw [Nat.add_mul, Nat.one_mul] at this
    omega
  have e1 : ((n * each : Nat) : Int) = (n : Int) * (each : Int) := by simp
  have t1 : decide (x % 4096 < 1) = false := by simp; omega
  have t2 : decide (((n : Int) * (each : Int)) < x % 4096) = false := by rw [← e1]; simp; omega
  have t3 : wrap64 ((n : Int) * (each : Int)) = (n : Int) * (each : Int) := IntWalk.wrap64_in _ (by omega)
  have hz : ¬ (each : Int) = 0 := by omega
  have hq : (x % 4096 - 1).tdiv (each : Int) = (t : Int) := by
    rw [hx, show ((t * each + i + 1 : Nat) : Int) - 1 = ((t * each + i : Nat) : Int) by omega, ← Int.ofNat_tdiv, Nat.mul_comm, Nat.mul_add_div (by omega), Nat.div_eq_of_lt hi, Nat.add_zero]
  have HX := Lib.hid hx
  have HLE := Lib.hid hle
  clear hb e1 hx hle
  go_enter Try.func17, Try.ntmps17
  go_wp2_with fail
  refine (hIndex x h0 h1 _).mono ?_
  rintro e w' ⟨rfl, rfl⟩
  go_wp2
  go_quiet (fail)
  go_wp2
  go_ret2
  exact ⟨rfl, _, rfl⟩

theorem plFree0 :
    Calls Try.prog 12 #[.pointer (some ⟨p, 0, none⟩), .int .u32 0] w fun e w' => e = .returned (.int .i64 0) ∧ w = w' := by
  go_enter Try.func12, Try.ntmps12
  go_wp2
  go_ret
  exact ⟨rfl, rfl⟩

/-- A word's index is none's, or somebody's. -/
theorem node_or (n each : Nat) (x : Int) (h : ¬ NoNode n each x) : ∃ t i, t < n ∧ i < each ∧ x % 4096 = ((t * each + i + 1 : Nat) : Int) := by
  unfold NoNode at h
  have h1 : 1 ≤ x % 4096 := by omega
  have h2 : x % 4096 ≤ ((n * each : Nat) : Int) := by omega
  obtain ⟨k, hk⟩ := Int.eq_ofNat_of_zero_le (show 0 ≤ x % 4096 - 1 by omega)
  have hlt : k < n * each := by omega
  have he : 0 < each := Nat.pos_of_ne_zero (fun e => by subst e; simp at hlt)
  refine ⟨k / each, k % each, ?_, Nat.mod_lt _ he, ?_⟩
  · exact (Nat.div_lt_iff_lt_mul he).2 hlt
  · rw [Nat.mul_comm, Nat.div_add_mod]; omega

theorem plFreeNo (h : Pl w p n each M fr os c) (x : Int) (h0 : 0 ≤ x) (h1 : x < 4294967296) (hx : os x = false) (hz : x ≠ 0) :
    Calls Try.prog 12 #[.pointer (some ⟨p, 0, none⟩), .int .u32 x] w fun e w' => e = .returned (.int .i64 10) ∧ ∃ m, w' = w.drewN m := by
  have hI := Lib.hid hx
  clear hx
  by_cases hn : NoNode n each x
  · go_enter Try.func12, Try.ntmps12
    go_wp2_with fail
    refine (plOwnerNo h x h0 h1 hn).mono ?_
    rintro e w' ⟨rfl, m, rfl⟩
    go_wp2
    go_ret
    exact ⟨rfl, _, rfl⟩
  · obtain ⟨t, i, ht, hi, hx⟩ := node_or n each x hn
    have hO := plOwner h x h0 h1 hi ht hx
    clear hx hn
    go_enter Try.func12, Try.ntmps12
    go_wp2_with fail
    refine hO.mono ?_
    clear hO
    rintro e w' ⟨rfl, m, rfl⟩
    go_wp2_with fail
    refine (plIs (h.drewN m) x h0 h1).mono ?_
    rintro e w' ⟨rfl, rfl⟩
    rw [hI.out]
    go_wp2
    go_ret
    exact ⟨rfl, _, rfl⟩

/-- The handle of the next generation. -/
def nxt (x : Int) : Int := (x / 4096 + 1) % 262144 * 4096 + x % 4096
/-- Behind a Free: the node is free, last of its thread's, with the next generation. -/
def Freed (w : World) (p n each : Nat) (M : PM) (fr : Nat → List Int) (os : Int → Bool) (c t : Nat) (x : Int) (e : Ending) (w' : World) : Prop :=
  ∃ M', e = .returned (.int .i64 0) ∧ Pl w' p n each M' (upd fr t (fr t ++ [nxt x])) (turn os x false) (c - 1) ∧ Stays w n M w' M'

theorem within_drew {w w' : World} {S : Nat → Prop} (h : Within w.drew w' S) : Within w w' S := ⟨h.os, h.tape, h.output, h.size, h.block⟩
theorem moved_drew {w w' : World} {p : Nat} {og og' : Option Nat} (h : Moved w.drew p og w' og') : Moved w p og w' og' := ⟨h.1, within_drew h.2⟩

theorem plFree (h : Pl w p n each M fr os c) (x : Int) (h0 : 0 ≤ x) (h1 : x < 4294967296) (hx : os x = true) {t i : Nat} (hi : i < each) (ht : t < n) (hn : x % 4096 = ((t * each + i + 1 : Nat) : Int)) (hl : (fr t).length < each) :
    Calls Try.prog 12 #[.pointer (some ⟨p, 0, none⟩), .int .u32 x] w (Freed w p n each M fr os c t x) := by
  have hz : x ≠ 0 := by omega
  have hO := plOwner h x h0 h1 hi ht hn
  have HX := Lib.hid hx
  have HN := Lib.hid hn
  clear hx hn
  go_enter Try.func12, Try.ntmps12
  go_wp2_with fail
  refine hO.mono ?_
  clear hO
  rintro e w' ⟨rfl, m, rfl⟩
  have hs1 : Stays w n M (w.drewN m) M := (Stays.refl w n M).draws m
  have h := h.drewN m
  generalize w.drewN m = w1 at h hs1 ⊢
  go_wp2_with fail
  refine (plIs h x h0 h1).mono ?_
  rintro e w' ⟨rfl, rfl⟩
  rw [HX.out]
  have c2 := h.c2
  go_wp2_with (first | (at_delete; refine wpOutsDrop rfl _ _ rfl rfl h.set h0 h1 rfl HX.out ?_; intro w2 ho2 hg2) | go_in)
  have hp2 := h.outs ho2 hg2
  have hs2 := hs1.then_ (Stays.outs hg2)
  clear hs1 h ho2 hg2 c2
  have d1 := hp2.c1
  have d2 := hp2.at_ ht
  have hf := hp2.few
  have hr : RWord.Rg w2.drew (M.ps t) (M.ogs t) each (fr t) := (hp2.rings t ht).draws 1
  have HP := Lib.hid hp2
  have HS := Lib.hid hs2
  clear hp2 hs2
  go_frame
  go_region_held3 (fun w' => w'.cell? ⟨p, 1, none⟩ = some (Value.slice (some ⟨M.g, 0, none⟩) n n) ∧ w'.cell? ⟨M.g, t, none⟩ = some (Value.pointer (some ⟨M.ps t, 0, none⟩))) (first | (exact ⟨f1, f2⟩) | go_keep)
    (first | (go_at_call 25; refine (hNext x h0 h1 _).mono ?_; rintro e w' ⟨rfl, rfl⟩)
           | (go_at_call 24; refine (RWord.put_ok hr hl _).mono ?_; rintro e w4 ⟨og, rfl, hr4, hmv4⟩; have hp4 := HP.out.ring ht hr4 (moved_drew hmv4); have f1 := hp4.c1; have f2 := hp4.at_ ht))
  have hs4 := HS.out.then_ (Stays.ring ht (moved_drew hmv4))
  go_wp2
  go_ret
  exact ⟨_, rfl, hp4, hs4⟩
end
end Go.Proofs.Yteeaminfhpcdmaa
