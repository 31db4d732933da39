/- mem.New: a memory of areas, for all sizes and words; or none. -/
import Derived.Test.YtpinpipjlongaaaArA
import Derived.Test.YtpinpipjlongaaaInts
import Derived.Laws.CopyOwn
import Derived.Deep.DeepCutAuto
import Derived.Deep.CutBlock
namespace Go.Proofs.Ytpinpipjlongaaa
set_option maxRecDepth 100000
open Go.ChangeShapes Go.WideShapes Go.ChangeAt Go.RowKit
set_option linter.unusedVariables false

/-- A copy into a row that is known whole: nothing but that row has changed. -/
theorem wpList_copy_only {P : Program} {w : World} {ops : Array Oper} {rest : List Oper} {o : Oper} {a : Act} {Q : Exit → Act → World → Prop} (hgd : o.guard = none) (d s : Operand) (dT sT : TypeId)
    (ho : o.op = .call { callee := .builtin .copy, args := #[d, s], argTypes := #[dT, sT] }) (elem : TypeId) (hu : P.underlying dT = some (.slice elem)) (hsz : (P.info? elem).map (·.size) = some 1)
    (dp sp : Option Addr) (dLen dCap sLen sCap : Nat) (hd : a.eval d = .slice dp dLen dCap) (hs : a.eval s = .slice sp sLen sCap)
    (g off : Nat) (cur : List Value) (t : TypeId) (hg : Bk w g t cur.toArray) (cs : List Value) (hn : cs.length = Nat.min sLen dLen)
    (hpos : 0 < cs.length → dp = some ⟨g, off, none⟩ ∧ ∃ ad, sp = some ad ∧ ∀ j v, cs[j]? = some v → w.cell? (ad.add j) = some v)
    (hfit : off + cs.length ≤ cur.length) (h1 : ∀ v ∈ cs, v.oneCell' = true)
    (h : ∀ w', Bk w' g t (splice cur off cs).toArray → Only w w' g → wpList P ops Q rest (a.put o.dst (goInt cs.length)) w') :
    wpList P ops Q (o :: rest) a w := by
  by_cases h0 : cs.length = 0
  · obtain rfl : cs = [] := List.eq_nil_of_length_eq_zero h0
    refine wpList_copy_nothing hgd d s dT sT ho elem hu hsz dp sp dLen dCap sLen sCap hd hs (by simpa using hn.symm) ?_
    exact h w (by unfold Bk at *; simpa [splice] using hg) (grown_refl _ _)
  · obtain ⟨rfl, ad, rfl, hsrc⟩ := hpos (by omega)
    refine wpList_copy_own hgd d s dT sT ho elem hu hsz g off dLen dCap ad sLen sCap hd hs cur.toArray t hg cs hn hsrc (by simpa using hfit) h1 ?_
    exact h _ (show _ = _ by simpa [splice] using setRow_heap w g _ _ t _ hg) ⟨rfl, rfl, rfl, by simp [World.setRow], fun k _ hne => setRow_other w g k _ (fun e => hne (by rw [e]))⟩

theorem given_add {k : IntKind} {w : World} {b off : Nat} {xs : List Int} (hc : ∀ i, i < xs.length → w.cell? ⟨b, off + i, none⟩ = some (.int k (nth xs i))) :
    ∀ j v, (xs.map (Value.int k))[j]? = some v → w.cell? ((⟨b, off, none⟩ : Addr).add j) = some v := by
  intro j v hj
  have hl : j < xs.length := by have := (List.getElem?_eq_some_iff.1 hj).1; simpa using this
  rw [List.getElem?_map, nth_get hl] at hj
  have e : (⟨b, off, none⟩ : Addr).add j = ⟨b, off + j, none⟩ := by unfold Addr.add; split <;> simp_all
  rw [e, hc j hl, ← hj]; rfl

theorem made_ints (n : Nat) : madeCells #[.int .i64 0] n = ((List.replicate n (0 : Int)).map (Value.int .i64)).toArray := by
  apply Array.ext
  · simp [madeCells]
  · intro i h1 h2; simp [madeCells, Nat.mod_one]
theorem splice_all {α : Type} (L cs : List α) (h : L.length = cs.length) : splice L 0 cs = cs := by
  unfold splice; rw [Nat.zero_add, ← h, List.drop_length]; simp

theorem copy_src {x : World} {s : Nat} {a : Option Addr} {zs : List Int} (h : Given .i64 x a zs) :
    0 < (zs.map (Value.int .i64)).length → (some ⟨s, 0, none⟩ : Option Addr) = some ⟨s, 0, none⟩ ∧ ∃ ad, a = some ad ∧ ∀ j v, (zs.map (Value.int .i64))[j]? = some v → x.cell? (ad.add j) = some v := by
  intro h0
  refine ⟨rfl, ?_⟩
  obtain ⟨b', off, e, _, hc⟩ := h (by simpa using h0)
  exact ⟨_, e, given_add hc⟩

/-- Nothing comes of it. -/
def NewBad (w : World) (e : Ending) (w' : World) : Prop := e = .returned (.tuple #[.pointer none, .int .i64 1]) ∧ w = w'
/-- A new memory, in memory of its own. -/
def NewMm (w : World) (zs xs : List Int) (e : Ending) (w' : World) : Prop :=
  ∃ p q g s, e = .returned (.tuple #[.pointer (some ⟨p, 0, none⟩), .int .i64 0]) ∧ Mm w' p q g s zs xs ∧ (w.heap.size ≤ p ∧ w.heap.size ≤ q ∧ w.heap.size ≤ g ∧ w.heap.size ≤ s) ∧ w.grownBy w' none

section
variable {w : World} {a b : Option Addr} {zs ys : List Int}
theorem mNewBad (ha : Given .i64 w a zs) (hz : ¬ RightZ zs ∨ tot zs ≠ ys.length ∨ 8192 < ys.length) (hm : zs.length ≤ maxLen) (hn : ys.length ≤ maxLen) (c1 c2 : Nat) :
    Calls Try.prog 17 #[.slice a zs.length c1, .slice b ys.length c2] w (NewBad w) := by
  by_cases hr : RightZ zs
  · have ht := tot_le hr
    have hR := Lib.hid (mRight ha hr c1)
    have hT := Lib.hid (cTogether ha hr c1)
    have h8 := hr.1
    unfold maxLen at hn
    by_cases he : tot zs = ys.length
    · have hl : 8192 < ys.length := by
        rcases hz with hz | hz | hz
        · exact absurd hr hz
        · exact absurd he hz
        · exact hz
      have hN := Lib.hid (cNewBad ys.length (.inr (by omega)) w)
      clear hz
      go_enter Try.func17, Try.ntmps17
      go_wp2_with fail
      refine hR.out.mono ?_
      rintro e w' ⟨rfl, rfl⟩
      go_wp2_with fail
      refine hT.out.mono ?_
      rintro e w' ⟨rfl, rfl⟩
      rw [he]
      go_wp2_with fail
      refine hN.out.mono ?_
      rintro e w' ⟨rfl, rfl⟩
      go_wp2
      go_ret2
      exact ⟨rfl, rfl⟩
    · have he' : ((tot zs : Int) != (ys.length : Int)) = true := by simp; omega
      clear hz
      generalize tot zs = t at *
      go_enter Try.func17, Try.ntmps17
      go_wp2_with fail
      refine hR.out.mono ?_
      rintro e w' ⟨rfl, rfl⟩
      go_wp2_with fail
      refine hT.out.mono ?_
      rintro e w' ⟨rfl, rfl⟩
      go_wp2
      go_ret2
      exact ⟨rfl, rfl⟩
  · have hR := Lib.hid (cRightNot ha hr hm c1)
    go_enter Try.func17, Try.ntmps17
    go_wp2_with fail
    refine hR.out.mono ?_
    rintro e w' ⟨rfl, rfl⟩
    go_wp2
    go_ret2
    exact ⟨rfl, rfl⟩

set_option maxHeartbeats 1000000 in
theorem mNew (ha : Given .i64 w a zs) (hb : Given .u32 w b ys) (hz : RightZ zs) (ht : tot zs = ys.length) (hl : ys.length ≤ 8192) (hy : U32s ys) (c1 c2 : Nat) :
    Calls Try.prog 17 #[.slice a zs.length c1, .slice b ys.length c2] w (NewMm w zs ys) := by
  obtain ⟨i0, hi0, hz0, hz1, hz2⟩ := info_parts intinfo
  have h8 := hz.1
  have hmk := fun W : World => run_make (P := Try.prog) W 25 3 i0 _ Try.underlying25 hi0 hz0 .i64 .i64 zs.length zs.length (by omega) (by omega) (by rw [hz2]; omega) (by omega)
  rw [hz1] at hmk
  clear hi0 hz0 hz1 hz2
  have hR := Lib.hid (mRight ha hz c1)
  have hT := Lib.hid (cTogether ha hz c1)
  have hN := Lib.hid (cNew ys.length hl w)
  rw [ht] at hT
  have HT := Lib.hid ht
  clear ht
  go_enter Try.func17, Try.ntmps17
  go_wp2_with fail
  refine hR.out.mono ?_
  rintro e w' ⟨rfl, rfl⟩
  go_wp2_with fail
  refine hT.out.mono ?_
  rintro e w' ⟨rfl, rfl⟩
  go_wp2_with fail
  refine hN.out.mono ?_
  rintro e w1 ⟨q, g, rfl, hc, hq, hg, hw1⟩
  go_upto_region 7 with fail
  clear hmk hR hT hN
  have hM : Bk ((w1.alloc (.cells (madeCells #[.int .i64 0] zs.length) 3)).alloc (.cells #[.pointer (some ⟨q, 0, none⟩), .slice (some ⟨w1.heap.size, 0, none⟩) zs.length zs.length] 79)) (w1.heap.size + 1) 79 #[.pointer (some ⟨q, 0, none⟩), .slice (some ⟨w1.heap.size, 0, none⟩) zs.length zs.length] := by
    have := Bk.made (w1.alloc (.cells (madeCells #[.int .i64 0] zs.length) 3)) 79 #[.pointer (some ⟨q, 0, none⟩), .slice (some ⟨w1.heap.size, 0, none⟩) zs.length zs.length]
    rw [World.size_alloc] at this
    exact this
  have hS : Bk ((w1.alloc (.cells (madeCells #[.int .i64 0] zs.length) 3)).alloc (.cells #[.pointer (some ⟨q, 0, none⟩), .slice (some ⟨w1.heap.size, 0, none⟩) zs.length zs.length] 79)) w1.heap.size 3 ((List.replicate zs.length (0 : Int)).map (Value.int .i64)).toArray := by
    have := (Bk.made w1 3 (madeCells #[.int .i64 0] zs.length)).alloc (.cells #[.pointer (some ⟨q, 0, none⟩), .slice (some ⟨w1.heap.size, 0, none⟩) zs.length zs.length] 79)
    rw [made_ints] at this ⊢
    exact this
  have hC := (hc.alloc (.cells (madeCells #[.int .i64 0] zs.length) 3)).alloc (.cells #[.pointer (some ⟨q, 0, none⟩), .slice (some ⟨w1.heap.size, 0, none⟩) zs.length zs.length] 79)
  have hG : w.grownBy ((w1.alloc (.cells (madeCells #[.int .i64 0] zs.length) 3)).alloc (.cells #[.pointer (some ⟨q, 0, none⟩), .slice (some ⟨w1.heap.size, 0, none⟩) zs.length zs.length] 79)) none := grown_then (grown_then hw1 (grown_made _ _ none) (.inl rfl)) (grown_made _ _ none) (.inl rfl)
  have hs := hw1.size
  clear hc hw1
  generalize (w1.alloc (.cells (madeCells #[.int .i64 0] zs.length) 3)).alloc (.cells #[.pointer (some ⟨q, 0, none⟩), .slice (some ⟨w1.heap.size, 0, none⟩) zs.length zs.length] 79) = x at *
  obtain ⟨p, hp⟩ : ∃ p, w1.heap.size + 1 = p := ⟨_, rfl⟩
  have hps : w.heap.size ≤ p := by omega
  rw [hp] at hM ⊢
  clear hp
  generalize w1.heap.size = s at *
  have m1 := hM.cell 1
  have m1' : x.cell? ⟨p, 1, none⟩ = some (.slice (some ⟨s, 0, none⟩) zs.length zs.length) := m1
  clear m1
  have HS := Lib.hid hS
  have HA := Lib.hid (ha.grown hG)
  go_wp2_with (refine wpList_copy_only rfl (.tmp 39) (.tmp 40) 25 25 rfl 3 Try.underlying25 (by kernel_rfl) (some ⟨s, 0, none⟩) a zs.length zs.length zs.length c1 (by simp [Act.eval]) (by simp [Act.eval]) s 0 ((List.replicate zs.length (0 : Int)).map (Value.int .i64)) 3 HS.out (zs.map (Value.int .i64)) (by simp) (copy_src HA.out) (by simp) (ints_oneCell .i64 zs) ?_; intro x2 hx2 hg2)
  rw [splice_all _ _ (by simp)] at hx2
  have hg3 : w.grownBy x2 none := grown_then hG hg2 (.inr fun y e => by injection e with e; omega)
  have hI : Mm x2 p q g s zs (Part ys 0) := by
    rw [part_0]
    exact ⟨hM.grown hg2 (fun e => by injection e with e; exact hM.unlike hS (by decide) e), hC.kept hg2 (fun e => by injection e with e; exact hC.ptr.unlike hS (by decide) e) (fun e => by injection e with e; exact hC.row.unlike hS (by decide) e), hx2, hz, by simp [HT.out]⟩
  clear hM hS hC hG m1' HS HA hg2 hx2
  go_wp2
  go_loopw [44] (fun t wr => ∃ k : Nat, k ≤ ys.length ∧ t = .int .i64 k ∧ Mm wr p q g s zs (Part ys k) ∧ w.grownBy wr none) (fun t _ => ys.length - (intOf t).toNat)
  case atStart => exact ⟨0, Nat.zero_le _, rfl, hI, hg3⟩
  case round =>
    clear hI hg3
    obtain ⟨k, hk, rfl, hI, hgr⟩ := hrel
    have c0 := hI.c0
    by_cases hlt : k < ys.length
    · obtain ⟨b', off, rfl, hcell⟩ := (hb.grown hgr).here hlt
      have hSt := cStore hI.cel k (by rw [part_len ys k hk]; exact hlt) (nth ys k) (hy.at_ k)
      rw [part_set ys k hlt] at hSt
      have HSt := Lib.hid hSt
      clear hSt
      go_wp2_with fail
      refine HSt.out.mono ?_
      rintro e w3 ⟨rfl, hc3, ho3⟩
      have hI3 : Mm w3 p q g s zs (Part ys (k + 1)) := hI.only hc3 ho3 (by rw [part_len ys k hk, part_len ys (k + 1) (by omega)])
      have hg4 : w.grownBy w3 none := grown_then hgr ho3 (.inr fun y e => by injection e with e; omega)
      clear HSt hI hgr hc3 ho3 hcell
      go_wp2
      go_roundw
      case rel => exact ⟨k + 1, by omega, by go_num, hI3, hg4⟩
      case measure => simp [intOf]; omega
    · obtain rfl : k = ys.length := by omega
      rw [part_all] at hI
      go_wp2
      go_ret2
      exact ⟨p, q, g, s, rfl, hI, ⟨hps, hq, hg, hs⟩, hgr⟩
end
end Go.Proofs.Ytpinpipjlongaaa
