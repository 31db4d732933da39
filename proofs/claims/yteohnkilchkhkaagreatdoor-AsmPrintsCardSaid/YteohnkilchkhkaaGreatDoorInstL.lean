/- What of the library's variables the calls read, and the contracts of strconv.Itoa, strconv.Atoi, strings.TrimPrefix and strings.SplitN over lists of bytes. -/
import Derived.Test.YteohnkilchkhkaaGreatDoorInstA
import Derived.Test.YteohnkilchkhkaaGreatDoorShelf
import Derived.Test.YteohnkilchkhkaaGreatDoorGrow
import Derived.Lib.AtoiErrMem
import Derived.Lib.AtoiAll
namespace Go.Proofs.YteohnkilchkhkaaGreatDoor
open Go.ChangeShapes Go.WideShapes Go.ChangeAt Go.RowKit Go.Sort
set_option linter.unusedVariables false

/-- What the library's own variables hold. -/
structure Lb (w : World) : Prop where
  tab : Lib.TabIs Tryz.prog w "internal/strconv.uint64pow10" .u64 Lib.pow10Tab
  syn : ∃ tp p, w.var? Tryz.prog "strconv.ErrSyntax" = some #[.iface tp p]
  rng : ∃ tp p, w.var? Tryz.prog "strconv.ErrRange" = some #[.iface tp p]
  mx : ∃ m, w.cell? ⟨0, 0, none⟩ = some (.int .i64 m)
  low : 0 < w.heap.size ∧ 1 < w.heap.size ∧ 2 < w.heap.size ∧ 3 < w.heap.size

theorem Lb.below {w w' : World} (h : Lb w) (hb : Below w.heap.size w w') : Lb w' := by
  obtain ⟨l0, l1, l2, l3⟩ := h.low
  have hz := hb.size
  refine ⟨?_, ?_, ?_, ?_, by omega, by omega, by omega, by omega⟩
  · exact var?_below hb (g := 1) (by kernel_rfl) (by omega) h.tab
  · obtain ⟨tp, p, e⟩ := h.syn
    exact ⟨tp, p, var?_below hb (g := 2) (by kernel_rfl) (by omega) e⟩
  · obtain ⟨tp, p, e⟩ := h.rng
    exact ⟨tp, p, var?_below hb (g := 3) (by kernel_rfl) (by omega) e⟩
  · obtain ⟨m, e⟩ := h.mx
    exact ⟨m, (hb.cell (p := ⟨0, 0, none⟩) (by show 0 < _; omega)).trans e⟩
theorem Lb.grw {w : World} (h : Lb w) (g : Grw w) : Lb g.x := h.below g.ok

theorem below_grow (w : World) (k : Nat) (os : Array Obj) : Below w.heap.size w (grow (w.drewN k) os) := by
  refine ⟨rfl, rfl, rfl, ?_, fun j hj => ?_⟩
  · show w.heap.size ≤ (w.heap ++ os).size
    simp
  · show (w.heap ++ os)[j]? = w.heap[j]?
    rw [Array.getElem?_append_left hj]

theorem lItoa (n : Int) (h0 : -9223372036854775808 ≤ n) (h1 : n ≤ 9223372036854775807) (w : World) (L : Lb w) :
    Calls Tryz.prog 69 #[.int .i64 n] w fun e w' => e = .returned (bs (Lib.itoa n)) ∧ Below w.heap.size w w' :=
  (Any.strconv_Itoa Tryz.laysM171 n h0 h1 w L.tab).mono fun _ _ ⟨he, k, os, hw⟩ => ⟨he, by rw [hw]; exact below_grow w k os⟩

theorem lTrim (s p : List UInt8) (w : World) :
    Calls Tryz.prog 87 #[bs s, bs p] w fun e w' => e = .returned (bs (Lib.trimPrefix s p)) ∧ w = w' :=
  (Any.strings_TrimPrefix Tryz.lays101 ⟨s.toArray⟩ ⟨p.toArray⟩ w).mono fun _ _ ⟨he, hw⟩ => ⟨he, hw.symm⟩

theorem lAtoiOk (s : List UInt8) (hl : s.length ≤ 281474976710656) (v : Int) (h : Lib.atoiAll s = .ok v) (w : World) :
    Calls Tryz.prog 86 #[bs s] w fun e w' => e = .returned (.tuple #[.int .i64 v, .nilIface]) ∧ Below w.heap.size w w' := by
  have hs : (⟨s.toArray⟩ : ByteArray).size = s.length := by simp [ByteArray.size]
  refine (Any.strconv_Atoi_ok Tryz.laysC172 ⟨s.toArray⟩ (by omega) v h w).mono fun e w' ⟨he, hw⟩ => ⟨he, ?_⟩
  rcases hw with rfl | ⟨t, rfl⟩
  · exact Below.refl _ _
  · exact Lib.bytesWorld_below _ _ _

/-- An error, and nothing that was there has changed. -/
def Failed (w : World) (e : Ending) (w' : World) : Prop := ∃ (v : Int) (b : Nat), e = .returned (.tuple #[.int .i64 v, .iface 154 (.pointer (some ⟨b, 0, none⟩))]) ∧ Below w.heap.size w w'

theorem lAtoiNo (s : List UInt8) (hl : s.length ≤ 281474976710656) (h : ∀ v, Lib.atoiAll s ≠ .ok v) (w : World) (L : Lb w) :
    Calls Tryz.prog 86 #[bs s] w (Failed w) := by
  have hs : (⟨s.toArray⟩ : ByteArray).size = s.length := by simp [ByteArray.size]
  cases ha : Lib.atoiAll s with
  | ok v => exact absurd ha (h v)
  | range =>
    obtain ⟨tp, p, hv⟩ := L.rng
    exact (Any.strconv_Atoi_range_var Tryz.laysC172 ⟨s.toArray⟩ (by omega) ha tp p w hv).mono fun e w' ⟨N, he, _, _, hb⟩ => ⟨_, N, he, hb⟩
  | _ =>
    obtain ⟨tp, p, hv⟩ := L.syn
    exact (Any.strconv_Atoi_syntax_var Tryz.laysC172 ⟨s.toArray⟩ (by omega) ha tp p w hv).mono fun e w' ⟨N, he, _, _, hb⟩ => ⟨_, N, he, hb⟩

/-- The words of a text, as inst.Parse splits it: at most nine. -/
def splitL (s : List UInt8) : List (List UInt8) := Lib.splitN s [32] 9

/-- The value v is a slice of just these strings, in a row of the call's own making. -/
def Strs (w : World) (v : Value) (ws : List (List UInt8)) : Prop :=
  ∃ g cap, v = .slice (some ⟨g, 0, none⟩) ws.length cap ∧ ws.length ≤ cap ∧ cap ≤ 1000000 ∧ g < w.heap.size ∧ ∀ n, n < ws.length → w.cell? ⟨g, n, none⟩ = some (bs (ws.getD n []))
theorem Strs.below {w w' : World} {v : Value} {ws : List (List UInt8)} (h : Strs w v ws) (hb : Below w.heap.size w w') : Strs w' v ws := by
  obtain ⟨g, cap, e, h1, h2, h3, h4⟩ := h
  exact ⟨g, cap, e, h1, h2, Nat.lt_of_lt_of_le h3 hb.size, fun n hn => (hb.cell (p := ⟨g, n, none⟩) h3).trans (h4 n hn)⟩

theorem lSplit (s : List UInt8) (hl : s.length < 4294967281) (w : World) (L : Lb w) :
    Calls Tryz.prog 75 #[bs s, bs [32], .int .i64 9] w fun e w' => ∃ v, e = .returned v ∧ Strs w' v (splitL s) ∧ Below w.heap.size w w' := by
  obtain ⟨m, hm⟩ := L.mx
  have hs : (⟨s.toArray⟩ : ByteArray).size = s.length := by simp [ByteArray.size]
  refine (Any.strings_SplitN { Tryz.laysM147 with } Tryz.laysM147.i9 ⟨s.toArray⟩ ⟨#[32]⟩ 9 m w (by omega) hm (by decide) (by decide) (by decide)).mono fun e w' ⟨he, hw⟩ => ?_
  have hdat := Lib.splitB_data ⟨#[32]⟩ 0 (min 9 ((⟨s.toArray⟩ : ByteArray).size + 1) - 1) ⟨s.toArray⟩
  have hle := Lib.splitB_length_le ⟨#[32]⟩ 0 (min 9 ((⟨s.toArray⟩ : ByteArray).size + 1) - 1) ⟨s.toArray⟩
  generalize hl2 : Lib.splitB ⟨#[32]⟩ 0 (min 9 ((⟨s.toArray⟩ : ByteArray).size + 1) - 1) ⟨s.toArray⟩ = l at *
  have hlen : (splitL s).length = l.length := by
    unfold splitL Lib.splitN
    rw [← hs]
    have := congrArg List.length hdat
    simpa using this.symm
  have hcap : min 9 ((⟨s.toArray⟩ : ByteArray).size + 1) ≤ 9 := Nat.min_le_left _ _
  have hcap1 : 1 ≤ min 9 ((⟨s.toArray⟩ : ByteArray).size + 1) := by omega
  subst hw
  refine ⟨_, he, ⟨w.heap.size, min 9 ((⟨s.toArray⟩ : ByteArray).size + 1), by rw [hlen], by omega, by omega, by simp, fun n hn => ?_⟩, (Below.refl _ _).alloc (Nat.le_refl _) _⟩
  rw [cell_of_row _ _ _ _ _ _ (heap_alloc_new w _)]
  rw [hlen] at hn
  have h1 : (Lib.cellsOf l (min 9 ((⟨s.toArray⟩ : ByteArray).size + 1)))[n]? = some (.string l[n]) := by
    unfold Lib.cellsOf
    rw [List.getElem?_toArray, List.getElem?_append_left (by simpa using hn), List.getElem?_map, List.getElem?_eq_getElem hn]
    rfl
  rw [h1]
  have h2 : (splitL s).getD n [] = l[n].data.toList := by
    have h3 : splitL s = l.map (·.data.toList) := by rw [hdat]; unfold splitL Lib.splitN; rw [hs]
    rw [h3]
    simp [hn]
  rw [h2]
  rfl

end Go.Proofs.YteohnkilchkhkaaGreatDoor
