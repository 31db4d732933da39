/- What of the library's variables the calls read, and the contracts of strconv.Itoa, strconv.Atoi, strings.TrimPrefix and strings.SplitN over lists of bytes. -/
import Derived.Test.YtjhdpolaapbihaaDoorWdA
import Derived.Test.YtjhdpolaapbihaaDoorShelf
import Derived.Test.YtjhdpolaapbihaaDoorGrow
import Derived.Lib.AtoiErrMem
import Derived.Lib.AtoiAll
namespace Go.Proofs.YtjhdpolaapbihaaDoor
open Go.ChangeShapes Go.WideShapes Go.ChangeAt Go.RowKit Go.Sort
set_option linter.unusedVariables false

/-- What the library's own variables hold. -/
structure Lb (w : World) : Prop where
  tab : Lib.TabIs Tryd.prog w "internal/strconv.uint64pow10" .u64 Lib.pow10Tab
  syn : ∃ tp p, w.var? Tryd.prog "strconv.ErrSyntax" = some #[.iface tp p]
  rng : ∃ tp p, w.var? Tryd.prog "strconv.ErrRange" = some #[.iface tp p]
  mx : ∃ m, w.cell? ⟨2, 0, none⟩ = some (.int .i64 m)
  low : 2 < w.heap.size ∧ 1 < w.heap.size ∧ 3 < w.heap.size ∧ 4 < w.heap.size

theorem Lb.below {w w' : World} (h : Lb w) (hb : Below w.heap.size w w') : Lb w' := by
  obtain ⟨l0, l1, l2, l3⟩ := h.low
  have hz := hb.size
  refine ⟨?_, ?_, ?_, ?_, by omega, by omega, by omega, by omega⟩
  · exact var?_below hb (g := 1) (by kernel_rfl) (by omega) h.tab
  · obtain ⟨tp, p, e⟩ := h.syn
    exact ⟨tp, p, var?_below hb (g := 3) (by kernel_rfl) (by omega) e⟩
  · obtain ⟨tp, p, e⟩ := h.rng
    exact ⟨tp, p, var?_below hb (g := 4) (by kernel_rfl) (by omega) e⟩
  · obtain ⟨m, e⟩ := h.mx
    exact ⟨m, (hb.cell (p := ⟨2, 0, none⟩) (by show 2 < _; omega)).trans e⟩
theorem Lb.grw {w : World} (h : Lb w) (g : Grw w) : Lb g.x := h.below g.ok

theorem below_grow (w : World) (k : Nat) (os : Array Obj) : Below w.heap.size w (grow (w.drewN k) os) := by
  refine ⟨rfl, rfl, rfl, ?_, fun j hj => ?_⟩
  · show w.heap.size ≤ (w.heap ++ os).size
    simp
  · show (w.heap ++ os)[j]? = w.heap[j]?
    rw [Array.getElem?_append_left hj]

theorem lItoa (n : Int) (h0 : -9223372036854775808 ≤ n) (h1 : n ≤ 9223372036854775807) (w : World) (L : Lb w) :
    Calls Tryd.prog 24 #[.int .i64 n] w fun e w' => e = .returned (bs (Lib.itoa n)) ∧ Below w.heap.size w w' :=
  (Any.strconv_Itoa Tryd.laysM171 n h0 h1 w L.tab).mono fun _ _ ⟨he, k, os, hw⟩ => ⟨he, by rw [hw]; exact below_grow w k os⟩

theorem lAtoiOk (s : List UInt8) (hl : s.length ≤ 281474976710656) (v : Int) (h : Lib.atoiAll s = .ok v) (w : World) :
    Calls Tryd.prog 48 #[bs s] w fun e w' => e = .returned (.tuple #[.int .i64 v, .nilIface]) ∧ Below w.heap.size w w' := by
  have hs : (⟨s.toArray⟩ : ByteArray).size = s.length := by simp [ByteArray.size]
  refine (Any.strconv_Atoi_ok Tryd.laysC172 ⟨s.toArray⟩ (by omega) v h w).mono fun e w' ⟨he, hw⟩ => ⟨he, ?_⟩
  rcases hw with rfl | ⟨t, rfl⟩
  · exact Below.refl _ _
  · exact Lib.bytesWorld_below _ _ _

/-- An error, and nothing that was there has changed. -/
def Failed (w : World) (e : Ending) (w' : World) : Prop := ∃ (v : Int) (b : Nat), e = .returned (.tuple #[.int .i64 v, .iface 106 (.pointer (some ⟨b, 0, none⟩))]) ∧ Below w.heap.size w w'

theorem lAtoiNo (s : List UInt8) (hl : s.length ≤ 281474976710656) (h : ∀ v, Lib.atoiAll s ≠ .ok v) (w : World) (L : Lb w) :
    Calls Tryd.prog 48 #[bs s] w (Failed w) := by
  have hs : (⟨s.toArray⟩ : ByteArray).size = s.length := by simp [ByteArray.size]
  cases ha : Lib.atoiAll s with
  | ok v => exact absurd ha (h v)
  | range =>
    obtain ⟨tp, p, hv⟩ := L.rng
    exact (Any.strconv_Atoi_range_var Tryd.laysC172 ⟨s.toArray⟩ (by omega) ha tp p w hv).mono fun e w' ⟨N, he, _, _, hb⟩ => ⟨_, N, he, hb⟩
  | _ =>
    obtain ⟨tp, p, hv⟩ := L.syn
    exact (Any.strconv_Atoi_syntax_var Tryd.laysC172 ⟨s.toArray⟩ (by omega) ha tp p w hv).mono fun e w' ⟨N, he, _, _, hb⟩ => ⟨_, N, he, hb⟩

/-- The value v is a slice of just these strings, in a row of the call's own making. -/
def Strs (w : World) (v : Value) (ws : List (List UInt8)) : Prop :=
  ∃ g cap, v = .slice (some ⟨g, 0, none⟩) ws.length cap ∧ ws.length ≤ cap ∧ cap ≤ 1000000 ∧ g < w.heap.size ∧ ∀ n, n < ws.length → w.cell? ⟨g, n, none⟩ = some (bs (ws.getD n []))
theorem Strs.below {w w' : World} {v : Value} {ws : List (List UInt8)} (h : Strs w v ws) (hb : Below w.heap.size w w') : Strs w' v ws := by
  obtain ⟨g, cap, e, h1, h2, h3, h4⟩ := h
  exact ⟨g, cap, e, h1, h2, Nat.lt_of_lt_of_le h3 hb.size, fun n hn => (hb.cell (p := ⟨g, n, none⟩) h3).trans (h4 n hn)⟩

end Go.Proofs.YtjhdpolaapbihaaDoor
