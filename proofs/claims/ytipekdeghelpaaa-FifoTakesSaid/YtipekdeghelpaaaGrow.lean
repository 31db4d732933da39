/- A region that draws its order, whose own operations only read and whose calls make memory and change none: one walk, in the order of the text. Over any program. -/
import Derived.Test.YtipekdeghelpaaaMem
import Derived.BigQuiet
namespace Go.Proofs.Ytipekdeghelpaaa
open Go.ChangeShapes Go.WideShapes Go.ChangeAt Go.RowKit

/-- A world that has grown out of w: nothing that was there has changed. -/
structure Grw (w : World) where
  x : World
  ok : Below w.heap.size w x

def Grw.here (w : World) : Grw w := ⟨w, Below.refl _ _⟩
instance grwThere (w : World) : Nonempty (Grw w) := ⟨Grw.here w⟩
def Grw.more {w : World} (g : Grw w) {y : World} (h : Below g.x.heap.size g.x y) : Grw w := ⟨y, g.ok.trans (h.mono g.ok.size)⟩
theorem Grw.cell {w : World} (g : Grw w) {p : Addr} {v : Value} (h : w.cell? p = some v) : g.x.cell? p = some v :=
  (g.ok.cell (World.block_lt_of_cell? w _ h)).trans h

theorem below_of_drew {w y : World} (h : Below w.drew.heap.size w.drew y) : Below w.heap.size w y := ⟨h.os, h.tape, h.output, h.size, h.block⟩

/-- What stands behind the region is asked in every world that has grown. -/
theorem wp_region_grow {P : Program} {id : Nat} {Q : Exit → Act → World → Prop} {a : Act} {w : World} {l : List Oper} (hm : P.follows .mixedOrders = true) (hB : Region.lexB .any l.toArray = true)
    (h : wpQuiet P l.toArray (fun y => ∃ g : Grw w, y = g.x) (fun a' => ∀ y, (∃ g : Grw w, y = g.x) → Q .normal a' y) l a) : (Code.region id l.toArray true).wp P Q a w :=
  wp_region_quiet (C := fun y => ∃ g : Grw w, y = g.x) hm hB ⟨⟨w.drew, (Below.refl _ _).drew⟩, rfl⟩ (by simpa using h)

/-- A callee's contract, met in a world that has grown. -/
theorem grw_call {P : Program} {f : FuncId} {args : Array Value} {w : World} {g : Grw w} {v : Value}
    (h : Calls P f args g.x fun e y => e = .returned v ∧ Below g.x.heap.size g.x y) : Calls P f args g.x fun e y => e = .returned v ∧ ∃ g' : Grw w, y = g'.x :=
  h.mono fun _ _ ⟨he, hb⟩ => ⟨he, g.more hb, rfl⟩
theorem grw_same {P : Program} {f : FuncId} {args : Array Value} {w : World} {g : Grw w} {v : Value}
    (h : Calls P f args g.x fun e y => e = .returned v ∧ g.x = y) : Calls P f args g.x fun e y => e = .returned v ∧ ∃ g' : Grw w, y = g'.x :=
  h.mono fun _ _ ⟨he, hb⟩ => ⟨he, g, hb.symm⟩
end Go.Proofs.Ytipekdeghelpaaa
