/- append of a whole list of entries to one of the call's own; what Text answers. -/
import Derived.Test.YtjhdpolaapbihaaDoorTrF
import Derived.Test.YtjhdpolaapbihaaDoorTrJ
import Derived.Laws.OwnMore
import Derived.Maps.AppendAt
namespace Go.Proofs.YtjhdpolaapbihaaDoor
open Go.ChangeShapes Go.WideShapes Go.ChangeAt Go.RowKit
set_option linter.unusedVariables false

theorem ens_news {w : World} {ad : Addr} {l : List En} (h : EnS w (some ad) l) : ∀ j u, (ensC l)[j]? = some u → w.cell? (ad.add j) = some u := by
  intro j u hj
  have hjl : j < l.length * 3 := by have := (List.getElem?_eq_some_iff.1 hj).1; rwa [ensC_len] at this
  obtain ⟨b, off, e, hc⟩ := h.all (by omega)
  injection e with e
  subst e
  rw [Addr.add_lit, hc j hjl, hj]
theorem run_apnd {base : Nat} {w : World} {v : Value} {m l : List En} {a : Option Addr} {cap : Nat} (hO : EnO base 33 w v m) (S : EnS w a l) (hn : a = none → cap = 0) (hl : m.length + l.length ≤ 10000) (hbase : base ≤ w.heap.size) :
    ∃ v' w', (Builtin.append_ #[22, 22] 22 #[v, .slice a l.length cap]).run Tryd.prog w = .ok v' w' ∧ EnO base 33 w' v' (m ++ l) ∧ Below base w w' := by
  obtain ⟨i0, hi0, hz0, hz1, hz2⟩ := info_parts entInfo
  cases a with
  | none =>
    obtain rfl := hn rfl
    have h0 : l = [] := by
      cases l with
      | nil => rfl
      | cons x l => obtain ⟨b, off, e, _⟩ := S (by simp); cases e
    subst h0
    exact ⟨v, w, run_append_owned_none (P := Tryd.prog) w base 22 22 33 i0 3 Tryd.underlying22 hi0 v m.length (ensC m) hO, by rw [List.append_nil]; exact hO, Below.refl _ _⟩
  | some ad =>
    obtain ⟨v', w', hr, h2, h3, _, _⟩ := run_append_own_at (P := Tryd.prog) (w := w) base 22 22 33 i0 _ 3 24 Tryd.underlying22 hi0 hz0 hz1 hz2 rfl (by omega) v m.length (ensC m) hO ad l.length cap (ensC l) (ensC_len l) (ens_news S) (ensC_one l) (by simp only [maxLen]; omega) (by omega) hbase
    refine ⟨v', w', hr, ?_, (Below.refl _ _).grown h3 hbase fun g e => (hO.own_lt g e).1⟩
    unfold EnO
    rw [ensC_app, List.length_append]
    exact h2
section
variable {ops : Array Oper} {rest : List Oper} {o : Oper} {a : Act} {Q : Exit → Act → World → Prop} {base : Nat} {w : World} {v : Value} {m l : List En} {ad : Option Addr} {cap : Nat}
theorem wpApnd (hgd : o.guard = none) (s x : Operand) (ho : o.op = Op.call { callee := Callee.builtin Builtin.append, args := #[s, x], argTypes := #[22, 22] }) (hty : o.type = 22)
    (hO : EnO base 33 w v m) (S : EnS w ad l) (hn : ad = none → cap = 0) (hl : m.length + l.length ≤ 10000) (hbase : base ≤ w.heap.size) (hs : a.eval s = v) (hx : a.eval x = .slice ad l.length cap)
    (hK : ∀ v' w', EnO base 33 w' v' (m ++ l) → Below base w w' → wpList Tryd.prog ops Q rest (a.put o.dst v') w') : wpList Tryd.prog ops Q (o :: rest) a w := by
  obtain ⟨v', w', hr, h1, h2⟩ := run_apnd hO S hn hl hbase
  refine wpList_plain hgd fun K hK2 => ?_
  unfold Oper.wp
  simp [execOp, ho, hty, resolve, invoke, builtin, hs, hx, hr, Result.andThen]
  exact hK2 _ _ (hK v' w' h1 h2)
end
theorem textV_or (l : List En) : ∃ (t : List UInt8) (e : Int), textV l = .tuple #[.string ⟨t.toArray⟩, .int .i64 e] ∧ ((l.all fitsB = true ∧ e = 0 ∧ t = textT l) ∨ (l.all fitsB = false ∧ e = 8 ∧ t = [])) := by
  unfold textV
  cases h : l.all fitsB with
  | true => exact ⟨textT l, 0, rfl, .inl ⟨rfl, rfl, rfl⟩⟩
  | false => exact ⟨[], 8, by simp [bs], .inr ⟨rfl, rfl, rfl⟩⟩
end Go.Proofs.YtjhdpolaapbihaaDoor
