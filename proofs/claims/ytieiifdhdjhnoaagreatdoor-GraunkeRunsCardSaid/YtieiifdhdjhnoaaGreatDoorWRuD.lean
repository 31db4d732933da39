import Derived.Test.YtieiifdhdjhnoaaGreatDoorWAsmF
import Derived.Test.YtieiifdhdjhnoaaGreatDoorWMem
import Derived.Test.YtieiifdhdjhnoaaGreatDoorWWdB
import Derived.Test.YtieiifdhdjhnoaaGreatDoorWEyB
import Derived.Deep.DeepCutAuto
import Derived.Deep.CutBlock
import Derived.BigQuiet
set_option linter.unusedVariables false
set_option maxRecDepth 100000
namespace Go.Proofs.YtieiifdhdjhnoaaGreatDoor
open Go.ChangeShapes Go.WideShapes Go.ChangeAt Go.RowKit
theorem jh {B:Type _}:∀ {ps:List (Nat×B)} {i:Nat} {p:B},ps.lookup i=some p->(i,p)∈ps
 | [],i,p,h=>by cases h
 | (k,q) :: ps,i,p,h=>by
  rw[List.lookup_cons] at h
  by_cases e:i=k
  ·subst e;simp at h;subst h;exact List.mem_cons_self
  ·have e2:(i==k)=false:=by simpa using e
   rw[e2] at h
   exact List.mem_cons_of_mem _ (jh h)
def rE (ps:List (Nat×(Nat->Value->World->Prop)))(l:List Value)(i k:Nat)(v:Value)(W:World):Prop:=match ps.lookup i with
 | some p=>p k v W
 | none=>v=l.getD i undef
theorem iy {ps:List (Nat×(Nat->Value->World->Prop))}{l:List Value}(h:∀ x∈ps,∀ k v W W',x.2 k v W->Below W.heap.size W W'->x.2 k v W'):∀ i k v W W',rE ps l i k v W->Below W.heap.size W W'->rE ps l i k v W':=by
 intro i k v W W' hm hb
 unfold rE at *
 cases hl:ps.lookup i with
 | none=>rw[hl] at hm;exact hm
 | some p=>
  rw[hl] at hm
  exact h (i,p) (jh hl) k v W W' hm hb
theorem kG {ps:List (Nat×(Nat->Value->World->Prop))}{l:List Value}{k:Nat}{W W':World}(h:∀ x∈ps,∀ v,x.2 k v W->x.2 (k+1) v W'):∀ i v,rE ps l i k v W->rE ps l i (k+1) v W':=by
 intro i v hm
 unfold rE at *
 cases hl:ps.lookup i with
 | none=>rw[hl] at hm;exact hm
 | some p=>
  rw[hl] at hm
  exact h (i,p) (jh hl) v hm
