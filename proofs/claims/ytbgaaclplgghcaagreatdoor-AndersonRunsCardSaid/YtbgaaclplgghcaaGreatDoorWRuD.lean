import Derived.Test.YtbgaaclplgghcaaGreatDoorWAsmF
import Derived.Test.YtbgaaclplgghcaaGreatDoorWMem
import Derived.Test.YtbgaaclplgghcaaGreatDoorWFlowK
import Derived.Test.YtbgaaclplgghcaaGreatDoorWEyB
import Derived.Deep.DeepCutAuto
import Derived.Deep.CutBlock
import Derived.BigQuiet
set_option linter.unusedVariables false
set_option maxRecDepth 100000
namespace Go.Proofs.YtbgaaclplgghcaaGreatDoor
open Go.ChangeShapes Go.WideShapes Go.ChangeAt Go.RowKit
theorem i6 {B:Type _}:∀ {ps:List (Nat×B)} {i:Nat} {p:B},ps.lookup i=some p->(i,p)∈ps
 | [],i,p,h=>by cases h
 | (k,q) :: ps,i,p,h=>by
  rw[List.lookup_cons] at h
  by_cases e:i=k
  ·subst e;simp at h;subst h;exact List.mem_cons_self
  ·have e2:(i==k)=false:=by simpa using e
   rw[e2] at h
   exact List.mem_cons_of_mem _ (i6 h)
def qZ (ps:List (Nat×(Nat->Value->World->Prop)))(l:List Value)(i k:Nat)(v:Value)(W:World):Prop:=match ps.lookup i with
 | some p=>p k v W
 | none=>v=l.getD i undef
theorem iq {ps:List (Nat×(Nat->Value->World->Prop))}{l:List Value}(h:∀ x∈ps,∀ k v W W',x.2 k v W->Below W.heap.size W W'->x.2 k v W'):∀ i k v W W',qZ ps l i k v W->Below W.heap.size W W'->qZ ps l i k v W':=by
 intro i k v W W' hm hb
 unfold qZ at *
 cases hl:ps.lookup i with
 | none=>rw[hl] at hm;exact hm
 | some p=>
  rw[hl] at hm
  exact h (i,p) (i6 hl) k v W W' hm hb
theorem kz {ps:List (Nat×(Nat->Value->World->Prop))}{l:List Value}{k:Nat}{W W':World}(h:∀ x∈ps,∀ v,x.2 k v W->x.2 (k+1) v W'):∀ i v,qZ ps l i k v W->qZ ps l i (k+1) v W':=by
 intro i v hm
 unfold qZ at *
 cases hl:ps.lookup i with
 | none=>rw[hl] at hm;exact hm
 | some p=>
  rw[hl] at hm
  exact h (i,p) (i6 hl) v hm
