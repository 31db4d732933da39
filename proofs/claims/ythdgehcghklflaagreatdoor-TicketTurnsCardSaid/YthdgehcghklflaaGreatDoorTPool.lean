import Derived.Test.YthdgehcghklflaaGreatDoorTWdA
import Derived.Test.YthdgehcghklflaaGreatDoorTMem
import Derived.Laws.BitsAllLaws
import Derived.Maps.RangeWalk
set_option linter.unusedVariables false
namespace Go.Proofs.YthdgehcghklflaaGreatDoor
set_option maxRecDepth 100000
open Go.ChangeShapes Go.WideShapes Go.ChangeAt Go.RowKit
def upd {α:Type}(f:Nat→α)(t:Nat)(v:α):Nat→α:=fun i=>if i=t then v else f i
theorem upd_same {α:Type}(f:Nat→α)(t:Nat)(v:α):upd f t v t=v:=by simp[upd]
theorem upd_other {α:Type}{f:Nat→α}{t i:Nat}{v:α}(h:i≠t):upd f t v i=f i:=by simp[upd,h]
def firsts (t each k:Nat):List Int:=(List.range k).map (fun i=>((t * each+1+i:Nat):Int))
def hdl (gen:List Int)(q:Nat):Int:=nth gen q * 4096+((q:Int)+1)
def isO (N:Nat)(gen out:List Int)(h:Int):Bool:=decide (1≤h % 4096∧h % 4096≤(N:Int)∧nth out (h % 4096 - 1).toNat=1∧hdl gen (h % 4096 - 1).toNat=h)
def sumTo (xs:List Int):Nat→Int
 | 0=>0
 | k+1=>sumTo xs k+nth xs k
structure Same (n each:Nat)(free:Nat→List Nat)(gen out:List Int)(fr:Nat→List Int)(os:Int→Bool)(c:Nat):Prop where
 few:n≤64
 eight:each≤8
 lenG:gen.length=n * each
 lenO:out.length=n * each
 gens:∀ q,0≤nth gen q∧nth gen q < 262144
 outs:∀ q,nth out q=0∨nth out q=1
 frs:∀ t,t < n→fr t=(free t).map (hdl gen)
 oss:∀ h,0≤h→h < 4294967296→os h=isO (n * each) gen out h
 cnt:(c:Int)=sumTo out (n * each)
 own:∀ t,t < n→∀ q,q∈free t→t * each≤q∧q < t * each+each∧nth out q=0
 dup:∀ t,t < n→(free t).Nodup
theorem sumTo_le {xs:List Int}(h:∀ q,nth xs q=0∨nth xs q=1):∀ k,0≤sumTo xs k∧sumTo xs k≤(k:Int)
 | 0=>by simp[sumTo]
 | k+1=>by
  have h1:=sumTo_le h k
  have h2:=h k
  unfold sumTo
  omega
section
variable {n each c:Nat}{free:Nat→List Nat}{gen out:List Int}{fr:Nat→List Int}{os:Int→Bool}
def freeNew (each:Nat):Nat→List Nat:=fun t=>(List.range each).map fun i=>t * each+i
theorem nth_zeros (k q:Nat):nth (List.replicate k 0) q=0:=by
 simp[nth,List.getD_eq_getElem?_getD,List.getElem?_replicate];split <;> rfl
theorem sumTo_zeros (N:Nat):∀ k,sumTo (List.replicate N 0) k=0
 | 0=>rfl
 | k+1=>by unfold sumTo;rw[sumTo_zeros N k,nth_zeros];rfl
theorem same_new (n each:Nat)(hn:n≤64)(he:each≤8):Same n each (freeNew each) (List.replicate (n * each) 0) (List.replicate (n * each) 0) (fun t=>firsts t each each) (fun _=>false) 0:=by
 refine⟨hn,he,by simp,by simp,fun q=>by rw[nth_zeros];omega,fun q=>.inl (nth_zeros _ _),fun t ht=>?_,fun h h0 h1=>?_,by rw[sumTo_zeros];rfl,fun t ht q hq=>?_,fun t ht=>?_⟩
 ·unfold firsts freeNew
  rw[List.map_map]
  refine List.map_congr_left fun i hi=>?_
  simp only[Function.comp,hdl,nth_zeros]
  omega
 ·unfold isO
  simp[nth_zeros]
 ·unfold freeNew at hq
  simp only[List.mem_map,List.mem_range] at hq
  obtain⟨i,hi,rfl⟩:=hq
  exact⟨by omega,by omega,nth_zeros _ _⟩
 ·unfold freeNew
  exact List.Pairwise.map _ (fun a b hab e=>hab (by omega)) List.nodup_range
end
end Go.Proofs.YthdgehcghklflaaGreatDoor
