import Derived.Test.YthdgehcghklflaaGreatDoorPWdA
import Derived.Test.YthdgehcghklflaaGreatDoorPMem
import Derived.Laws.BitsAllLaws
import Derived.Maps.RangeWalk
set_option linter.unusedVariables false
namespace Go.Proofs.YthdgehcghklflaaGreatDoor
set_option maxRecDepth 100000
open Go.ChangeShapes Go.WideShapes Go.ChangeAt Go.RowKit
def upd {α:Type}(f:Nat→α)(t:Nat)(v:α):Nat→α:=fun i=>if i=t then v else f i
theorem upd_same {α:Type}(f:Nat→α)(t:Nat)(v:α):upd f t v t=v:=by simp[upd]
theorem upd_other {α:Type}{f:Nat→α}{t i:Nat}{v:α}(h:i≠t):upd f t v i=f i:=by simp[upd,h]
structure PM where
 g:Nat
 b:Nat
 ps:Nat→Nat
 ogs:Nat→Option Nat
def PM.Has (M:PM)(n i:Nat):Prop:=i=M.b∨∃ j,j < n∧(i=M.ps j∨M.ogs j=some i)
def ptRow (ps:Nat→Nat)(n k:Nat):Array Value:=((List.range n).map (fun i=>if i < k then Value.pointer (some ⟨ps i,0,none⟩) else .pointer none)).toArray
theorem ptRow_at (ps:Nat→Nat)(n k i:Nat)(h:i < n):(ptRow ps n k)[i]?=some (if i < k then Value.pointer (some ⟨ps i,0,none⟩) else .pointer none):=by simp[ptRow,h]
structure Pl (w:World)(p n each:Nat)(M:PM)(fr:Nat→List Int)(os:Int→Bool)(c:Nat):Prop where
 ptr:Bk w p 174 #[.int .i64 each,.slice (some ⟨M.g,0,none⟩) n n,.map (some M.b)]
 row:Bk w M.g 175 (ptRow M.ps n n)
 rings:∀ i,i < n→RWord.Rg w (M.ps i) (M.ogs i) each (fr i)
 set:Outs w M.b os c
 psne:∀ i j,i < n→j < n→i≠j→M.ps i≠M.ps j
 ogne:∀ i j g,i < n→j < n→i≠j→M.ogs i=some g→M.ogs j≠some g
 few:n≤64
 one:1≤n
 eight:each≤8
theorem Rg_hd {w:World}{p:Nat}{og:Option Nat}{r:Nat}{vs:List Int}(h:RWord.Rg w p og r vs):∃ cs,Bk w p 255 cs:=by
 obtain⟨n,f,cs,h⟩:=h;exact⟨_,h.hd⟩
theorem Rg_row {w:World}{p g:Nat}{og:Option Nat}{r:Nat}{vs:List Int}(h:RWord.Rg w p og r vs)(e:og=some g):∃ cs,Bk w g 22 cs:=by
 obtain⟨n,f,cs,h⟩:=h;exact⟨_,h.row g e⟩
section
variable {w w':World}{p n each c:Nat}{M:PM}{fr:Nat→List Int}{os:Int→Bool}
theorem Pl.c0 (h:Pl w p n each M fr os c):w.cell? ⟨p,0,none⟩=some (.int .i64 each):=by rw[h.ptr.cell];rfl
theorem Pl.c1 (h:Pl w p n each M fr os c):w.cell? ⟨p,1,none⟩=some (.slice (some ⟨M.g,0,none⟩) n n):=by rw[h.ptr.cell];rfl
theorem Pl.c2 (h:Pl w p n each M fr os c):w.cell? ⟨p,2,none⟩=some (.map (some M.b)):=by rw[h.ptr.cell];rfl
theorem Pl.at_ (h:Pl w p n each M fr os c){i:Nat}(hi:i < n):w.cell? ⟨M.g,i,none⟩=some (.pointer (some ⟨M.ps i,0,none⟩)):=by rw[h.row.cell,ptRow_at _ _ _ _ hi,if_pos hi]
theorem Pl.drewN (h:Pl w p n each M fr os c)(m:Nat):Pl (w.drewN m) p n each M fr os c:=⟨h.ptr,h.row,fun i hi=>(h.rings i hi).draws m,h.set,h.psne,h.ogne,h.few,h.one,h.eight⟩
theorem Pl.lt (h:Pl w p n each M fr os c){i:Nat}(k:M.Has n i):i < w.heap.size:=by
 rcases k with rfl | ⟨j,hj,rfl | e⟩
 ·exact h.set.lt
 ·exact(h.rings j hj).p_lt
 ·exact(h.rings j hj).g_lt e
theorem Pl.p_lt (h:Pl w p n each M fr os c):p < w.heap.size:=h.ptr.lt
theorem Pl.g_lt (h:Pl w p n each M fr os c):M.g < w.heap.size:=h.row.lt
theorem Pl.not_has {q:Nat}{t:TypeId}{cs:Array Value}(h:Pl w p n each M fr os c)(k:Bk w q t cs)(h1:t≠255)(h2:t≠22):¬ M.Has n q:=by
 rintro(e | ⟨j,hj,e | e⟩)
 ·exact h.set.not_bk k e.symm
 ·obtain⟨cs',hb⟩:=Rg_hd (h.rings j hj)
  exact Bk.unlike k hb h1 e
 ·obtain⟨cs',hb⟩:=Rg_row (h.rings j hj) e
  exact Bk.unlike k hb h2 rfl
theorem Pl.kept {S:Nat→Prop}(h:Pl w p n each M fr os c)(k:Within w w' S)(h1:¬ S p)(h2:¬ S M.g)(h3:∀ i,M.Has n i→¬ S i):Pl w' p n each M fr os c:=
 ⟨h.ptr.within k h1,h.row.within k h2,fun i hi=>(h.rings i hi).kept k (h3 _ (.inr ⟨i,hi,.inl rfl⟩)) (fun _ e=>h3 _ (.inr ⟨i,hi,.inr e⟩)),h.set.within k (h3 _ (.inl rfl)),h.psne,h.ogne,h.few,h.one,h.eight⟩
theorem Pl.grown (h:Pl w p n each M fr os c)(k:w.grownBy w' none):Pl w' p n each M fr os c:=h.kept (S:=fun _=>False) (.of_grown k (by simp)) (by simp) (by simp) (by simp)
theorem Pl.outs (h:Pl w p n each M fr os c){os':Int→Bool}{c':Nat}(ho:Outs w' M.b os' c')(k:Only w w' M.b):Pl w' p n each M fr os' c':=by
 have k':Within w w' (fun i=>i=M.b):=.of_grown k (by simp)
 refine⟨h.ptr.within k' (fun e=>h.set.not_bk h.ptr e.symm),h.row.within k' (fun e=>h.set.not_bk h.row e.symm),fun i hi=>?_,ho,h.psne,h.ogne,h.few,h.one,h.eight⟩
 refine(h.rings i hi).kept k' (fun e=>?_) (fun g eg e=>?_)
 ·obtain⟨cs,hc⟩:=Rg_hd (h.rings i hi);exact h.set.not_bk hc e.symm
 ·obtain⟨cs,hc⟩:=Rg_row (h.rings i hi) eg;exact h.set.not_bk hc e.symm
end
def firsts (t each k:Nat):List Int:=(List.range k).map (fun i=>((t * each+1+i:Nat):Int))
def hdl (gen:List Int)(q:Nat):Int:=nth gen q * 4096+((q:Int)+1)
def isO (N:Nat)(gen out:List Int)(h:Int):Bool:=decide (1≤h % 4096∧h % 4096≤(N:Int)∧nth out (h % 4096 - 1).toNat=1∧hdl gen (h % 4096 - 1).toNat=h)
def sumTo (xs:List Int):Nat→Int
 | 0=>0
 | k+1=>sumTo xs k+nth xs k
structure Same (n each:Nat)(free:Nat→List Nat)(gen out:List Int)(fr:Nat→List Int)(os:Int→Bool)(c:Nat):Prop where
 few:n≤64
 eight:each≤8
 lenG:gen.length=n * each
 lenO:out.length=n * each
 gens:∀ q,0≤nth gen q∧nth gen q < 262144
 outs:∀ q,nth out q=0∨nth out q=1
 frs:∀ t,t < n→fr t=(free t).map (hdl gen)
 oss:∀ h,0≤h→h < 4294967296→os h=isO (n * each) gen out h
 cnt:(c:Int)=sumTo out (n * each)
 own:∀ t,t < n→∀ q,q∈free t→t * each≤q∧q < t * each+each∧nth out q=0
 dup:∀ t,t < n→(free t).Nodup
theorem sumTo_set {xs:List Int}{q:Nat}(hq:q < xs.length)(v:Int):∀ k,k≤xs.length→sumTo (xs.set q v) k=sumTo xs k+(if q < k then v - nth xs q else 0)
 | 0,_=>by simp[sumTo]
 | k+1,hk=>by
  unfold sumTo
  rw[sumTo_set hq v k (by omega),nth_set hq]
  by_cases e:q=k
  ·subst e;simp;omega
  ·rw[if_neg e]
   by_cases h:q < k
   ·rw[if_pos h,if_pos (by omega)];omega
   ·rw[if_neg h,if_neg (by omega)];omega
section
variable {n each c:Nat}{free:Nat→List Nat}{gen out:List Int}{fr:Nat→List Int}{os:Int→Bool}
theorem Same.le (h:Same n each free gen out fr os c):n * each≤512:=Nat.mul_le_mul h.few h.eight
theorem Same.in_ (_h:Same n each free gen out fr os c){t q:Nat}(ht:t < n)(hq:q < t * each+each):q < n * each:=by
 have:(t+1) * each≤n * each:=Nat.mul_le_mul_right _ ht
 rw[Nat.add_mul,Nat.one_mul] at this
 omega
theorem hdl_facts {gen:List Int}(hg:∀ q,0≤nth gen q∧nth gen q < 262144){q:Nat}(hq:q < 512):0 < hdl gen q∧hdl gen q < 4294967296∧hdl gen q % 4096=(q:Int)+1∧hdl gen q / 4096=nth gen q:=by
 have:=hg q
 unfold hdl
 omega
theorem isO_hdl {N:Nat}{gen out:List Int}(hg:∀ q,0≤nth gen q∧nth gen q < 262144){q:Nat}(hq:q < N)(hN:N≤512):isO N gen out (hdl gen q)=decide (nth out q=1):=by
 obtain⟨f1,f2,f3,f4⟩:=hdl_facts hg (q:=q) (by omega)
 unfold isO
 rw[f3,show ((q:Int)+1 - 1).toNat=q by omega,Bool.eq_iff_iff]
 simp
 omega
theorem Same.take (h:Same n each free gen out fr os c){t q:Nat}{rest:List Nat}(ht:t < n)(e:free t=q :: rest):
 q < n * each∧nth out q=0∧fr t=hdl gen q :: rest.map (hdl gen)∧os (hdl gen q)=false∧Same n each (upd free t rest) gen (out.set q 1) (upd fr t (rest.map (hdl gen))) (turn os (hdl gen q) true) (c+1):=by
 have hN:=h.le
 obtain⟨o1,o2,o3⟩:=h.own t ht q (by rw[e];simp)
 have hq:=h.in_ ht o2
 obtain⟨f1,f2,f3,f4⟩:=hdl_facts h.gens (q:=q) (by omega)
 have hfr:fr t=hdl gen q :: rest.map (hdl gen):=by rw[h.frs t ht,e];rfl
 have hos:os (hdl gen q)=false:=by rw[h.oss _ (by omega) f2,isO_hdl h.gens hq hN,o3];rfl
 have hlO:=h.lenO
 refine⟨hq,o3,hfr,hos,h.few,h.eight,h.lenG,by simpa using hlO,h.gens,fun q'=>?_,fun s hs=>?_,fun x x0 x1=>?_,?_,fun s hs q' hm=>?_,fun s hs=>?_⟩
 ·rw[nth_set (by omega)]
  split
  ·exact .inr rfl
  ·exact h.outs q'
 ·by_cases es:s=t
  ·subst es;rw[upd_same,upd_same]
  ·rw[upd_other es,upd_other es];exact h.frs s hs
 ·by_cases ex:x=hdl gen q
  ·subst ex
   rw[turn_same,isO_hdl h.gens hq hN,nth_set (by omega),if_pos rfl]
   rfl
  ·rw[turn_other ex,h.oss x x0 x1]
   unfold isO
   rw[Bool.eq_iff_iff]
   simp only[decide_eq_true_eq]
   constructor
   ·rintro⟨a1,a2,a3,a4⟩
    refine⟨a1,a2,?_,a4⟩
    rw[nth_set (by omega)]
    split
    ·rfl
    ·exact a3
   ·rintro⟨a1,a2,a3,a4⟩
    refine⟨a1,a2,?_,a4⟩
    rw[nth_set (by omega),if_neg (fun e'=>ex (by rw[←a4,e']))] at a3
    exact a3
 ·rw[sumTo_set (by omega) 1 _ (by omega),if_pos (by omega),o3,←h.cnt]
  omega
 ·by_cases es:s=t
  ·subst es
   rw[upd_same] at hm
   obtain⟨b1,b2,b3⟩:=h.own s hs q' (by rw[e];simp[hm])
   refine⟨b1,b2,?_⟩
   have hd:=h.dup s hs
   rw[e] at hd
   rw[nth_set (by omega),if_neg (fun e'=>by subst e';exact(List.nodup_cons.1 hd).1 hm)]
   exact b3
  ·rw[upd_other es] at hm
   obtain⟨b1,b2,b3⟩:=h.own s hs q' hm
   refine⟨b1,b2,?_⟩
   have hne:q≠q':=by
    rintro rfl
    rcases Nat.lt_or_gt_of_ne es with hlt | hlt
    ·have:=Nat.mul_le_mul_right each (show s+1≤t from hlt)
     rw[Nat.add_mul,Nat.one_mul] at this;omega
    ·have:=Nat.mul_le_mul_right each (show t+1≤s from hlt)
     rw[Nat.add_mul,Nat.one_mul] at this;omega
   rw[nth_set (by omega),if_neg hne]
   exact b3
 ·by_cases es:s=t
  ·subst es
   have hd:=h.dup s hs
   rw[e] at hd
   rw[upd_same]
   exact(List.nodup_cons.1 hd).2
  ·rw[upd_other es];exact h.dup s hs
def freeNew (each:Nat):Nat→List Nat:=fun t=>(List.range each).map fun i=>t * each+i
theorem nth_zeros (k q:Nat):nth (List.replicate k 0) q=0:=by
 simp[nth,List.getD_eq_getElem?_getD,List.getElem?_replicate];split <;> rfl
theorem sumTo_zeros (N:Nat):∀ k,sumTo (List.replicate N 0) k=0
 | 0=>rfl
 | k+1=>by unfold sumTo;rw[sumTo_zeros N k,nth_zeros];rfl
theorem same_new (n each:Nat)(hn:n≤64)(he:each≤8):Same n each (freeNew each) (List.replicate (n * each) 0) (List.replicate (n * each) 0) (fun t=>firsts t each each) (fun _=>false) 0:=by
 refine⟨hn,he,by simp,by simp,fun q=>by rw[nth_zeros];omega,fun q=>.inl (nth_zeros _ _),fun t ht=>?_,fun h h0 h1=>?_,by rw[sumTo_zeros];rfl,fun t ht q hq=>?_,fun t ht=>?_⟩
 ·unfold firsts freeNew
  rw[List.map_map]
  refine List.map_congr_left fun i hi=>?_
  simp only[Function.comp,hdl,nth_zeros]
  omega
 ·unfold isO
  simp[nth_zeros]
 ·unfold freeNew at hq
  simp only[List.mem_map,List.mem_range] at hq
  obtain⟨i,hi,rfl⟩:=hq
  exact⟨by omega,by omega,nth_zeros _ _⟩
 ·unfold freeNew
  exact List.Pairwise.map _ (fun a b hab e=>hab (by omega)) List.nodup_range
end
end Go.Proofs.YthdgehcghklflaaGreatDoor
