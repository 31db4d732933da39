import Derived.Test.YthdgehcghklflaaGreatDoorRPrgM
import Derived.Test.YthdgehcghklflaaGreatDoorRMem
import Derived.Test.YthdgehcghklflaaGreatDoorRWdA
import Derived.Test.YthdgehcghklflaaGreatDoorRInstA
import Derived.Deep.RegionHeld3
import Derived.Deep.Cut
import Derived.Deep.QuietTactic
import Derived.BigQuiet
import Derived.Deep.DeepCutAuto
import Derived.Deep.CutBlock
import Derived.ProofKit
import Derived.OpenShut
import Derived.Deep.Fields
import Derived.Lib.SmallJoins
import Derived.Deep.Slices
import Derived.ChangeSame
import Derived.Test.YthdgehcghklflaaGreatDoorTie
import Derived.Test.YthdgehcghklflaaGreatDoorCards
import Derived.Lay
import Derived.Handed
import Derived.PinnedBridge
import Derived.SevenTiedAt
import Derived.Shelf.Vars
import Derived.Lib.LaidTab
import Derived.Stop.LaidErr
import Derived.Deep.Onto
import Derived.Deep.LoopGhost
set_option linter.unusedVariables false
set_option maxHeartbeats 1000000
set_option maxRecDepth 100000
open Go.Value renaming int->Q,slice->K,pointer->J
open Go.IntKind renaming i64->N,u32->Z
open Option renaming none->V,some->T
open Bool renaming false->U
open Go.Obj renaming cells->G
open Go.Lib renaming hid->F
open Go.RowKit.Below renaming refl->E
open Nat renaming le_refl->D
namespace Go.Proofs.YthdgehcghklflaaGreatDoor
section
open Go.ChangeShapes Go.WideShapes Go.ChangeAt Go.RowKit
theorem uo:(Tryz.prog.info? 125).map (fun i=>(i.zero,i.size,i.bytes))=T (T (.agg #[Q N 0,Q N 0,Q N 0,Q N 0,Q N 0,Q N 0,Q Z 0,Q N 0]),8,64):=by kernel_rfl
theorem vm {l:List aK}{k:Nat}(h:k<l.length):l.take (k+1)=l.take k++[l[k]]:=by simp
theorem Az {w x y w':World}{o:Obj}{lo un:Int}{k:Nat}{l:List aK}{v v':Value}{i:aK}{R O:Nat}{rs:Array Value}(hb:Below w.heap.size w x)(hO:Bk x O 35 #[v,Q N lo,Q N un])(hR:Bk x R 35 rs)(hne:R≠O)(hwO:w.heap.size<=O)
 (hv:x.ownsRow w.heap.size 125 8 v k (bq l)) (hy:Below x.heap.size x y) (hw:w'.ownsRow w.heap.size 125 8 v' (k+1) (bq l++iV i)) (hg:(y.alloc o).grownBy w' v.ownBlock):
 Below w.heap.size w (w'.setCell ⟨O,0,V⟩ v')/\Bk (w'.setCell ⟨O,0,V⟩ v') O 35 #[v',Q N lo,Q N un]/\Bk (w'.setCell ⟨O,0,V⟩ v') R 35 rs/\(w'.setCell ⟨O,0,V⟩ v').ownsRow w.heap.size 125 8 v' (k+1) (bq (l++[i])):=by
 have hA:ag x (y.alloc o) (fun _=>False):=(af hy).alloc o
 have hB:ag (y.alloc o) w' (fun b=>T b=v.ownBlock):=.aP hg (by rintro i e;exact .inl e.symm)
 have hC:ag x w' (fun b=>T b=v.ownBlock):=(hA.wide (by simp)).aO hB (by rintro i e;exact .inl e)
 have un_:∀ {g:Nat} {cs:Array Value},Bk x g 35 cs->Bk w' g 35 cs:=fun hk=>hk.within hC fun e=>by
  obtain⟨cs,hcs⟩:=aT hv e.symm
  exact Bk.av hcs hk (by decide) rfl
 have hO2:=un_ hO
 have hR2:=un_ hR
 have hb2:Below w.heap.size w w':=by
  refine hb.trans ⟨hC.os,hC.tape,hC.output,hC.size,fun i hi=>hC.block i (Nat.lt_of_lt_of_le hi hb.size) fun e=>?_⟩
  have:=(World.ownsRow.lt hv i e.symm).1
  omega
 refine⟨hb2.setCell hwO _,hO2.put 0 v',hR2.off hne _,?_⟩
 rw[i8]
 refine ar hw ((ag.refl w' (fun b=>b=O)).put O 0 v' (.inl rfl)) fun b e e2=>?_
 obtain⟨cs,hcs⟩:=aT hw e
 exact Bk.av hcs hO2 (by decide) e2
theorem D5 (c:fy)(v:Value)(w:World)(hv:Pv w v c)(hl:c.l.length<=1000):
 Calls Tryz.prog 31 #[v] w fun e w'=>∃ sl,e=.returned (.agg #[sl,Q N c.lo,Q N c.un])/\w'.ownsRow w.heap.size 125 8 sl c.l.length (bq c.l)/\Below w.heap.size w w':=by
 obtain⟨a,ca,rfl,hc1,hc2,_,ha⟩:=hv
 obtain⟨l,lo,un⟩:=c
 simp only at hl hc1 ha ⊢
 have q0:=((Bk.made w 25 #[K a l.length ca,Q N lo,Q N un]).alloc (G #[K V 0 0,Q N 0,Q N 0] 35))
 have q1:=Bk.made (w.alloc (G #[K a l.length ca,Q N lo,Q N un] 25)) 35 #[K V 0 0,Q N 0,Q N 0]
 rw[World.size_alloc] at q1
 have b0:Below w.heap.size w ((w.alloc (G #[K a l.length ca,Q N lo,Q N un] 25)).alloc (G #[K V 0 0,Q N 0,Q N 0] 35)):=((E _ _).alloc (D _) _).alloc (by simp) _
 go_enter Tryz.func31,Tryz.ntmps31
 go_upto_region 1 with fail
 generalize (w.alloc (G #[K a l.length ca,Q N lo,Q N un] 25)).alloc (G #[K V 0 0,Q N 0,Q N 0] 35)=x at *
 obtain⟨x0,x1,x2⟩:=q0.iL
 go_upto_region 2 with fail
 have O0:=Bk.made x 35 #[K V 0 0,Q N lo,Q N un]
 have hxw:w.heap.size+1<x.heap.size:=q1.lt
 replace q0:=q0.alloc (G #[K V 0 0,Q N lo,Q N un] 35)
 replace q1:=q1.alloc (G #[K V 0 0,Q N lo,Q N un] 35)
 replace b0:=b0.alloc (o:=G #[K V 0 0,Q N lo,Q N un] 35) b0.size
 generalize x.heap.size=O at *
 generalize x.alloc (G #[K V 0 0,Q N lo,Q N un] 35)=x at *
 have z0:x.cell? ⟨w.heap.size,0,V⟩=T (K a l.length ca):=q0.cell 0
 clear x0 x1 x2 q0
 go_wp2
 go_loopw [14] (fun i wr=>∃ (k:Nat) (v:Value),i=Q N k/\k<=l.length/\Below w.heap.size w wr/\Bk wr O 35 #[v,Q N lo,Q N un]/\Bk wr (w.heap.size+1) 35 #[K V 0 0,Q N 0,Q N 0]/\wr.ownsRow w.heap.size 125 8 v k (bq (l.take k))) (fun i _=>l.length-(intOf i).toNat)
 case atStart=>exact⟨0,K V 0 0,rfl,Nat.zero_le _,b0,O0,q1,World.ownsRow_nil _ _ _ _⟩
 case round=>
  obtain⟨k,v,rfl,hk,hb,hO,hR,hv⟩:=hrel
  clear z0 O0 q1 b0
  by_cases hlt:k<l.length
  ·have hki:(k:Int)<l.length:=by omega
   obtain⟨g,off,rfl,hgl,e0,e1,e2,e3,e4,e5,e6,e7⟩:=(ha.below hb).at_ (List.getElem?_eq_getElem hlt)
   have HT:=F (vm hlt)
   generalize l[k]=i at *
   have HF:=F (fun W=>EP i W)
   obtain⟨op,d,s,t,u,a',k',pl⟩:=i
   simp only at e0 e1 e2 e3 e4 e5 e6 e7
   unfold iv at HF
   simp only at HF
   obtain⟨a2,cap2,rfl,hcap2,hmax2,_⟩:=aY hv
   go_upto_region 5 with fail
   have m2:=Ib.made wr op d s t u a' k' pl
   replace hb:=hb.alloc (o:=G #[Q N op,Q N d,Q N s,Q N t,Q N u,Q N a',Q Z k',Q N pl] 119) hb.size
   replace hO:=hO.alloc (G #[Q N op,Q N d,Q N s,Q N t,Q N u,Q N a',Q Z k',Q N pl] 119)
   replace hR:=hR.alloc (G #[Q N op,Q N d,Q N s,Q N t,Q N u,Q N a',Q Z k',Q N pl] 119)
   replace hv:=World.ownsRow.alloc hv (G #[Q N op,Q N d,Q N s,Q N t,Q N u,Q N a',Q Z k',Q N pl] 119)
   clear e0 e1 e2 e3 e4 e5 e6 e7
   generalize wr.heap.size=q at *
   generalize wr.alloc (G #[Q N op,Q N d,Q N s,Q N t,Q N u,Q N a',Q Z k',Q N pl] 119)=x at *
   obtain⟨e0,e1,e2,e3,e4,e5,e6,e7⟩:=m2.cells
   simp only at e0 e1 e2 e3 e4 e5 e6 e7
   have v0:x.cell? ⟨O,0,V⟩=T (K a2 k cap2):=hO.cell 0
   have HV0:Hid (∀ y,Below x.heap.size x y->y.cell? ⟨O,0,V⟩=T (K a2 k cap2)):=F fun y hy=>(hy.cell (p:=⟨O,0,V⟩) hO.lt).trans v0
   have HV1:Hid (∀ y,Below x.heap.size x y->∀ o,(y.alloc o).cell? ⟨O,0,V⟩=T (K a2 k cap2)):=F fun y hy o=>(Bk.alloc ((hy.block _ hO.lt).trans hO) o).cell 0
   have HOW:Hid (∀ y,Below x.heap.size x y->(y.alloc (G #[Q N op,Q N d,Q N s,Q N t,Q N u,Q N a',Q Z k',Q N pl] 125)).ownsRow w.heap.size 125 8 (K a2 k cap2) k (bq (l.take k))):=F fun y hy=>World.ownsRow.alloc (ar hv (af hy) (by simp)) _
   have HNW:Hid (∀ y:World,∀ (j:Nat) (uu:Value),[Value.int .i64 op,Q N d,Q N s,Q N t,Q N u,Q N a',Q Z k',Q N pl][j]?=T uu->(y.alloc (G #[Q N op,Q N d,Q N s,Q N t,Q N u,Q N a',Q Z k',Q N pl] 125)).cell? ((⟨y.heap.size,0,V⟩:Addr).add j)=T uu):=F fun y=>fg (Bk.made y 125 #[Q N op,Q N d,Q N s,Q N t,Q N u,Q N a',Q Z k',Q N pl])
   have HBS:Hid (∀ y,Below x.heap.size x y->w.heap.size<=(y.alloc (G #[Q N op,Q N d,Q N s,Q N t,Q N u,Q N a',Q Z k',Q N pl] 125)).heap.size):=F fun y hy=>by rw[World.size_alloc];have:=hb.size;have:=hy.size;omega
   have HEND:Hid (∀ y,Below x.heap.size x y->∀ (w':World) (v':Value),w'.ownsRow w.heap.size 125 8 v' (k+1) (bq (l.take k)++iV ⟨op,d,s,t,u,a',k',pl⟩)->(y.alloc (G #[Q N op,Q N d,Q N s,Q N t,Q N u,Q N a',Q Z k',Q N pl] 125)).grownBy w' (Value.slice a2 k cap2).ownBlock->
    Below w.heap.size w (w'.setCell ⟨O,0,V⟩ v')/\Bk (w'.setCell ⟨O,0,V⟩ v') O 35 #[v',Q N lo,Q N un]/\Bk (w'.setCell ⟨O,0,V⟩ v') (w.heap.size+1) 35 #[K V 0 0,Q N 0,Q N 0]/\(w'.setCell ⟨O,0,V⟩ v').ownsRow w.heap.size 125 8 v' (k+1) (bq (l.take (k+1)))):=
    F fun y hy w' v' h1 h2=>by rw[HT.out];exact Az hb hO hR (by omega) (by omega) hv hy h1 h2
   have HKO:Hid (∀ y,Below x.heap.size x y->∀ (w':World),(y.alloc (G #[Q N op,Q N d,Q N s,Q N t,Q N u,Q N a',Q Z k',Q N pl] 125)).grownBy w' (Value.slice a2 k cap2).ownBlock->Bk w' O 35 #[K a2 k cap2,Q N lo,Q N un]):=F fun y hy w' hg=>
    Bk.grown (Bk.alloc ((hy.block _ hO.lt).trans hO) _) hg fun e=>by
     obtain⟨cs,hcs⟩:=aT hv e.symm
     exact Bk.av hcs hO (by decide) rfl
   clear hO hR hv hb m2 ha HT
   go_region_law (first
    | (have hy9:=hy;refine ju rfl (.tmp 19) (.tmp 22) 33 rfl _ 64 Tryz.underlying33 uo rfl (by omega) (by omega) (HOW.out y hy) (by simp[Act.eval]) (iV ⟨op,d,s,t,u,a',k',pl⟩) rfl (mW _) y.heap.size (by simp[Act.eval]) (HNW.out y) (by omega) (HBS.out y hy) ?_;intro v' w' hown hgr hloc;have hko:=HKO.out y hy w' hgr;have ck0:w'.cell? ⟨O,0,V⟩=T (K a2 k cap2):=hko.cell 0;have cf0:=hko.free 0;obtain⟨a3,cap3,rfl,_,_,_⟩:=aY hown)
    | (go_simp;go_at_call 65;refine(HF.out _).mono ?_;rintro e y ⟨rfl,hy0⟩;have hy:Below x.heap.size x y:=dW hy0;have hyv:=HV0.out y hy;have hyo:=HV1.out y hy))
   all_goals (
    have HS:=F (HEND.out y hy w' _ hown hgr)
    clear HOW HNW HBS HEND HKO HV0 HV1 HF hgr hown hloc
    go_wp2
    obtain⟨s1,s2,s3,s4⟩:=HS.out
    go_roundw
    case rel=>exact⟨k+1,_,by go_num,by omega,s1,s2,s3,s4⟩
    case measure=>
     show l.length-((k:Int)+1).toNat<l.length-(k:Int).toNat
     omega)
  ·obtain rfl:k=l.length:=by omega
   have hki:¬ (l.length:Int)<l.length:=by omega
   rw[List.take_length] at hv
   obtain⟨a2,cap2,rfl,hcap2,hmax2,_⟩:=aY hv
   obtain⟨y0,y1,y2⟩:=hO.iL
   obtain⟨z0,z1,z2⟩:=hR.iL
   have zf:=hR.free
   clear ha
   go_wp2
   have h9:=dU hR (K a2 l.length cap2) (Q N lo) (Q N un)
   have b9:=bH hb (by show w.heap.size<=w.heap.size+1;omega) (K a2 l.length cap2) (Q N lo) (Q N un)
   have o9:(du wr (w.heap.size+1) (K a2 l.length cap2) (Q N lo) (Q N un)).ownsRow w.heap.size 125 8 (K a2 l.length cap2) l.length (bq l):=ar hv ((((ag.refl wr (fun b=>b=w.heap.size+1)).put (w.heap.size+1) 0 (K a2 l.length cap2) (.inl rfl)).put (w.heap.size+1) 1 (Q N lo) (.inl rfl)).put (w.heap.size+1) 2 (Q N un) (.inl rfl)) (fun b e e2=>by
    obtain⟨cs,hcs⟩:=aT hv e
    exact Bk.av hcs hR (by decide) e2)
   generalize hv9:(((wr.setCell ⟨w.heap.size+1,0,V⟩ (K a2 l.length cap2)).setCell ⟨w.heap.size+1,1,V⟩ (Q N lo)).setCell ⟨w.heap.size+1,2,V⟩ (Q N un))=v9
   replace hv9:du wr (w.heap.size+1) (K a2 l.length cap2) (Q N lo) (Q N un)=v9:=hv9
   rw[hv9] at h9 b9 o9
   obtain⟨q0,q1,q2⟩:=h9.iL
   refine bodyPost_ret (v:=.agg #[K a2 l.length cap2,Q N lo,Q N un]) (by simp[results,Tryz.results31,go_sem,q0,q1,q2]) rfl ⟨K a2 l.length cap2,rfl,o9,b9⟩
theorem tV {w:World}{base:Nat}{t:TypeId}{sl:Value}{c:fy}(h:w.ownsRow base t 8 sl c.l.length (bq c.l)):Pv w (.agg #[sl,Q N c.lo,Q N c.un]) c:=by
 obtain⟨a,cap,rfl,h1,h2,_⟩:=aY h
 exact⟨a,cap,rfl,h1,h2,uz h,um h⟩
theorem vd (w:World)(t:TypeId)(xs ys:Array Value):Below w.heap.size w ((w.alloc (.cells xs t)).alloc (.cells ys t))/\Bk ((w.alloc (.cells xs t)).alloc (.cells ys t)) w.heap.size t xs/\Bk ((w.alloc (.cells xs t)).alloc (.cells ys t)) (w.heap.size+1) t ys:=by
 have h:=Bk.made (w.alloc (.cells xs t)) t ys
 rw[World.size_alloc] at h
 exact⟨((E _ _).alloc (D _) _).alloc (by simp) _,(Bk.made w t xs).alloc _,h⟩
end
section
def xB (act la:Int):Nat:=if act=1 then (if la=1 then 4 else 3) else if act=2 then 2 else if act=3 then 1 else 0
def uU (r:Rn)(t:Nat):Nat:=xB (r.act t) (aB r.l t)
def BL (r:Rn)(t:Nat):Prop:=r.act t≠0/\(aB r.l t=2->(ax r.l).q.head?=T (t:Int)/\(ax r.l).ow=-1)
section
variable {n:Nat}{st:Int}{s:Nat}{r:Rn}{t:Nat}
theorem iC (h:qO n st s r)(hn:n<=64)(ht:t<n):zN uU BL r (bO (gP n) r t) t:=by
 rcases h.th t ht with h1 | h1 | h1 | h1 | h1
 ·rw[ic h1.1]
  exact⟨fun he=>absurd h1.1 he.1,fun _ _=>rfl,fun _=>⟨rfl,fun _ _ h=>h⟩,fun e=>by omega,fun e=>by omega,fun e=>by omega⟩
 ·obtain⟨ha,hla,a,b,hc⟩:=h1
  rw[iB h.bad ht (.inl ha),De hc h.ws,kw]
  refine⟨fun _=>?_,fun t' hne=>?_,fun he=>absurd ⟨by omega,fun e=>by omega⟩ he,fun _=>.inl ha,fun e=>by omega,fun e=>by omega⟩
  ·unfold uU
   simp only
   rw[cG,hla,ha]
   decide
  ·unfold uU
   simp only
   rw[bJ _ _ _ _ hne]
 ·obtain⟨ha,hla⟩:=h1
  obtain⟨m1,m2,m3⟩:=kB _ h.tr
  obtain⟨j,hj⟩:=List.getElem?_of_mem ((m1 t).2 hla)
  obtain⟨_,b,hc⟩:=h.qs j t hj
  have hjl:j<(ax r.l).q.length:=(List.getElem?_eq_some_iff.1 hj).1
  have hfew:=ke n _ m2 m3
  have ho:qi r.l<=1:=by unfold qi;split <;> omega
  rw[iB h.bad ht (.inl ha),Eh hc h.ws]
  by_cases e:tw (st+s)=tw (st+s+qi r.l+j)
  ·rw[if_pos e,rP (by exact ha)]
   refine⟨fun _=>?_,fun t' hne=>?_,fun he=>?_,fun _=>.inr (bp _ _ _),fun e=>by omega,fun e=>by omega⟩
   ·unfold uU
    simp only
    rw[bp,cG,ha,hla]
    decide
   ·unfold uU
    simp only
    rw[aJ hne,bJ _ _ _ _ hne,bJ _ _ _ _ hne]
   ·exfalso
    have hz:qi r.l=0/\j=0:=by unfold tw at e;omega
    refine he ⟨by omega,fun _=>⟨?_,?_⟩⟩
    ·rw[List.head?_eq_getElem?,<-hz.2];exact hj
    ·have:=hz.1
     unfold qi at this
     by_cases hh:(ax r.l).ow=-1
     ·exact hh
     ·rw[if_neg hh] at this;omega
  ·rw[if_neg e,dM]
   refine⟨fun he=>?_,fun _ _=>rfl,fun _=>⟨rfl,fun _ _ h=>h⟩,fun _=>.inl ha,fun e=>by omega,fun e=>by omega⟩
   exfalso
   obtain⟨h1,h2⟩:=he.2 hla
   rw[List.head?_eq_getElem?] at h1
   have hj0:j=0:=by
    rcases Nat.decEq j 0 with hh | hh
    ·exfalso
     have hlt:0<(ax r.l).q.length:=by omega
     rw[List.getElem?_eq_getElem hlt] at h1
     rw[List.getElem?_eq_getElem hjl] at hj
     have:=(List.getElem_inj m2).1 ((Option.some.inj hj).trans (Option.some.inj h1).symm)
     exact hh this
    ·exact hh
   subst hj0
   refine e ?_
   unfold qi
   rw[if_pos h2]
   congr 1
   omega
 ·obtain⟨ha,hla,b,hc⟩:=h1
  rw[qo h.bad ht ha,nP hc,dM]
  refine⟨fun _=>?_,fun t' hne=>?_,fun he=>absurd ⟨by omega,fun e=>by omega⟩ he,fun e=>by omega,fun _=>.inr (bp _ _ _),fun e=>by omega⟩
  ·unfold uU
   simp only
   rw[bp,cG,ha,hla]
   decide
  ·unfold uU
   simp only
   rw[aJ hne,bJ _ _ _ _ hne]
 ·obtain⟨ha,hla,b,hc⟩:=h1
  rw[iB h.bad ht (.inr ha),Eg hc h.ws,oL (by exact ha)]
  refine⟨fun _=>?_,fun t' hne=>?_,fun he=>absurd ⟨by omega,fun e=>by omega⟩ he,fun e=>by omega,fun e=>by omega,fun _=>.inl (bp _ _ _)⟩
  ·unfold uU
   simp only
   rw[bp,cG,ha,hla]
   decide
  ·unfold uU
   simp only
   rw[aJ hne,bJ _ _ _ _ hne,bJ _ _ _ _ hne]
theorem nQ (h:qO n st s r)(ht:t<n)(ha:r.act t=0):(eE (gP n) r ⟨1,t,U⟩).act t=1/\(eE (gP n) r ⟨1,t,U⟩).l=r.l++[⟨1,t,0⟩]/\qO n st s (eE (gP n) r ⟨1,t,U⟩):=by
 have hk:=uk h ht ha
 rw[ve h.bad ht ha]
 obtain⟨a,b,pc,hc⟩:∃ a b pc,r.m.cs t=tc a b pc:=by
  rcases h.th t ht with h1 | h1 | h1 | h1 | h1
  ·exact h1.2.2
  all_goals (exfalso;have:=h1.1;omega)
 rw[uj hc,dM] at hk ⊢
 exact⟨bp _ _ _,rfl,hk⟩
def Fb (n:Nat)(st:Int)(hn:n<=64):np (gP n) where
 I r:=∃ s,qO n st s r
 W:=uU
 c:=4
 En:=BL
 few r t:=by
  unfold uU xB
  repeat' split
  all_goals omega
 zero r t h:=by
  unfold uU xB
  rw[h];simp
 range r t:=by
  rintro⟨s,h⟩ ht
  rcases h.th t ht with h1 | h1 | h1 | h1 | h1 <;> have:=h1.1 <;> omega
 keep r o h:=sc hn o h
 turned r t:=by
  rintro⟨s,h⟩ ht
  exact iC h hn ht
 called r t:=by
  rintro⟨s,h⟩ ht ha
  obtain⟨e1,e2,_⟩:=nQ h ht ha
  refine⟨.inl e1,fun t' hne=>?_⟩
  unfold uU
  rw[uC (by simp only;omega),e2,bJ _ _ _ _ hne]
 idle r t _ _ he:=he.1
 some_ r:=by
  rintro⟨s,h⟩ hi
  obtain⟨m1,m2,m3⟩:=kB _ h.tr
  have:∃ t,t<n/\r.act t≠0:=by
   by_cases hh:∃ t,t<n/\r.act t≠0
   ·exact hh
   ·exfalso
    refine hi fun t ht=>?_
    by_cases h0:r.act t=0
    ·exact h0
    ·exact absurd ⟨t,ht,h0⟩ hh
  obtain⟨t,ht,h0⟩:=this
  by_cases h2:aB r.l t=2
  ·cases hq:(ax r.l).q with
   | nil=>
    have:=(m1 t).2 h2
    rw[hq] at this;simp at this
   | cons x rest=>
    have hx:=m3 x (by rw[hq];simp)
    by_cases ho:(ax r.l).ow=-1
    ·refine⟨x.toNat,by show x.toNat<n;omega,?_,fun _=>⟨by rw[hq];simp;omega,ho⟩⟩
     have hl2:=(m1 x).1 (by rw[hq];simp)
     rcases h.th x.toNat (by omega) with h1 | h1 | h1 | h1 | h1
     ·have:=h1.2.1
      rw[show ((x.toNat:Nat):Int)=x by omega] at this
      omega
     all_goals (have:=h1.1;omega)
    ·obtain⟨o1,o2,o3,_⟩:=eC _ h.tr
     have hk:=(o1 (ax r.l).ow).2 ⟨rfl,by omega⟩
     -- the owner is a thread
     have hlt:(ax r.l).ow<n:=(kH _ h.tr _ (fun e=>by rw[e] at hk;simp[cH] at hk)).2
     refine⟨(ax r.l).ow.toNat,by show (ax r.l).ow.toNat<n;omega,?_,fun e=>?_⟩
     ·rcases h.th (ax r.l).ow.toNat (by omega) with h1 | h1 | h1 | h1 | h1
      ·have:=h1.2.1
       rw[show (((ax r.l).ow.toNat:Nat):Int)=(ax r.l).ow by omega] at this
       rcases this with this | this <;> rw[this] at hk <;> simp[cH] at hk
      all_goals (have:=h1.1;omega)
     ·rw[show (((ax r.l).ow.toNat:Nat):Int)=(ax r.l).ow by omega] at e
      rw[e] at hk
      simp[cH] at hk
  ·exact⟨t,ht,h0,fun e=>absurd e h2⟩
theorem Ah (h:qO n st s r)(hi:mw n r):(ax r.l).q=[]/\(ax r.l).ow=-1:=by
 obtain⟨m1,m2,m3⟩:=kB _ h.tr
 obtain⟨o1,o2,o3,_⟩:=eC _ h.tr
 constructor
 ·cases hq:(ax r.l).q with
  | nil=>rfl
  | cons x rest=>
   exfalso
   have hx:=m3 x (by rw[hq];simp)
   have:=(h.qs 0 x.toNat (by rw[hq];simp;omega)).1
   have:=hi x.toNat (by omega)
   omega
 ·by_cases hh:(ax r.l).ow=-1
  ·exact hh
  ·exfalso
   have hk:=(o1 (ax r.l).ow).2 ⟨rfl,by omega⟩
   have hlt:=(kH _ h.tr _ (fun e=>by rw[e] at hk;simp[cH] at hk)).2
   have h0:=hi (ax r.l).ow.toNat (by omega)
   rcases h.th (ax r.l).ow.toNat (by omega) with h1 | h1 | h1 | h1 | h1
   ·have:=h1.2.1
    rw[show (((ax r.l).ow.toNat:Nat):Int)=(ax r.l).ow by omega] at this
    rcases this with this | this <;> rw[this] at hk <;> simp[cH] at hk
   all_goals (have:=h1.1;omega)
theorem xP (h:qO n st s r)(hn:n<=64)(ht:t<n)(hi:mw n r):
 let r1:=eE (gP n) r ⟨1,t,U⟩
 let r3:=eE (gP n) (eE (gP n) r1 ⟨3,t,U⟩) ⟨3,t,U⟩
 let r5:=eE (gP n) (eE (gP n) r3 ⟨2,t,U⟩) ⟨3,t,U⟩
 r3.act t=2/\r5.act t=0/\∃ s,qO n st s r5:=by
 obtain⟨a1,a2,h1⟩:=nQ h ht (hi t ht)
 obtain⟨hq,ho⟩:=Ah h hi
 have hl0:aB r.l t=0\/aB r.l t=10:=by
  rcases h.th t ht with h2 | h2 | h2 | h2 | h2
  ·exact h2.2.1
  all_goals (exfalso;have:=h2.1;have:=hi t ht;omega)
 have q1:(ax (eE (gP n) r ⟨1,t,U⟩).l).q=[]:=by rw[a2,iQ h.tr (by simp) (by show aB r.l t≠2;omega),hq]
 have o1:(ax (eE (gP n) r ⟨1,t,U⟩).l).ow=-1:=by rw[a2,iw h.tr (by simp) rfl (by show cH (aB r.l t)=U;rcases hl0 with e | e <;> rw[e] <;> rfl),ho]
 have l1:aB (eE (gP n) r ⟨1,t,U⟩).l t=1:=by rw[a2];exact cG _ _ _
 intro r1 r3 r5
 obtain⟨a,b,hc⟩:∃ a b,r1.m.cs t=tc a b 0:=by
  rcases h1.th t ht with h2 | h2 | h2 | h2 | h2
  ·have:=h2.1;omega
  ·exact h2.2.2
  all_goals (have:=h2.2;omega)
 -- the first step
 have h2:=BR h1 ht a1 l1 hc U
 have e2:eE (gP n) r1 ⟨3,t,U⟩=bm { r1 with m:=(br (gP n) r1.m t U).1 } t (br (gP n) r1.m t U).2:=by
  rw[mT (by rw[show r1.act t=1 from a1];decide),iB h1.bad ht (.inl a1)]
 rw[<-e2] at h2
 have e3:=e2
 rw[De hc h1.ws,kw] at e3
 have b1:(eE (gP n) r1 ⟨3,t,U⟩).act t=1:=by rw[e3];exact a1
 have b2:(eE (gP n) r1 ⟨3,t,U⟩).l=r1.l++[⟨ik 1,(t:Int),0⟩]:=by rw[e3]
 have b3:BL (eE (gP n) r1 ⟨3,t,U⟩) t:=by
  refine⟨by omega,fun _=>?_⟩
  rw[b2,BW h1.tr rfl (by show aB r1.l t≠2;rw[show aB r1.l t=1 from l1];decide),iw h1.tr (by simp) rfl (by show cH (aB r1.l t)=U;rw[show aB r1.l t=1 from l1];rfl)]
  rw[show (ax r1.l).q=[] from q1]
  exact⟨rfl,o1⟩
 have b4:aB (eE (gP n) r1 ⟨3,t,U⟩).l t=2:=by rw[b2];exact cG _ _ _
 -- the second one
 have T3:=iC h2 hn ht
 have e4:r3=bO (gP n) (eE (gP n) r1 ⟨3,t,U⟩) t:=mT (by omega)
 rw[<-e4] at T3
 have c1:r3.act t=2:=by
  have w:=T3.less b3
  have w2:uU (eE (gP n) r1 ⟨3,t,U⟩) t=3:=by unfold uU;rw[b1,b4];rfl
  rcases T3.a1 b1 with e | e
  ·exfalso
   have:3<=uU r3 t:=by
    unfold uU xB
    rw[if_pos e];split <;> omega
   omega
  ·exact e
 obtain⟨s3,h3⟩:∃ s,qO n st s r3:=sc hn _ ⟨s,h2⟩
 -- unlock
 have T4:=iC h3 hn ht
 have e5:eE (gP n) r3 ⟨2,t,U⟩=bO (gP n) r3 t:=yr c1
 rw[<-e5] at T4
 obtain⟨s4,h4⟩:∃ s,qO n st s (eE (gP n) r3 ⟨2,t,U⟩):=sc hn _ ⟨s3,h3⟩
 have d1:=T4.a2 c1
 have T5:=iC h4 hn ht
 have e6:r5=bO (gP n) (eE (gP n) r3 ⟨2,t,U⟩) t:=mT (by omega)
 rw[<-e6] at T5
 refine⟨c1,?_,sc hn _ ⟨s4,h4⟩⟩
 rcases d1 with e | e
 ·rw[e6,ic e];exact e
 ·have hen:BL (eE (gP n) r3 ⟨2,t,U⟩) t:=by
   refine⟨by omega,fun e2=>?_⟩
   exfalso
   rcases h4.th t ht with h5 | h5 | h5 | h5 | h5
   all_goals (have h6:=h5.1;first | omega | (have:=h5.2.1;omega))
  have w:=T5.less hen
  have w2:uU (eE (gP n) r3 ⟨2,t,U⟩) t=1:=by
   unfold uU xB
   rw[e]
   simp
  rcases T5.a3 e with e7 | e7
  ·exact e7
  ·exfalso
   have:uU r5 t=1:=by
    unfold uU xB
    rw[e7]
    simp
   omega
end
end
section
open Go.ChangeShapes Go.WideShapes Go.ChangeAt Go.RowKit
def ET (xs:List Int)(pc:Int):List Value:=xs.map (Value.int .u32)++[Q N pc]
def cv (xs:List Int)(pc:Int):Value:=.agg (ET xs pc).toArray
theorem Bw:(Tryz.prog.info? 153).map (fun i=>(i.zero,i.size,i.bytes))=T (T (.agg #[Q N 0,Q N 0]),2,16):=by kernel_rfl
theorem yX (c:Nat×Nat):∀ u∈uc c,u.oneCell'=true:=by
 intro u hu
 simp[uc] at hu
 rcases hu with rfl|rfl <;> rfl
def Cs (base:Nat)(w:World)(v:Value)(l:List (Nat×Nat)):Prop:=w.ownsRow base 153 2 v l.length (js l)
section
variable {base:Nat}{w w':World}{v:Value}{l:List (Nat×Nat)}
theorem Cs.nil (base:Nat)(w:World):Cs base w (K V 0 0) []:=World.ownsRow_nil _ _ _ _
theorem Cs.within {S:Nat->Prop}(h:Cs base w v l)(hk:ag w w' S)(hn:∀ g,v.ownBlock=T g->¬ S g):Cs base w' v l:=ar h hk hn
theorem Cs.grown (h:Cs base w v l)(hg:w.grownBy w' V):Cs base w' v l:=ar h (.aP (S:=fun _=>False) hg (by simp)) (by simp)
theorem Cs.lt (h:Cs base w v l){g:Nat}(e:v.ownBlock=T g):base<=g/\g<w.heap.size:=World.ownsRow.lt h g e
theorem Cs.only {t:TypeId}{g:Nat}{cs:Array Value}(h:Cs base w v l)(hg:xv w w' g)(hb:Bk w g t cs)(ht:t≠153):Cs base w' v l:=
 ar h (.aP (S:=fun b=>b=g) hg (by simp)) (fun b e e2=>by
  obtain⟨cs',hcs⟩:=aT h e
  subst e2
  exact hb.av hcs ht rfl)
theorem Cs.is (h:Cs base w v l):∃ a cap,v=K a l.length cap/\l.length<=cap/\cap<=maxLen/\(0<l.length->∃ g,a=T ⟨g,0,V⟩/\v.ownBlock=T g/\base<=g/\g<w.heap.size/\(∀ i,w.frozen? ⟨g,i,V⟩=U)/\∀ i c,l[i]?=T c->w.cell? ⟨g,i*2,V⟩=T (Q N c.1)/\w.cell? ⟨g,i*2+1,V⟩=T (Q N c.2)):=by
 obtain⟨a,cap,e,h1,h2,h3⟩:=aY h
 refine⟨a,cap,e,h1,h2,fun h0=>?_⟩
 obtain⟨g,e1,e2,e3,e4,e5,e6⟩:=h3 h0
 refine⟨g,e1,e2,e3,e4,e5,fun i c hi=>?_⟩
 have hlt:i<l.length:=(List.getElem?_eq_some_iff.1 hi).1
 obtain⟨q1,q2⟩:=rN l i c hi
 rw[e6 _ (by omega),e6 _ (by omega),q1,q2]
 exact⟨rfl,rfl⟩
end
def oP (w:World)(zs:List Int)(e:Ending)(w':World):Prop:=
 w.grownBy w' V/\((fV zs/\∃ v,e=.returned (.tuple #[v,.bool (decide ((jh zs:Int)<=8192))])/\Cs w.heap.size w' v (nE zs))\/(¬ fV zs/\e=.returned (.tuple #[K V 0 0,.bool U])))
theorem ux {zs:List Int}:∀ k,(∀ i,i<k->0<=aG zs i/\aG zs i<=4096)->pre zs k<=4096*k
 | 0,_=>D _
 | k+1,h=>by
  have h1:=ux k fun i hi=>h i (by omega)
  have h2:=h k (by omega)
  rw[iu];unfold sz;omega
theorem Bv {w wr:World}{o:Value}{zs:List Int}{k i:Nat}(ho:Cs w.heap.size wr o (dG zs k i))(hg:w.grownBy wr V)(w':World)(v':Value)(h1:w'.ownsRow w.heap.size 153 2 v' ((dG zs k i).length+1) (js (dG zs k i)++uc (k,i)))
 (h2:(wr.alloc (G #[Q N k,Q N i] 153)).grownBy w' o.ownBlock):Cs w.heap.size w' v' (dG zs k (i+1))/\w.grownBy w' V:=by
 constructor
 ·unfold Cs
  rw[pj,tH,List.length_append]
  exact h1
 ·exact cr (cr hg (dK _ _ V) (.inl rfl)) h2 (.inr fun x e=>(ho.lt e).1)
theorem zx {w:World}{a:Option Addr}{zs:List Int}(h:eO .i64 w a zs)(hm:zs.length<=maxLen)(cap:Nat):
 Calls Tryz.prog 32 #[K a zs.length cap] w (oP w zs):=by
 unfold maxLen at hm
 by_cases h8:8<zs.length
 ·go_enter Tryz.func32,Tryz.ntmps32
  go_wp2
  go_ret2
  exact⟨fN _ _,.inr ⟨fun hz=>by have:=hz.1;omega,rfl⟩⟩
 go_enter Tryz.func32,Tryz.ntmps32
 go_wp2
 go_loopw [4,13] (fun o t wr=>∃ k:Nat,k<=zs.length/\t=Q N k/\Hid (∀ i,i<k->0<=aG zs i/\aG zs i<=4096)/\Cs w.heap.size wr o (iX zs k)/\w.grownBy wr V) (fun _ t _=>zs.length-(intOf t).toNat)
 case atStart=>exact⟨0,Nat.zero_le _,rfl,F (fun i hi=>by omega),Cs.nil _ _,fN _ _⟩
 case round=>
  obtain⟨k,hk,rfl,HA,ho,hg⟩:=hrel
  by_cases hlt:k<zs.length
  ·obtain⟨b,off,rfl,hc⟩:=(h.grown hg).here hlt
   rcases(show aG zs k<0\/(0<=aG zs k/\4096<aG zs k)\/(0<=aG zs k/\aG zs k<=4096) by omega) with h1 | h1 | h1
   ·go_wp2
    go_ret2
    exact⟨hg,.inr ⟨fun hz=>by have:=hz.2 k hlt;omega,rfl⟩⟩
   ·go_wp2
    go_ret2
    exact⟨hg,.inr ⟨fun hz=>by have:=hz.2 k hlt;omega,rfl⟩⟩
   ·obtain⟨n,hn⟩:∃ n,sz zs k=n:=⟨_,rfl⟩
    have hzn:aG zs k=(n:Int):=by unfold sz at hn;omega
    have hn4:n<=4096:=by omega
    rw[hzn] at hc
    have HZ:=F hzn
    have HN:=F hn
    have hpk:=ux k HA.out
    have HP:Hid (pre zs k<=40000):=F (by omega)
    rw[<-wM] at ho
    clear h1 hzn hn hpk
    go_wp2
    go_loopw [4,7] (fun o t wr=>∃ i:Nat,i<=n/\t=Q N i/\Cs w.heap.size wr o (dG zs k i)/\w.grownBy wr V) (fun _ t _=>n-(intOf t).toNat)
    case atStart=>exact⟨0,Nat.zero_le _,rfl,ho,hg⟩
    case round=>
     clear ho hg hc
     obtain⟨i,hi,rfl,ho,hg⟩:=hrel
     by_cases hin:i<n
     ·have HO:=F (World.ownsRow.alloc ho (G #[Q N k,Q N i] 153))
      have HNW:Hid (∀ (j:Nat) (u:Value),(uc (k,i))[j]?=T u->(wr.alloc (G #[Q N k,Q N i] 153)).cell? ((⟨wr.heap.size,0,V⟩:Addr).add j)=T u):=F (fg (Bk.made wr 153 #[Q N k,Q N i]))
      have HBS:Hid (w.heap.size<=(wr.alloc (G #[Q N k,Q N i] 153)).heap.size):=F (by rw[World.size_alloc];have:=hg.size;omega)
      have HL:Hid ((dG zs k i).length<100000):=F (by rw[qJ];have:=HP.out;omega)
      have HEND:=F (Bv (k:=k) (i:=i) ho hg)
      clear ho hg
      go_wp2_with (at_builtin;refine sb rfl _ _ 77 rfl _ 16 Tryz.underlying77 Bw rfl (by omega) (by omega) HO.out rfl (uc (k,i)) rfl (yX _) wr.heap.size rfl HNW.out HL.out HBS.out ?_;intro v' w' hown hgr hloc)
      obtain⟨s1,s2⟩:=HEND.out _ _ hown hgr
      go_roundw
      case rel=>exact⟨i+1,by omega,by go_num,s1,s2⟩
      case measure=>simp[intOf];omega
     ·obtain rfl:i=n:=by omega
      rw[<-HN.out,qK] at ho
      go_wp2
      go_roundw
      case rel=>
       refine⟨k+1,by omega,by go_num,F fun j hj=>?_,ho,hg⟩
       by_cases e:j=k
       ·subst e;have:=HZ.out;omega
       ·exact HA.out j (by omega)
      case measure=>simp[intOf];omega
  ·obtain rfl:k=zs.length:=by omega
   have hz:fV zs:=⟨by omega,HA.out⟩
   obtain⟨oa,oc,rfl,_,hoc,_⟩:=ho.is
   rw[show iX zs zs.length=nE zs from rfl,iz] at *
   have ht:=tP hz
   go_wp2
   go_ret2
   exact⟨hg,.inl ⟨hz,_,rfl,ho⟩⟩
section
variable {base:Nat}{w:World}{v:Value}{zs:List Int}
theorem DY (h:Cs base w v (nE zs))(hz:fV zs)(A P:Nat)(x:Int)(h0:0<=x)(h1:x<4294967296)(hA:A<zs.length)(hP:P<sz zs A)(hx:x % 4096=P):
 Calls Tryz.prog 53 #[v,Q N A,Q Z x] w fun e w'=>e=.returned (Q N ((pre zs A+P:Nat):Int))/\w.grownBy w' V:=by
 obtain⟨a,cap,rfl,hlc,hcm,hat⟩:=h.is
 have hlt:=zy hA hP
 rw[iz] at *
 obtain⟨g,rfl,_,_,hgl,hfr,hcl⟩:=hat (by omega)
 have ht:=tP hz
 go_enter Tryz.func53,Tryz.ntmps53
 go_wp2
 go_loopw [11] (fun t wr=>∃ k:Nat,k<=pre zs A+P/\t=Q N k/\w.grownBy wr V) (fun t _=>jh zs-(intOf t).toNat)
 case atStart=>exact⟨0,Nat.zero_le _,rfl,fN _ _⟩
 case round=>
  obtain⟨k,hk,rfl,hg⟩:=hrel
  obtain⟨ca,cp,q1,q2,q3⟩:=nN (zs:=zs) (i:=k) (by omega)
  obtain⟨c1,c2⟩:=hcl k (ca,cp) (by rw[q3];exact lP q1 q2)
  have d1:=((aQ hg).cell (p:=⟨g,k*2,V⟩) hgl).trans c1
  have d2:=((aQ hg).cell (p:=⟨g,k*2+1,V⟩) hgl).trans c2
  simp only at d1 d2
  have hkt:k<jh zs:=by omega
  have HQ:=F q3
  clear q3 hcl hat
  have hgn:w.grownBy (wr.alloc (G #[Q N ca,Q N cp] 153)) V:=cr hg (dK _ _ V) (.inl rfl)
  by_cases e:ca=A
  ·subst e
   by_cases e2:cp=P
   ·subst e2
    have t2:((cp:Int)==x % 4096)=true:=by simp;omega
    go_wp2
    go_ret
    exact⟨ci (by have:=HQ.out;omega),hgn⟩
   ·have t2:((cp:Int)==x % 4096)=U:=by simp;omega
    go_wp2
    go_roundw
    case rel=>exact⟨k+1,by have:=HQ.out;omega,by go_num,hgn⟩
    case measure=>simp[intOf];omega
  ·have t1:((ca:Int)==(A:Int))=U:=by simp;omega
   have hne:k≠pre zs A+P:=fun e3=>by
    have u1:=lP q1 q2
    have u2:=lP hA hP
    rw[<-HQ.out,e3,u2] at u1
    simp at u1
    exact e u1.1.symm
   go_wp2
   go_roundw
   case rel=>exact⟨k+1,by omega,by go_num,hgn⟩
   case measure=>simp[intOf];omega
theorem AN (h:Cs base w v (nE zs))(hz:fV zs)(area x:Int)(h0:0<=x)(h1:x<4294967296)(hno:area<0\/(zs.length:Int)<=area\/(sz zs area.toNat:Int)<=x % 4096):
 Calls Tryz.prog 53 #[v,Q N area,Q Z x] w fun e w'=>e=.returned (Q N (-1))/\w.grownBy w' V:=by
 obtain⟨a,cap,rfl,hlc,hcm,hat⟩:=h.is
 rw[iz] at *
 have ht:=tP hz
 have HNO:=F hno
 clear hno
 go_enter Tryz.func53,Tryz.ntmps53
 go_wp2
 go_loopw [11] (fun t wr=>∃ k:Nat,k<=jh zs/\t=Q N k/\w.grownBy wr V) (fun t _=>jh zs-(intOf t).toNat)
 case atStart=>exact⟨0,Nat.zero_le _,rfl,fN _ _⟩
 case round=>
  obtain⟨k,hk,rfl,hg⟩:=hrel
  by_cases hkt:k<jh zs
  ·obtain⟨g,rfl,_,_,hgl,hfr,hcl⟩:=hat (by omega)
   obtain⟨ca,cp,q1,q2,q3⟩:=nN hkt
   obtain⟨c1,c2⟩:=hcl k (ca,cp) (by rw[q3];exact lP q1 q2)
   have d1:=((aQ hg).cell (p:=⟨g,k*2,V⟩) hgl).trans c1
   have d2:=((aQ hg).cell (p:=⟨g,k*2+1,V⟩) hgl).trans c2
   simp only at d1 d2
   clear q3 hcl hat
   have hgn:w.grownBy (wr.alloc (G #[Q N ca,Q N cp] 153)) V:=cr hg (dK _ _ V) (.inl rfl)
   by_cases e:(ca:Int)=area
   ·subst e
    have t2:((cp:Int)==x % 4096)=U:=by
     have:=HNO.out
     rw[Int.toNat_natCast] at this
     simp
     omega
    go_wp2
    go_roundw
    case rel=>exact⟨k+1,by omega,by go_num,hgn⟩
    case measure=>simp[intOf];omega
   ·have t1:((ca:Int)==area)=U:=by simpa using e
    go_wp2
    go_roundw
    case rel=>exact⟨k+1,by omega,by go_num,hgn⟩
    case measure=>simp[intOf];omega
  ·obtain rfl:k=jh zs:=by omega
   go_wp2
   go_ret
   exact⟨rfl,hg⟩
end
end
section
open Go.Joins Go.ChangeShapes Go.WideShapes Go.ChangeAt Go.RowKit Go.Deep
theorem Ei: "*errors.errorString" = "*"++ "errors.errorString":=by decide
theorem zI (u:TypeId)(h:Tryz.prog.typeName? 3 u=T "*errors.errorString"):u=311:=
 typeName_ptr_named (nm:= "errors.errorString") (by rw[<-Ei];kernel_rfl) (by kernel_rfl) (by decide) u (by rw[<-Ei];exact h)
theorem D2 {W:World}(hL:laidMet Tryz.prog [("math/bits.deBruijn32tab",Rows.laid_math_bits_deBruijn32tab),("math/bits.deBruijn64tab",Rows.laid_math_bits_deBruijn64tab),("internal/strconv.uint64pow10",Rows.laid_internal_strconv_uint64pow10),("unicode/utf8.acceptRanges",Rows.laid_unicode_utf8_acceptRanges),("strconv.ErrRange",Rows.laid_strconv_ErrRange),("strconv.ErrSyntax",Rows.laid_strconv_ErrSyntax),("unicode/utf8.first",Rows.laid_unicode_utf8_first)] W)(hsh:W.ShapedOpen Tryz.prog):Lb W:=by
 have h2:=hL.tail.tail
 have h4:=h2.tail.tail
 have tab:Lib.TabIs Tryz.prog W "internal/strconv.uint64pow10" .u64 Lib.pow10Tab:=
  Lib.tabIs_of_head (g:=5) (by kernel_rfl) (by kernel_rfl) Tryz.underlying315 Tryz.underlying291 (by kernel_rfl) (by kernel_rfl) h2
 obtain⟨a1,_,hv1,_⟩:=laid_sentinel h4 (g:=2) (by kernel_rfl) (by kernel_rfl) Tryz.underlying274 (zI) Tryz.underlying311 Tryz.underlying313 rfl rfl Tryz.underlying9 (by kernel_rfl) (by kernel_rfl)
 obtain⟨a2,_,hv2,_⟩:=laid_sentinel h4.tail (g:=1) (by kernel_rfl) (by kernel_rfl) Tryz.underlying274 (zI) Tryz.underlying311 Tryz.underlying313 rfl rfl Tryz.underlying9 (by kernel_rfl) (by kernel_rfl)
 obtain⟨m,hm⟩:=Tryz.laysM147.s1_3 W hsh
 have c0:W.cell? ⟨0,0,V⟩=T (.int .i64 m):=hm
 have c1:=tab.cell (g:=5) (by kernel_rfl) 0 (by decide)
 have c2:=World.var?_cell (g:=1) (by kernel_rfl) hv2 0
 have c3:=World.var?_cell (g:=2) (by kernel_rfl) hv1 0
 exact⟨tab,⟨_,_,hv2⟩,⟨_,_,hv1⟩,⟨m,c0⟩,World.block_lt_of_cell? W _ c0,World.block_lt_of_cell? W _ c1,World.block_lt_of_cell? W _ c2,World.block_lt_of_cell? W _ c3⟩
theorem oZ {H:Type}{enc:TypeId×Value->H}{a:Assume}{C:Checked}{os:Os}{f:FuncId}{fn:Func}{s:ChangeSpec}{conds:List PathCond}{apart fresh handsOn again:Bool}{X:World->Array Value->Prop}
 (hX:∀ (w w':World) (args:Array Value),w.heap=w'.heap->X w args->X w' args)
 (own:ownKnob C.prog.godebug=V) (started:os.Started) (noInit:C.prog.inits.idxOf? f=V) (hfn:C.prog.funcs[f]?=T fn)
 (witness:∃ (w:World) (tape:Tape) (i:Input),w.os=os/\(w.forCall tape i).Shaped C.prog/\i.vars=[]/\Input.okWide C.prog (w.forCall tape i) .any w.heap.size f i/\
  ((s.pre enc C.prog fn conds apart (w.forCall tape i).memory i.args/\X (w.forCall tape i).memory i.args)/\sizedMet enc C.prog fn (OpenSpec.ofChange s) apart (w.forCall tape i).memory i.args)/\a.holds C.prog (lone (Frame.enter C.prog f i.args .normal) [] (w.forCall tape i)))
 (walk:∀ (W:World) (base:Nat) (args:Array Value) (ds gs:List (DataW H)) (before:List MemPlace),
  (∀ (j:Nat) t v,fn.params[j]?=T t->args[j]?=T v->Value.okWide C.prog W .any base t v)->
  DataW.Whole enc C.prog fn.params.toList s.vars apart W args.toList ds gs before->X W args->W.ShapedOpen C.prog->
  Calls C.prog f args W fun e W'=>∃ v,e=.returned v/\s.post enc C.prog fn apart fresh handsOn again W args v W'):
 ReturnsInHanded a C os f .any (fun w args=>(s.pre enc C.prog fn conds apart w args/\X w args)/\sizedMet enc C.prog fn (OpenSpec.ofChange s) apart w args) (s.post enc C.prog fn apart fresh handsOn again):=by
 refine returnsInHanded_of_calls own started noInit witness fun w tape i _ hsh _ hok hpre _=>?_
 obtain⟨_,_,_,fn',hfn',_,_,_,_,hval⟩:=hok
 obtain rfl:fn'=fn:=Option.some.inj (hfn'.symm.trans hfn)
 obtain⟨⟨⟨ds,gs,before,hw,_⟩,hx⟩,_⟩:=hpre
 refine(walk (w.forCall tape i) w.heap.size i.args ds gs before hval (DataW.Whole.of_heap (by rfl) hw) (hX _ _ _ (by rfl) hx) hsh).mono fun e W' ⟨v,he,hp⟩=>?_
 subst he
 exact ChangeSpec.post_blind hp
end
section
open Go.ChangeShapes Go.WideShapes Go.ChangeAt Go.RowKit
def Sv (w:World)(v:Value)(c:fy)(zs init r7:List Int)(each:Int):Prop:=
 ∃ aL cL aS cS aI cI aR cR,v=.agg #[K aL c.l.length cL,Q N c.lo,Q N c.un,K aS zs.length cS,K aI init.length cI,Q N each,K aR r7.length cR]/\
  Pv w (.agg #[K aL c.l.length cL,Q N c.lo,Q N c.un]) c/\eO .i64 w aS zs/\eO .u32 w aI init/\eO .u32 w aR r7/\zs.length<=maxLen/\init.length<=maxLen/\r7.length<=maxLen
theorem eO.below {k:IntKind}{w w':World}{a:Option Addr}{xs:List Int}(h:eO k w a xs)(hb:Below w.heap.size w w'):eO k w' a xs:=by
 intro h0
 obtain⟨b,off,e,hlt,hc⟩:=h h0
 exact⟨b,off,e,Nat.lt_of_lt_of_le hlt hb.size,fun i hi=>(hb.cell (p:=⟨b,off+i,V⟩) hlt).trans (hc i hi)⟩
theorem Sv.below {w w':World}{v:Value}{c:fy}{zs init r7:List Int}{each:Int}(h:Sv w v c zs init r7 each)(hb:Below w.heap.size w w'):Sv w' v c zs init r7 each:=by
 obtain⟨aL,cL,aS,cS,aI,cI,aR,cR,e,h1,h2,h3,h4,h5⟩:=h
 exact⟨aL,cL,aS,cS,aI,cI,aR,cR,e,h1.below hb,h2.below hb,h3.below hb,h4.below hb,h5⟩
theorem dj {W W':World}{base n sz:Nat}{t:TypeId}{v:Value}{xs:List Value}(h:W.ownsRow base t sz v n xs)(hb:Below W.heap.size W W'):W'.ownsRow base t sz v n xs:=ar h (af hb) (by simp)
theorem gH {W W':World}{base n sz b:Nat}{t u:TypeId}{v:Value}{xs:List Value}{cs:Array Value}(h:W.ownsRow base t sz v n xs)(hw:ag W W' (fun i=>i=b))(hb:Bk W b u cs)(hne:t≠u):W'.ownsRow base t sz v n xs:=
 ar h hw fun g e e2=>by
  obtain⟨cs',hcs⟩:=aT h e
  exact Bk.av hcs hb hne e2
def mq (y:World)(g:Nat)(a b c d e f h:Value):World:=((((((y.setCell ⟨g,0,V⟩ a).setCell ⟨g,1,V⟩ b).setCell ⟨g,2,V⟩ c).setCell ⟨g,3,V⟩ d).setCell ⟨g,4,V⟩ e).setCell ⟨g,5,V⟩ f).setCell ⟨g,6,V⟩ h
theorem jP {y:World}{g:Nat}{t:TypeId}{x0 x1 x2 x3 x4 x5 x6:Value}(hb:Bk y g t #[x0,x1,x2,x3,x4,x5,x6])(a b c d e f h:Value):Bk (mq y g a b c d e f h) g t #[a,b,c,d,e,f,h]:=by
 have h8:=((((((hb.put 0 a).put 1 b).put 2 c).put 3 d).put 4 e).put 5 f).put 6 h
 unfold mq
 simpa only[List.setIfInBounds_toArray,List.set_cons_zero,List.set_cons_succ] using h8
theorem gb {y:World}{g:Nat}(a b c d e f h:Value):ag y (mq y g a b c d e f h) (fun i=>i=g):=by
 unfold mq
 exact(((((((ag.refl y (fun i=>i=g)).put g 0 a (.inl rfl)).put g 1 b (.inl rfl)).put g 2 c (.inl rfl)).put g 3 d (.inl rfl)).put g 4 e (.inl rfl)).put g 5 f (.inl rfl)).put g 6 h (.inl rfl)
theorem fM {B:Nat}{w y:World}{g:Nat}(hb:Below B w y)(hg:B<=g)(a b c d e f h:Value):Below B w (mq y g a b c d e f h):=
 ((((((hb.setCell hg _).setCell hg _).setCell hg _).setCell hg _).setCell hg _).setCell hg _).setCell hg _
def Rv (base:Nat)(w:World)(v:Value)(c:fy)(zs init r7:List Int)(each:Int):Prop:=
 ∃ sl aS cS aI cI aR cR,v=.agg #[sl,Q N c.lo,Q N c.un,K aS zs.length cS,K aI init.length cI,Q N each,K aR r7.length cR]/\
  w.ownsRow base 125 8 sl c.l.length (bq c.l)/\eO .i64 w aS zs/\eO .u32 w aI init/\eO .u32 w aR r7/\zs.length<=maxLen/\init.length<=maxLen/\r7.length<=maxLen
theorem Rv.below {base:Nat}{w w':World}{v:Value}{c:fy}{zs init r7:List Int}{each:Int}(h:Rv base w v c zs init r7 each)(hb:Below w.heap.size w w'):Rv base w' v c zs init r7 each:=by
 obtain⟨sl,aS,cS,aI,cI,aR,cR,e,h1,h2,h3,h4,h5⟩:=h
 exact⟨sl,aS,cS,aI,cI,aR,cR,e,dj h1 hb,h2.below hb,h3.below hb,h4.below hb,h5⟩
theorem zD {w:World}{v:Value}{c:fy}{zs init r7:List Int}{each:Int}(hv:Sv w v c zs init r7 each)(hc:c.l.length<=1000):
 Calls Tryz.prog 11 #[v] w fun e w'=>∃ v',e=.returned v'/\Rv w.heap.size w' v' c zs init r7 each/\Below w.heap.size w w':=by
 obtain⟨aL,cL,aS,cS,aI,cI,aR,cR,rfl,hpv,hgS,hgI,hgR,hm1,hm2,hm3⟩:=hv
 have q0:=(Bk.made w 29 #[K aL c.l.length cL,Q N c.lo,Q N c.un,K aS zs.length cS,K aI init.length cI,Q N each,K aR r7.length cR]).alloc (G #[K V 0 0,Q N 0,Q N 0,K V 0 0,K V 0 0,Q N 0,K V 0 0] 37)
 have q1:=Bk.made (w.alloc (G #[K aL c.l.length cL,Q N c.lo,Q N c.un,K aS zs.length cS,K aI init.length cI,Q N each,K aR r7.length cR] 29)) 37 #[K V 0 0,Q N 0,Q N 0,K V 0 0,K V 0 0,Q N 0,K V 0 0]
 rw[World.size_alloc] at q1
 have b0:Below w.heap.size w ((w.alloc (G #[K aL c.l.length cL,Q N c.lo,Q N c.un,K aS zs.length cS,K aI init.length cI,Q N each,K aR r7.length cR] 29)).alloc (G #[K V 0 0,Q N 0,Q N 0,K V 0 0,K V 0 0,Q N 0,K V 0 0] 37)):=((E _ _).alloc (D _) _).alloc (by simp) _
 go_enter Tryz.func11,Tryz.ntmps11
 go_upto_region 1 with fail
 generalize (w.alloc (G #[K aL c.l.length cL,Q N c.lo,Q N c.un,K aS zs.length cS,K aI init.length cI,Q N each,K aR r7.length cR] 29)).alloc (G #[K V 0 0,Q N 0,Q N 0,K V 0 0,K V 0 0,Q N 0,K V 0 0] 37)=y at *
 have HRF:=F (fun W (hW:Below w.heap.size w W)=>D5 c _ W (hpv.below hW) hc)
 have kx:∀ (W:World) (u:Value) (i j:Nat),(W.setCell ⟨w.heap.size+1,i,V⟩ u).cell? ⟨w.heap.size,j,V⟩=W.cell? ⟨w.heap.size,j,V⟩:=fun W u i j=>fw (by omega)
 have HQ:Hid (∀ W,Below y.heap.size y W->Bk W w.heap.size 29 _/\Bk W (w.heap.size+1) 37 _/\Below w.heap.size w W):=F fun W hW=>⟨(hW.block _ q0.lt).trans q0,(hW.block _ q1.lt).trans q1,b0.trans (hW.mono b0.size)⟩
 obtain⟨f0,f1,f2,f3,f4,f5,f6⟩:=q0.pO
 refine eF [12] (fun j W=>match j with | 0=>Below y.heap.size y W | _=>∃ sl,W.ownsRow w.heap.size 125 8 sl c.l.length (bq c.l)/\Bk W (w.heap.size+1) 37 #[sl,Q N c.lo,Q N c.un,K aS zs.length cS,K aI init.length cI,Q N each,K aR r7.length cR]/\Below w.heap.size w W) (fun _ W W2=>ag W W2 (fun i=>i=w.heap.size+1)/\Bk W (w.heap.size+1) 37 #[K V 0 0,Q N 0,Q N 0,K V 0 0,K V 0 0,Q N 0,K V 0 0]) (fun vs=>{ tmps:=#[.agg #[K aL c.l.length cL,Q N c.lo,Q N c.un,K aS zs.length cS,K aI init.length cI,Q N each,K aR r7.length cR],J (T ⟨w.heap.size,0,V⟩),J (T ⟨w.heap.size+1,0,V⟩),vs 0,vs 1,vs 2,vs 3,vs 4,vs 5,vs 6,vs 7,vs 8,vs 9,vs 10,vs 11],defers:=[] }) (nC [(2,(fun v W=>∃ sl,v=.agg #[sl,Q N c.lo,Q N c.un]/\W.ownsRow w.heap.size 125 8 sl c.l.length (bq c.l))),(11,(fun v W=>∃ sl,v=.agg #[sl,Q N c.lo,Q N c.un,K aS zs.length cS,K aI init.length cI,Q N each,K aR r7.length cR]/\W.ownsRow w.heap.size 125 8 sl c.l.length (bq c.l)))] [J (T ⟨w.heap.size,0,V⟩),.agg #[K aL c.l.length cL,Q N c.lo,Q N c.un],undef,J (T ⟨w.heap.size,3,V⟩),K aS zs.length cS,J (T ⟨w.heap.size,4,V⟩),K aI init.length cI,J (T ⟨w.heap.size,5,V⟩),Q N each,J (T ⟨w.heap.size,6,V⟩),K aR r7.length cR,undef,undef]) ?ghm ?ghr ?ghc ?ghnd ?ghlit ?gh0 ?ghW ?ghF ?ghS ?gops ?gdone
 case ghm=>kernel_rfl
 case ghr=>kernel_rfl
 case ghc=>kernel_rfl
 case ghnd=>decide
 case ghlit=>intro vs;rfl
 case gh0=>exact E _ _
 case ghW=>exact fun kk W W2 h hb=>match kk,h with
  | 0,h=>h.trans (hb.mono h.size)
  | _+1,⟨sl,h1,h2,h3⟩=>⟨sl,dj h1 hb,(hb.block _ h2.lt).trans h2,h3.trans (hb.mono h3.size)⟩
 case ghF=>exact ep (by
  intro p0 hp
  simp only[List.mem_cons,List.not_mem_nil,or_false] at hp
  rcases hp with rfl|rfl
  ·rintro v W W2 ⟨sl,e,h⟩ hb;exact⟨sl,e,dj h hb⟩
  ·rintro v W W2 ⟨sl,e,h⟩ hb;exact⟨sl,e,dj h hb⟩)
 case ghS=>exact fun kk W W2 _ hs i v h=>iF (R:=fun W W2=>ag W W2 (fun i=>i=w.heap.size+1)/\Bk W (w.heap.size+1) 37 #[K V 0 0,Q N 0,Q N 0,K V 0 0,K V 0 0,Q N 0,K V 0 0]) (ps:=[(2,(fun v W=>∃ sl,v=.agg #[sl,Q N c.lo,Q N c.un]/\W.ownsRow w.heap.size 125 8 sl c.l.length (bq c.l))),(11,(fun v W=>∃ sl,v=.agg #[sl,Q N c.lo,Q N c.un,K aS zs.length cS,K aI init.length cI,Q N each,K aR r7.length cR]/\W.ownsRow w.heap.size 125 8 sl c.l.length (bq c.l)))]) (l:=[J (T ⟨w.heap.size,0,V⟩),.agg #[K aL c.l.length cL,Q N c.lo,Q N c.un],undef,J (T ⟨w.heap.size,3,V⟩),K aS zs.length cS,J (T ⟨w.heap.size,4,V⟩),K aI init.length cI,J (T ⟨w.heap.size,5,V⟩),Q N each,J (T ⟨w.heap.size,6,V⟩),K aR r7.length cR,undef,undef]) (by
  intro p0 hp
  simp only[List.mem_cons,List.not_mem_nil,or_false] at hp
  rcases hp with rfl|rfl
  ·rintro v W W2 ⟨sl,e,h⟩ hs;exact⟨sl,e,gH h hs.1 hs.2 (by decide)⟩
  ·rintro v W W2 ⟨sl,e,h⟩ hs;exact⟨sl,e,gH h hs.1 hs.2 (by decide)⟩) i v W W2 h hs
 case gops=>
  refine⟨?_,?_,?_,?_,?_,?_,?_,?_,?_,?_,?_,?_,?_,trivial⟩
  ·intro vs W kk h1 h2 hW hd
   obtain rfl:kk=0:=Nat.le_zero.1 h2
   refine aa rfl ?_
   clear hd
   go_simp
   exact⟨rfl,E _ _⟩
  ·intro vs W kk h1 h2 hW hd
   obtain rfl:kk=0:=Nat.le_zero.1 h2
   refine aa rfl ?_
   have e0:vs 0=J (T ⟨w.heap.size,0,V⟩):=hd 0 (by decide)
   have hq:=(HQ.out W hW).1;obtain⟨f0,f1,f2,f3,f4,f5,f6⟩:=hq.pO;have hr:=(HQ.out W hW).2.1;obtain⟨z0,z1,z2,z3,z4,z5,z6⟩:=hr.pO;have zf:=Bk.free hr;clear hq
   clear hd
   go_simp
   exact⟨rfl,E _ _⟩
  ·intro vs W kk h1 h2 hW hd
   obtain rfl:kk=0:=Nat.le_zero.1 h2
   refine aa rfl ?_
   have e1:vs 1=.agg #[K aL c.l.length cL,Q N c.lo,Q N c.un]:=hd 1 (by decide)
   have HS:=F (HRF.out W (HQ.out W hW).2.2)
   have hsz:=(HQ.out W hW).2.2.size
   clear hd
   go_simp
   refine HS.out.mono ?_
   rintro e zz ⟨sl,he,ho,hb⟩
   exact⟨_,he,⟨sl,rfl,World.ownsRow.mono (base':=w.heap.size) ho hsz⟩,hb⟩
  ·intro vs W kk h1 h2 hW hd
   obtain rfl:kk=0:=Nat.le_zero.1 h2
   refine aa rfl ?_
   clear hd
   go_simp
   exact⟨rfl,E _ _⟩
  ·intro vs W kk h1 h2 hW hd
   obtain rfl:kk=0:=Nat.le_zero.1 h2
   refine aa rfl ?_
   have e3:vs 3=J (T ⟨w.heap.size,3,V⟩):=hd 3 (by decide)
   have hq:=(HQ.out W hW).1;obtain⟨f0,f1,f2,f3,f4,f5,f6⟩:=hq.pO;have hr:=(HQ.out W hW).2.1;obtain⟨z0,z1,z2,z3,z4,z5,z6⟩:=hr.pO;have zf:=Bk.free hr;clear hq
   clear hd
   go_simp
   exact⟨rfl,E _ _⟩
  ·intro vs W kk h1 h2 hW hd
   obtain rfl:kk=0:=Nat.le_zero.1 h2
   refine aa rfl ?_
   clear hd
   go_simp
   exact⟨rfl,E _ _⟩
  ·intro vs W kk h1 h2 hW hd
   obtain rfl:kk=0:=Nat.le_zero.1 h2
   refine aa rfl ?_
   have e5:vs 5=J (T ⟨w.heap.size,4,V⟩):=hd 5 (by decide)
   have hq:=(HQ.out W hW).1;obtain⟨f0,f1,f2,f3,f4,f5,f6⟩:=hq.pO;have hr:=(HQ.out W hW).2.1;obtain⟨z0,z1,z2,z3,z4,z5,z6⟩:=hr.pO;have zf:=Bk.free hr;clear hq
   clear hd
   go_simp
   exact⟨rfl,E _ _⟩
  ·intro vs W kk h1 h2 hW hd
   obtain rfl:kk=0:=Nat.le_zero.1 h2
   refine aa rfl ?_
   clear hd
   go_simp
   exact⟨rfl,E _ _⟩
  ·intro vs W kk h1 h2 hW hd
   obtain rfl:kk=0:=Nat.le_zero.1 h2
   refine aa rfl ?_
   have e7:vs 7=J (T ⟨w.heap.size,5,V⟩):=hd 7 (by decide)
   have hq:=(HQ.out W hW).1;obtain⟨f0,f1,f2,f3,f4,f5,f6⟩:=hq.pO;have hr:=(HQ.out W hW).2.1;obtain⟨z0,z1,z2,z3,z4,z5,z6⟩:=hr.pO;have zf:=Bk.free hr;clear hq
   clear hd
   go_simp
   exact⟨rfl,E _ _⟩
  ·intro vs W kk h1 h2 hW hd
   obtain rfl:kk=0:=Nat.le_zero.1 h2
   refine aa rfl ?_
   clear hd
   go_simp
   exact⟨rfl,E _ _⟩
  ·intro vs W kk h1 h2 hW hd
   obtain rfl:kk=0:=Nat.le_zero.1 h2
   refine aa rfl ?_
   have e9:vs 9=J (T ⟨w.heap.size,6,V⟩):=hd 9 (by decide)
   have hq:=(HQ.out W hW).1;obtain⟨f0,f1,f2,f3,f4,f5,f6⟩:=hq.pO;have hr:=(HQ.out W hW).2.1;obtain⟨z0,z1,z2,z3,z4,z5,z6⟩:=hr.pO;have zf:=Bk.free hr;clear hq
   clear hd
   go_simp
   exact⟨rfl,E _ _⟩
  ·intro vs W kk h1 h2 hW hd
   obtain rfl:kk=0:=Nat.le_zero.1 h2
   refine aa rfl ?_
   have e4:vs 4=K aS zs.length cS:=hd 4 (by decide)
   have e6:vs 6=K aI init.length cI:=hd 6 (by decide)
   have e8:vs 8=Q N each:=hd 8 (by decide)
   have e10:vs 10=K aR r7.length cR:=hd 10 (by decide)
   obtain⟨sl,e2,ho⟩:∃ sl,vs 2=.agg #[sl,Q N c.lo,Q N c.un]/\W.ownsRow w.heap.size 125 8 sl c.l.length (bq c.l):=hd 2 (by decide)
   clear hd
   go_simp
   exact⟨⟨sl,rfl,ho⟩,E _ _⟩
  ·intro vs W hW hd
   obtain⟨sl,e11,ho⟩:∃ sl,vs 11=.agg #[sl,Q N c.lo,Q N c.un,K aS zs.length cS,K aI init.length cI,Q N each,K aR r7.length cR]/\W.ownsRow w.heap.size 125 8 sl c.l.length (bq c.l):=hd 11 (by decide)
   obtain⟨aL9,cL9,rfl,-⟩:=aY ho
   have hq:=(HQ.out W hW).1;obtain⟨f0,f1,f2,f3,f4,f5,f6⟩:=hq.pO;have hr:=(HQ.out W hW).2.1;obtain⟨z0,z1,z2,z3,z4,z5,z6⟩:=hr.pO;have zf:=Bk.free hr;clear hq
   refine bc rfl ?_
   clear hd
   go_simp
   exact⟨rfl,⟨K aL9 c.l.length cL9,gH ho (gb (y:=W) (g:=w.heap.size+1) (K aL9 c.l.length cL9) (Q N c.lo) (Q N c.un) (K aS zs.length cS) (K aI init.length cI) (Q N each) (K aR r7.length cR)) hr (by decide),jP hr (K aL9 c.l.length cL9) (Q N c.lo) (Q N c.un) (K aS zs.length cS) (K aI init.length cI) (Q N each) (K aR r7.length cR),fM (HQ.out W hW).2.2 (by omega) (K aL9 c.l.length cL9) (Q N c.lo) (Q N c.un) (K aS zs.length cS) (K aI init.length cI) (Q N each) (K aR r7.length cR)⟩,gb (y:=W) (g:=w.heap.size+1) (K aL9 c.l.length cL9) (Q N c.lo) (Q N c.un) (K aS zs.length cS) (K aI init.length cI) (Q N each) (K aR r7.length cR)⟩
 case gdone=>
  intro vs W hW hf
  have f0:vs 0=J (T ⟨w.heap.size,0,V⟩):=hf 0 (by decide)
  have f1:vs 1=.agg #[K aL c.l.length cL,Q N c.lo,Q N c.un]:=hf 1 (by decide)
  have f3:vs 3=J (T ⟨w.heap.size,3,V⟩):=hf 3 (by decide)
  have f4:vs 4=K aS zs.length cS:=hf 4 (by decide)
  have f5:vs 5=J (T ⟨w.heap.size,4,V⟩):=hf 5 (by decide)
  have f6:vs 6=K aI init.length cI:=hf 6 (by decide)
  have f7:vs 7=J (T ⟨w.heap.size,5,V⟩):=hf 7 (by decide)
  have f8:vs 8=Q N each:=hf 8 (by decide)
  have f9:vs 9=J (T ⟨w.heap.size,6,V⟩):=hf 9 (by decide)
  have f10:vs 10=K aR r7.length cR:=hf 10 (by decide)
  simp only[f0,f1,f3,f4,f5,f6,f7,f8,f9,f10]
  clear f0 f1 f3 f4 f5 f6 f7 f8 f9 f10
  obtain⟨sl,ho,hB,hb⟩:∃ sl,W.ownsRow w.heap.size 125 8 sl c.l.length (bq c.l)/\Bk W (w.heap.size+1) 37 #[sl,Q N c.lo,Q N c.un,K aS zs.length cS,K aI init.length cI,Q N each,K aR r7.length cR]/\Below w.heap.size w W:=hW
  clear hf HQ HRF kx f0 f1 f2 f3 f4 f5 f6 q0 q1
  obtain⟨f0,f1,f2,f3,f4,f5,f6⟩:=hB.pO
  go_wp
  exact bodyPost_ret (v:=.agg #[sl,Q N c.lo,Q N c.un,K aS zs.length cS,K aI init.length cI,Q N each,K aR r7.length cR]) (by simp[results,Tryz.results11,go_sem,f0,f1,f2,f3,f4,f5,f6]) rfl ⟨_,rfl,⟨sl,aS,cS,aI,cI,aR,cR,rfl,ho,hgS.below hb,hgI.below hb,hgR.below hb,hm1,hm2,hm3⟩,hb⟩
def fP (y:World)(g:Nat)(a b c d e f h i j:Value):World:=((((((((y.setCell ⟨g,0,V⟩ a).setCell ⟨g,1,V⟩ b).setCell ⟨g,2,V⟩ c).setCell ⟨g,3,V⟩ d).setCell ⟨g,4,V⟩ e).setCell ⟨g,5,V⟩ f).setCell ⟨g,6,V⟩ h).setCell ⟨g,7,V⟩ i).setCell ⟨g,8,V⟩ j
theorem iR {y:World}{g:Nat}{t:TypeId}{x0 x1 x2 x3 x4 x5 x6 x7 x8:Value}(hb:Bk y g t #[x0,x1,x2,x3,x4,x5,x6,x7,x8])(a b c d e f h i j:Value):Bk (fP y g a b c d e f h i j) g t #[a,b,c,d,e,f,h,i,j]:=by
 have h8:=((((((((hb.put 0 a).put 1 b).put 2 c).put 3 d).put 4 e).put 5 f).put 6 h).put 7 i).put 8 j
 unfold fP
 simpa only[List.setIfInBounds_toArray,List.set_cons_zero,List.set_cons_succ] using h8
theorem eS {B:Nat}{w y:World}{g:Nat}(hb:Below B w y)(hg:B<=g)(a b c d e f h i j:Value):Below B w (fP y g a b c d e f h i j):=
 ((((((((hb.setCell hg _).setCell hg _).setCell hg _).setCell hg _).setCell hg _).setCell hg _).setCell hg _).setCell hg _).setCell hg _
theorem qY {y:World}{g b:Nat}{t:TypeId}{cs:Array Value}(hk:Bk y b t cs)(hne:b≠g)(a' b' c d e f h i j:Value):Bk (fP y g a' b' c d e f h i j) b t cs:=
 ((((((((hk.off hne _).off hne _).off hne _).off hne _).off hne _).off hne _).off hne _).off hne _).off hne _
def dz (xs:List Int)(pc:Int):List Value:=xs.map (Value.int .i64)++[Q N pc]
def rv (xs:List Int)(pc:Int):Value:=.agg (dz xs pc).toArray
theorem Av {xs:List Int}{pc:Int}(h:xs.length=8){k:Nat}(hk:k<8):(dz xs pc).toArray[k]?=T (Q N (aG xs k)):=by
 rw[List.getElem?_toArray,dz,List.getElem?_append_left (by simp;omega),List.getElem?_map,gT (by omega)]
 rfl
theorem Au {xs:List Int}{pc:Int}(h:xs.length=8):(dz xs pc).toArray[8]?=T (Q N pc):=by
 rw[List.getElem?_toArray,dz,List.getElem?_append_right (by simp;omega)]
 simp[h]
theorem yc {xs:List Int}{pc:Int}(h:xs.length=8)(k:Nat)(hk:k<8)(v:Int):(dz xs pc).toArray.setIfInBounds k (Q N v)=(dz (xs.set k v) pc).toArray:=by
 rw[List.setIfInBounds_toArray,dz,dz,List.set_append_left _ _ (by simp;omega),List.map_set]
theorem sw {xs:List Int}{pc:Int}(h:xs.length=8)(v:Int):(dz xs pc).toArray.setIfInBounds 8 (Q N v)=(dz xs v).toArray:=by
 rw[List.setIfInBounds_toArray,dz,dz,List.set_append_right _ _ (by simp;omega)]
 simp[h]
def Rb (w:World)(g:Nat)(xs:List Int)(pc:Int):Prop:=Bk w g 112 (dz xs pc).toArray
section
variable {w w':World}{g:Nat}{xs:List Int}{pc:Int}
theorem Rb.made (w:World)(xs:List Int)(pc:Int):Rb (w.alloc (G (dz xs pc).toArray 112)) w.heap.size xs pc:=Bk.made _ _ _
theorem Rb.at_ (h:Rb w g xs pc)(h8:xs.length=8){k:Nat}(hk:k<8):w.cell? ⟨g,k,V⟩=T (Q N (aG xs k)):=(Bk.cell h k).trans (Av h8 hk)
theorem Rb.place (h:Rb w g xs pc)(h8:xs.length=8):w.cell? ⟨g,8,V⟩=T (Q N pc):=(Bk.cell h 8).trans (Au h8)
theorem Rb.cells {r0 r1 r2 r3 r4 r5 r6 r7:Int}(h:Rb w g [r0,r1,r2,r3,r4,r5,r6,r7] pc):
 w.cell? ⟨g,0,V⟩=T (Q N r0)/\w.cell? ⟨g,1,V⟩=T (Q N r1)/\w.cell? ⟨g,2,V⟩=T (Q N r2)/\w.cell? ⟨g,3,V⟩=T (Q N r3)/\
 w.cell? ⟨g,4,V⟩=T (Q N r4)/\w.cell? ⟨g,5,V⟩=T (Q N r5)/\w.cell? ⟨g,6,V⟩=T (Q N r6)/\w.cell? ⟨g,7,V⟩=T (Q N r7)/\w.cell? ⟨g,8,V⟩=T (Q N pc):=
 ⟨Bk.cell h 0,Bk.cell h 1,Bk.cell h 2,Bk.cell h 3,Bk.cell h 4,Bk.cell h 5,Bk.cell h 6,Bk.cell h 7,Bk.cell h 8⟩
theorem Rb.below (h:Rb w g xs pc)(hb:Below w.heap.size w w'):Rb w' g xs pc:=(hb.block g (Bk.lt h)).trans h
theorem Rb.set (h:Rb w g xs pc)(h8:xs.length=8){k:Nat}(hk:k<8)(v:Int):Rb (w.setCell ⟨g,k,V⟩ (Q N v)) g (xs.set k v) pc:=by
 unfold Rb
 rw[<-yc h8 k hk v]
 exact Bk.put h k _
theorem Rb.xf (h:Rb w g xs pc)(h8:xs.length=8)(v:Int):Rb (w.setCell ⟨g,8,V⟩ (Q N v)) g xs v:=by
 unfold Rb
 rw[<-sw h8 v]
 exact Bk.put h 8 _
end
theorem Ek (k:Nat)(h:k<=61):(1:Int)<=2 ^ k/\(2:Int) ^ k<=2305843009213693952/\(2:Int) ^ (k+1)=2 ^ k*2:=by
 have a:=Nat.one_le_two_pow (n:=k)
 have b:=Nat.pow_le_pow_right (n:=2) (by omega) h
 have e:((2 ^ k:Nat):Int)=(2:Int) ^ k:=by simp
 exact⟨by omega,by omega,Int.pow_succ 2 k⟩
theorem Df (n:Nat)(hn:n<=62)(w:World):Calls Tryz.prog 153 #[Q N n] w fun e w'=>e=.returned (Q N (2 ^ n))/\w=w':=by
 go_enter Tryz.func153,Tryz.ntmps153
 go_wp2
 go_loopw [3,4] (fun x i wr=>∃ k:Nat,x=Q N (2 ^ k)/\i=Q N k/\k<=n/\wr=w) (fun _ i _=>n-(intOf i).toNat)
 case atStart=>exact⟨0,rfl,rfl,Nat.zero_le _,rfl⟩
 case round=>
  obtain⟨k,rfl,rfl,hk,rfl⟩:=hrel
  by_cases hlt:k<n
  ·have hki:(k:Int)<n:=by omega
   obtain⟨p0,p1,p2⟩:=Ek k (by omega)
   have HP:=F p2
   clear p2
   generalize (2:Int) ^ k=p at *
   go_wp2
   go_roundw
   case rel=>exact⟨k+1,by rw[HP.out],rfl,by omega,trivial⟩
   case measure=>
    show n-((k:Int)+1).toNat<n-(k:Int).toNat
    omega
  ·have hki:¬ (k:Int)<n:=by omega
   obtain rfl:k=n:=by omega
   go_wp2
   go_ret
   exact⟨rfl,rfl⟩
theorem zL (x k:Nat):x / 2 ^ k % 2=0\/x / 2 ^ k % 2=1:=by omega
theorem rD (x k:Nat)(hx:(x:Int)<4294967296):(wrap64 ((x:Int) / 2 ^ k)).tmod 2=((x / 2 ^ k % 2:Nat):Int):=by
 have e:(x:Int) / 2 ^ k=((x / 2 ^ k:Nat):Int):=by simp
 have hle:x / 2 ^ k<=x:=Nat.div_le_self _ _
 rw[e]
 generalize x / 2 ^ k=q at *
 rw[IntWalk.wrap64_in _ (by omega),Int.tmod_eq_emod_of_nonneg (by omega)]
 omega
theorem BV (a b:Int)(both:Bool)(h0:0<=a)(h1:a<4294967296)(h2:0<=b)(h3:b<4294967296)(w:World):
 Calls Tryz.prog 152 #[Q N a,Q N b,Q N (if both then 1 else 0)] w fun e w'=>e=.returned (Q N (if both then qe a b else Dd a b))/\∃ m,w'=w.drewN m:=by
 have HE:=F (BD both a b h0 h1 h2 h3)
 generalize (if both then qe a b else Dd a b)=R at *
 obtain⟨x,rfl⟩:∃ n:Nat,a=n:=⟨a.toNat,by omega⟩
 obtain⟨y,rfl⟩:∃ n:Nat,b=n:=⟨b.toNat,by omega⟩
 simp only[Int.toNat_natCast] at HE
 have HW:=F (fun(k:Nat) (hk:k<=62) (W:World)=>(Df k hk W).mono fun e w' ⟨he,hw⟩=>(show e=Ending.returned (Q N (2 ^ k))/\w'=W from⟨he,hw.symm⟩))
 have HL:=F (uT both x y)
 have HB:=F (show ∀ k,jX both x y (k+1)=jX both x y k+(if (if both then x / 2 ^ k % 2+y / 2 ^ k % 2=2 else 0<x / 2 ^ k % 2+y / 2 ^ k % 2) then 2 ^ k else 0) from fun k=>rfl)
 generalize hbo:(if both=true then (1:Int) else 0)=bo
 go_enter Tryz.func152,Tryz.ntmps152
 go_wp2
 go_loopw [7,8] (fun o i wr=>∃ k m:Nat,o=Q N (jX both x y k:Nat)/\i=Q N k/\k<=32/\wr=w.drewN m) (fun _ i _=>32-(intOf i).toNat)
 case atStart=>exact⟨0,0,rfl,rfl,Nat.zero_le _,rfl⟩
 case round=>
  obtain⟨k,m,rfl,rfl,hk,hwr⟩:=hrel
  have HWr:=F hwr
  clear hwr
  by_cases hlt:k<32
  ·have hki:(k:Int)<32:=by omega
   obtain⟨p0,p1,p2⟩:=Ek k (by omega)
   have HS:=F (HB.out k)
   have hBk:((jX both x y k:Nat):Int)<4294967296:=by
    have:=Nat.pow_le_pow_right (n:=2) (by omega) (show k<=32 by omega)
    have:=HL.out k
    omega
   have hBk0:(0:Int)<=((jX both x y k:Nat):Int):=by omega
   have HW2:=F (HW.out k (by omega))
   have EA:=rD x k h1
   have EB:=rD y k h3
   have HA:=F (zL x k)
   have HBB:=F (zL y k)
   have HE1:=F EA
   have HE2:=F EB
   clear p2 HE HB HL HW EA EB
   go_upto_region 5 with fail
   go_quiet ((go_at_call 153;with_reducible exact Calls.quiet_of_same (HW2.out _)))
   rw[HE1.out,HE2.out]
   replace HWr:Hid (∃ q,wr.drewN nq=w.drewN q):=F ⟨m+nq,by rw[HWr.out];simp[World.drewN,Nat.add_assoc]⟩
   generalize wr.drewN nq=wr at *
   have HA2:=HA.out
   have HB2:=HBB.out
   generalize x / 2 ^ k % 2=A at *
   generalize y / 2 ^ k % 2=B at *
   clear HE1 HE2 HA HBB
   cases both
   ·obtain rfl:bo=0:=by rw[<-hbo];rfl
    clear hbo
    simp only[Bool.false_eq_true,if_false] at HS
    rcases HA2 with rfl|rfl <;> rcases HB2 with rfl|rfl
    ·go_wp2
     obtain⟨q,hq⟩:=HWr.out
     go_roundw
     case rel=>exact⟨k+1,q,by rw[HS.out];simp,rfl,by omega,hq⟩
     case measure=>
      show 32-((k:Int)+1).toNat<32-(k:Int).toNat
      omega
    ·go_wp2_with fail
     refine(HW2.out _).mono ?_
     rintro e w' ⟨rfl,rfl⟩
     go_wp2
     obtain⟨q,hq⟩:=HWr.out
     go_roundw
     case rel=>exact⟨k+1,q,by rw[HS.out];simp,rfl,by omega,hq⟩
     case measure=>
      show 32-((k:Int)+1).toNat<32-(k:Int).toNat
      omega
    ·go_wp2_with fail
     refine(HW2.out _).mono ?_
     rintro e w' ⟨rfl,rfl⟩
     go_wp2
     obtain⟨q,hq⟩:=HWr.out
     go_roundw
     case rel=>exact⟨k+1,q,by rw[HS.out];simp,rfl,by omega,hq⟩
     case measure=>
      show 32-((k:Int)+1).toNat<32-(k:Int).toNat
      omega
    ·go_wp2_with fail
     refine(HW2.out _).mono ?_
     rintro e w' ⟨rfl,rfl⟩
     go_wp2
     obtain⟨q,hq⟩:=HWr.out
     go_roundw
     case rel=>exact⟨k+1,q,by rw[HS.out];simp,rfl,by omega,hq⟩
     case measure=>
      show 32-((k:Int)+1).toNat<32-(k:Int).toNat
      omega
   ·obtain rfl:bo=1:=by rw[<-hbo];rfl
    clear hbo
    simp only[if_true] at HS
    rcases HA2 with rfl|rfl <;> rcases HB2 with rfl|rfl
    ·go_wp2
     obtain⟨q,hq⟩:=HWr.out
     go_roundw
     case rel=>exact⟨k+1,q,by rw[HS.out];simp,rfl,by omega,hq⟩
     case measure=>
      show 32-((k:Int)+1).toNat<32-(k:Int).toNat
      omega
    ·go_wp2
     obtain⟨q,hq⟩:=HWr.out
     go_roundw
     case rel=>exact⟨k+1,q,by rw[HS.out];simp,rfl,by omega,hq⟩
     case measure=>
      show 32-((k:Int)+1).toNat<32-(k:Int).toNat
      omega
    ·go_wp2
     obtain⟨q,hq⟩:=HWr.out
     go_roundw
     case rel=>exact⟨k+1,q,by rw[HS.out];simp,rfl,by omega,hq⟩
     case measure=>
      show 32-((k:Int)+1).toNat<32-(k:Int).toNat
      omega
    ·go_wp2_with fail
     refine(HW2.out _).mono ?_
     rintro e w' ⟨rfl,rfl⟩
     go_wp2
     obtain⟨q,hq⟩:=HWr.out
     go_roundw
     case rel=>exact⟨k+1,q,by rw[HS.out];simp,rfl,by omega,hq⟩
     case measure=>
      show 32-((k:Int)+1).toNat<32-(k:Int).toNat
      omega
  ·have hki:¬ (k:Int)<32:=by omega
   obtain rfl:k=32:=by omega
   go_wp2
   go_ret
   exact⟨ci HE.out,_,HWr.out⟩
theorem jo (z:World)(n:Nat):Below z.heap.size z (z.drewN n):=⟨rfl,rfl,rfl,D _,fun _ _=>rfl⟩
end
