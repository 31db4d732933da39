import Derived.Test.YtbgaaclplgghcaaGreatDoorWAsmM
import Derived.Test.YtbgaaclplgghcaaGreatDoorWArR
import Derived.Deep.DeepCutAuto
set_option linter.unusedVariables false
set_option maxHeartbeats 4000000
set_option maxRecDepth 100000
open Go.Value renaming int->I,slice->S
open Go.IntKind renaming i64->Q,u32->O
open Option renaming none->Z,some->P
open Go.Obj renaming cells->T
open Go.Lib renaming hid->R
open Go.RowKit.Below renaming refl->U
open Nat renaming le_refl->K
namespace Go.Proofs.YtbgaaclplgghcaaGreatDoor
open Go.ChangeShapes Go.WideShapes Go.ChangeAt Go.RowKit
def FD (N m:Nat)(w:World)(v:Value)(x:World):Prop:=∃ b1 b2 b3 bs,v=.pointer (P ⟨bs,0,Z⟩)/\Bk x b1 3 #[I Q 1,I Q (m:Int)]/\Bk x b2 22 (words (List.replicate (m+1) 0))/\Bk x b3 22 (words (List.replicate N 0))/\Bk x bs 37 #[S Z 0 0,I Q 0,I Q 0,S (P ⟨b1,0,Z⟩) 2 2,S (P ⟨b2,0,Z⟩) (m+1) (m+1),I Q 0,S (P ⟨b3,0,Z⟩) N N]/\Bk x w.heap.size 37 #[S Z 0 0,I Q 0,I Q 0,S Z 0 0,S Z 0 0,I Q 0,S Z 0 0]/\Below w.heap.size w x/\w.heap.size<bs/\b2≠b3/\w.heap.size<b2
theorem vV (N m:Nat)(st:Int)(w:World)(hs:dj m)(h1:1<=N)(hm:N<=m)(h64:N<=64)(h0:0<=st)(h2:st<4294967296)
 (HA:∀ V,Calls Tryz.prog 30 #[bs (dN m)] V (zA (BT m) V)):
 Calls Tryz.prog 9 #[I Q N,I Q m,I O st] w fun e w'=>∃ v,e=.returned (.tuple #[v,.bool true])/\Rv w.heap.size w' v (BT m) [1,(m:Int)] (wG m st) (gp N) 0/\Below w.heap.size w w':=by
 have hb:=fc hs
 have HAA:=R HA
 have HTT:=R (fun V=>yw m hs V)
 have HS:=R hs
 unfold zA at HAA
 generalize BT m=c at *
 generalize bs (dN m)=tx at *
 obtain⟨n,hn⟩:∃ n:Nat,(m:Int)+1=(n:Int):=⟨m+1,by omega⟩
 have hn2:n=m+1:=by omega
 have hmk:∀ W:World,(Instr.makeSlice 27 (I Q N) (I Q N)).run Tryz.prog W=.ok (S (P ⟨W.heap.size,0,Z⟩) N N) (W.alloc (T (words (List.replicate N 0)) 22)):=fun W=>by rw[iK N (by omega) W,i7]
 have hmk2:∀ W:World,(Instr.makeSlice 27 (I Q ((m:Int)+1)) (I Q ((m:Int)+1))).run Tryz.prog W=.ok (S (P ⟨W.heap.size,0,Z⟩) n n) (W.alloc (T (words (List.replicate n 0)) 22)):=fun W=>by rw[hn,iK n (by omega) W,i7]
 clear hn
 have hb1:Below w.heap.size w (w.alloc (T #[S Z 0 0,I Q 0,I Q 0,S Z 0 0,S Z 0 0,I Q 0,S Z 0 0] 37)):=(U _ _).alloc (K _) _
 have q0:=Bk.made w 37 #[S Z 0 0,I Q 0,I Q 0,S Z 0 0,S Z 0 0,I Q 0,S Z 0 0]
 clear HA hs
 go_enter Tryz.func9,Tryz.ntmps9
 go_upto_region 1 with fail
 generalize w.alloc (T #[S Z 0 0,I Q 0,I Q 0,S Z 0 0,S Z 0 0,I Q 0,S Z 0 0] 37)=y at *
 have hq0:=Bk.lt q0
 go_cut [50] (fun v wx=>v=.bool false/\y=wx)
 case first=>
  have hs:=HS.out
  rcases hs with rfl|rfl|rfl|rfl|rfl|rfl|rfl
  all_goals
   go_wp2
   go_meet
   case rel=>exact⟨by first | rfl | (simp;omega),rfl⟩
 case rest=>
  obtain⟨rfl,rfl⟩:=hcut
  go_upto_region 3 with fail
  go_cut [8] (fun v wx=>FD N m w v wx)
  case first=>
   have HK:=R (And.intro q0 (And.intro hb1 hq0))
   clear hb1 q0 hq0
   go_region
   all_goals
    go_wp2
    go_meet
    case rel=>
     obtain⟨q0,hb1,hq0⟩:=HK.out
     exact⟨_,_,_,_,rfl,
      by first | exact(cQ y _ _ _ _ _ _ _ _).1 | exact(cQ y _ _ _ _ _ _ _ _).2.1 | exact(cQ y _ _ _ _ _ _ _ _).2.2.1 | exact(cQ y _ _ _ _ _ _ _ _).2.2.2.1,
      by first | exact(cQ y _ _ _ _ _ _ _ _).1 | exact(cQ y _ _ _ _ _ _ _ _).2.1 | exact(cQ y _ _ _ _ _ _ _ _).2.2.1 | exact(cQ y _ _ _ _ _ _ _ _).2.2.2.1,
      by first | exact(cQ y _ _ _ _ _ _ _ _).1 | exact(cQ y _ _ _ _ _ _ _ _).2.1 | exact(cQ y _ _ _ _ _ _ _ _).2.2.1 | exact(cQ y _ _ _ _ _ _ _ _).2.2.2.1,
      by first | exact(cQ y _ _ _ _ _ _ _ _).1 | exact(cQ y _ _ _ _ _ _ _ _).2.1 | exact(cQ y _ _ _ _ _ _ _ _).2.2.1 | exact(cQ y _ _ _ _ _ _ _ _).2.2.2.1,
      by exact((cQ y _ _ _ _ _ _ _ _).2.2.2.2.block _ hq0).trans q0,
      by
       refine hb1.trans (Below.mono (B:=y.heap.size) ?_ hb1.size)
       exact(cQ y _ _ _ _ _ _ _ _).2.2.2.2.drew,
      by omega,by omega,by omega⟩
  case rest=>
   obtain⟨b1,b2,b3,bs,rfl,a1,a2,a3,a4,q0,b4,hlt,hne,hl2⟩:=hcut
   have hst:st % (m:Int)=((st % m).toNat:Int):=by have:=Int.emod_nonneg st (show (m:Int)≠0 by omega);omega
   obtain⟨p,hp⟩:∃ p:Nat,(st % (m:Int)).toNat=p:=⟨_,rfl⟩
   rw[hp] at hst
   have hpm:p<m:=by have:=Int.emod_lt_of_pos st (show (0:Int)<m by omega);omega
   have HI:Hid (wG m st=((List.replicate (m+1) 0).set 0 st).set (1+p) 1):=R (by rw[zg st hpm];unfold wG;rw[hp])
   have hcm:Int.tmod st (m:Int)=(p:Int):=by rw[<-hst,Int.tmod_eq_emod_of_nonneg h0]
   have hm0:¬ m=0:=by omega
   have q1:=a2.put 0 (I O st)
   rw[fL] at q1
   have q2:=q1.put (1+p) (I O 1)
   rw[fL,<-HI.out] at q2
   have wx:ab wc ((wc.setCell ⟨b2,0,Z⟩ (I O st)).setCell ⟨b2,1+p,Z⟩ (I O 1)) (fun i=>i=b2):=((ab.refl wc (fun i=>i=b2)).put _ 0 _ (.inl rfl)).put _ (1+p) _ (.inl rfl)
   have hbx:Below w.heap.size w ((wc.setCell ⟨b2,0,Z⟩ (I O st)).setCell ⟨b2,1+p,Z⟩ (I O 1)):=(b4.setCell (Nat.le_of_lt hl2) _).setCell (Nat.le_of_lt hl2) _
   have KA:=R (And.intro (a1.within wx (Bk.aj a1 a2 (by decide))) (And.intro q2 (And.intro (a3.within wx (fun e=>hne e.symm)) (And.intro (a4.within wx (Bk.aj a4 a2 (by decide))) (And.intro (q0.within wx (Bk.aj q0 a2 (by decide))) hbx)))))
   have a41:=a4.within ((ab.refl wc (fun i=>i=b2)).put _ 0 (I O st) (.inl rfl)) (Bk.aj a4 a2 (by decide))
   have u4:wc.cell? ⟨bs,4,Z⟩=P (S (P ⟨b2,0,Z⟩) (m+1) (m+1)):=a4.cell 4
   have u41:(wc.setCell ⟨b2,0,Z⟩ (I O st)).cell? ⟨bs,4,Z⟩=P (S (P ⟨b2,0,Z⟩) (m+1) (m+1)):=a41.cell 4
   have y0:=(a2.cell 0).trans (fm (List.replicate (m+1) 0) 0 (by simp))
   have y1:=(q1.cell (1+p)).trans (fm _ (1+p) (by simp;omega))
   have zf:=Bk.free a2
   have zf1:=Bk.free q1
   have HLT:=R (And.intro hlt hl2)
   have HZR:=R (show List.replicate N (0:Int)=gp N from rfl)
   rw[HZR.out] at KA
   clear a1 a2 a3 a4 q0 b4 q1 q2 wx hbx a41 hne hlt hl2 hst HI
   go_upto_region 5 with fail
   clear y0 zf u4
   generalize wc.setCell ⟨b2,0,Z⟩ (I O st)=x1 at *
   go_region
   clear u41 y1 zf1
   replace KA:Hid (Bk (x1.setCell ⟨b2,1+p,Z⟩ (I O 1)).drew b1 3 #[I Q 1,I Q (m:Int)]/\Bk (x1.setCell ⟨b2,1+p,Z⟩ (I O 1)).drew b2 22 (words (wG m st))/\Bk (x1.setCell ⟨b2,1+p,Z⟩ (I O 1)).drew b3 22 (words (gp N))/\Bk (x1.setCell ⟨b2,1+p,Z⟩ (I O 1)).drew bs 37 #[S Z 0 0,I Q 0,I Q 0,S (P ⟨b1,0,Z⟩) 2 2,S (P ⟨b2,0,Z⟩) (m+1) (m+1),I Q 0,S (P ⟨b3,0,Z⟩) N N]/\Bk (x1.setCell ⟨b2,1+p,Z⟩ (I O 1)).drew w.heap.size 37 #[S Z 0 0,I Q 0,I Q 0,S Z 0 0,S Z 0 0,I Q 0,S Z 0 0]/\Below w.heap.size w (x1.setCell ⟨b2,1+p,Z⟩ (I O 1)).drew):=R ⟨KA.out.1,KA.out.2.1,KA.out.2.2.1,KA.out.2.2.2.1,KA.out.2.2.2.2.1,KA.out.2.2.2.2.2.drew⟩
   go_upto_region 6 with fail
   generalize (x1.setCell ⟨b2,1+p,Z⟩ (I O 1)).drew=xx at *
   go_wp2_with fail
   refine(HTT.out _).mono ?_
   rintro e z0 ⟨rfl,hz0⟩
   go_wp2_with fail
   refine(HAA.out _).mono ?_
   rintro e z ⟨sl,rfl,hO,hz⟩
   obtain⟨aL,cL,rfl,-⟩:=bp hO
   have HZ:=R (And.intro hO (And.intro hz0 hz))
   clear hO hz hz0 HAA HTT
   go_upto_region 7 with fail
   obtain⟨hO,hz0,hz⟩:=HZ.out
   obtain⟨a1,a2,a3,a4,q0,b4⟩:=KA.out
   have q5:=Bk.made z 35 #[S aL c.l.length cL,I Q c.lo,I Q c.un]
   have hza:Below z.heap.size z (z.alloc (T #[S aL c.l.length cL,I Q c.lo,I Q c.un] 35)):=(U _ _).alloc (K _) _
   have hO2:=dG hO hza
   have hzz:=(hz0.trans (hz.mono hz0.size)).trans (hza.mono (hz0.trans (hz.mono hz0.size)).size)
   have hsz4:=(hz0.trans (hz.mono hz0.size)).size
   have hsz5:=hz0.size
   have lt4:=Bk.lt a4
   obtain⟨zb,hzb⟩:∃ zb,z.heap.size=zb:=⟨_,rfl⟩
   rw[hzb] at q5
   try rw[hzb]
   generalize z.alloc (T #[S aL c.l.length cL,I Q c.lo,I Q c.un] 35)=x at *
   replace a1:Bk x b1 3 #[I Q 1,I Q (m:Int)]:=(hzz.block _ (Bk.lt a1)).trans a1
   replace a2:Bk x b2 22 (words (wG m st)):=(hzz.block _ (Bk.lt a2)).trans a2
   replace a3:Bk x b3 22 (words (gp N)):=(hzz.block _ (Bk.lt a3)).trans a3
   replace a4:Bk x bs 37 #[S Z 0 0,I Q 0,I Q 0,S (P ⟨b1,0,Z⟩) 2 2,S (P ⟨b2,0,Z⟩) (m+1) (m+1),I Q 0,S (P ⟨b3,0,Z⟩) N N]:=(hzz.block _ (Bk.lt a4)).trans a4
   replace q0:Bk x w.heap.size 37 #[S Z 0 0,I Q 0,I Q 0,S Z 0 0,S Z 0 0,I Q 0,S Z 0 0]:=(hzz.block _ (Bk.lt q0)).trans q0
   replace b4:=b4.trans (hzz.mono b4.size)
   have hne:bs≠zb:=by omega
   clear hza hzz hz hz0 hO KA HZ
   obtain⟨y0,y1,y2⟩:=q5.kY
   obtain⟨u0,u1,u2⟩:=a4.kY
   have zf:=Bk.free a4
   have w3:ab x (dA x bs (S aL c.l.length cL) (I Q c.lo) (I Q c.un)) (fun i=>i=bs):=(((ab.refl x (fun i=>i=bs)).put _ 0 _ (.inl rfl)).put _ 1 _ (.inl rfl)).put _ 2 _ (.inl rfl)
   have k4:Bk (dA x bs (S aL c.l.length cL) (I Q c.lo) (I Q c.un)) bs 37 #[S aL c.l.length cL,I Q c.lo,I Q c.un,S (P ⟨b1,0,Z⟩) 2 2,S (P ⟨b2,0,Z⟩) (m+1) (m+1),I Q 0,S (P ⟨b3,0,Z⟩) N N]:=by
    have h8:=((a4.put 0 (S aL c.l.length cL)).put 1 (I Q c.lo)).put 2 (I Q c.un)
    unfold dA
    simpa only[List.setIfInBounds_toArray,List.set_cons_zero,List.set_cons_succ] using h8
   have hlt:=HLT.out.1
   have b5:=bN b4 (Nat.le_of_lt hlt) (S aL c.l.length cL) (I Q c.lo) (I Q c.un)
   have o5:=mV hO2 w3 a4 (by decide)
   have a1':=a1.within w3 (Bk.aj a1 a4 (by decide))
   have a2':=a2.within w3 (Bk.aj a2 a4 (by decide))
   have a3':=a3.within w3 (Bk.aj a3 a4 (by decide))
   have q03:=q0.within w3 (show ¬ w.heap.size=bs by omega)
   clear q5 a1 a2 a3 a4 q0 b4 hO2 w3
   go_upto_region 8 with fail
   clear y0 y1 y2 u0 u1 u2 zf
   generalize hv:((x.setCell ⟨bs,0,Z⟩ (S aL c.l.length cL)).setCell ⟨bs,1,Z⟩ (I Q c.lo)).setCell ⟨bs,2,Z⟩ (I Q c.un)=x2
   replace hv:dA x bs (S aL c.l.length cL) (I Q c.lo) (I Q c.un)=x2:=hv
   rw[hv] at k4 b5 o5 a1' a2' a3' q03
   clear hv
   obtain⟨u0,u1,u2,u3,u4,u5,u6⟩:=k4.Bq
   obtain⟨v0,v1,v2,v3,v4,v5,v6⟩:=q03.Bq
   have zf:=Bk.free q03
   have w7:=kR (y:=x2) (g:=w.heap.size) (S aL c.l.length cL) (I Q c.lo) (I Q c.un) (S (P ⟨b1,0,Z⟩) 2 2) (S (P ⟨b2,0,Z⟩) (m+1) (m+1)) (I Q 0) (S (P ⟨b3,0,Z⟩) N N)
   have k7:=lR q03 (S aL c.l.length cL) (I Q c.lo) (I Q c.un) (S (P ⟨b1,0,Z⟩) 2 2) (S (P ⟨b2,0,Z⟩) (m+1) (m+1)) (I Q 0) (S (P ⟨b3,0,Z⟩) N N)
   have b7:=gS b5 (K _) (S aL c.l.length cL) (I Q c.lo) (I Q c.un) (S (P ⟨b1,0,Z⟩) 2 2) (S (P ⟨b2,0,Z⟩) (m+1) (m+1)) (I Q 0) (S (P ⟨b3,0,Z⟩) N N)
   have o7:=mV o5 w7 q03 (by decide)
   have a17:=a1'.within w7 (Bk.aj a1' q03 (by decide))
   have a27:=a2'.within w7 (Bk.aj a2' q03 (by decide))
   have a37:=a3'.within w7 (Bk.aj a3' q03 (by decide))
   have KK:=R (And.intro k7 (And.intro b7 (And.intro (World.ownsRow.mono (base':=w.heap.size) o7 (by omega)) (And.intro a17 (And.intro a27 a37)))))
   clear k7 b7 o7 a17 a27 a37 w7 k4 b5 o5 a1' a2' a3' q03
   go_wp
   clear u0 u1 u2 u3 u4 u5 u6 v0 v1 v2 v3 v4 v5 v6 zf
   generalize hv:(((((((x2.setCell ⟨w.heap.size,0,Z⟩ (S aL c.l.length cL)).setCell ⟨w.heap.size,1,Z⟩ (I Q c.lo)).setCell ⟨w.heap.size,2,Z⟩ (I Q c.un)).setCell ⟨w.heap.size,3,Z⟩ (S (P ⟨b1,0,Z⟩) 2 2)).setCell ⟨w.heap.size,4,Z⟩ (S (P ⟨b2,0,Z⟩) (m+1) (m+1))).setCell ⟨w.heap.size,5,Z⟩ (I Q 0)).setCell ⟨w.heap.size,6,Z⟩ (S (P ⟨b3,0,Z⟩) N N))=x9
   replace hv:mp x2 w.heap.size (S aL c.l.length cL) (I Q c.lo) (I Q c.un) (S (P ⟨b1,0,Z⟩) 2 2) (S (P ⟨b2,0,Z⟩) (m+1) (m+1)) (I Q 0) (S (P ⟨b3,0,Z⟩) N N)=x9:=hv
   rw[hv] at KK
   obtain⟨hq,b9,o9,k1,k2,k3⟩:=KK.out
   obtain⟨y0,y1,y2,y3,y4,y5,y6⟩:=hq.Bq
   have hIL:(wG m st).length=m+1:=jZ
   have hRL:(gp N).length=N:=kh N
   exact bodyPost_ret (v:=.tuple #[.agg #[S aL c.l.length cL,I Q c.lo,I Q c.un,S (P ⟨b1,0,Z⟩) 2 2,S (P ⟨b2,0,Z⟩) (m+1) (m+1),I Q 0,S (P ⟨b3,0,Z⟩) N N],.bool true]) (by simp[results,Tryz.results9,go_sem,y0,y1,y2,y3,y4,y5,y6]) rfl ⟨_,rfl,⟨_,_,2,_,m+1,_,N,by rw[hIL,hRL];rfl,o9,jd k1,dQ k2,dQ k3,by simp[maxLen],by rw[hIL];unfold maxLen;omega,by rw[hRL];unfold maxLen;omega⟩,b9⟩
theorem vU (n m st:Int)(hn:¬ Ff n m)(w:World):Calls Tryz.prog 8 #[I Q n,I Q m,I O st] w fun e w'=>e=.returned (.tuple #[EL,I Q 5])/\Below w.heap.size w w':=by
 unfold EL
 have HMM:=R (fun V=>ug m V)
 have b0:Below w.heap.size w (w.alloc (T #[S Z 0 0,I Q 0,I Q 0,S Z 0 0,S Z 0 0,I Q 0,S Z 0 0] 29)):=(U _ _).alloc (K _) _
 have q0:=Bk.made w 29 #[S Z 0 0,I Q 0,I Q 0,S Z 0 0,S Z 0 0,I Q 0,S Z 0 0]
 have HNN:=R hn
 clear hn
 go_enter Tryz.func8,Tryz.ntmps8
 go_upto_region 1 with fail
 generalize w.alloc (T #[S Z 0 0,I Q 0,I Q 0,S Z 0 0,S Z 0 0,I Q 0,S Z 0 0] 29)=y at *
 go_cut [26] (fun v wx=>v=.bool true/\y=wx)
 case first=>
  by_cases a1:n<1
  ·go_wp2
   go_meet
   case rel=>exact⟨rfl,rfl⟩
  ·by_cases a2:64<n
   ·go_wp2
    go_meet
    case rel=>exact⟨rfl,rfl⟩
   ·by_cases a3:wJ m
    ·have a4:m<n:=by
      have hn:=HNN.out
      unfold Ff at hn
      rcases Int.lt_or_le m n with h | h
      ·exact h
      ·exact absurd ⟨⟨by omega,by omega⟩,h,a3⟩ hn
     rw[decide_eq_true a3] at HMM
     go_wp2_with fail
     refine(HMM.out y).mono ?_
     rintro e y1 ⟨rfl,rfl⟩
     go_wp2
     go_meet
     case rel=>exact⟨rfl,rfl⟩
    ·rw[decide_eq_false a3] at HMM
     go_wp2_with fail
     refine(HMM.out y).mono ?_
     rintro e y1 ⟨rfl,rfl⟩
     go_wp2
     go_meet
     case rel=>exact⟨rfl,rfl⟩
 case rest=>
  obtain⟨rfl,rfl⟩:=hcut
  have KK:=R (And.intro (lR q0 (S Z 0 0) (I Q 0) (I Q 0) (S Z 0 0) (S Z 0 0) (I Q 0) (S Z 0 0)) (gS b0 (K _) (S Z 0 0) (I Q 0) (I Q 0) (S Z 0 0) (S Z 0 0) (I Q 0) (S Z 0 0)))
  obtain⟨y0,y1,y2,y3,y4,y5,y6⟩:=q0.Bq
  have zf:=Bk.free q0
  clear q0 b0
  go_wp
  clear y0 y1 y2 y3 y4 y5 y6 zf
  generalize hv:(((((((y.setCell ⟨w.heap.size,0,Z⟩ (S Z 0 0)).setCell ⟨w.heap.size,1,Z⟩ (I Q 0)).setCell ⟨w.heap.size,2,Z⟩ (I Q 0)).setCell ⟨w.heap.size,3,Z⟩ (S Z 0 0)).setCell ⟨w.heap.size,4,Z⟩ (S Z 0 0)).setCell ⟨w.heap.size,5,Z⟩ (I Q 0)).setCell ⟨w.heap.size,6,Z⟩ (S Z 0 0))=x9
  replace hv:mp y w.heap.size (S Z 0 0) (I Q 0) (I Q 0) (S Z 0 0) (S Z 0 0) (I Q 0) (S Z 0 0)=x9:=hv
  rw[hv] at KK
  obtain⟨hq,b9⟩:=KK.out
  obtain⟨y0,y1,y2,y3,y4,y5,y6⟩:=hq.Bq
  exact bodyPost_ret (v:=.tuple #[.agg #[S Z 0 0,I Q 0,I Q 0,S Z 0 0,S Z 0 0,I Q 0,S Z 0 0],I Q 5]) (by simp[results,Tryz.results8,go_sem,y0,y1,y2,y3,y4,y5,y6]) rfl ⟨rfl,b9⟩
theorem sS (n m st:Int)(hn:¬ Ff n m)(w:World):Calls Tryz.prog 9 #[I Q n,I Q m,I O st] w fun e w'=>e=.returned (.tuple #[EL,.bool false])/\Below w.heap.size w w':=by
 unfold EL
 have b0:Below w.heap.size w (w.alloc (T #[S Z 0 0,I Q 0,I Q 0,S Z 0 0,S Z 0 0,I Q 0,S Z 0 0] 37)):=(U _ _).alloc (K _) _
 have q0:=Bk.made w 37 #[S Z 0 0,I Q 0,I Q 0,S Z 0 0,S Z 0 0,I Q 0,S Z 0 0]
 have HNN:=R hn
 clear hn
 go_enter Tryz.func9,Tryz.ntmps9
 go_upto_region 1 with fail
 generalize w.alloc (T #[S Z 0 0,I Q 0,I Q 0,S Z 0 0,S Z 0 0,I Q 0,S Z 0 0] 37)=y at *
 go_cut [50] (fun v wx=>v=.bool true/\y=wx)
 case first=>
  by_cases a1:n<1
  ·go_wp2
   go_meet
   case rel=>exact⟨rfl,rfl⟩
  ·by_cases a2:64<n
   ·go_wp2
    go_meet
    case rel=>exact⟨rfl,rfl⟩
   ·by_cases a4:m<n
    ·go_wp2
     go_meet
     case rel=>exact⟨rfl,rfl⟩
    ·have a3:¬ wJ m:=fun h=>HNN.out ⟨⟨by omega,by omega⟩,by omega,h⟩
     obtain⟨s1,s2,s3,s4,s5,s6,s7⟩:(¬ m=1)/\(¬ m=2)/\(¬ m=4)/\(¬ m=8)/\(¬ m=16)/\(¬ m=32)/\(¬ m=64):=by
      unfold wJ at a3
      omega
     clear a3
     go_wp2
     go_meet
     case rel=>exact⟨by simp[s1,s2,s3,s4,s5,s6,s7],rfl⟩
 case rest=>
  obtain⟨rfl,rfl⟩:=hcut
  have KK:=R (And.intro (lR q0 (S Z 0 0) (I Q 0) (I Q 0) (S Z 0 0) (S Z 0 0) (I Q 0) (S Z 0 0)) (gS b0 (K _) (S Z 0 0) (I Q 0) (I Q 0) (S Z 0 0) (S Z 0 0) (I Q 0) (S Z 0 0)))
  obtain⟨y0,y1,y2,y3,y4,y5,y6⟩:=q0.Bq
  have zf:=Bk.free q0
  clear q0 b0
  go_wp
  clear y0 y1 y2 y3 y4 y5 y6 zf
  generalize hv:(((((((y.setCell ⟨w.heap.size,0,Z⟩ (S Z 0 0)).setCell ⟨w.heap.size,1,Z⟩ (I Q 0)).setCell ⟨w.heap.size,2,Z⟩ (I Q 0)).setCell ⟨w.heap.size,3,Z⟩ (S Z 0 0)).setCell ⟨w.heap.size,4,Z⟩ (S Z 0 0)).setCell ⟨w.heap.size,5,Z⟩ (I Q 0)).setCell ⟨w.heap.size,6,Z⟩ (S Z 0 0))=x9
  replace hv:mp y w.heap.size (S Z 0 0) (I Q 0) (I Q 0) (S Z 0 0) (S Z 0 0) (I Q 0) (S Z 0 0)=x9:=hv
  rw[hv] at KK
  obtain⟨hq,b9⟩:=KK.out
  obtain⟨y0,y1,y2,y3,y4,y5,y6⟩:=hq.Bq
  exact bodyPost_ret (v:=.tuple #[.agg #[S Z 0 0,I Q 0,I Q 0,S Z 0 0,S Z 0 0,I Q 0,S Z 0 0],.bool false]) (by simp[results,Tryz.results9,go_sem,y0,y1,y2,y3,y4,y5,y6]) rfl ⟨rfl,b9⟩
