import Derived.Test.YthdgehcghklflaaGreatDoorWTkC
import Derived.Test.YthdgehcghklflaaGreatDoorWRecs
import Derived.Test.YthdgehcghklflaaGreatDoorWArR
import Derived.Test.YthdgehcghklflaaGreatDoorWInstC
import Derived.Test.YthdgehcghklflaaGreatDoorWPrgM
import Derived.Test.YthdgehcghklflaaGreatDoorWInstSA
import Derived.Test.YthdgehcghklflaaGreatDoorWInstSB
import Derived.Test.YthdgehcghklflaaGreatDoorWInstSC
import Derived.Test.YthdgehcghklflaaGreatDoorWInstSD
import Derived.Test.YthdgehcghklflaaGreatDoorWInstSF
import Derived.Test.YthdgehcghklflaaGreatDoorWInstSG
import Derived.Test.YthdgehcghklflaaGreatDoorWPool
import Derived.Test.YthdgehcghklflaaGreatDoorWMem
import Derived.Deep.QuietTactic
import Derived.Deep.RegionLaw
import Derived.Laws.IdiomStrings
import Derived.ArgAppend
set_option linter.unusedVariables false
set_option maxHeartbeats 4000000
set_option maxRecDepth 100000
open Go.Value renaming int->I,slice->P
open Go.IntKind renaming i64->Q
open Option renaming none->O,some->Z
open Bool renaming false->V
open Go.Obj renaming cells->T
open Go.Lib renaming hid->U
open Go.RowKit.Below renaming refl->K
open Nat renaming le_refl->J
namespace Go.Proofs.YthdgehcghklflaaGreatDoor
open Go.ChangeShapes Go.WideShapes Go.ChangeAt Go.RowKit
def Dj (w:World)(e:Ending)(w':World):Prop:=∃ sl,e=.returned (.tuple #[.agg #[sl,I Q cK.lo,I Q cK.un],I Q 0,I Q 0])/\w'.ownsRow w.heap.size 125 8 sl cK.l.length (bH cK.l)/\Below w.heap.size w w'
theorem xa (w:World):Calls Tryz.prog 14 #[] w fun e w'=>e=.returned (bs fG)/\w=w':=by
 go_enter Tryz.func14,Tryz.ntmps14
 go_wp2
 go_ret
 exact⟨rfl,rfl⟩
theorem Cn (N:Nat)(st:Int)(w:World)(h1:1<=N)(h64:N<=64)(h0:0<=st)(h2:st<4294967296)(HA:∀ W,Calls Tryz.prog 28 #[bs fG] W (Dj W)):
 Calls Tryz.prog 9 #[I Q N,I .u32 st] w fun e w'=>∃ v,e=.returned (.tuple #[v,.bool true])/\Rv w.heap.size w' v cK [1,1] [st,st] (yN N) 0/\Below w.heap.size w w':=by
 have HAA:=U HA
 have HT:=U (fun W=>xa W)
 unfold Dj at HAA
 generalize cK=c at *
 generalize bs fG=tx at *
 have hmk:=fun W:World=>ol N (by omega) W
 have hb1:Below w.heap.size w (w.alloc (T #[P O 0 0,I Q 0,I Q 0,P O 0 0,P O 0 0,I Q 0,P O 0 0] 37)):=(K _ _).alloc (J _) _
 have q0:=Bk.made w 37 #[P O 0 0,I Q 0,I Q 0,P O 0 0,P O 0 0,I Q 0,P O 0 0]
 clear HA
 go_enter Tryz.func9,Tryz.ntmps9
 go_upto_region 3 with fail
 generalize w.alloc (T #[P O 0 0,I Q 0,I Q 0,P O 0 0,P O 0 0,I Q 0,P O 0 0] 37)=y at *
 have hq0:=Bk.lt q0
 go_upto_region 4 with fail
 obtain⟨yb,hyb⟩:∃ yb,y.heap.size=yb:=⟨_,rfl⟩
 rw[hyb]
 have a1:=Bk.made y 3 #[I Q 1,I Q 1]
 generalize ez1:y.alloc (T #[I Q 1,I Q 1] 3)=z1 at *
 have s1:z1.heap.size=yb+1:=by rw[<-ez1,World.size_alloc,hyb]
 have bz1:Below y.heap.size y z1:=by rw[<-ez1];exact(K _ _).alloc (J _) _
 have a2:=Bk.made z1 22 #[I .u32 st,I .u32 st]
 generalize ez2:z1.alloc (T #[I .u32 st,I .u32 st] 22)=z2 at *
 have s2:z2.heap.size=yb+1+1:=by rw[<-ez2,World.size_alloc,s1]
 have bz2:Below z1.heap.size z1 z2:=by rw[<-ez2];exact(K _ _).alloc (J _) _
 have a3:=Bk.made z2 22 (madeCells #[I .u32 0] N)
 generalize ez3:z2.alloc (T (madeCells #[I .u32 0] N) 22)=z3 at *
 have s3:z3.heap.size=yb+1+1+1:=by rw[<-ez3,World.size_alloc,s2]
 have bz3:Below z2.heap.size z2 z3:=by rw[<-ez3];exact(K _ _).alloc (J _) _
 have a4:=Bk.made z3 37 #[P O 0 0,I Q 0,I Q 0,P (Z ⟨yb,0,O⟩) 2 2,P (Z ⟨yb+1,0,O⟩) 2 2,I Q 0,P (Z ⟨yb+1+1,0,O⟩) N N]
 generalize ez4:z3.alloc (T #[P O 0 0,I Q 0,I Q 0,P (Z ⟨yb,0,O⟩) 2 2,P (Z ⟨yb+1,0,O⟩) 2 2,I Q 0,P (Z ⟨yb+1+1,0,O⟩) N N] 37)=z4 at *
 have bz4:Below z3.heap.size z3 z4:=by rw[<-ez4];exact(K _ _).alloc (J _) _
 rw[hyb] at a1
 rw[s1] at a2
 rw[s2] at a3
 rw[s3] at a4
 have c34:=bz4
 have c24:=bz3.trans (c34.mono bz3.size)
 have c14:=bz2.trans (c24.mono bz2.size)
 have c04:=bz1.trans (c14.mono bz1.size)
 replace a1:=(c14.block _ (by rw[s1];omega)).trans a1
 replace a2:=(c24.block _ (by rw[s2];omega)).trans a2
 replace a3:=(c34.block _ (by rw[s3];omega)).trans a3
 have b4:=hb1.trans (c04.mono hb1.size)
 replace q0:Bk z4 w.heap.size 37 #[P O 0 0,I Q 0,I Q 0,P O 0 0,P O 0 0,I Q 0,P O 0 0]:=(c04.block _ (Bk.lt q0)).trans q0
 have hlt:w.heap.size<yb:=by rw[<-hyb];exact hq0
 clear bz1 bz2 bz3 bz4 c34 c24 c14 c04 s1 s2 ez1 ez2 ez3 ez4
 have KA:=U (And.intro a1 (And.intro a2 (And.intro a3 (And.intro a4 (And.intro q0 b4)))))
 have HLT:=U hlt
 have HS3:=U s3
 clear a1 a2 a3 a4 q0 b4 hb1 hmk hyb hlt hq0 s3
 go_wp2_with fail
 refine(HT.out _).mono ?_
 rintro e z0 ⟨rfl,rfl⟩
 go_wp2_with fail
 refine(HAA.out _).mono ?_
 rintro e z ⟨sl,rfl,hO,hz⟩
 obtain⟨aL,cL,rfl,-⟩:=bp hO
 have HZ:=U (And.intro hO hz)
 clear hO hz HAA HT
 go_upto_region 5 with fail
 have hlt:=HLT.out
 obtain⟨hO,hz⟩:=HZ.out
 obtain⟨a1,a2,a3,a4,q0,b4⟩:=KA.out
 have q5:=Bk.made z 35 #[P aL c.l.length cL,I Q c.lo,I Q c.un]
 have hza:Below z.heap.size z (z.alloc (T #[P aL c.l.length cL,I Q c.lo,I Q c.un] 35)):=(K _ _).alloc (J _) _
 have hO2:=dJ hO hza
 have hzz:=hz.trans (hza.mono hz.size)
 have hsz4:=hz.size
 have lt4:=Bk.lt a4
 obtain⟨zb,hzb⟩:∃ zb,z.heap.size=zb:=⟨_,rfl⟩
 rw[hzb] at q5
 rw[hzb]
 generalize z.alloc (T #[P aL c.l.length cL,I Q c.lo,I Q c.un] 35)=x at *
 replace a1:Bk x yb 3 #[I Q 1,I Q 1]:=(hzz.block _ (Bk.lt a1)).trans a1
 replace a2:Bk x (yb+1) 22 #[I .u32 st,I .u32 st]:=(hzz.block _ (Bk.lt a2)).trans a2
 replace a3:Bk x (yb+1+1) 22 (madeCells #[I .u32 0] N):=(hzz.block _ (Bk.lt a3)).trans a3
 replace a4:Bk x (yb+1+1+1) 37 #[P O 0 0,I Q 0,I Q 0,P (Z ⟨yb,0,O⟩) 2 2,P (Z ⟨yb+1,0,O⟩) 2 2,I Q 0,P (Z ⟨yb+1+1,0,O⟩) N N]:=(hzz.block _ (Bk.lt a4)).trans a4
 replace q0:Bk x w.heap.size 37 #[P O 0 0,I Q 0,I Q 0,P O 0 0,P O 0 0,I Q 0,P O 0 0]:=(hzz.block _ (Bk.lt q0)).trans q0
 replace b4:=b4.trans (hzz.mono b4.size)
 have hne:yb+1+1+1≠zb:=by omega
 clear hza hzz hz hO KA HZ
 -- the code is put into the spec
 obtain⟨y0,y1,y2⟩:=q5.kX
 obtain⟨u0,u1,u2⟩:=a4.kX
 have zf:=Bk.free a4
 have w3:ab x (dB x (yb+1+1+1) (P aL c.l.length cL) (I Q c.lo) (I Q c.un)) (fun i=>i=yb+1+1+1):=(((ab.refl x (fun i=>i=yb+1+1+1)).put _ 0 _ (.inl rfl)).put _ 1 _ (.inl rfl)).put _ 2 _ (.inl rfl)
 have k4:Bk (dB x (yb+1+1+1) (P aL c.l.length cL) (I Q c.lo) (I Q c.un)) (yb+1+1+1) 37 #[P aL c.l.length cL,I Q c.lo,I Q c.un,P (Z ⟨yb,0,O⟩) 2 2,P (Z ⟨yb+1,0,O⟩) 2 2,I Q 0,P (Z ⟨yb+1+1,0,O⟩) N N]:=by
  have h8:=((a4.put 0 (P aL c.l.length cL)).put 1 (I Q c.lo)).put 2 (I Q c.un)
  unfold dB
  simpa only[List.setIfInBounds_toArray,List.set_cons_zero,List.set_cons_succ] using h8
 have b5:=bP b4 (show w.heap.size<=yb+1+1+1 by omega) (P aL c.l.length cL) (I Q c.lo) (I Q c.un)
 have o5:=mY hO2 w3 a4 (by decide)
 have a1':=a1.within w3 (Bk.aj a1 a4 (by decide))
 have a2':=a2.within w3 (Bk.aj a2 a4 (by decide))
 have a3':=a3.within w3 (Bk.aj a3 a4 (by decide))
 have q0':=q0.within w3 (show ¬ w.heap.size=yb+1+1+1 by omega)
 clear q5 a1 a2 a3 a4 q0 b4 hO2 w3
 go_upto_region 6 with fail
 clear y0 y1 y2 u0 u1 u2 zf
 generalize hv:((x.setCell ⟨yb+1+1+1,0,O⟩ (P aL c.l.length cL)).setCell ⟨yb+1+1+1,1,O⟩ (I Q c.lo)).setCell ⟨yb+1+1+1,2,O⟩ (I Q c.un)=x2
 replace hv:dB x (yb+1+1+1) (P aL c.l.length cL) (I Q c.lo) (I Q c.un)=x2:=hv
 rw[hv] at k4 b5 o5 a1' a2' a3' q0'
 clear hv
 obtain⟨u0,u1,u2,u3,u4,u5,u6⟩:=k4.Bg
 obtain⟨v0,v1,v2,v3,v4,v5,v6⟩:=q0'.Bg
 have zf:=Bk.free q0'
 have w7:=kJ (y:=x2) (g:=w.heap.size) (P aL c.l.length cL) (I Q c.lo) (I Q c.un) (P (Z ⟨yb,0,O⟩) 2 2) (P (Z ⟨yb+1,0,O⟩) 2 2) (I Q 0) (P (Z ⟨yb+1+1,0,O⟩) N N)
 have k7:=lM q0' (P aL c.l.length cL) (I Q c.lo) (I Q c.un) (P (Z ⟨yb,0,O⟩) 2 2) (P (Z ⟨yb+1,0,O⟩) 2 2) (I Q 0) (P (Z ⟨yb+1+1,0,O⟩) N N)
 have b7:=gS b5 (J _) (P aL c.l.length cL) (I Q c.lo) (I Q c.un) (P (Z ⟨yb,0,O⟩) 2 2) (P (Z ⟨yb+1,0,O⟩) 2 2) (I Q 0) (P (Z ⟨yb+1+1,0,O⟩) N N)
 have o7:=mY o5 w7 q0' (by decide)
 have a17:=a1'.within w7 (Bk.aj a1' q0' (by decide))
 have a27:=a2'.within w7 (Bk.aj a2' q0' (by decide))
 have a37:=a3'.within w7 (Bk.aj a3' q0' (by decide))
 have hsz:w.heap.size<=z.heap.size:=by omega
 have KK:=U (And.intro k7 (And.intro b7 (And.intro (World.ownsRow.mono (base':=w.heap.size) o7 (by omega)) (And.intro a17 (And.intro a27 a37)))))
 clear k7 b7 o7 a17 a27 a37 w7 k4 b5 o5 a1' a2' a3' q0'
 go_wp
 clear u0 u1 u2 u3 u4 u5 u6 v0 v1 v2 v3 v4 v5 v6 zf
 generalize hv:(((((((x2.setCell ⟨w.heap.size,0,O⟩ (P aL c.l.length cL)).setCell ⟨w.heap.size,1,O⟩ (I Q c.lo)).setCell ⟨w.heap.size,2,O⟩ (I Q c.un)).setCell ⟨w.heap.size,3,O⟩ (P (Z ⟨yb,0,O⟩) 2 2)).setCell ⟨w.heap.size,4,O⟩ (P (Z ⟨yb+1,0,O⟩) 2 2)).setCell ⟨w.heap.size,5,O⟩ (I Q 0)).setCell ⟨w.heap.size,6,O⟩ (P (Z ⟨yb+1+1,0,O⟩) N N))=x9
 replace hv:mr x2 w.heap.size (P aL c.l.length cL) (I Q c.lo) (I Q c.un) (P (Z ⟨yb,0,O⟩) 2 2) (P (Z ⟨yb+1,0,O⟩) 2 2) (I Q 0) (P (Z ⟨yb+1+1,0,O⟩) N N)=x9:=hv
 rw[hv] at KK
 obtain⟨hq,b9,o9,k1,k2,k3⟩:=KK.out
 obtain⟨y0,y1,y2,y3,y4,y5,y6⟩:=hq.Bg
 exact bodyPost_ret (v:=.tuple #[.agg #[P aL c.l.length cL,I Q c.lo,I Q c.un,P (Z ⟨yb,0,O⟩) 2 2,P (Z ⟨yb+1,0,O⟩) 2 2,I Q 0,P (Z ⟨yb+1+1,0,O⟩) N N],.bool true]) (by simp[results,Tryz.results9,go_sem,y0,y1,y2,y3,y4,y5,y6]) rfl ⟨_,rfl,⟨_,_,2,_,2,_,N,by rw[show (yN N).length=N from List.length_replicate];rfl,o9,iF k1,iF k2,kN k3,by simp[maxLen],by simp[maxLen],by rw[show (yN N).length=N from List.length_replicate];unfold maxLen;omega⟩,b9⟩
def rL (n:Nat):List UInt8:=[32,114]++Lib.decDigits n
theorem rR (n:Nat)(w:World)(hn:n<5000000000):Calls Tryz.prog 165 #[I Q n] w fun e w'=>e=.returned (.string ⟨(rL n).toArray⟩)/\Below w.heap.size w w':=by
 have HI:=U (tT n w hn)
 have hl:=cF n hn
 have hcat:=iL [32,114] (Lib.decDigits n) (by simp;omega)
 unfold rL
 generalize Lib.decDigits n=l at *
 go_enter Tryz.func165,Tryz.ntmps165
 go_wp2_with fail
 refine HI.out.mono ?_
 rintro e y ⟨rfl,hy⟩
 unfold bs
 go_wp2
 go_ret
 exact⟨rfl,hy⟩
theorem cP (n:Nat)(h:n<5000000000):(rL n).length<=40:=by
 have:=cF n h
 unfold rL
 simp
 omega
theorem DM (dn sn tn un an kn pn:Nat):af ⟨1,dn,sn,tn,un,an,kn,pn⟩=bM 1++((rL dn)++(32 :: Lib.decDigits kn)):=by
 simp[af,dh,aE,aY,bf,rL,aD]
theorem DL (dn sn tn un an kn pn:Nat):af ⟨2,dn,sn,tn,un,an,kn,pn⟩=bM 2++((rL dn)++(rL sn)):=by
 simp[af,dh,aE,aY,bf,rL,aD]
theorem DJ (dn sn tn un an kn pn:Nat):af ⟨3,dn,sn,tn,un,an,kn,pn⟩=bM 3++(((rL dn)++(rL sn))++(32 :: Lib.decDigits kn)):=by
 simp[af,dh,aE,aY,bf,rL,aD]
theorem DI (dn sn tn un an kn pn:Nat):af ⟨4,dn,sn,tn,un,an,kn,pn⟩=bM 4++(((rL dn)++(rL sn))++(32 :: Lib.decDigits kn)):=by
 simp[af,dh,aE,aY,bf,rL,aD]
theorem DH (dn sn tn un an kn pn:Nat):af ⟨5,dn,sn,tn,un,an,kn,pn⟩=bM 5++(((rL dn)++(rL sn))++(32 :: Lib.decDigits kn)):=by
 simp[af,dh,aE,aY,bf,rL,aD]
theorem DG (dn sn tn un an kn pn:Nat):af ⟨6,dn,sn,tn,un,an,kn,pn⟩=bM 6++(((rL dn)++(rL sn))++(32 :: Lib.decDigits kn)):=by
 simp[af,dh,aE,aY,bf,rL,aD]
theorem DF (dn sn tn un an kn pn:Nat):af ⟨7,dn,sn,tn,un,an,kn,pn⟩=bM 7++(((rL dn)++(rL sn))++(rL tn)):=by
 simp[af,dh,aE,aY,bf,rL,aD]
theorem DE (dn sn tn un an kn pn:Nat):af ⟨8,dn,sn,tn,un,an,kn,pn⟩=bM 8++(((rL sn)++(rL tn))++(32 :: Lib.decDigits pn)):=by
 simp[af,dh,aE,aY,bf,rL,aD]
theorem DD (dn sn tn un an kn pn:Nat):af ⟨9,dn,sn,tn,un,an,kn,pn⟩=bM 9++(((rL sn)++(rL tn))++(32 :: Lib.decDigits pn)):=by
 simp[af,dh,aE,aY,bf,rL,aD]
theorem Cd (dn sn tn un an kn pn:Nat):af ⟨10,dn,sn,tn,un,an,kn,pn⟩=bM 10++(32 :: Lib.decDigits pn):=by
 simp[af,dh,aE,aY,bf,aD]
theorem Cc (dn sn tn un an kn pn:Nat):af ⟨11,dn,sn,tn,un,an,kn,pn⟩=bM 11++(rL dn):=by
 simp[af,dh,aE,aY,bf,rL,aD]
theorem B2 (dn sn tn un an kn pn:Nat):af ⟨22,dn,sn,tn,un,an,kn,pn⟩=bM 22++(rL dn):=by
 simp[af,dh,aE,aY,bf,rL,aD]
theorem Ca (dn sn tn un an kn pn:Nat):af ⟨12,dn,sn,tn,un,an,kn,pn⟩=bM 12++(32 :: Lib.decDigits kn):=by
 simp[af,dh,aE,aY,bf,aD]
theorem B9 (dn sn tn un an kn pn:Nat):af ⟨13,dn,sn,tn,un,an,kn,pn⟩=bM 13++(32 :: Lib.decDigits kn):=by
 simp[af,dh,aE,aY,bf,aD]
theorem B8 (dn sn tn un an kn pn:Nat):af ⟨16,dn,sn,tn,un,an,kn,pn⟩=bM 16++(((rL dn)++(32 :: Lib.decDigits an))++(rL sn)):=by
 simp[af,dh,aE,aY,bf,rL,aD]
theorem B7 (dn sn tn un an kn pn:Nat):af ⟨17,dn,sn,tn,un,an,kn,pn⟩=bM 17++(((32 :: Lib.decDigits an)++(rL sn))++(rL tn)):=by
 simp[af,dh,aE,aY,bf,rL,aD]
theorem B6 (dn sn tn un an kn pn:Nat):af ⟨18,dn,sn,tn,un,an,kn,pn⟩=bM 18++((((rL dn)++(32 :: Lib.decDigits an))++(rL sn))++(rL tn)):=by
 simp[af,dh,aE,aY,bf,rL,aD]
theorem B4 (dn sn tn un an kn pn:Nat):af ⟨19,dn,sn,tn,un,an,kn,pn⟩=bM 19++(((((rL dn)++(32 :: Lib.decDigits an))++(rL sn))++(rL tn))++(rL un)):=by
 simp[af,dh,aE,aY,bf,rL,aD]
theorem B3 (dn sn tn un an kn pn:Nat):af ⟨20,dn,sn,tn,un,an,kn,pn⟩=bM 20++((((rL dn)++(32 :: Lib.decDigits an))++(rL sn))++(32 :: Lib.decDigits kn)):=by
 simp[af,dh,aE,aY,bf,rL,aD]
theorem B1 (dn sn tn un an kn pn:Nat):af ⟨23,dn,sn,tn,un,an,kn,pn⟩=bM 23++(rL sn):=by
 simp[af,dh,aE,aY,bf,rL,aD]
theorem rX (i:aJ)(p:Int)(h:bM i.op=[]):au i p=V:=by
 obtain⟨op,d,s,t,u,a,k,pl⟩:=i
 simp only at h
 rcases co op with rfl|rfl|rfl|rfl|rfl|rfl|rfl|rfl|rfl|rfl|rfl|rfl|rfl|rfl|rfl|rfl|rfl|rfl|rfl|rfl|rfl | hn
 rotate_right
 ·unfold au
  rw[(dw hn).1]
  rfl
 all_goals (simp[bM] at h)
theorem sb (op d s t u a k pl p:Int)(hnm:bM op=[])(w:World):
 Calls Tryz.prog 66 #[iv ⟨op,d,s,t,u,a,k,pl⟩,I Q p] w fun e w'=>e=.returned (.bool V)/\Below w.heap.size w w':=by
 have HN:=U (fun W=>fb op W)
 rw[hnm] at HN
 clear hnm
 unfold iv
 go_enter Tryz.func66,Tryz.ntmps66
 go_wp2_with fail
 refine(HN.out _).mono ?_
 rintro e x ⟨rfl,hx⟩
 obtain⟨hJ,hb⟩:=fH hx
 clear hx
 unfold bs
 go_wp2
 go_ret
 exact⟨rfl,hb⟩
theorem sf (op d s t u a k pl p:Int)(hnm:(bM op).isEmpty=V)  (hbad:d<0\/7<d)(w:World):
 Calls Tryz.prog 66 #[iv ⟨op,d,s,t,u,a,k,pl⟩,I Q p] w fun e w'=>e=.returned (.bool V)/\Below w.heap.size w w':=by
 have HN:=U (fun W=>fb op W)
 generalize bM op=nm at *
 unfold iv
 go_enter Tryz.func66,Tryz.ntmps66
 go_wp2_with fail
 refine(HN.out _).mono ?_
 rintro e x ⟨rfl,hx⟩
 obtain⟨hJ,hb⟩:=fH hx
 clear hx
 have hlt:w.heap.size<x.heap.size:=Bk.lt hJ
 have hne:w.heap.size≠x.heap.size:=Nat.ne_of_lt hlt
 obtain⟨c0,c1,c2,c3,c4,c5,c6,c7⟩:=hJ.cells
 simp only at c0 c1 c2 c3 c4 c5 c6 c7
 unfold bs
 go_wp2_with fail
 refine(nn d hbad _).mono ?_
 rintro e w' ⟨rfl,rfl⟩
 go_wp2
 go_ret
 exact⟨rfl,hb⟩
theorem se (op d s t u a k pl p:Int)(hnm:(bM op).isEmpty=V)(hd:0<=d/\d<=7)(hbad:s<0\/7<s)(w:World):
 Calls Tryz.prog 66 #[iv ⟨op,d,s,t,u,a,k,pl⟩,I Q p] w fun e w'=>e=.returned (.bool V)/\Below w.heap.size w w':=by
 have HN:=U (fun W=>fb op W)
 generalize bM op=nm at *
 unfold iv
 go_enter Tryz.func66,Tryz.ntmps66
 go_wp2_with fail
 refine(HN.out _).mono ?_
 rintro e x ⟨rfl,hx⟩
 obtain⟨hJ,hb⟩:=fH hx
 clear hx
 have hlt:w.heap.size<x.heap.size:=Bk.lt hJ
 have hne:w.heap.size≠x.heap.size:=Nat.ne_of_lt hlt
 obtain⟨c0,c1,c2,c3,c4,c5,c6,c7⟩:=hJ.cells
 simp only at c0 c1 c2 c3 c4 c5 c6 c7
 unfold bs
 go_wp2_with fail
 refine(du d hd.1 hd.2 _).mono ?_
 rintro e w' ⟨rfl,rfl⟩
 go_wp2_with fail
 refine(nn s hbad _).mono ?_
 rintro e w' ⟨rfl,rfl⟩
 go_wp2
 go_ret
 exact⟨rfl,hb⟩
theorem sd (op d s t u a k pl p:Int)(hnm:(bM op).isEmpty=V)(hd:0<=d/\d<=7)(hs:0<=s/\s<=7)(hbad:t<0\/7<t)(w:World):
 Calls Tryz.prog 66 #[iv ⟨op,d,s,t,u,a,k,pl⟩,I Q p] w fun e w'=>e=.returned (.bool V)/\Below w.heap.size w w':=by
 have HN:=U (fun W=>fb op W)
 generalize bM op=nm at *
 unfold iv
 go_enter Tryz.func66,Tryz.ntmps66
 go_wp2_with fail
 refine(HN.out _).mono ?_
 rintro e x ⟨rfl,hx⟩
 obtain⟨hJ,hb⟩:=fH hx
 clear hx
 have hlt:w.heap.size<x.heap.size:=Bk.lt hJ
 have hne:w.heap.size≠x.heap.size:=Nat.ne_of_lt hlt
 obtain⟨c0,c1,c2,c3,c4,c5,c6,c7⟩:=hJ.cells
 simp only at c0 c1 c2 c3 c4 c5 c6 c7
 unfold bs
 go_wp2_with fail
 refine(du d hd.1 hd.2 _).mono ?_
 rintro e w' ⟨rfl,rfl⟩
 go_wp2_with fail
 refine(du s hs.1 hs.2 _).mono ?_
 rintro e w' ⟨rfl,rfl⟩
 go_wp2_with fail
 refine(nn t hbad _).mono ?_
 rintro e w' ⟨rfl,rfl⟩
 go_wp2
 go_ret
 exact⟨rfl,hb⟩
theorem sc (op d s t u a k pl p:Int)(hnm:(bM op).isEmpty=V)(hd:0<=d/\d<=7)(hs:0<=s/\s<=7)(ht:0<=t/\t<=7)(hbad:u<0\/7<u)(w:World):
 Calls Tryz.prog 66 #[iv ⟨op,d,s,t,u,a,k,pl⟩,I Q p] w fun e w'=>e=.returned (.bool V)/\Below w.heap.size w w':=by
 have HN:=U (fun W=>fb op W)
 generalize bM op=nm at *
 unfold iv
 go_enter Tryz.func66,Tryz.ntmps66
 go_wp2_with fail
 refine(HN.out _).mono ?_
 rintro e x ⟨rfl,hx⟩
 obtain⟨hJ,hb⟩:=fH hx
 clear hx
 have hlt:w.heap.size<x.heap.size:=Bk.lt hJ
 have hne:w.heap.size≠x.heap.size:=Nat.ne_of_lt hlt
 obtain⟨c0,c1,c2,c3,c4,c5,c6,c7⟩:=hJ.cells
 simp only at c0 c1 c2 c3 c4 c5 c6 c7
 unfold bs
 go_wp2_with fail
 refine(du d hd.1 hd.2 _).mono ?_
 rintro e w' ⟨rfl,rfl⟩
 go_wp2_with fail
 refine(du s hs.1 hs.2 _).mono ?_
 rintro e w' ⟨rfl,rfl⟩
 go_wp2_with fail
 refine(du t ht.1 ht.2 _).mono ?_
 rintro e w' ⟨rfl,rfl⟩
 go_wp2_with fail
 refine(nn u hbad _).mono ?_
 rintro e w' ⟨rfl,rfl⟩
 go_wp2
 go_ret
 exact⟨rfl,hb⟩
theorem sg (op d s t u a k pl p:Int)(hnm:(bM op).isEmpty=V)(hd:0<=d/\d<=7)(hs:0<=s/\s<=7)(ht:0<=t/\t<=7)(hu:0<=u/\u<=7)(hbad:a<0\/7<a)(w:World):
 Calls Tryz.prog 66 #[iv ⟨op,d,s,t,u,a,k,pl⟩,I Q p] w fun e w'=>e=.returned (.bool V)/\Below w.heap.size w w':=by
 have HN:=U (fun W=>fb op W)
 generalize bM op=nm at *
 unfold iv
 go_enter Tryz.func66,Tryz.ntmps66
 go_wp2_with fail
 refine(HN.out _).mono ?_
 rintro e x ⟨rfl,hx⟩
 obtain⟨hJ,hb⟩:=fH hx
 clear hx
 have hlt:w.heap.size<x.heap.size:=Bk.lt hJ
 have hne:w.heap.size≠x.heap.size:=Nat.ne_of_lt hlt
 obtain⟨c0,c1,c2,c3,c4,c5,c6,c7⟩:=hJ.cells
 simp only at c0 c1 c2 c3 c4 c5 c6 c7
 unfold bs
 go_wp2_with fail
 refine(du d hd.1 hd.2 _).mono ?_
 rintro e w' ⟨rfl,rfl⟩
 go_wp2_with fail
 refine(du s hs.1 hs.2 _).mono ?_
 rintro e w' ⟨rfl,rfl⟩
 go_wp2_with fail
 refine(du t ht.1 ht.2 _).mono ?_
 rintro e w' ⟨rfl,rfl⟩
 go_wp2_with fail
 refine(du u hu.1 hu.2 _).mono ?_
 rintro e w' ⟨rfl,rfl⟩
 go_wp2_with fail
 refine(nn a hbad _).mono ?_
 rintro e w' ⟨rfl,rfl⟩
 go_wp2
 go_ret
 exact⟨rfl,hb⟩
theorem Co (i:aJ)(p:Int)(k0:0<=i.k)(k1:i.k<4294967296)(w:World):
 Calls Tryz.prog 66 #[iv i,I Q p] w fun e w'=>e=.returned (.bool (au i p))/\Below w.heap.size w w':=by
 by_cases hnm:bM i.op=[]
 ·rw[rX i p hnm]
  exact sb i.op i.d i.s i.t i.u i.a i.k i.pl p hnm w
 have hne:(bM i.op).isEmpty=V:=by simpa using hnm
 have no:¬ ((0<=i.d/\i.d<=7)/\(0<=i.s/\i.s<=7)/\(0<=i.t/\i.t<=7)/\(0<=i.u/\i.u<=7)/\(0<=i.a/\i.a<=7))->au i p=V:=by
  intro h
  rw[Bool.eq_false_iff]
  exact fun e=>h (eA i p e)
 obtain⟨op,d,s,t,u,a,k,pl⟩:=i
 simp only at k0 k1 hnm hne no
 by_cases hd:0<=d/\d<=7
 ·by_cases hs:0<=s/\s<=7
  ·by_cases ht:0<=t/\t<=7
   ·by_cases hu:0<=u/\u<=7
    ·by_cases ha:0<=a/\a<=7
     ·clear no
      by_cases hrRightA:op=1\/op=10\/op=11\/op=22\/op=12\/op=13\/op=23
      ·exact Ao op d s t u a k pl p hrRightA ⟨hd,hs,ht,hu,ha⟩ k0 k1 w
      by_cases hrRightC:op=2\/op=3\/op=4\/op=7
      ·exact Am op d s t u a k pl p hrRightC ⟨hd,hs,ht,hu,ha⟩ k0 k1 w
      by_cases hrRightD:op=5\/op=6\/op=8\/op=9
      ·exact Al op d s t u a k pl p hrRightD ⟨hd,hs,ht,hu,ha⟩ k0 k1 w
      by_cases hrRightF:op=16\/op=18
      ·exact Ak op d s t u a k pl p hrRightF ⟨hd,hs,ht,hu,ha⟩ k0 k1 w
      by_cases hrRightG:op=17\/op=19
      ·exact Aj op d s t u a k pl p hrRightG ⟨hd,hs,ht,hu,ha⟩ k0 k1 w
      by_cases hrRightB:op=20\/op=21
      ·exact An op d s t u a k pl p hrRightB ⟨hd,hs,ht,hu,ha⟩ k0 k1 w
      exfalso;apply hnm;exact(dw (by omega)).2
     ·rw[no (by omega)];exact sg op d s t u a k pl p hne hd hs ht hu (by omega) w
    ·rw[no (by omega)];exact sc op d s t u a k pl p hne hd hs ht (by omega) w
   ·rw[no (by omega)];exact sd op d s t u a k pl p hne hd hs (by omega) w
  ·rw[no (by omega)];exact se op d s t u a k pl p hne hd (by omega) w
 ·rw[no (by omega)];exact sf op d s t u a k pl p hne (by omega) w
structure RM where
 fv:Value
 gv:Value
 ov:Value
 vs:Nat->Value
def RM.Has (R:RM)(n i:Nat):Prop:=R.fv.ownBlock=Z i\/R.gv.ownBlock=Z i\/R.ov.ownBlock=Z i\/∃ t,t<n/\(R.vs t).ownBlock=Z i
def mt (l:List Nat):List Int:=l.map fun(q:Nat)=>((q:Nat):Int)+1
structure Rf (w:World)(x n each:Nat)(R:RM)(free:Nat->List Nat)(gen out:List Int):Prop where
 ptr:Bk w x 160 #[I Q each,R.fv,R.gv,R.ov]
 row:pP 26 w R.fv ((List.range n).map R.vs)
 gens:eG .i64 3 w R.gv gen
 outs:eG .i64 3 w R.ov out
 frees:∀ t,t<n->Fs w (R.vs t) (mt (free t))
 go:∀ g,R.gv.ownBlock=Z g->R.ov.ownBlock≠Z g
 vg:∀ t g,t<n->(R.vs t).ownBlock=Z g->R.gv.ownBlock≠Z g
 vo:∀ t g,t<n->(R.vs t).ownBlock=Z g->R.ov.ownBlock≠Z g
 vv:∀ s t g,s<n->t<n->s≠t->(R.vs s).ownBlock=Z g->(R.vs t).ownBlock≠Z g
section
variable {w w':World}{x n each:Nat}{R:RM}{free:Nat->List Nat}{gen out:List Int}
theorem Rf.lt (h:Rf w x n each R free gen out){i:Nat}(k:R.Has n i):i<w.heap.size:=by
 rcases k with e | e | e | ⟨t,ht,e⟩
 ·exact h.row.lt e
 ·exact h.gens.lt e
 ·exact h.outs.lt e
 ·exact(h.frees t ht).lt e
theorem Rf.kept {S:Nat->Prop}(h:Rf w x n each R free gen out)(k:ab w w' S)(h1:¬ S x)(h2:∀ i,R.Has n i->¬ S i):Rf w' x n each R free gen out:=
 ⟨h.ptr.within k h1,h.row.within k (fun g e=>h2 g (.inl e)),h.gens.within k (fun g e=>h2 g (.inr (.inl e))),h.outs.within k (fun g e=>h2 g (.inr (.inr (.inl e)))),
  fun t ht=>(h.frees t ht).within k (fun g e=>h2 g (.inr (.inr (.inr ⟨t,ht,e⟩)))),h.go,h.vg,h.vo,h.vv⟩
theorem Rf.grown (h:Rf w x n each R free gen out)(k:w.grownBy w' O):Rf w' x n each R free gen out:=h.kept (S:=fun _=>False) (.ay k (by simp)) (by simp) (by simp)
theorem Rf.drewN (h:Rf w x n each R free gen out)(m:Nat):Rf (w.drewN m) x n each R free gen out:=h.kept (S:=fun _=>False) ((ab.refl _ _).ef m) (by simp) (by simp)
theorem Rf.c0 (h:Rf w x n each R free gen out):w.cell? ⟨x,0,O⟩=Z (I Q each):=by rw[h.ptr.cell];rfl
theorem Rf.c1 (h:Rf w x n each R free gen out):w.cell? ⟨x,1,O⟩=Z R.fv:=by rw[h.ptr.cell];rfl
theorem Rf.c2 (h:Rf w x n each R free gen out):w.cell? ⟨x,2,O⟩=Z R.gv:=by rw[h.ptr.cell];rfl
theorem Rf.c3 (h:Rf w x n each R free gen out):w.cell? ⟨x,3,O⟩=Z R.ov:=by rw[h.ptr.cell];rfl
theorem Rf.Fb (h:Rf w x n each R free gen out)(hn:1<=n):∃ g cap,R.fv=P (Z ⟨g,0,O⟩) n cap/\n<=cap/\cap<=maxLen/\(∀ i,w.frozen? ⟨g,i,O⟩=V)/\∀ t,t<n->w.cell? ⟨g,t,O⟩=Z (R.vs t):=by
 obtain⟨a,cap,e,h1,h2,h3⟩:=h.row.is
 simp only[List.length_map,List.length_range] at e h1 h3
 obtain⟨g,rfl,_,hf,hc⟩:=h3 hn
 refine⟨g,cap,e,h1,h2,hf,fun t ht=>?_⟩
 rcases hc t with hc | hc
 ·rw[hc];simp[ht]
 ·omega
end
