import Derived.Test.YthdgehcghklflaaGreatDoorRTkC
import Derived.Test.YthdgehcghklflaaGreatDoorRRefP
import Derived.Test.YthdgehcghklflaaGreatDoorRInstC
import Derived.Test.YthdgehcghklflaaGreatDoorRPrgM
import Derived.Test.YthdgehcghklflaaGreatDoorRInstSA
import Derived.Test.YthdgehcghklflaaGreatDoorRInstSB
import Derived.Test.YthdgehcghklflaaGreatDoorRInstSC
import Derived.Test.YthdgehcghklflaaGreatDoorRInstSD
import Derived.Test.YthdgehcghklflaaGreatDoorRInstSF
import Derived.Test.YthdgehcghklflaaGreatDoorRInstSG
import Derived.Test.YthdgehcghklflaaGreatDoorRPoolRefE
import Derived.Deep.RegionLaw
import Derived.Laws.IdiomStrings
set_option linter.unusedVariables false
set_option maxHeartbeats 4000000
set_option maxRecDepth 100000
open Go.Value renaming int->I,slice->P
open Go.IntKind renaming i64->Q
open Option renaming none->O,some->Z
open Bool renaming false->V
open Go.Obj renaming cells->S
open Go.Lib renaming hid->T
open Go.RowKit.Below renaming refl->U
open Nat renaming le_refl->K
namespace Go.Proofs.YthdgehcghklflaaGreatDoor
open Go.ChangeShapes Go.WideShapes Go.ChangeAt Go.RowKit
def Dn (w:World)(e:Ending)(w':World):Prop:=∃ sl,e=.returned (.tuple #[.agg #[sl,I Q dD.lo,I Q dD.un],I Q 0,I Q 0])/\w'.ownsRow w.heap.size 125 8 sl dD.l.length (bq dD.l)/\Below w.heap.size w w'
theorem xQ (w:World):Calls Tryz.prog 14 #[] w fun e w'=>e=.returned (bs fB)/\w=w':=by
 go_enter Tryz.func14,Tryz.ntmps14
 go_wp2
 go_ret
 exact⟨rfl,rfl⟩
theorem CB (N:Nat)(st:Int)(w:World)(h1:1<=N)(h64:N<=64)(h0:0<=st)(h2:st<4294967296)(HA:∀ W,Calls Tryz.prog 28 #[bs fB] W (Dn W)):
 Calls Tryz.prog 9 #[I Q N,I .u32 st] w fun e w'=>∃ v,e=.returned (.tuple #[v,.bool true])/\Rv w.heap.size w' v dD [1,1] [st,st] (qM N) 0/\Below w.heap.size w w':=by
 have HAA:=T HA
 have HT:=T (fun W=>xQ W)
 unfold Dn at HAA
 generalize dD=c at *
 generalize bs fB=tx at *
 have hmk:=fun W:World=>ot N (by omega) W
 have hb1:Below w.heap.size w (w.alloc (S #[P O 0 0,I Q 0,I Q 0,P O 0 0,P O 0 0,I Q 0,P O 0 0] 37)):=(U _ _).alloc (K _) _
 have q0:=Bk.made w 37 #[P O 0 0,I Q 0,I Q 0,P O 0 0,P O 0 0,I Q 0,P O 0 0]
 clear HA
 go_enter Tryz.func9,Tryz.ntmps9
 go_upto_region 3 with fail
 generalize w.alloc (S #[P O 0 0,I Q 0,I Q 0,P O 0 0,P O 0 0,I Q 0,P O 0 0] 37)=y at *
 have hq0:=Bk.lt q0
 go_upto_region 4 with fail
 obtain⟨yb,hyb⟩:∃ yb,y.heap.size=yb:=⟨_,rfl⟩
 rw[hyb]
 have a1:=Bk.made y 3 #[I Q 1,I Q 1]
 generalize ez1:y.alloc (S #[I Q 1,I Q 1] 3)=z1 at *
 have s1:z1.heap.size=yb+1:=by rw[<-ez1,World.size_alloc,hyb]
 have bz1:Below y.heap.size y z1:=by rw[<-ez1];exact(U _ _).alloc (K _) _
 have a2:=Bk.made z1 22 #[I .u32 st,I .u32 st]
 generalize ez2:z1.alloc (S #[I .u32 st,I .u32 st] 22)=z2 at *
 have s2:z2.heap.size=yb+1+1:=by rw[<-ez2,World.size_alloc,s1]
 have bz2:Below z1.heap.size z1 z2:=by rw[<-ez2];exact(U _ _).alloc (K _) _
 have a3:=Bk.made z2 22 (madeCells #[I .u32 0] N)
 generalize ez3:z2.alloc (S (madeCells #[I .u32 0] N) 22)=z3 at *
 have s3:z3.heap.size=yb+1+1+1:=by rw[<-ez3,World.size_alloc,s2]
 have bz3:Below z2.heap.size z2 z3:=by rw[<-ez3];exact(U _ _).alloc (K _) _
 have a4:=Bk.made z3 37 #[P O 0 0,I Q 0,I Q 0,P (Z ⟨yb,0,O⟩) 2 2,P (Z ⟨yb+1,0,O⟩) 2 2,I Q 0,P (Z ⟨yb+1+1,0,O⟩) N N]
 generalize ez4:z3.alloc (S #[P O 0 0,I Q 0,I Q 0,P (Z ⟨yb,0,O⟩) 2 2,P (Z ⟨yb+1,0,O⟩) 2 2,I Q 0,P (Z ⟨yb+1+1,0,O⟩) N N] 37)=z4 at *
 have bz4:Below z3.heap.size z3 z4:=by rw[<-ez4];exact(U _ _).alloc (K _) _
 rw[hyb] at a1
 rw[s1] at a2
 rw[s2] at a3
 rw[s3] at a4
 have c34:=bz4
 have c24:=bz3.trans (c34.mono bz3.size)
 have c14:=bz2.trans (c24.mono bz2.size)
 have c04:=bz1.trans (c14.mono bz1.size)
 replace a1:=(c14.block _ (by rw[s1];omega)).trans a1
 replace a2:=(c24.block _ (by rw[s2];omega)).trans a2
 replace a3:=(c34.block _ (by rw[s3];omega)).trans a3
 have b4:=hb1.trans (c04.mono hb1.size)
 replace q0:Bk z4 w.heap.size 37 #[P O 0 0,I Q 0,I Q 0,P O 0 0,P O 0 0,I Q 0,P O 0 0]:=(c04.block _ (Bk.lt q0)).trans q0
 have hlt:w.heap.size<yb:=by rw[<-hyb];exact hq0
 clear bz1 bz2 bz3 bz4 c34 c24 c14 c04 s1 s2 ez1 ez2 ez3 ez4
 have KA:=T (And.intro a1 (And.intro a2 (And.intro a3 (And.intro a4 (And.intro q0 b4)))))
 have HLT:=T hlt
 have HS3:=T s3
 clear a1 a2 a3 a4 q0 b4 hb1 hmk hyb hlt hq0 s3
 go_wp2_with fail
 refine(HT.out _).mono ?_
 rintro e z0 ⟨rfl,rfl⟩
 go_wp2_with fail
 refine(HAA.out _).mono ?_
 rintro e z ⟨sl,rfl,hO,hz⟩
 obtain⟨aL,cL,rfl,-⟩:=aY hO
 have HZ:=T (And.intro hO hz)
 clear hO hz HAA HT
 go_upto_region 5 with fail
 have hlt:=HLT.out
 obtain⟨hO,hz⟩:=HZ.out
 obtain⟨a1,a2,a3,a4,q0,b4⟩:=KA.out
 have q5:=Bk.made z 35 #[P aL c.l.length cL,I Q c.lo,I Q c.un]
 have hza:Below z.heap.size z (z.alloc (S #[P aL c.l.length cL,I Q c.lo,I Q c.un] 35)):=(U _ _).alloc (K _) _
 have hO2:=dj hO hza
 have hzz:=hz.trans (hza.mono hz.size)
 have hsz4:=hz.size
 have lt4:=Bk.lt a4
 obtain⟨zb,hzb⟩:∃ zb,z.heap.size=zb:=⟨_,rfl⟩
 rw[hzb] at q5
 rw[hzb]
 generalize z.alloc (S #[P aL c.l.length cL,I Q c.lo,I Q c.un] 35)=x at *
 replace a1:Bk x yb 3 #[I Q 1,I Q 1]:=(hzz.block _ (Bk.lt a1)).trans a1
 replace a2:Bk x (yb+1) 22 #[I .u32 st,I .u32 st]:=(hzz.block _ (Bk.lt a2)).trans a2
 replace a3:Bk x (yb+1+1) 22 (madeCells #[I .u32 0] N):=(hzz.block _ (Bk.lt a3)).trans a3
 replace a4:Bk x (yb+1+1+1) 37 #[P O 0 0,I Q 0,I Q 0,P (Z ⟨yb,0,O⟩) 2 2,P (Z ⟨yb+1,0,O⟩) 2 2,I Q 0,P (Z ⟨yb+1+1,0,O⟩) N N]:=(hzz.block _ (Bk.lt a4)).trans a4
 replace q0:Bk x w.heap.size 37 #[P O 0 0,I Q 0,I Q 0,P O 0 0,P O 0 0,I Q 0,P O 0 0]:=(hzz.block _ (Bk.lt q0)).trans q0
 replace b4:=b4.trans (hzz.mono b4.size)
 have hne:yb+1+1+1≠zb:=by omega
 clear hza hzz hz hO KA HZ
 -- the code is put into the spec
 obtain⟨y0,y1,y2⟩:=q5.iL
 obtain⟨u0,u1,u2⟩:=a4.iL
 have zf:=Bk.free a4
 have w3:ag x (du x (yb+1+1+1) (P aL c.l.length cL) (I Q c.lo) (I Q c.un)) (fun i=>i=yb+1+1+1):=(((ag.refl x (fun i=>i=yb+1+1+1)).put _ 0 _ (.inl rfl)).put _ 1 _ (.inl rfl)).put _ 2 _ (.inl rfl)
 have k4:Bk (du x (yb+1+1+1) (P aL c.l.length cL) (I Q c.lo) (I Q c.un)) (yb+1+1+1) 37 #[P aL c.l.length cL,I Q c.lo,I Q c.un,P (Z ⟨yb,0,O⟩) 2 2,P (Z ⟨yb+1,0,O⟩) 2 2,I Q 0,P (Z ⟨yb+1+1,0,O⟩) N N]:=by
  have h8:=((a4.put 0 (P aL c.l.length cL)).put 1 (I Q c.lo)).put 2 (I Q c.un)
  unfold du
  simpa only[List.setIfInBounds_toArray,List.set_cons_zero,List.set_cons_succ] using h8
 have b5:=bH b4 (show w.heap.size<=yb+1+1+1 by omega) (P aL c.l.length cL) (I Q c.lo) (I Q c.un)
 have o5:=gH hO2 w3 a4 (by decide)
 have a1':=a1.within w3 (Bk.av a1 a4 (by decide))
 have a2':=a2.within w3 (Bk.av a2 a4 (by decide))
 have a3':=a3.within w3 (Bk.av a3 a4 (by decide))
 have q0':=q0.within w3 (show ¬ w.heap.size=yb+1+1+1 by omega)
 clear q5 a1 a2 a3 a4 q0 b4 hO2 w3
 go_upto_region 6 with fail
 clear y0 y1 y2 u0 u1 u2 zf
 generalize hv:((x.setCell ⟨yb+1+1+1,0,O⟩ (P aL c.l.length cL)).setCell ⟨yb+1+1+1,1,O⟩ (I Q c.lo)).setCell ⟨yb+1+1+1,2,O⟩ (I Q c.un)=x2
 replace hv:du x (yb+1+1+1) (P aL c.l.length cL) (I Q c.lo) (I Q c.un)=x2:=hv
 rw[hv] at k4 b5 o5 a1' a2' a3' q0'
 clear hv
 obtain⟨u0,u1,u2,u3,u4,u5,u6⟩:=k4.pO
 obtain⟨v0,v1,v2,v3,v4,v5,v6⟩:=q0'.pO
 have zf:=Bk.free q0'
 have w7:=gb (y:=x2) (g:=w.heap.size) (P aL c.l.length cL) (I Q c.lo) (I Q c.un) (P (Z ⟨yb,0,O⟩) 2 2) (P (Z ⟨yb+1,0,O⟩) 2 2) (I Q 0) (P (Z ⟨yb+1+1,0,O⟩) N N)
 have k7:=jP q0' (P aL c.l.length cL) (I Q c.lo) (I Q c.un) (P (Z ⟨yb,0,O⟩) 2 2) (P (Z ⟨yb+1,0,O⟩) 2 2) (I Q 0) (P (Z ⟨yb+1+1,0,O⟩) N N)
 have b7:=fM b5 (K _) (P aL c.l.length cL) (I Q c.lo) (I Q c.un) (P (Z ⟨yb,0,O⟩) 2 2) (P (Z ⟨yb+1,0,O⟩) 2 2) (I Q 0) (P (Z ⟨yb+1+1,0,O⟩) N N)
 have o7:=gH o5 w7 q0' (by decide)
 have a17:=a1'.within w7 (Bk.av a1' q0' (by decide))
 have a27:=a2'.within w7 (Bk.av a2' q0' (by decide))
 have a37:=a3'.within w7 (Bk.av a3' q0' (by decide))
 have hsz:w.heap.size<=z.heap.size:=by omega
 have KK:=T (And.intro k7 (And.intro b7 (And.intro (World.ownsRow.mono (base':=w.heap.size) o7 (by omega)) (And.intro a17 (And.intro a27 a37)))))
 clear k7 b7 o7 a17 a27 a37 w7 k4 b5 o5 a1' a2' a3' q0'
 go_wp
 clear u0 u1 u2 u3 u4 u5 u6 v0 v1 v2 v3 v4 v5 v6 zf
 generalize hv:(((((((x2.setCell ⟨w.heap.size,0,O⟩ (P aL c.l.length cL)).setCell ⟨w.heap.size,1,O⟩ (I Q c.lo)).setCell ⟨w.heap.size,2,O⟩ (I Q c.un)).setCell ⟨w.heap.size,3,O⟩ (P (Z ⟨yb,0,O⟩) 2 2)).setCell ⟨w.heap.size,4,O⟩ (P (Z ⟨yb+1,0,O⟩) 2 2)).setCell ⟨w.heap.size,5,O⟩ (I Q 0)).setCell ⟨w.heap.size,6,O⟩ (P (Z ⟨yb+1+1,0,O⟩) N N))=x9
 replace hv:mq x2 w.heap.size (P aL c.l.length cL) (I Q c.lo) (I Q c.un) (P (Z ⟨yb,0,O⟩) 2 2) (P (Z ⟨yb+1,0,O⟩) 2 2) (I Q 0) (P (Z ⟨yb+1+1,0,O⟩) N N)=x9:=hv
 rw[hv] at KK
 obtain⟨hq,b9,o9,k1,k2,k3⟩:=KK.out
 obtain⟨y0,y1,y2,y3,y4,y5,y6⟩:=hq.pO
 exact bodyPost_ret (v:=.tuple #[.agg #[P aL c.l.length cL,I Q c.lo,I Q c.un,P (Z ⟨yb,0,O⟩) 2 2,P (Z ⟨yb+1,0,O⟩) 2 2,I Q 0,P (Z ⟨yb+1+1,0,O⟩) N N],.bool true]) (by simp[results,Tryz.results9,go_sem,y0,y1,y2,y3,y4,y5,y6]) rfl ⟨_,rfl,⟨_,_,2,_,2,_,N,by rw[show (qM N).length=N from List.length_replicate];rfl,o9,iI k1,iI k2,kI k3,by simp[maxLen],by simp[maxLen],by rw[show (qM N).length=N from List.length_replicate];unfold maxLen;omega⟩,b9⟩
def rL (n:Nat):List UInt8:=[32,114]++Lib.decDigits n
theorem rR (n:Nat)(w:World)(hn:n<5000000000):Calls Tryz.prog 165 #[I Q n] w fun e w'=>e=.returned (.string ⟨(rL n).toArray⟩)/\Below w.heap.size w w':=by
 have HI:=T (ur n w hn)
 have hl:=cw n hn
 have hcat:=iP [32,114] (Lib.decDigits n) (by simp;omega)
 unfold rL
 generalize Lib.decDigits n=l at *
 go_enter Tryz.func165,Tryz.ntmps165
 go_wp2_with fail
 refine HI.out.mono ?_
 rintro e y ⟨rfl,hy⟩
 unfold bs
 go_wp2
 go_ret
 exact⟨rfl,hy⟩
theorem cO (n:Nat)(h:n<5000000000):(rL n).length<=40:=by
 have:=cw n h
 unfold rL
 simp
 omega
theorem DJ (dn sn tn un an kn pn:Nat):aj ⟨1,dn,sn,tn,un,an,kn,pn⟩=bF 1++((rL dn)++(32 :: Lib.decDigits kn)):=by
 simp[aj,db,aA,aX,ba,rL,az]
theorem DI (dn sn tn un an kn pn:Nat):aj ⟨2,dn,sn,tn,un,an,kn,pn⟩=bF 2++((rL dn)++(rL sn)):=by
 simp[aj,db,aA,aX,ba,rL,az]
theorem DH (dn sn tn un an kn pn:Nat):aj ⟨3,dn,sn,tn,un,an,kn,pn⟩=bF 3++(((rL dn)++(rL sn))++(32 :: Lib.decDigits kn)):=by
 simp[aj,db,aA,aX,ba,rL,az]
theorem DG (dn sn tn un an kn pn:Nat):aj ⟨4,dn,sn,tn,un,an,kn,pn⟩=bF 4++(((rL dn)++(rL sn))++(32 :: Lib.decDigits kn)):=by
 simp[aj,db,aA,aX,ba,rL,az]
theorem DF (dn sn tn un an kn pn:Nat):aj ⟨5,dn,sn,tn,un,an,kn,pn⟩=bF 5++(((rL dn)++(rL sn))++(32 :: Lib.decDigits kn)):=by
 simp[aj,db,aA,aX,ba,rL,az]
theorem DE (dn sn tn un an kn pn:Nat):aj ⟨6,dn,sn,tn,un,an,kn,pn⟩=bF 6++(((rL dn)++(rL sn))++(32 :: Lib.decDigits kn)):=by
 simp[aj,db,aA,aX,ba,rL,az]
theorem DD (dn sn tn un an kn pn:Nat):aj ⟨7,dn,sn,tn,un,an,kn,pn⟩=bF 7++(((rL dn)++(rL sn))++(rL tn)):=by
 simp[aj,db,aA,aX,ba,rL,az]
theorem DC (dn sn tn un an kn pn:Nat):aj ⟨8,dn,sn,tn,un,an,kn,pn⟩=bF 8++(((rL sn)++(rL tn))++(32 :: Lib.decDigits pn)):=by
 simp[aj,db,aA,aX,ba,rL,az]
theorem DB (dn sn tn un an kn pn:Nat):aj ⟨9,dn,sn,tn,un,an,kn,pn⟩=bF 9++(((rL sn)++(rL tn))++(32 :: Lib.decDigits pn)):=by
 simp[aj,db,aA,aX,ba,rL,az]
theorem Co (dn sn tn un an kn pn:Nat):aj ⟨10,dn,sn,tn,un,an,kn,pn⟩=bF 10++(32 :: Lib.decDigits pn):=by
 simp[aj,db,aA,aX,ba,az]
theorem Cn (dn sn tn un an kn pn:Nat):aj ⟨11,dn,sn,tn,un,an,kn,pn⟩=bF 11++(rL dn):=by
 simp[aj,db,aA,aX,ba,rL,az]
theorem Cf (dn sn tn un an kn pn:Nat):aj ⟨22,dn,sn,tn,un,an,kn,pn⟩=bF 22++(rL dn):=by
 simp[aj,db,aA,aX,ba,rL,az]
theorem Cm (dn sn tn un an kn pn:Nat):aj ⟨12,dn,sn,tn,un,an,kn,pn⟩=bF 12++(32 :: Lib.decDigits kn):=by
 simp[aj,db,aA,aX,ba,az]
theorem Cl (dn sn tn un an kn pn:Nat):aj ⟨13,dn,sn,tn,un,an,kn,pn⟩=bF 13++(32 :: Lib.decDigits kn):=by
 simp[aj,db,aA,aX,ba,az]
theorem Ck (dn sn tn un an kn pn:Nat):aj ⟨16,dn,sn,tn,un,an,kn,pn⟩=bF 16++(((rL dn)++(32 :: Lib.decDigits an))++(rL sn)):=by
 simp[aj,db,aA,aX,ba,rL,az]
theorem Cj (dn sn tn un an kn pn:Nat):aj ⟨17,dn,sn,tn,un,an,kn,pn⟩=bF 17++(((32 :: Lib.decDigits an)++(rL sn))++(rL tn)):=by
 simp[aj,db,aA,aX,ba,rL,az]
theorem Ci (dn sn tn un an kn pn:Nat):aj ⟨18,dn,sn,tn,un,an,kn,pn⟩=bF 18++((((rL dn)++(32 :: Lib.decDigits an))++(rL sn))++(rL tn)):=by
 simp[aj,db,aA,aX,ba,rL,az]
theorem Ch (dn sn tn un an kn pn:Nat):aj ⟨19,dn,sn,tn,un,an,kn,pn⟩=bF 19++(((((rL dn)++(32 :: Lib.decDigits an))++(rL sn))++(rL tn))++(rL un)):=by
 simp[aj,db,aA,aX,ba,rL,az]
theorem Cg (dn sn tn un an kn pn:Nat):aj ⟨20,dn,sn,tn,un,an,kn,pn⟩=bF 20++((((rL dn)++(32 :: Lib.decDigits an))++(rL sn))++(32 :: Lib.decDigits kn)):=by
 simp[aj,db,aA,aX,ba,rL,az]
theorem Ce (dn sn tn un an kn pn:Nat):aj ⟨23,dn,sn,tn,un,an,kn,pn⟩=bF 23++(rL sn):=by
 simp[aj,db,aA,aX,ba,rL,az]
theorem sA (i:aK)(p:Int)(h:bF i.op=[]):au i p=V:=by
 obtain⟨op,d,s,t,u,a,k,pl⟩:=i
 simp only at h
 rcases cj op with rfl|rfl|rfl|rfl|rfl|rfl|rfl|rfl|rfl|rfl|rfl|rfl|rfl|rfl|rfl|rfl|rfl|rfl|rfl|rfl|rfl | hn
 rotate_right
 ·unfold au
  rw[(dr hn).1]
  rfl
 all_goals (simp[bF] at h)
theorem sF (op d s t u a k pl p:Int)(hnm:bF op=[])(w:World):
 Calls Tryz.prog 66 #[iv ⟨op,d,s,t,u,a,k,pl⟩,I Q p] w fun e w'=>e=.returned (.bool V)/\Below w.heap.size w w':=by
 have HN:=T (fun W=>eY op W)
 rw[hnm] at HN
 clear hnm
 unfold iv
 go_enter Tryz.func66,Tryz.ntmps66
 go_wp2_with fail
 refine(HN.out _).mono ?_
 rintro e x ⟨rfl,hx⟩
 obtain⟨hJ,hb⟩:=fE hx
 clear hx
 unfold bs
 go_wp2
 go_ret
 exact⟨rfl,hb⟩
theorem sJ (op d s t u a k pl p:Int)(hnm:(bF op).isEmpty=V)  (hbad:d<0\/7<d)(w:World):
 Calls Tryz.prog 66 #[iv ⟨op,d,s,t,u,a,k,pl⟩,I Q p] w fun e w'=>e=.returned (.bool V)/\Below w.heap.size w w':=by
 have HN:=T (fun W=>eY op W)
 generalize bF op=nm at *
 unfold iv
 go_enter Tryz.func66,Tryz.ntmps66
 go_wp2_with fail
 refine(HN.out _).mono ?_
 rintro e x ⟨rfl,hx⟩
 obtain⟨hJ,hb⟩:=fE hx
 clear hx
 have hlt:w.heap.size<x.heap.size:=Bk.lt hJ
 have hne:w.heap.size≠x.heap.size:=Nat.ne_of_lt hlt
 obtain⟨c0,c1,c2,c3,c4,c5,c6,c7⟩:=hJ.cells
 simp only at c0 c1 c2 c3 c4 c5 c6 c7
 unfold bs
 go_wp2_with fail
 refine(ni d hbad _).mono ?_
 rintro e w' ⟨rfl,rfl⟩
 go_wp2
 go_ret
 exact⟨rfl,hb⟩
theorem sI (op d s t u a k pl p:Int)(hnm:(bF op).isEmpty=V)(hd:0<=d/\d<=7)(hbad:s<0\/7<s)(w:World):
 Calls Tryz.prog 66 #[iv ⟨op,d,s,t,u,a,k,pl⟩,I Q p] w fun e w'=>e=.returned (.bool V)/\Below w.heap.size w w':=by
 have HN:=T (fun W=>eY op W)
 generalize bF op=nm at *
 unfold iv
 go_enter Tryz.func66,Tryz.ntmps66
 go_wp2_with fail
 refine(HN.out _).mono ?_
 rintro e x ⟨rfl,hx⟩
 obtain⟨hJ,hb⟩:=fE hx
 clear hx
 have hlt:w.heap.size<x.heap.size:=Bk.lt hJ
 have hne:w.heap.size≠x.heap.size:=Nat.ne_of_lt hlt
 obtain⟨c0,c1,c2,c3,c4,c5,c6,c7⟩:=hJ.cells
 simp only at c0 c1 c2 c3 c4 c5 c6 c7
 unfold bs
 go_wp2_with fail
 refine(dm d hd.1 hd.2 _).mono ?_
 rintro e w' ⟨rfl,rfl⟩
 go_wp2_with fail
 refine(ni s hbad _).mono ?_
 rintro e w' ⟨rfl,rfl⟩
 go_wp2
 go_ret
 exact⟨rfl,hb⟩
theorem sH (op d s t u a k pl p:Int)(hnm:(bF op).isEmpty=V)(hd:0<=d/\d<=7)(hs:0<=s/\s<=7)(hbad:t<0\/7<t)(w:World):
 Calls Tryz.prog 66 #[iv ⟨op,d,s,t,u,a,k,pl⟩,I Q p] w fun e w'=>e=.returned (.bool V)/\Below w.heap.size w w':=by
 have HN:=T (fun W=>eY op W)
 generalize bF op=nm at *
 unfold iv
 go_enter Tryz.func66,Tryz.ntmps66
 go_wp2_with fail
 refine(HN.out _).mono ?_
 rintro e x ⟨rfl,hx⟩
 obtain⟨hJ,hb⟩:=fE hx
 clear hx
 have hlt:w.heap.size<x.heap.size:=Bk.lt hJ
 have hne:w.heap.size≠x.heap.size:=Nat.ne_of_lt hlt
 obtain⟨c0,c1,c2,c3,c4,c5,c6,c7⟩:=hJ.cells
 simp only at c0 c1 c2 c3 c4 c5 c6 c7
 unfold bs
 go_wp2_with fail
 refine(dm d hd.1 hd.2 _).mono ?_
 rintro e w' ⟨rfl,rfl⟩
 go_wp2_with fail
 refine(dm s hs.1 hs.2 _).mono ?_
 rintro e w' ⟨rfl,rfl⟩
 go_wp2_with fail
 refine(ni t hbad _).mono ?_
 rintro e w' ⟨rfl,rfl⟩
 go_wp2
 go_ret
 exact⟨rfl,hb⟩
theorem sG (op d s t u a k pl p:Int)(hnm:(bF op).isEmpty=V)(hd:0<=d/\d<=7)(hs:0<=s/\s<=7)(ht:0<=t/\t<=7)(hbad:u<0\/7<u)(w:World):
 Calls Tryz.prog 66 #[iv ⟨op,d,s,t,u,a,k,pl⟩,I Q p] w fun e w'=>e=.returned (.bool V)/\Below w.heap.size w w':=by
 have HN:=T (fun W=>eY op W)
 generalize bF op=nm at *
 unfold iv
 go_enter Tryz.func66,Tryz.ntmps66
 go_wp2_with fail
 refine(HN.out _).mono ?_
 rintro e x ⟨rfl,hx⟩
 obtain⟨hJ,hb⟩:=fE hx
 clear hx
 have hlt:w.heap.size<x.heap.size:=Bk.lt hJ
 have hne:w.heap.size≠x.heap.size:=Nat.ne_of_lt hlt
 obtain⟨c0,c1,c2,c3,c4,c5,c6,c7⟩:=hJ.cells
 simp only at c0 c1 c2 c3 c4 c5 c6 c7
 unfold bs
 go_wp2_with fail
 refine(dm d hd.1 hd.2 _).mono ?_
 rintro e w' ⟨rfl,rfl⟩
 go_wp2_with fail
 refine(dm s hs.1 hs.2 _).mono ?_
 rintro e w' ⟨rfl,rfl⟩
 go_wp2_with fail
 refine(dm t ht.1 ht.2 _).mono ?_
 rintro e w' ⟨rfl,rfl⟩
 go_wp2_with fail
 refine(ni u hbad _).mono ?_
 rintro e w' ⟨rfl,rfl⟩
 go_wp2
 go_ret
 exact⟨rfl,hb⟩
theorem sK (op d s t u a k pl p:Int)(hnm:(bF op).isEmpty=V)(hd:0<=d/\d<=7)(hs:0<=s/\s<=7)(ht:0<=t/\t<=7)(hu:0<=u/\u<=7)(hbad:a<0\/7<a)(w:World):
 Calls Tryz.prog 66 #[iv ⟨op,d,s,t,u,a,k,pl⟩,I Q p] w fun e w'=>e=.returned (.bool V)/\Below w.heap.size w w':=by
 have HN:=T (fun W=>eY op W)
 generalize bF op=nm at *
 unfold iv
 go_enter Tryz.func66,Tryz.ntmps66
 go_wp2_with fail
 refine(HN.out _).mono ?_
 rintro e x ⟨rfl,hx⟩
 obtain⟨hJ,hb⟩:=fE hx
 clear hx
 have hlt:w.heap.size<x.heap.size:=Bk.lt hJ
 have hne:w.heap.size≠x.heap.size:=Nat.ne_of_lt hlt
 obtain⟨c0,c1,c2,c3,c4,c5,c6,c7⟩:=hJ.cells
 simp only at c0 c1 c2 c3 c4 c5 c6 c7
 unfold bs
 go_wp2_with fail
 refine(dm d hd.1 hd.2 _).mono ?_
 rintro e w' ⟨rfl,rfl⟩
 go_wp2_with fail
 refine(dm s hs.1 hs.2 _).mono ?_
 rintro e w' ⟨rfl,rfl⟩
 go_wp2_with fail
 refine(dm t ht.1 ht.2 _).mono ?_
 rintro e w' ⟨rfl,rfl⟩
 go_wp2_with fail
 refine(dm u hu.1 hu.2 _).mono ?_
 rintro e w' ⟨rfl,rfl⟩
 go_wp2_with fail
 refine(ni a hbad _).mono ?_
 rintro e w' ⟨rfl,rfl⟩
 go_wp2
 go_ret
 exact⟨rfl,hb⟩
theorem zv (i:aK)(p:Int)(k0:0<=i.k)(k1:i.k<4294967296)(w:World):
 Calls Tryz.prog 66 #[iv i,I Q p] w fun e w'=>e=.returned (.bool (au i p))/\Below w.heap.size w w':=by
 by_cases hnm:bF i.op=[]
 ·rw[sA i p hnm]
  exact sF i.op i.d i.s i.t i.u i.a i.k i.pl p hnm w
 have hne:(bF i.op).isEmpty=V:=by simpa using hnm
 have no:¬ ((0<=i.d/\i.d<=7)/\(0<=i.s/\i.s<=7)/\(0<=i.t/\i.t<=7)/\(0<=i.u/\i.u<=7)/\(0<=i.a/\i.a<=7))->au i p=V:=by
  intro h
  rw[Bool.eq_false_iff]
  exact fun e=>h (ee i p e)
 obtain⟨op,d,s,t,u,a,k,pl⟩:=i
 simp only at k0 k1 hnm hne no
 by_cases hd:0<=d/\d<=7
 ·by_cases hs:0<=s/\s<=7
  ·by_cases ht:0<=t/\t<=7
   ·by_cases hu:0<=u/\u<=7
    ·by_cases ha:0<=a/\a<=7
     ·clear no
      by_cases hrRightA:op=1\/op=10\/op=11\/op=22\/op=12\/op=13\/op=23
      ·exact AJ op d s t u a k pl p hrRightA ⟨hd,hs,ht,hu,ha⟩ k0 k1 w
      by_cases hrRightC:op=2\/op=3\/op=4\/op=7
      ·exact AH op d s t u a k pl p hrRightC ⟨hd,hs,ht,hu,ha⟩ k0 k1 w
      by_cases hrRightD:op=5\/op=6\/op=8\/op=9
      ·exact AG op d s t u a k pl p hrRightD ⟨hd,hs,ht,hu,ha⟩ k0 k1 w
      by_cases hrRightF:op=16\/op=18
      ·exact AF op d s t u a k pl p hrRightF ⟨hd,hs,ht,hu,ha⟩ k0 k1 w
      by_cases hrRightG:op=17\/op=19
      ·exact AE op d s t u a k pl p hrRightG ⟨hd,hs,ht,hu,ha⟩ k0 k1 w
      by_cases hrRightB:op=20\/op=21
      ·exact AI op d s t u a k pl p hrRightB ⟨hd,hs,ht,hu,ha⟩ k0 k1 w
      exfalso;apply hnm;exact(dr (by omega)).2
     ·rw[no (by omega)];exact sK op d s t u a k pl p hne hd hs ht hu (by omega) w
    ·rw[no (by omega)];exact sG op d s t u a k pl p hne hd hs ht (by omega) w
   ·rw[no (by omega)];exact sH op d s t u a k pl p hne hd hs (by omega) w
  ·rw[no (by omega)];exact sI op d s t u a k pl p hne hd (by omega) w
 ·rw[no (by omega)];exact sJ op d s t u a k pl p hne (by omega) w
section
variable {w wr w2:World}{p x n each each' c:Nat}{M M2:PM}{R R2:RM}{free:Nat->List Nat}{gen out:List Int}{fr:Nat->List Int}{os:Int->Bool}{hv:Value}{had:List Int}
theorem Rf.bk (h:Rf w x n each R free gen out){i:Nat}(k:R.Has n i):∃ t cs,Bk w i t cs/\(t=26\/t=3):=by
 rcases k with e | e | e | ⟨s,hs,e⟩
 ·obtain⟨cs,hc⟩:=h.row.bk e;exact⟨_,cs,hc,.inl rfl⟩
 ·obtain⟨cs,hc⟩:=h.gens.bk e;exact⟨_,cs,hc,.inr rfl⟩
 ·obtain⟨cs,hc⟩:=h.outs.bk e;exact⟨_,cs,hc,.inr rfl⟩
 ·obtain⟨cs,hc⟩:=(h.frees s hs).bk e;exact⟨_,cs,hc,.inr rfl⟩
theorem Rf.fH (h:Rf w x n each R free gen out){q:Nat}{t:TypeId}{cs:Array Value}(k:Bk w q t cs)(h1:t≠26)(h2:t≠3):¬ R.Has n q:=fun e=>by
 obtain⟨t',cs',hc,ht⟩:=h.bk e
 have:t=t':=by unfold Bk at k hc;rw[k] at hc;injection hc with hc;injection hc
 subst this
 rcases ht with e | e
 ·exact h1 e
 ·exact h2 e
theorem Pl.off (hp:Pl w p n each M fr os c)(hr:Rf w x n each' R free gen out){i:Nat}(k:M.Has n i):¬ R.Has n i:=fun e=>by
 obtain⟨t,cs,hc,ht⟩:=hr.bk e
 rcases ht with rfl|rfl
 ·exact hp.fH hc (by decide) (by decide) k
 ·exact hp.fH hc (by decide) (by decide) k
theorem Rf.stays (hr:Rf w x n each' R free gen out)(hp:Pl w p n each M fr os c)(s:io w n M w2 M2):Rf w2 x n each' R free gen out:=
 hr.kept s.2.1 (hp.fH hr.ptr (by decide) (by decide)) (fun _ hi e=>hp.off hr e hi)
end
