import Derived.Test.YthdgehcghklflaaGreatDoorTTkC
import Derived.Test.YthdgehcghklflaaGreatDoorTMem
import Derived.Test.YthdgehcghklflaaGreatDoorTRefP
import Derived.Test.YthdgehcghklflaaGreatDoorTInstC
import Derived.Test.YthdgehcghklflaaGreatDoorTPrgM
import Derived.Test.YthdgehcghklflaaGreatDoorTInstSA
import Derived.Test.YthdgehcghklflaaGreatDoorTInstSB
import Derived.Test.YthdgehcghklflaaGreatDoorTInstSC
import Derived.Test.YthdgehcghklflaaGreatDoorTInstSD
import Derived.Test.YthdgehcghklflaaGreatDoorTInstSF
import Derived.Test.YthdgehcghklflaaGreatDoorTInstSG
import Derived.Test.YthdgehcghklflaaGreatDoorTPoolRefE
import Derived.Deep.QuietTactic
import Derived.Deep.RegionLaw
import Derived.Laws.IdiomStrings
set_option linter.unusedVariables false
namespace Go.Proofs.YthdgehcghklflaaGreatDoor
set_option maxRecDepth 100000
open Go.ChangeShapes Go.WideShapes Go.ChangeAt Go.RowKit
def AsmD (w:World)(e:Ending)(w':World):Prop:=∃ sl,e=.returned (.tuple #[.agg #[sl,.int .i64 tkP.lo,.int .i64 tkP.un],.int .i64 0,.int .i64 0])∧w'.ownsRow w.heap.size 125 8 sl tkP.l.length (progC tkP.l)∧Below w.heap.size w w'
theorem tkText_r (w:World):Calls Tryz.prog 14 #[] w fun e w'=>e=.returned (bs tkText)∧w=w':=by
 go_enter Tryz.func14,Tryz.ntmps14
 go_wp2
 go_ret
 exact⟨rfl,rfl⟩
set_option maxHeartbeats 4000000 in
theorem rSpecW (N:Nat)(st:Int)(w:World)(h1:1≤N)(h64:N≤64)(h0:0≤st)(h2:st < 4294967296)(HA:∀ W,Calls Tryz.prog 28 #[bs tkText] W (AsmD W)):
 Calls Tryz.prog 9 #[.int .i64 N,.int .u32 st] w fun e w'=>∃ v,e=.returned (.tuple #[v,.bool true])∧Rv w.heap.size w' v tkP [1,1] [st,st] (tkR N) 0∧Below w.heap.size w w':=by
 have HAA:=Lib.hid HA
 have HT:=Lib.hid (fun W=>tkText_r W)
 unfold AsmD at HAA
 generalize tkP=c at *
 generalize bs tkText=tx at *
 have hmk:=fun W:World=>makeWords N (by omega) W
 have hb1:Below w.heap.size w (w.alloc (.cells #[.slice none 0 0,.int .i64 0,.int .i64 0,.slice none 0 0,.slice none 0 0,.int .i64 0,.slice none 0 0] 37)):=(Below.refl _ _).alloc (Nat.le_refl _) _
 have q0:=Bk.made w 37 #[.slice none 0 0,.int .i64 0,.int .i64 0,.slice none 0 0,.slice none 0 0,.int .i64 0,.slice none 0 0]
 clear HA
 go_enter Tryz.func9,Tryz.ntmps9
 go_upto_region 3 with fail
 generalize w.alloc (.cells #[.slice none 0 0,.int .i64 0,.int .i64 0,.slice none 0 0,.slice none 0 0,.int .i64 0,.slice none 0 0] 37)=y at *
 have hq0:=Bk.lt q0
 go_upto_region 4 with fail
 obtain⟨yb,hyb⟩:∃ yb,y.heap.size=yb:=⟨_,rfl⟩
 rw[hyb]
 have a1:=Bk.made y 3 #[.int .i64 1,.int .i64 1]
 generalize ez1:y.alloc (.cells #[.int .i64 1,.int .i64 1] 3)=z1 at *
 have s1:z1.heap.size=yb+1:=by rw[←ez1,World.size_alloc,hyb]
 have bz1:Below y.heap.size y z1:=by rw[←ez1];exact(Below.refl _ _).alloc (Nat.le_refl _) _
 have a2:=Bk.made z1 22 #[.int .u32 st,.int .u32 st]
 generalize ez2:z1.alloc (.cells #[.int .u32 st,.int .u32 st] 22)=z2 at *
 have s2:z2.heap.size=yb+1+1:=by rw[←ez2,World.size_alloc,s1]
 have bz2:Below z1.heap.size z1 z2:=by rw[←ez2];exact(Below.refl _ _).alloc (Nat.le_refl _) _
 have a3:=Bk.made z2 22 (madeCells #[.int .u32 0] N)
 generalize ez3:z2.alloc (.cells (madeCells #[.int .u32 0] N) 22)=z3 at *
 have s3:z3.heap.size=yb+1+1+1:=by rw[←ez3,World.size_alloc,s2]
 have bz3:Below z2.heap.size z2 z3:=by rw[←ez3];exact(Below.refl _ _).alloc (Nat.le_refl _) _
 have a4:=Bk.made z3 37 #[.slice none 0 0,.int .i64 0,.int .i64 0,.slice (some ⟨yb,0,none⟩) 2 2,.slice (some ⟨yb+1,0,none⟩) 2 2,.int .i64 0,.slice (some ⟨yb+1+1,0,none⟩) N N]
 generalize ez4:z3.alloc (.cells #[.slice none 0 0,.int .i64 0,.int .i64 0,.slice (some ⟨yb,0,none⟩) 2 2,.slice (some ⟨yb+1,0,none⟩) 2 2,.int .i64 0,.slice (some ⟨yb+1+1,0,none⟩) N N] 37)=z4 at *
 have bz4:Below z3.heap.size z3 z4:=by rw[←ez4];exact(Below.refl _ _).alloc (Nat.le_refl _) _
 rw[hyb] at a1
 rw[s1] at a2
 rw[s2] at a3
 rw[s3] at a4
 have c34:=bz4
 have c24:=bz3.trans (c34.mono bz3.size)
 have c14:=bz2.trans (c24.mono bz2.size)
 have c04:=bz1.trans (c14.mono bz1.size)
 replace a1:=(c14.block _ (by rw[s1];omega)).trans a1
 replace a2:=(c24.block _ (by rw[s2];omega)).trans a2
 replace a3:=(c34.block _ (by rw[s3];omega)).trans a3
 have b4:=hb1.trans (c04.mono hb1.size)
 replace q0:Bk z4 w.heap.size 37 #[.slice none 0 0,.int .i64 0,.int .i64 0,.slice none 0 0,.slice none 0 0,.int .i64 0,.slice none 0 0]:=(c04.block _ (Bk.lt q0)).trans q0
 have hlt:w.heap.size < yb:=by rw[←hyb];exact hq0
 clear bz1 bz2 bz3 bz4 c34 c24 c14 c04 s1 s2 ez1 ez2 ez3 ez4
 have KA:=Lib.hid (And.intro a1 (And.intro a2 (And.intro a3 (And.intro a4 (And.intro q0 b4)))))
 have HLT:=Lib.hid hlt
 have HS3:=Lib.hid s3
 clear a1 a2 a3 a4 q0 b4 hb1 hmk hyb hlt hq0 s3
 go_wp2_with fail
 refine(HT.out _).mono ?_
 rintro e z0 ⟨rfl,rfl⟩
 go_wp2_with fail
 refine(HAA.out _).mono ?_
 rintro e z ⟨sl,rfl,hO,hz⟩
 obtain⟨aL,cL,rfl,-⟩:=own_is hO
 have HZ:=Lib.hid (And.intro hO hz)
 clear hO hz HAA HT
 go_upto_region 5 with fail
 have hlt:=HLT.out
 obtain⟨hO,hz⟩:=HZ.out
 obtain⟨a1,a2,a3,a4,q0,b4⟩:=KA.out
 have q5:=Bk.made z 35 #[.slice aL c.l.length cL,.int .i64 c.lo,.int .i64 c.un]
 have hza:Below z.heap.size z (z.alloc (.cells #[.slice aL c.l.length cL,.int .i64 c.lo,.int .i64 c.un] 35)):=(Below.refl _ _).alloc (Nat.le_refl _) _
 have hO2:=own_below hO hza
 have hzz:=hz.trans (hza.mono hz.size)
 have hsz4:=hz.size
 have lt4:=Bk.lt a4
 obtain⟨zb,hzb⟩:∃ zb,z.heap.size=zb:=⟨_,rfl⟩
 rw[hzb] at q5
 rw[hzb]
 generalize z.alloc (.cells #[.slice aL c.l.length cL,.int .i64 c.lo,.int .i64 c.un] 35)=x at *
 replace a1:Bk x yb 3 #[.int .i64 1,.int .i64 1]:=(hzz.block _ (Bk.lt a1)).trans a1
 replace a2:Bk x (yb+1) 22 #[.int .u32 st,.int .u32 st]:=(hzz.block _ (Bk.lt a2)).trans a2
 replace a3:Bk x (yb+1+1) 22 (madeCells #[.int .u32 0] N):=(hzz.block _ (Bk.lt a3)).trans a3
 replace a4:Bk x (yb+1+1+1) 37 #[.slice none 0 0,.int .i64 0,.int .i64 0,.slice (some ⟨yb,0,none⟩) 2 2,.slice (some ⟨yb+1,0,none⟩) 2 2,.int .i64 0,.slice (some ⟨yb+1+1,0,none⟩) N N]:=(hzz.block _ (Bk.lt a4)).trans a4
 replace q0:Bk x w.heap.size 37 #[.slice none 0 0,.int .i64 0,.int .i64 0,.slice none 0 0,.slice none 0 0,.int .i64 0,.slice none 0 0]:=(hzz.block _ (Bk.lt q0)).trans q0
 replace b4:=b4.trans (hzz.mono b4.size)
 have hne:yb+1+1+1≠zb:=by omega
 clear hza hzz hz hO KA HZ
 -- the code is put into the spec
 obtain⟨y0,y1,y2⟩:x.cell? ⟨zb,0,none⟩=some (.slice aL c.l.length cL)∧x.cell? ⟨zb,1,none⟩=some (.int .i64 c.lo)∧x.cell? ⟨zb,2,none⟩=some (.int .i64 c.un):=⟨q5.cell 0,q5.cell 1,q5.cell 2⟩
 obtain⟨u0,u1,u2⟩:x.cell? ⟨yb+1+1+1,0,none⟩=some (.slice none 0 0)∧x.cell? ⟨yb+1+1+1,1,none⟩=some (.int .i64 0)∧x.cell? ⟨yb+1+1+1,2,none⟩=some (.int .i64 0):=⟨a4.cell 0,a4.cell 1,a4.cell 2⟩
 have zf:=Bk.free a4
 have w3:Within x (put3 x (yb+1+1+1) (.slice aL c.l.length cL) (.int .i64 c.lo) (.int .i64 c.un)) (fun i=>i=yb+1+1+1):=(((Within.refl x (fun i=>i=yb+1+1+1)).put _ 0 _ (.inl rfl)).put _ 1 _ (.inl rfl)).put _ 2 _ (.inl rfl)
 have k4:Bk (put3 x (yb+1+1+1) (.slice aL c.l.length cL) (.int .i64 c.lo) (.int .i64 c.un)) (yb+1+1+1) 37 #[.slice aL c.l.length cL,.int .i64 c.lo,.int .i64 c.un,.slice (some ⟨yb,0,none⟩) 2 2,.slice (some ⟨yb+1,0,none⟩) 2 2,.int .i64 0,.slice (some ⟨yb+1+1,0,none⟩) N N]:=by
  have h8:=((a4.put 0 (.slice aL c.l.length cL)).put 1 (.int .i64 c.lo)).put 2 (.int .i64 c.un)
  unfold put3
  simpa only[List.setIfInBounds_toArray,List.set_cons_zero,List.set_cons_succ] using h8
 have b5:=put3_below b4 (show w.heap.size≤yb+1+1+1 by omega) (.slice aL c.l.length cL) (.int .i64 c.lo) (.int .i64 c.un)
 have o5:=own_safe hO2 w3 a4 (by decide)
 have a1':=a1.within w3 (Bk.unlike a1 a4 (by decide))
 have a2':=a2.within w3 (Bk.unlike a2 a4 (by decide))
 have a3':=a3.within w3 (Bk.unlike a3 a4 (by decide))
 have q0':=q0.within w3 (show ¬ w.heap.size=yb+1+1+1 by omega)
 clear q5 a1 a2 a3 a4 q0 b4 hO2 w3
 go_upto_region 6 with fail
 clear y0 y1 y2 u0 u1 u2 zf
 generalize hv:((x.setCell ⟨yb+1+1+1,0,none⟩ (.slice aL c.l.length cL)).setCell ⟨yb+1+1+1,1,none⟩ (.int .i64 c.lo)).setCell ⟨yb+1+1+1,2,none⟩ (.int .i64 c.un)=x2
 replace hv:put3 x (yb+1+1+1) (.slice aL c.l.length cL) (.int .i64 c.lo) (.int .i64 c.un)=x2:=hv
 rw[hv] at k4 b5 o5 a1' a2' a3' q0'
 clear hv
 obtain⟨u0,u1,u2,u3,u4,u5,u6⟩:x2.cell? ⟨yb+1+1+1,0,none⟩=some (.slice aL c.l.length cL)∧x2.cell? ⟨yb+1+1+1,1,none⟩=some (.int .i64 c.lo)∧x2.cell? ⟨yb+1+1+1,2,none⟩=some (.int .i64 c.un)∧x2.cell? ⟨yb+1+1+1,3,none⟩=some (.slice (some ⟨yb,0,none⟩) 2 2)∧x2.cell? ⟨yb+1+1+1,4,none⟩=some (.slice (some ⟨yb+1,0,none⟩) 2 2)∧x2.cell? ⟨yb+1+1+1,5,none⟩=some (.int .i64 0)∧x2.cell? ⟨yb+1+1+1,6,none⟩=some (.slice (some ⟨yb+1+1,0,none⟩) N N):=⟨k4.cell 0,k4.cell 1,k4.cell 2,k4.cell 3,k4.cell 4,k4.cell 5,k4.cell 6⟩
 obtain⟨v0,v1,v2,v3,v4,v5,v6⟩:x2.cell? ⟨w.heap.size,0,none⟩=some (.slice none 0 0)∧x2.cell? ⟨w.heap.size,1,none⟩=some (.int .i64 0)∧x2.cell? ⟨w.heap.size,2,none⟩=some (.int .i64 0)∧x2.cell? ⟨w.heap.size,3,none⟩=some (.slice none 0 0)∧x2.cell? ⟨w.heap.size,4,none⟩=some (.slice none 0 0)∧x2.cell? ⟨w.heap.size,5,none⟩=some (.int .i64 0)∧x2.cell? ⟨w.heap.size,6,none⟩=some (.slice none 0 0):=⟨q0'.cell 0,q0'.cell 1,q0'.cell 2,q0'.cell 3,q0'.cell 4,q0'.cell 5,q0'.cell 6⟩
 have zf:=Bk.free q0'
 have w7:=put7_within (y:=x2) (g:=w.heap.size) (.slice aL c.l.length cL) (.int .i64 c.lo) (.int .i64 c.un) (.slice (some ⟨yb,0,none⟩) 2 2) (.slice (some ⟨yb+1,0,none⟩) 2 2) (.int .i64 0) (.slice (some ⟨yb+1+1,0,none⟩) N N)
 have k7:=put7_bk q0' (.slice aL c.l.length cL) (.int .i64 c.lo) (.int .i64 c.un) (.slice (some ⟨yb,0,none⟩) 2 2) (.slice (some ⟨yb+1,0,none⟩) 2 2) (.int .i64 0) (.slice (some ⟨yb+1+1,0,none⟩) N N)
 have b7:=put7_below b5 (Nat.le_refl _) (.slice aL c.l.length cL) (.int .i64 c.lo) (.int .i64 c.un) (.slice (some ⟨yb,0,none⟩) 2 2) (.slice (some ⟨yb+1,0,none⟩) 2 2) (.int .i64 0) (.slice (some ⟨yb+1+1,0,none⟩) N N)
 have o7:=own_safe o5 w7 q0' (by decide)
 have a17:=a1'.within w7 (Bk.unlike a1' q0' (by decide))
 have a27:=a2'.within w7 (Bk.unlike a2' q0' (by decide))
 have a37:=a3'.within w7 (Bk.unlike a3' q0' (by decide))
 have hsz:w.heap.size≤z.heap.size:=by omega
 have KK:=Lib.hid (And.intro k7 (And.intro b7 (And.intro (World.ownsRow.mono (base':=w.heap.size) o7 (by omega)) (And.intro a17 (And.intro a27 a37)))))
 clear k7 b7 o7 a17 a27 a37 w7 k4 b5 o5 a1' a2' a3' q0'
 go_wp
 clear u0 u1 u2 u3 u4 u5 u6 v0 v1 v2 v3 v4 v5 v6 zf
 generalize hv:(((((((x2.setCell ⟨w.heap.size,0,none⟩ (.slice aL c.l.length cL)).setCell ⟨w.heap.size,1,none⟩ (.int .i64 c.lo)).setCell ⟨w.heap.size,2,none⟩ (.int .i64 c.un)).setCell ⟨w.heap.size,3,none⟩ (.slice (some ⟨yb,0,none⟩) 2 2)).setCell ⟨w.heap.size,4,none⟩ (.slice (some ⟨yb+1,0,none⟩) 2 2)).setCell ⟨w.heap.size,5,none⟩ (.int .i64 0)).setCell ⟨w.heap.size,6,none⟩ (.slice (some ⟨yb+1+1,0,none⟩) N N))=x9
 replace hv:put7 x2 w.heap.size (.slice aL c.l.length cL) (.int .i64 c.lo) (.int .i64 c.un) (.slice (some ⟨yb,0,none⟩) 2 2) (.slice (some ⟨yb+1,0,none⟩) 2 2) (.int .i64 0) (.slice (some ⟨yb+1+1,0,none⟩) N N)=x9:=hv
 rw[hv] at KK
 obtain⟨hq,b9,o9,k1,k2,k3⟩:=KK.out
 obtain⟨y0,y1,y2,y3,y4,y5,y6⟩:x9.cell? ⟨w.heap.size,0,none⟩=some (.slice aL c.l.length cL)∧x9.cell? ⟨w.heap.size,1,none⟩=some (.int .i64 c.lo)∧x9.cell? ⟨w.heap.size,2,none⟩=some (.int .i64 c.un)∧x9.cell? ⟨w.heap.size,3,none⟩=some (.slice (some ⟨yb,0,none⟩) 2 2)∧x9.cell? ⟨w.heap.size,4,none⟩=some (.slice (some ⟨yb+1,0,none⟩) 2 2)∧x9.cell? ⟨w.heap.size,5,none⟩=some (.int .i64 0)∧x9.cell? ⟨w.heap.size,6,none⟩=some (.slice (some ⟨yb+1+1,0,none⟩) N N):=⟨hq.cell 0,hq.cell 1,hq.cell 2,hq.cell 3,hq.cell 4,hq.cell 5,hq.cell 6⟩
 exact bodyPost_ret (v:=.tuple #[.agg #[.slice aL c.l.length cL,.int .i64 c.lo,.int .i64 c.un,.slice (some ⟨yb,0,none⟩) 2 2,.slice (some ⟨yb+1,0,none⟩) 2 2,.int .i64 0,.slice (some ⟨yb+1+1,0,none⟩) N N],.bool true]) (by simp[results,Tryz.results9,go_sem,y0,y1,y2,y3,y4,y5,y6]) rfl ⟨_,rfl,⟨_,_,2,_,2,_,N,by rw[show (tkR N).length=N from List.length_replicate];rfl,o9,given_two k1,given_two k2,given_zeros k3,by simp[maxLen],by simp[maxLen],by rw[show (tkR N).length=N from List.length_replicate];unfold maxLen;omega⟩,b9⟩
def rL (n:Nat):List UInt8:=[32,114]++Lib.decDigits n
theorem rR (n:Nat)(w:World)(hn:n < 5000000000):Calls Tryz.prog 165 #[.int .i64 n] w fun e w'=>e=.returned (.string ⟨(rL n).toArray⟩)∧Below w.heap.size w w':=by
 have HI:=Lib.hid (rDigits n w hn)
 have hl:=dec_len n hn
 have hcat:=run_cat [32,114] (Lib.decDigits n) (by simp;omega)
 unfold rL
 generalize Lib.decDigits n=l at *
 go_enter Tryz.func165,Tryz.ntmps165
 go_wp2_with fail
 refine HI.out.mono ?_
 rintro e y ⟨rfl,hy⟩
 unfold bs
 go_wp2
 go_ret
 exact⟨rfl,hy⟩
theorem rL_len (n:Nat)(h:n < 5000000000):(rL n).length≤40:=by
 have:=dec_len n h
 unfold rL
 simp
 omega
theorem txt_1 (dn sn tn un an kn pn:Nat):textL ⟨1,dn,sn,tn,un,an,kn,pn⟩=nmL 1++((rL dn)++(32 :: Lib.decDigits kn)):=by
 simp[textL,hsL,partsL,partL,getI,rL,itoa_nat]
theorem txt_2 (dn sn tn un an kn pn:Nat):textL ⟨2,dn,sn,tn,un,an,kn,pn⟩=nmL 2++((rL dn)++(rL sn)):=by
 simp[textL,hsL,partsL,partL,getI,rL,itoa_nat]
theorem txt_3 (dn sn tn un an kn pn:Nat):textL ⟨3,dn,sn,tn,un,an,kn,pn⟩=nmL 3++(((rL dn)++(rL sn))++(32 :: Lib.decDigits kn)):=by
 simp[textL,hsL,partsL,partL,getI,rL,itoa_nat]
theorem txt_4 (dn sn tn un an kn pn:Nat):textL ⟨4,dn,sn,tn,un,an,kn,pn⟩=nmL 4++(((rL dn)++(rL sn))++(32 :: Lib.decDigits kn)):=by
 simp[textL,hsL,partsL,partL,getI,rL,itoa_nat]
theorem txt_5 (dn sn tn un an kn pn:Nat):textL ⟨5,dn,sn,tn,un,an,kn,pn⟩=nmL 5++(((rL dn)++(rL sn))++(32 :: Lib.decDigits kn)):=by
 simp[textL,hsL,partsL,partL,getI,rL,itoa_nat]
theorem txt_6 (dn sn tn un an kn pn:Nat):textL ⟨6,dn,sn,tn,un,an,kn,pn⟩=nmL 6++(((rL dn)++(rL sn))++(32 :: Lib.decDigits kn)):=by
 simp[textL,hsL,partsL,partL,getI,rL,itoa_nat]
theorem txt_7 (dn sn tn un an kn pn:Nat):textL ⟨7,dn,sn,tn,un,an,kn,pn⟩=nmL 7++(((rL dn)++(rL sn))++(rL tn)):=by
 simp[textL,hsL,partsL,partL,getI,rL,itoa_nat]
theorem txt_8 (dn sn tn un an kn pn:Nat):textL ⟨8,dn,sn,tn,un,an,kn,pn⟩=nmL 8++(((rL sn)++(rL tn))++(32 :: Lib.decDigits pn)):=by
 simp[textL,hsL,partsL,partL,getI,rL,itoa_nat]
theorem txt_9 (dn sn tn un an kn pn:Nat):textL ⟨9,dn,sn,tn,un,an,kn,pn⟩=nmL 9++(((rL sn)++(rL tn))++(32 :: Lib.decDigits pn)):=by
 simp[textL,hsL,partsL,partL,getI,rL,itoa_nat]
theorem txt_10 (dn sn tn un an kn pn:Nat):textL ⟨10,dn,sn,tn,un,an,kn,pn⟩=nmL 10++(32 :: Lib.decDigits pn):=by
 simp[textL,hsL,partsL,partL,getI,itoa_nat]
theorem txt_11 (dn sn tn un an kn pn:Nat):textL ⟨11,dn,sn,tn,un,an,kn,pn⟩=nmL 11++(rL dn):=by
 simp[textL,hsL,partsL,partL,getI,rL,itoa_nat]
theorem txt_22 (dn sn tn un an kn pn:Nat):textL ⟨22,dn,sn,tn,un,an,kn,pn⟩=nmL 22++(rL dn):=by
 simp[textL,hsL,partsL,partL,getI,rL,itoa_nat]
theorem txt_12 (dn sn tn un an kn pn:Nat):textL ⟨12,dn,sn,tn,un,an,kn,pn⟩=nmL 12++(32 :: Lib.decDigits kn):=by
 simp[textL,hsL,partsL,partL,getI,itoa_nat]
theorem txt_13 (dn sn tn un an kn pn:Nat):textL ⟨13,dn,sn,tn,un,an,kn,pn⟩=nmL 13++(32 :: Lib.decDigits kn):=by
 simp[textL,hsL,partsL,partL,getI,itoa_nat]
theorem txt_16 (dn sn tn un an kn pn:Nat):textL ⟨16,dn,sn,tn,un,an,kn,pn⟩=nmL 16++(((rL dn)++(32 :: Lib.decDigits an))++(rL sn)):=by
 simp[textL,hsL,partsL,partL,getI,rL,itoa_nat]
theorem txt_17 (dn sn tn un an kn pn:Nat):textL ⟨17,dn,sn,tn,un,an,kn,pn⟩=nmL 17++(((32 :: Lib.decDigits an)++(rL sn))++(rL tn)):=by
 simp[textL,hsL,partsL,partL,getI,rL,itoa_nat]
theorem txt_18 (dn sn tn un an kn pn:Nat):textL ⟨18,dn,sn,tn,un,an,kn,pn⟩=nmL 18++((((rL dn)++(32 :: Lib.decDigits an))++(rL sn))++(rL tn)):=by
 simp[textL,hsL,partsL,partL,getI,rL,itoa_nat]
theorem txt_19 (dn sn tn un an kn pn:Nat):textL ⟨19,dn,sn,tn,un,an,kn,pn⟩=nmL 19++(((((rL dn)++(32 :: Lib.decDigits an))++(rL sn))++(rL tn))++(rL un)):=by
 simp[textL,hsL,partsL,partL,getI,rL,itoa_nat]
theorem txt_20 (dn sn tn un an kn pn:Nat):textL ⟨20,dn,sn,tn,un,an,kn,pn⟩=nmL 20++((((rL dn)++(32 :: Lib.decDigits an))++(rL sn))++(32 :: Lib.decDigits kn)):=by
 simp[textL,hsL,partsL,partL,getI,rL,itoa_nat]
theorem txt_23 (dn sn tn un an kn pn:Nat):textL ⟨23,dn,sn,tn,un,an,kn,pn⟩=nmL 23++(rL sn):=by
 simp[textL,hsL,partsL,partL,getI,rL,itoa_nat]
theorem right_none (i:Ins)(p:Int)(h:nmL i.op=[]):rightB i p=false:=by
 obtain⟨op,d,s,t,u,a,k,pl⟩:=i
 simp only at h
 rcases op_cases op with rfl | rfl | rfl | rfl | rfl | rfl | rfl | rfl | rfl | rfl | rfl | rfl | rfl | rfl | rfl | rfl | rfl | rfl | rfl | rfl | rfl | hn
 rotate_right
 ·unfold rightB
  rw[(hs_none hn).1]
  rfl
 all_goals (simp[nmL] at h)
set_option maxRecDepth 100000 in
theorem rRightNone (op d s t u a k pl p:Int)(hnm:nmL op=[])(w:World):
 Calls Tryz.prog 66 #[iv ⟨op,d,s,t,u,a,k,pl⟩,.int .i64 p] w fun e w'=>e=.returned (.bool false)∧Below w.heap.size w w':=by
 have HN:=Lib.hid (fun W=>rName op W)
 rw[hnm] at HN
 clear hnm
 unfold iv
 go_enter Tryz.func66,Tryz.ntmps66
 go_wp2_with fail
 refine(HN.out _).mono ?_
 rintro e x ⟨rfl,hx⟩
 obtain⟨hJ,hb⟩:=boxedJ hx
 clear hx
 unfold bs
 go_wp2
 go_ret
 exact⟨rfl,hb⟩
set_option maxHeartbeats 2000000 in
set_option maxRecDepth 100000 in
theorem rRightBadd (op d s t u a k pl p:Int)(hnm:(nmL op).isEmpty=false)  (hbad:d < 0∨7 < d)(w:World):
 Calls Tryz.prog 66 #[iv ⟨op,d,s,t,u,a,k,pl⟩,.int .i64 p] w fun e w'=>e=.returned (.bool false)∧Below w.heap.size w w':=by
 have HN:=Lib.hid (fun W=>rName op W)
 generalize nmL op=nm at *
 unfold iv
 go_enter Tryz.func66,Tryz.ntmps66
 go_wp2_with fail
 refine(HN.out _).mono ?_
 rintro e x ⟨rfl,hx⟩
 obtain⟨hJ,hb⟩:=boxedJ hx
 clear hx
 have hlt:w.heap.size < x.heap.size:=Bk.lt hJ
 have hne:w.heap.size≠x.heap.size:=Nat.ne_of_lt hlt
 obtain⟨c0,c1,c2,c3,c4,c5,c6,c7⟩:=hJ.cells
 simp only at c0 c1 c2 c3 c4 c5 c6 c7
 unfold bs
 go_wp2_with fail
 refine(rRegNo d hbad _).mono ?_
 rintro e w' ⟨rfl,rfl⟩
 go_wp2
 go_ret
 exact⟨rfl,hb⟩
set_option maxHeartbeats 2000000 in
set_option maxRecDepth 100000 in
theorem rRightBads (op d s t u a k pl p:Int)(hnm:(nmL op).isEmpty=false)(hd:0≤d∧d≤7)(hbad:s < 0∨7 < s)(w:World):
 Calls Tryz.prog 66 #[iv ⟨op,d,s,t,u,a,k,pl⟩,.int .i64 p] w fun e w'=>e=.returned (.bool false)∧Below w.heap.size w w':=by
 have HN:=Lib.hid (fun W=>rName op W)
 generalize nmL op=nm at *
 unfold iv
 go_enter Tryz.func66,Tryz.ntmps66
 go_wp2_with fail
 refine(HN.out _).mono ?_
 rintro e x ⟨rfl,hx⟩
 obtain⟨hJ,hb⟩:=boxedJ hx
 clear hx
 have hlt:w.heap.size < x.heap.size:=Bk.lt hJ
 have hne:w.heap.size≠x.heap.size:=Nat.ne_of_lt hlt
 obtain⟨c0,c1,c2,c3,c4,c5,c6,c7⟩:=hJ.cells
 simp only at c0 c1 c2 c3 c4 c5 c6 c7
 unfold bs
 go_wp2_with fail
 refine(rRegYes d hd.1 hd.2 _).mono ?_
 rintro e w' ⟨rfl,rfl⟩
 go_wp2_with fail
 refine(rRegNo s hbad _).mono ?_
 rintro e w' ⟨rfl,rfl⟩
 go_wp2
 go_ret
 exact⟨rfl,hb⟩
set_option maxHeartbeats 2000000 in
set_option maxRecDepth 100000 in
theorem rRightBadt (op d s t u a k pl p:Int)(hnm:(nmL op).isEmpty=false)(hd:0≤d∧d≤7)(hs:0≤s∧s≤7)(hbad:t < 0∨7 < t)(w:World):
 Calls Tryz.prog 66 #[iv ⟨op,d,s,t,u,a,k,pl⟩,.int .i64 p] w fun e w'=>e=.returned (.bool false)∧Below w.heap.size w w':=by
 have HN:=Lib.hid (fun W=>rName op W)
 generalize nmL op=nm at *
 unfold iv
 go_enter Tryz.func66,Tryz.ntmps66
 go_wp2_with fail
 refine(HN.out _).mono ?_
 rintro e x ⟨rfl,hx⟩
 obtain⟨hJ,hb⟩:=boxedJ hx
 clear hx
 have hlt:w.heap.size < x.heap.size:=Bk.lt hJ
 have hne:w.heap.size≠x.heap.size:=Nat.ne_of_lt hlt
 obtain⟨c0,c1,c2,c3,c4,c5,c6,c7⟩:=hJ.cells
 simp only at c0 c1 c2 c3 c4 c5 c6 c7
 unfold bs
 go_wp2_with fail
 refine(rRegYes d hd.1 hd.2 _).mono ?_
 rintro e w' ⟨rfl,rfl⟩
 go_wp2_with fail
 refine(rRegYes s hs.1 hs.2 _).mono ?_
 rintro e w' ⟨rfl,rfl⟩
 go_wp2_with fail
 refine(rRegNo t hbad _).mono ?_
 rintro e w' ⟨rfl,rfl⟩
 go_wp2
 go_ret
 exact⟨rfl,hb⟩
set_option maxHeartbeats 2000000 in
set_option maxRecDepth 100000 in
theorem rRightBadu (op d s t u a k pl p:Int)(hnm:(nmL op).isEmpty=false)(hd:0≤d∧d≤7)(hs:0≤s∧s≤7)(ht:0≤t∧t≤7)(hbad:u < 0∨7 < u)(w:World):
 Calls Tryz.prog 66 #[iv ⟨op,d,s,t,u,a,k,pl⟩,.int .i64 p] w fun e w'=>e=.returned (.bool false)∧Below w.heap.size w w':=by
 have HN:=Lib.hid (fun W=>rName op W)
 generalize nmL op=nm at *
 unfold iv
 go_enter Tryz.func66,Tryz.ntmps66
 go_wp2_with fail
 refine(HN.out _).mono ?_
 rintro e x ⟨rfl,hx⟩
 obtain⟨hJ,hb⟩:=boxedJ hx
 clear hx
 have hlt:w.heap.size < x.heap.size:=Bk.lt hJ
 have hne:w.heap.size≠x.heap.size:=Nat.ne_of_lt hlt
 obtain⟨c0,c1,c2,c3,c4,c5,c6,c7⟩:=hJ.cells
 simp only at c0 c1 c2 c3 c4 c5 c6 c7
 unfold bs
 go_wp2_with fail
 refine(rRegYes d hd.1 hd.2 _).mono ?_
 rintro e w' ⟨rfl,rfl⟩
 go_wp2_with fail
 refine(rRegYes s hs.1 hs.2 _).mono ?_
 rintro e w' ⟨rfl,rfl⟩
 go_wp2_with fail
 refine(rRegYes t ht.1 ht.2 _).mono ?_
 rintro e w' ⟨rfl,rfl⟩
 go_wp2_with fail
 refine(rRegNo u hbad _).mono ?_
 rintro e w' ⟨rfl,rfl⟩
 go_wp2
 go_ret
 exact⟨rfl,hb⟩
set_option maxHeartbeats 2000000 in
set_option maxRecDepth 100000 in
theorem rRightBada (op d s t u a k pl p:Int)(hnm:(nmL op).isEmpty=false)(hd:0≤d∧d≤7)(hs:0≤s∧s≤7)(ht:0≤t∧t≤7)(hu:0≤u∧u≤7)(hbad:a < 0∨7 < a)(w:World):
 Calls Tryz.prog 66 #[iv ⟨op,d,s,t,u,a,k,pl⟩,.int .i64 p] w fun e w'=>e=.returned (.bool false)∧Below w.heap.size w w':=by
 have HN:=Lib.hid (fun W=>rName op W)
 generalize nmL op=nm at *
 unfold iv
 go_enter Tryz.func66,Tryz.ntmps66
 go_wp2_with fail
 refine(HN.out _).mono ?_
 rintro e x ⟨rfl,hx⟩
 obtain⟨hJ,hb⟩:=boxedJ hx
 clear hx
 have hlt:w.heap.size < x.heap.size:=Bk.lt hJ
 have hne:w.heap.size≠x.heap.size:=Nat.ne_of_lt hlt
 obtain⟨c0,c1,c2,c3,c4,c5,c6,c7⟩:=hJ.cells
 simp only at c0 c1 c2 c3 c4 c5 c6 c7
 unfold bs
 go_wp2_with fail
 refine(rRegYes d hd.1 hd.2 _).mono ?_
 rintro e w' ⟨rfl,rfl⟩
 go_wp2_with fail
 refine(rRegYes s hs.1 hs.2 _).mono ?_
 rintro e w' ⟨rfl,rfl⟩
 go_wp2_with fail
 refine(rRegYes t ht.1 ht.2 _).mono ?_
 rintro e w' ⟨rfl,rfl⟩
 go_wp2_with fail
 refine(rRegYes u hu.1 hu.2 _).mono ?_
 rintro e w' ⟨rfl,rfl⟩
 go_wp2_with fail
 refine(rRegNo a hbad _).mono ?_
 rintro e w' ⟨rfl,rfl⟩
 go_wp2
 go_ret
 exact⟨rfl,hb⟩
theorem rRight (i:Ins)(p:Int)(k0:0≤i.k)(k1:i.k < 4294967296)(w:World):
 Calls Tryz.prog 66 #[iv i,.int .i64 p] w fun e w'=>e=.returned (.bool (rightB i p))∧Below w.heap.size w w':=by
 by_cases hnm:nmL i.op=[]
 ·rw[right_none i p hnm]
  exact rRightNone i.op i.d i.s i.t i.u i.a i.k i.pl p hnm w
 have hne:(nmL i.op).isEmpty=false:=by simpa using hnm
 have no:¬ ((0≤i.d∧i.d≤7)∧(0≤i.s∧i.s≤7)∧(0≤i.t∧i.t≤7)∧(0≤i.u∧i.u≤7)∧(0≤i.a∧i.a≤7))→rightB i p=false:=by
  intro h
  rw[Bool.eq_false_iff]
  exact fun e=>h (right_regs i p e)
 obtain⟨op,d,s,t,u,a,k,pl⟩:=i
 simp only at k0 k1 hnm hne no
 by_cases hd:0≤d∧d≤7
 ·by_cases hs:0≤s∧s≤7
  ·by_cases ht:0≤t∧t≤7
   ·by_cases hu:0≤u∧u≤7
    ·by_cases ha:0≤a∧a≤7
     ·clear no
      by_cases hrRightA:op=1∨op=10∨op=11∨op=22∨op=12∨op=13∨op=23
      ·exact rRightA op d s t u a k pl p hrRightA ⟨hd,hs,ht,hu,ha⟩ k0 k1 w
      by_cases hrRightC:op=2∨op=3∨op=4∨op=7
      ·exact rRightC op d s t u a k pl p hrRightC ⟨hd,hs,ht,hu,ha⟩ k0 k1 w
      by_cases hrRightD:op=5∨op=6∨op=8∨op=9
      ·exact rRightD op d s t u a k pl p hrRightD ⟨hd,hs,ht,hu,ha⟩ k0 k1 w
      by_cases hrRightF:op=16∨op=18
      ·exact rRightF op d s t u a k pl p hrRightF ⟨hd,hs,ht,hu,ha⟩ k0 k1 w
      by_cases hrRightG:op=17∨op=19
      ·exact rRightG op d s t u a k pl p hrRightG ⟨hd,hs,ht,hu,ha⟩ k0 k1 w
      by_cases hrRightB:op=20∨op=21
      ·exact rRightB op d s t u a k pl p hrRightB ⟨hd,hs,ht,hu,ha⟩ k0 k1 w
      exfalso;apply hnm;exact(hs_none (by omega)).2
     ·rw[no (by omega)];exact rRightBada op d s t u a k pl p hne hd hs ht hu (by omega) w
    ·rw[no (by omega)];exact rRightBadu op d s t u a k pl p hne hd hs ht (by omega) w
   ·rw[no (by omega)];exact rRightBadt op d s t u a k pl p hne hd hs (by omega) w
  ·rw[no (by omega)];exact rRightBads op d s t u a k pl p hne hd (by omega) w
 ·rw[no (by omega)];exact rRightBadd op d s t u a k pl p hne (by omega) w
section
variable {w wr w2:World}{p x n each each' c:Nat}{M M2:PM}{R R2:RM}{free:Nat→List Nat}{gen out:List Int}{fr:Nat→List Int}{os:Int→Bool}{hv:Value}{had:List Int}
theorem Rf.bk (h:Rf w x n each R free gen out){i:Nat}(k:R.Has n i):∃ t cs,Bk w i t cs∧(t=26∨t=3):=by
 rcases k with e | e | e | ⟨s,hs,e⟩
 ·obtain⟨cs,hc⟩:=h.row.bk e;exact⟨_,cs,hc,.inl rfl⟩
 ·obtain⟨cs,hc⟩:=h.gens.bk e;exact⟨_,cs,hc,.inr rfl⟩
 ·obtain⟨cs,hc⟩:=h.outs.bk e;exact⟨_,cs,hc,.inr rfl⟩
 ·obtain⟨cs,hc⟩:=(h.frees s hs).bk e;exact⟨_,cs,hc,.inr rfl⟩
theorem Rf.not_has (h:Rf w x n each R free gen out){q:Nat}{t:TypeId}{cs:Array Value}(k:Bk w q t cs)(h1:t≠26)(h2:t≠3):¬ R.Has n q:=fun e=>by
 obtain⟨t',cs',hc,ht⟩:=h.bk e
 have:t=t':=by unfold Bk at k hc;rw[k] at hc;injection hc with hc;injection hc
 subst this
 rcases ht with e | e
 ·exact h1 e
 ·exact h2 e
end
end Go.Proofs.YthdgehcghklflaaGreatDoor
