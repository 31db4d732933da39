import Derived.Test.YthdgehcghklflaaGreatDoorTTkD
import Derived.Test.YthdgehcghklflaaGreatDoorTMem
import Derived.Test.YthdgehcghklflaaGreatDoorTHold
import Derived.Test.YthdgehcghklflaaGreatDoorTInstC
import Derived.Test.YthdgehcghklflaaGreatDoorTPrgM
set_option linter.unusedVariables false
set_option maxHeartbeats 2000000
open Go.Value renaming int->I
open Go.IntKind renaming i64->Q
open Bool renaming false->N,true->O
open Go.Lib renaming hid->Z
namespace Go.Proofs.YthdgehcghklflaaGreatDoor
section
theorem kE:∀ (m:Nat) (s:List UInt8),(ap s).length<=m+1->Lib.splitK [32] 0 m s=ap s
 | 0,s,h=>by
  rcases m6 s with h1 | ⟨t,r,h1,rfl⟩
  ·rw[cG s h1];rfl
  ·rw[fb t r h1] at h
   have:=fK r
   rw[List.length_cons] at h
   omega
 | m+1,s,h=>by
  rcases m6 s with h1 | ⟨t,r,h1,rfl⟩
  ·rw[cG s h1];unfold Lib.splitK;rw[rp s h1];rfl
  ·rw[fb t r h1] at h ⊢
   unfold Lib.splitK
   rw[rq t r h1,if_neg (by simp <;> omega)]
   have e1:(t++32 :: r).take (((t.length:Int)).toNat+0)=t:=by simp
   have e2:(t++32 :: r).drop (((t.length:Int)).toNat+[(32:UInt8)].length)=r:=by simp[List.drop_append]
   rw[e1,e2,kE m r (by simp at h;omega)]
theorem aC (s:List UInt8)(h:(ap s).length<=9):fm s=ap s:=by
 unfold fm Lib.splitN
 have:=gI s
 exact kE _ s (by omega)
def dA (n:Nat):List UInt8:=114 :: Lib.decDigits n
theorem dh (n:Nat):Bf (dA n):=by
 intro c hc
 rcases List.mem_cons.1 hc with rfl | hc
 ·decide
 ·exact dw n c hc
theorem bZ (n:Nat)(h:n<9223372036854775808):jY (Lib.decDigits n)=n:=by
 have ha:=rN n h
 obtain⟨c,r,e,h1,h2,-⟩:=iw n
 rw[e] at ha ⊢
 have n1:c≠101:=fun e=>by rw[e] at h2;exact absurd h2 (by decide)
 have n2:c≠110:=fun e=>by rw[e] at h2;exact absurd h2 (by decide)
 have n3:c≠114:=fun e=>by rw[e] at h2;exact absurd h2 (by decide)
 unfold jY
 rw[if_neg (by intro e;injection e with e _;exact n1 e),if_neg (by intro e;injection e with e _;exact n2 e)]
 have et:Lib.trimPrefix (c :: r) [114]=c :: r:=by
  unfold Lib.trimPrefix Lib.hasPrefix
  rw[if_neg (by simp[List.isPrefixOf];exact fun e=>n3 e.symm)]
 rw[et,ha]
theorem aF (n:Nat)(h:n<9223372036854775808):jY (dA n)=n:=by
 have ha:=rN n h
 unfold jY dA
 rw[if_neg (by intro e;injection e with e _;exact absurd e (by decide)),if_neg (by intro e;injection e with e _;exact absurd e (by decide))]
 have et:Lib.trimPrefix (114 :: Lib.decDigits n) [114]=Lib.decDigits n:=by
  unfold Lib.trimPrefix Lib.hasPrefix
  rw[if_pos (by simp[List.isPrefixOf])]
  rfl
 rw[et,ha]
theorem CO (dn kn:Nat):ah ⟨1,(dn:Nat),0,0,0,0,(kn:Nat),0⟩=bn (bG 1) [dA dn,Lib.decDigits kn]:=by
 simp[ah,db,az,aW,ba,ax,bn,dA]
theorem pr (dn kn:Nat):ap (ah ⟨1,(dn:Nat),0,0,0,0,(kn:Nat),0⟩)=bG 1 :: [dA dn,Lib.decDigits kn]:=by
 rw[CO]
 exact aM _ _ (by unfold Bf;decide) (by simp[dh,dw])
theorem yH (dn kn:Nat)(hdn:dn<9223372036854775808)(hkn:kn<9223372036854775808)(k1:kn<4294967296):av (ah ⟨1,(dn:Nat),0,0,0,0,(kn:Nat),0⟩)=⟨1,(dn:Nat),0,0,0,0,(kn:Nat),0⟩:=by
 unfold av
 rw[aC _ (by rw[pr];simp),pr]
 have e:ng (bG 1)=1:=by decide
 simp[bV,e,db,bX,da,cF,bW,aF dn hdn,bZ kn hkn,aK.zero]
 omega
theorem CN (dn sn:Nat):ah ⟨2,(dn:Nat),(sn:Nat),0,0,0,0,0⟩=bn (bG 2) [dA dn,dA sn]:=by
 simp[ah,db,az,aW,ba,ax,bn,dA]
theorem pq (dn sn:Nat):ap (ah ⟨2,(dn:Nat),(sn:Nat),0,0,0,0,0⟩)=bG 2 :: [dA dn,dA sn]:=by
 rw[CN]
 exact aM _ _ (by unfold Bf;decide) (by simp[dh])
theorem yG (dn sn:Nat)(hdn:dn<9223372036854775808)(hsn:sn<9223372036854775808):av (ah ⟨2,(dn:Nat),(sn:Nat),0,0,0,0,0⟩)=⟨2,(dn:Nat),(sn:Nat),0,0,0,0,0⟩:=by
 unfold av
 rw[aC _ (by rw[pq];simp),pq]
 have e:ng (bG 2)=2:=by decide
 simp[bV,e,db,bX,da,cF,bW,aF dn hdn,aF sn hsn,aK.zero]
theorem CM (dn sn kn:Nat):ah ⟨3,(dn:Nat),(sn:Nat),0,0,0,(kn:Nat),0⟩=bn (bG 3) [dA dn,dA sn,Lib.decDigits kn]:=by
 simp[ah,db,az,aW,ba,ax,bn,dA]
theorem po (dn sn kn:Nat):ap (ah ⟨3,(dn:Nat),(sn:Nat),0,0,0,(kn:Nat),0⟩)=bG 3 :: [dA dn,dA sn,Lib.decDigits kn]:=by
 rw[CM]
 exact aM _ _ (by unfold Bf;decide) (by simp[dh,dw])
theorem yF (dn sn kn:Nat)(hdn:dn<9223372036854775808)(hsn:sn<9223372036854775808)(hkn:kn<9223372036854775808)(k1:kn<4294967296):av (ah ⟨3,(dn:Nat),(sn:Nat),0,0,0,(kn:Nat),0⟩)=⟨3,(dn:Nat),(sn:Nat),0,0,0,(kn:Nat),0⟩:=by
 unfold av
 rw[aC _ (by rw[po];simp),po]
 have e:ng (bG 3)=3:=by decide
 simp[bV,e,db,bX,da,cF,bW,aF dn hdn,aF sn hsn,bZ kn hkn,aK.zero]
 omega
theorem CL (dn sn kn:Nat):ah ⟨4,(dn:Nat),(sn:Nat),0,0,0,(kn:Nat),0⟩=bn (bG 4) [dA dn,dA sn,Lib.decDigits kn]:=by
 simp[ah,db,az,aW,ba,ax,bn,dA]
theorem pm (dn sn kn:Nat):ap (ah ⟨4,(dn:Nat),(sn:Nat),0,0,0,(kn:Nat),0⟩)=bG 4 :: [dA dn,dA sn,Lib.decDigits kn]:=by
 rw[CL]
 exact aM _ _ (by unfold Bf;decide) (by simp[dh,dw])
theorem yE (dn sn kn:Nat)(hdn:dn<9223372036854775808)(hsn:sn<9223372036854775808)(hkn:kn<9223372036854775808)(k1:kn<4294967296):av (ah ⟨4,(dn:Nat),(sn:Nat),0,0,0,(kn:Nat),0⟩)=⟨4,(dn:Nat),(sn:Nat),0,0,0,(kn:Nat),0⟩:=by
 unfold av
 rw[aC _ (by rw[pm];simp),pm]
 have e:ng (bG 4)=4:=by decide
 simp[bV,e,db,bX,da,cF,bW,aF dn hdn,aF sn hsn,bZ kn hkn,aK.zero]
 omega
theorem CK (dn sn kn:Nat):ah ⟨5,(dn:Nat),(sn:Nat),0,0,0,(kn:Nat),0⟩=bn (bG 5) [dA dn,dA sn,Lib.decDigits kn]:=by
 simp[ah,db,az,aW,ba,ax,bn,dA]
theorem pk (dn sn kn:Nat):ap (ah ⟨5,(dn:Nat),(sn:Nat),0,0,0,(kn:Nat),0⟩)=bG 5 :: [dA dn,dA sn,Lib.decDigits kn]:=by
 rw[CK]
 exact aM _ _ (by unfold Bf;decide) (by simp[dh,dw])
theorem yD (dn sn kn:Nat)(hdn:dn<9223372036854775808)(hsn:sn<9223372036854775808)(hkn:kn<9223372036854775808)(k1:kn<4294967296):av (ah ⟨5,(dn:Nat),(sn:Nat),0,0,0,(kn:Nat),0⟩)=⟨5,(dn:Nat),(sn:Nat),0,0,0,(kn:Nat),0⟩:=by
 unfold av
 rw[aC _ (by rw[pk];simp),pk]
 have e:ng (bG 5)=5:=by decide
 simp[bV,e,db,bX,da,cF,bW,aF dn hdn,aF sn hsn,bZ kn hkn,aK.zero]
 omega
theorem CJ (dn sn kn:Nat):ah ⟨6,(dn:Nat),(sn:Nat),0,0,0,(kn:Nat),0⟩=bn (bG 6) [dA dn,dA sn,Lib.decDigits kn]:=by
 simp[ah,db,az,aW,ba,ax,bn,dA]
theorem pj (dn sn kn:Nat):ap (ah ⟨6,(dn:Nat),(sn:Nat),0,0,0,(kn:Nat),0⟩)=bG 6 :: [dA dn,dA sn,Lib.decDigits kn]:=by
 rw[CJ]
 exact aM _ _ (by unfold Bf;decide) (by simp[dh,dw])
theorem yC (dn sn kn:Nat)(hdn:dn<9223372036854775808)(hsn:sn<9223372036854775808)(hkn:kn<9223372036854775808)(k1:kn<4294967296):av (ah ⟨6,(dn:Nat),(sn:Nat),0,0,0,(kn:Nat),0⟩)=⟨6,(dn:Nat),(sn:Nat),0,0,0,(kn:Nat),0⟩:=by
 unfold av
 rw[aC _ (by rw[pj];simp),pj]
 have e:ng (bG 6)=6:=by decide
 simp[bV,e,db,bX,da,cF,bW,aF dn hdn,aF sn hsn,bZ kn hkn,aK.zero]
 omega
theorem CI (dn sn tn:Nat):ah ⟨7,(dn:Nat),(sn:Nat),(tn:Nat),0,0,0,0⟩=bn (bG 7) [dA dn,dA sn,dA tn]:=by
 simp[ah,db,az,aW,ba,ax,bn,dA]
theorem pi (dn sn tn:Nat):ap (ah ⟨7,(dn:Nat),(sn:Nat),(tn:Nat),0,0,0,0⟩)=bG 7 :: [dA dn,dA sn,dA tn]:=by
 rw[CI]
 exact aM _ _ (by unfold Bf;decide) (by simp[dh])
theorem yB (dn sn tn:Nat)(hdn:dn<9223372036854775808)(hsn:sn<9223372036854775808)(htn:tn<9223372036854775808):av (ah ⟨7,(dn:Nat),(sn:Nat),(tn:Nat),0,0,0,0⟩)=⟨7,(dn:Nat),(sn:Nat),(tn:Nat),0,0,0,0⟩:=by
 unfold av
 rw[aC _ (by rw[pi];simp),pi]
 have e:ng (bG 7)=7:=by decide
 simp[bV,e,db,bX,da,cF,bW,aF dn hdn,aF sn hsn,aF tn htn,aK.zero]
theorem CH (sn tn pn:Nat):ah ⟨8,0,(sn:Nat),(tn:Nat),0,0,0,(pn:Nat)⟩=bn (bG 8) [dA sn,dA tn,Lib.decDigits pn]:=by
 simp[ah,db,az,aW,ba,ax,bn,dA]
theorem ph (sn tn pn:Nat):ap (ah ⟨8,0,(sn:Nat),(tn:Nat),0,0,0,(pn:Nat)⟩)=bG 8 :: [dA sn,dA tn,Lib.decDigits pn]:=by
 rw[CH]
 exact aM _ _ (by unfold Bf;decide) (by simp[dh,dw])
theorem yA (sn tn pn:Nat)(hsn:sn<9223372036854775808)(htn:tn<9223372036854775808)(hpn:pn<9223372036854775808):av (ah ⟨8,0,(sn:Nat),(tn:Nat),0,0,0,(pn:Nat)⟩)=⟨8,0,(sn:Nat),(tn:Nat),0,0,0,(pn:Nat)⟩:=by
 unfold av
 rw[aC _ (by rw[ph];simp),ph]
 have e:ng (bG 8)=8:=by decide
 simp[bV,e,db,bX,da,cF,bW,aF sn hsn,aF tn htn,bZ pn hpn,aK.zero]
theorem CG (sn tn pn:Nat):ah ⟨9,0,(sn:Nat),(tn:Nat),0,0,0,(pn:Nat)⟩=bn (bG 9) [dA sn,dA tn,Lib.decDigits pn]:=by
 simp[ah,db,az,aW,ba,ax,bn,dA]
theorem pg (sn tn pn:Nat):ap (ah ⟨9,0,(sn:Nat),(tn:Nat),0,0,0,(pn:Nat)⟩)=bG 9 :: [dA sn,dA tn,Lib.decDigits pn]:=by
 rw[CG]
 exact aM _ _ (by unfold Bf;decide) (by simp[dh,dw])
theorem yz (sn tn pn:Nat)(hsn:sn<9223372036854775808)(htn:tn<9223372036854775808)(hpn:pn<9223372036854775808):av (ah ⟨9,0,(sn:Nat),(tn:Nat),0,0,0,(pn:Nat)⟩)=⟨9,0,(sn:Nat),(tn:Nat),0,0,0,(pn:Nat)⟩:=by
 unfold av
 rw[aC _ (by rw[pg];simp),pg]
 have e:ng (bG 9)=9:=by decide
 simp[bV,e,db,bX,da,cF,bW,aF sn hsn,aF tn htn,bZ pn hpn,aK.zero]
theorem A7 (pn:Nat):ah ⟨10,0,0,0,0,0,0,(pn:Nat)⟩=bn (bG 10) [Lib.decDigits pn]:=by
 simp[ah,db,az,aW,ba,ax,bn]
theorem mH (pn:Nat):ap (ah ⟨10,0,0,0,0,0,0,(pn:Nat)⟩)=bG 10 :: [Lib.decDigits pn]:=by
 rw[A7]
 exact aM _ _ (by unfold Bf;decide) (by simp[dw])
theorem wb (pn:Nat)(hpn:pn<9223372036854775808):av (ah ⟨10,0,0,0,0,0,0,(pn:Nat)⟩)=⟨10,0,0,0,0,0,0,(pn:Nat)⟩:=by
 unfold av
 rw[aC _ (by rw[mH];simp),mH]
 have e:ng (bG 10)=10:=by decide
 simp[bV,e,db,bX,da,cF,bW,bZ pn hpn,aK.zero]
theorem A6 (dn:Nat):ah ⟨11,(dn:Nat),0,0,0,0,0,0⟩=bn (bG 11) [dA dn]:=by
 simp[ah,db,az,aW,ba,ax,bn,dA]
theorem mG (dn:Nat):ap (ah ⟨11,(dn:Nat),0,0,0,0,0,0⟩)=bG 11 :: [dA dn]:=by
 rw[A6]
 exact aM _ _ (by unfold Bf;decide) (by simp[dh])
theorem wa (dn:Nat)(hdn:dn<9223372036854775808):av (ah ⟨11,(dn:Nat),0,0,0,0,0,0⟩)=⟨11,(dn:Nat),0,0,0,0,0,0⟩:=by
 unfold av
 rw[aC _ (by rw[mG];simp),mG]
 have e:ng (bG 11)=11:=by decide
 simp[bV,e,db,bX,da,cF,bW,aF dn hdn,aK.zero]
theorem AY (dn:Nat):ah ⟨22,(dn:Nat),0,0,0,0,0,0⟩=bn (bG 22) [dA dn]:=by
 simp[ah,db,az,aW,ba,ax,bn,dA]
theorem my (dn:Nat):ap (ah ⟨22,(dn:Nat),0,0,0,0,0,0⟩)=bG 22 :: [dA dn]:=by
 rw[AY]
 exact aM _ _ (by unfold Bf;decide) (by simp[dh])
theorem vU (dn:Nat)(hdn:dn<9223372036854775808):av (ah ⟨22,(dn:Nat),0,0,0,0,0,0⟩)=⟨22,(dn:Nat),0,0,0,0,0,0⟩:=by
 unfold av
 rw[aC _ (by rw[my];simp),my]
 have e:ng (bG 22)=22:=by decide
 simp[bV,e,db,bX,da,cF,bW,aF dn hdn,aK.zero]
theorem A5 (kn:Nat):ah ⟨12,0,0,0,0,0,(kn:Nat),0⟩=bn (bG 12) [Lib.decDigits kn]:=by
 simp[ah,db,az,aW,ba,ax,bn]
theorem mF (kn:Nat):ap (ah ⟨12,0,0,0,0,0,(kn:Nat),0⟩)=bG 12 :: [Lib.decDigits kn]:=by
 rw[A5]
 exact aM _ _ (by unfold Bf;decide) (by simp[dw])
theorem v8 (kn:Nat)(hkn:kn<9223372036854775808)(k1:kn<4294967296):av (ah ⟨12,0,0,0,0,0,(kn:Nat),0⟩)=⟨12,0,0,0,0,0,(kn:Nat),0⟩:=by
 unfold av
 rw[aC _ (by rw[mF];simp),mF]
 have e:ng (bG 12)=12:=by decide
 simp[bV,e,db,bX,da,cF,bW,bZ kn hkn,aK.zero]
 omega
theorem A4 (kn:Nat):ah ⟨13,0,0,0,0,0,(kn:Nat),0⟩=bn (bG 13) [Lib.decDigits kn]:=by
 simp[ah,db,az,aW,ba,ax,bn]
theorem mE (kn:Nat):ap (ah ⟨13,0,0,0,0,0,(kn:Nat),0⟩)=bG 13 :: [Lib.decDigits kn]:=by
 rw[A4]
 exact aM _ _ (by unfold Bf;decide) (by simp[dw])
theorem v7 (kn:Nat)(hkn:kn<9223372036854775808)(k1:kn<4294967296):av (ah ⟨13,0,0,0,0,0,(kn:Nat),0⟩)=⟨13,0,0,0,0,0,(kn:Nat),0⟩:=by
 unfold av
 rw[aC _ (by rw[mE];simp),mE]
 have e:ng (bG 13)=13:=by decide
 simp[bV,e,db,bX,da,cF,bW,bZ kn hkn,aK.zero]
 omega
theorem A3 (dn sn an:Nat):ah ⟨16,(dn:Nat),(sn:Nat),0,0,(an:Nat),0,0⟩=bn (bG 16) [dA dn,Lib.decDigits an,dA sn]:=by
 simp[ah,db,az,aW,ba,ax,bn,dA]
theorem mD (dn sn an:Nat):ap (ah ⟨16,(dn:Nat),(sn:Nat),0,0,(an:Nat),0,0⟩)=bG 16 :: [dA dn,Lib.decDigits an,dA sn]:=by
 rw[A3]
 exact aM _ _ (by unfold Bf;decide) (by simp[dh,dw])
theorem vZ (dn sn an:Nat)(hdn:dn<9223372036854775808)(hsn:sn<9223372036854775808)(han:an<9223372036854775808):av (ah ⟨16,(dn:Nat),(sn:Nat),0,0,(an:Nat),0,0⟩)=⟨16,(dn:Nat),(sn:Nat),0,0,(an:Nat),0,0⟩:=by
 unfold av
 rw[aC _ (by rw[mD];simp),mD]
 have e:ng (bG 16)=16:=by decide
 simp[bV,e,db,bX,da,cF,bW,aF dn hdn,aF sn hsn,bZ an han,aK.zero]
theorem A2 (sn tn an:Nat):ah ⟨17,0,(sn:Nat),(tn:Nat),0,(an:Nat),0,0⟩=bn (bG 17) [Lib.decDigits an,dA sn,dA tn]:=by
 simp[ah,db,az,aW,ba,ax,bn,dA]
theorem mC (sn tn an:Nat):ap (ah ⟨17,0,(sn:Nat),(tn:Nat),0,(an:Nat),0,0⟩)=bG 17 :: [Lib.decDigits an,dA sn,dA tn]:=by
 rw[A2]
 exact aM _ _ (by unfold Bf;decide) (by simp[dh,dw])
theorem vY (sn tn an:Nat)(hsn:sn<9223372036854775808)(htn:tn<9223372036854775808)(han:an<9223372036854775808):av (ah ⟨17,0,(sn:Nat),(tn:Nat),0,(an:Nat),0,0⟩)=⟨17,0,(sn:Nat),(tn:Nat),0,(an:Nat),0,0⟩:=by
 unfold av
 rw[aC _ (by rw[mC];simp),mC]
 have e:ng (bG 17)=17:=by decide
 simp[bV,e,db,bX,da,cF,bW,aF sn hsn,aF tn htn,bZ an han,aK.zero]
theorem A1 (dn sn tn an:Nat):ah ⟨18,(dn:Nat),(sn:Nat),(tn:Nat),0,(an:Nat),0,0⟩=bn (bG 18) [dA dn,Lib.decDigits an,dA sn,dA tn]:=by
 simp[ah,db,az,aW,ba,ax,bn,dA]
theorem mB (dn sn tn an:Nat):ap (ah ⟨18,(dn:Nat),(sn:Nat),(tn:Nat),0,(an:Nat),0,0⟩)=bG 18 :: [dA dn,Lib.decDigits an,dA sn,dA tn]:=by
 rw[A1]
 exact aM _ _ (by unfold Bf;decide) (by simp[dh,dw])
theorem vX (dn sn tn an:Nat)(hdn:dn<9223372036854775808)(hsn:sn<9223372036854775808)(htn:tn<9223372036854775808)(han:an<9223372036854775808):av (ah ⟨18,(dn:Nat),(sn:Nat),(tn:Nat),0,(an:Nat),0,0⟩)=⟨18,(dn:Nat),(sn:Nat),(tn:Nat),0,(an:Nat),0,0⟩:=by
 unfold av
 rw[aC _ (by rw[mB];simp),mB]
 have e:ng (bG 18)=18:=by decide
 simp[bV,e,db,bX,da,cF,bW,aF dn hdn,aF sn hsn,aF tn htn,bZ an han,aK.zero]
theorem A0 (dn sn tn un an:Nat):ah ⟨19,(dn:Nat),(sn:Nat),(tn:Nat),(un:Nat),(an:Nat),0,0⟩=bn (bG 19) [dA dn,Lib.decDigits an,dA sn,dA tn,dA un]:=by
 simp[ah,db,az,aW,ba,ax,bn,dA]
theorem mA (dn sn tn un an:Nat):ap (ah ⟨19,(dn:Nat),(sn:Nat),(tn:Nat),(un:Nat),(an:Nat),0,0⟩)=bG 19 :: [dA dn,Lib.decDigits an,dA sn,dA tn,dA un]:=by
 rw[A0]
 exact aM _ _ (by unfold Bf;decide) (by simp[dh,dw])
theorem vW (dn sn tn un an:Nat)(hdn:dn<9223372036854775808)(hsn:sn<9223372036854775808)(htn:tn<9223372036854775808)(hun:un<9223372036854775808)(han:an<9223372036854775808):av (ah ⟨19,(dn:Nat),(sn:Nat),(tn:Nat),(un:Nat),(an:Nat),0,0⟩)=⟨19,(dn:Nat),(sn:Nat),(tn:Nat),(un:Nat),(an:Nat),0,0⟩:=by
 unfold av
 rw[aC _ (by rw[mA];simp),mA]
 have e:ng (bG 19)=19:=by decide
 simp[bV,e,db,bX,da,cF,bW,aF dn hdn,aF sn hsn,aF tn htn,aF un hun,bZ an han,aK.zero]
theorem AZ (dn sn an kn:Nat):ah ⟨20,(dn:Nat),(sn:Nat),0,0,(an:Nat),(kn:Nat),0⟩=bn (bG 20) [dA dn,Lib.decDigits an,dA sn,Lib.decDigits kn]:=by
 simp[ah,db,az,aW,ba,ax,bn,dA]
theorem mz (dn sn an kn:Nat):ap (ah ⟨20,(dn:Nat),(sn:Nat),0,0,(an:Nat),(kn:Nat),0⟩)=bG 20 :: [dA dn,Lib.decDigits an,dA sn,Lib.decDigits kn]:=by
 rw[AZ]
 exact aM _ _ (by unfold Bf;decide) (by simp[dh,dw])
theorem vV (dn sn an kn:Nat)(hdn:dn<9223372036854775808)(hsn:sn<9223372036854775808)(han:an<9223372036854775808)(hkn:kn<9223372036854775808)(k1:kn<4294967296):av (ah ⟨20,(dn:Nat),(sn:Nat),0,0,(an:Nat),(kn:Nat),0⟩)=⟨20,(dn:Nat),(sn:Nat),0,0,(an:Nat),(kn:Nat),0⟩:=by
 unfold av
 rw[aC _ (by rw[mz];simp),mz]
 have e:ng (bG 20)=20:=by decide
 simp[bV,e,db,bX,da,cF,bW,aF dn hdn,aF sn hsn,bZ an han,bZ kn hkn,aK.zero]
 omega
theorem AX (sn:Nat):ah ⟨23,0,(sn:Nat),0,0,0,0,0⟩=bn (bG 23) [dA sn]:=by
 simp[ah,db,az,aW,ba,ax,bn,dA]
theorem mw (sn:Nat):ap (ah ⟨23,0,(sn:Nat),0,0,0,0,0⟩)=bG 23 :: [dA sn]:=by
 rw[AX]
 exact aM _ _ (by unfold Bf;decide) (by simp[dh])
theorem vT (sn:Nat)(hsn:sn<9223372036854775808):av (ah ⟨23,0,(sn:Nat),0,0,0,0,0⟩)=⟨23,0,(sn:Nat),0,0,0,0,0⟩:=by
 unfold av
 rw[aC _ (by rw[mw];simp),mw]
 have e:ng (bG 23)=23:=by decide
 simp[bV,e,db,bX,da,cF,bW,aF sn hsn,aK.zero]
theorem sZ (dn sn tn an pn:Nat):ah ⟨21,(dn:Nat),(sn:Nat),(tn:Nat),0,(an:Nat),0,(pn:Nat)⟩=bn (bG 21) [dA dn,Lib.decDigits an,dA sn,[101,113],dA tn,[101,108,115,101],Lib.decDigits pn]:=by
 have e:¬ ((pn:Int)=-1):=by omega
 simp[ah,db,az,aW,ba,ax,bn,dA,e]
theorem fZ (dn sn tn an pn:Nat):ap (ah ⟨21,(dn:Nat),(sn:Nat),(tn:Nat),0,(an:Nat),0,(pn:Nat)⟩)=bG 21 :: [dA dn,Lib.decDigits an,dA sn,[101,113],dA tn,[101,108,115,101],Lib.decDigits pn]:=by
 rw[sZ dn sn tn an pn]
 refine aM _ _ (by unfold Bf;decide) ?_
 have b1:Bf [101,113]:=by unfold Bf;decide
 have b2:Bf [101,108,115,101]:=by unfold Bf;decide
 simp[dh,dw,b1,b2]
theorem pa (dn sn tn an pn:Nat)(hdn:dn<9223372036854775808)(hsn:sn<9223372036854775808)(htn:tn<9223372036854775808)(han:an<9223372036854775808)(hpn:pn<9223372036854775808):av (ah ⟨21,(dn:Nat),(sn:Nat),(tn:Nat),0,(an:Nat),0,(pn:Nat)⟩)=⟨21,(dn:Nat),(sn:Nat),(tn:Nat),0,(an:Nat),0,(pn:Nat)⟩:=by
 unfold av
 rw[aC _ (by rw[fZ dn sn tn an pn];simp),fZ dn sn tn an pn]
 have e:ng (bG 21)=21:=by decide
 have v:jY [101,113]=0:=by decide
 simp[bV,e,db,bX,da,cF,bW,aF dn hdn,aF sn hsn,aF tn htn,bZ an han,bZ pn hpn,v,aK.zero]
theorem s8 (dn sn tn an pn:Nat):ah ⟨21,(dn:Nat),(sn:Nat),(tn:Nat),0,(an:Nat),0,-1⟩=bn (bG 21) [dA dn,Lib.decDigits an,dA sn,[101,113],dA tn]:=by
 simp[ah,db,az,aW,ba,ax,bn,dA]
theorem ga (dn sn tn an pn:Nat):ap (ah ⟨21,(dn:Nat),(sn:Nat),(tn:Nat),0,(an:Nat),0,-1⟩)=bG 21 :: [dA dn,Lib.decDigits an,dA sn,[101,113],dA tn]:=by
 rw[s8 dn sn tn an pn]
 refine aM _ _ (by unfold Bf;decide) ?_
 have b1:Bf [101,113]:=by unfold Bf;decide
 simp[dh,dw,b1]
theorem pd (dn sn tn an pn:Nat)(hdn:dn<9223372036854775808)(hsn:sn<9223372036854775808)(htn:tn<9223372036854775808)(han:an<9223372036854775808)(hpn:pn<9223372036854775808):av (ah ⟨21,(dn:Nat),(sn:Nat),(tn:Nat),0,(an:Nat),0,-1⟩)=⟨21,(dn:Nat),(sn:Nat),(tn:Nat),0,(an:Nat),0,-1⟩:=by
 unfold av
 rw[aC _ (by rw[ga dn sn tn an pn];simp),ga dn sn tn an pn]
 have e:ng (bG 21)=21:=by decide
 have v:jY [101,113]=0:=by decide
 simp[bV,e,db,bX,da,cF,bW,aF dn hdn,aF sn hsn,aF tn htn,bZ an han,v,aK.zero]
theorem sX (dn sn tn an pn:Nat):ah ⟨21,(dn:Nat),(sn:Nat),(tn:Nat),0,(an:Nat),1,(pn:Nat)⟩=bn (bG 21) [dA dn,Lib.decDigits an,dA sn,[110,101],dA tn,[101,108,115,101],Lib.decDigits pn]:=by
 have e:¬ ((pn:Int)=-1):=by omega
 simp[ah,db,az,aW,ba,ax,bn,dA,e]
theorem fX (dn sn tn an pn:Nat):ap (ah ⟨21,(dn:Nat),(sn:Nat),(tn:Nat),0,(an:Nat),1,(pn:Nat)⟩)=bG 21 :: [dA dn,Lib.decDigits an,dA sn,[110,101],dA tn,[101,108,115,101],Lib.decDigits pn]:=by
 rw[sX dn sn tn an pn]
 refine aM _ _ (by unfold Bf;decide) ?_
 have b1:Bf [110,101]:=by unfold Bf;decide
 have b2:Bf [101,108,115,101]:=by unfold Bf;decide
 simp[dh,dw,b1,b2]
theorem oY (dn sn tn an pn:Nat)(hdn:dn<9223372036854775808)(hsn:sn<9223372036854775808)(htn:tn<9223372036854775808)(han:an<9223372036854775808)(hpn:pn<9223372036854775808):av (ah ⟨21,(dn:Nat),(sn:Nat),(tn:Nat),0,(an:Nat),1,(pn:Nat)⟩)=⟨21,(dn:Nat),(sn:Nat),(tn:Nat),0,(an:Nat),1,(pn:Nat)⟩:=by
 unfold av
 rw[aC _ (by rw[fX dn sn tn an pn];simp),fX dn sn tn an pn]
 have e:ng (bG 21)=21:=by decide
 have v:jY [110,101]=1:=by decide
 simp[bV,e,db,bX,da,cF,bW,aF dn hdn,aF sn hsn,aF tn htn,bZ an han,bZ pn hpn,v,aK.zero]
theorem sY (dn sn tn an pn:Nat):ah ⟨21,(dn:Nat),(sn:Nat),(tn:Nat),0,(an:Nat),1,-1⟩=bn (bG 21) [dA dn,Lib.decDigits an,dA sn,[110,101],dA tn]:=by
 simp[ah,db,az,aW,ba,ax,bn,dA]
theorem fY (dn sn tn an pn:Nat):ap (ah ⟨21,(dn:Nat),(sn:Nat),(tn:Nat),0,(an:Nat),1,-1⟩)=bG 21 :: [dA dn,Lib.decDigits an,dA sn,[110,101],dA tn]:=by
 rw[sY dn sn tn an pn]
 refine aM _ _ (by unfold Bf;decide) ?_
 have b1:Bf [110,101]:=by unfold Bf;decide
 simp[dh,dw,b1]
theorem oZ (dn sn tn an pn:Nat)(hdn:dn<9223372036854775808)(hsn:sn<9223372036854775808)(htn:tn<9223372036854775808)(han:an<9223372036854775808)(hpn:pn<9223372036854775808):av (ah ⟨21,(dn:Nat),(sn:Nat),(tn:Nat),0,(an:Nat),1,-1⟩)=⟨21,(dn:Nat),(sn:Nat),(tn:Nat),0,(an:Nat),1,-1⟩:=by
 unfold av
 rw[aC _ (by rw[fY dn sn tn an pn];simp),fY dn sn tn an pn]
 have e:ng (bG 21)=21:=by decide
 have v:jY [110,101]=1:=by decide
 simp[bV,e,db,bX,da,cF,bW,aF dn hdn,aF sn hsn,aF tn htn,bZ an han,v,aK.zero]
theorem qv (i:aK)(h:ar i 1073741824=O)(k0:0<=i.k)(k1:i.k<4294967296):av (ah i)=i:=by
 obtain⟨hd,hs,ht,hu,ha⟩:=ee i _ h
 obtain⟨op,d,s,t,u,a,k,pl⟩:=i
 simp only at hd hs ht hu ha k0 k1
 rcases ci op with rfl|rfl|rfl|rfl|rfl|rfl|rfl|rfl|rfl|rfl|rfl|rfl|rfl|rfl|rfl|rfl|rfl|rfl|rfl|rfl|rfl | hn
 ·skip
  have hr:=lL d s t u a k pl 1073741824 hd hs ht hu ha k0 k1
  rw[h] at hr
  simp[df] at hr
  obtain⟨dn,rfl⟩:∃ n:Nat,d=n:=⟨d.toNat,by omega⟩
  obtain⟨sn,rfl⟩:∃ n:Nat,s=n:=⟨s.toNat,by omega⟩
  obtain⟨tn,rfl⟩:∃ n:Nat,t=n:=⟨t.toNat,by omega⟩
  obtain⟨un,rfl⟩:∃ n:Nat,u=n:=⟨u.toNat,by omega⟩
  obtain⟨an,rfl⟩:∃ n:Nat,a=n:=⟨a.toNat,by omega⟩
  obtain⟨kn,rfl⟩:∃ n:Nat,k=n:=⟨k.toNat,by omega⟩
  obtain rfl:sn=0:=by omega
  obtain rfl:tn=0:=by omega
  obtain rfl:un=0:=by omega
  obtain rfl:an=0:=by omega
  obtain rfl:pl=0:=by omega
  exact yH dn kn (by omega) (by omega) (by omega)
 ·skip
  have hr:=lK d s t u a k pl 1073741824 hd hs ht hu ha k0 k1
  rw[h] at hr
  simp[df] at hr
  obtain⟨dn,rfl⟩:∃ n:Nat,d=n:=⟨d.toNat,by omega⟩
  obtain⟨sn,rfl⟩:∃ n:Nat,s=n:=⟨s.toNat,by omega⟩
  obtain⟨tn,rfl⟩:∃ n:Nat,t=n:=⟨t.toNat,by omega⟩
  obtain⟨un,rfl⟩:∃ n:Nat,u=n:=⟨u.toNat,by omega⟩
  obtain⟨an,rfl⟩:∃ n:Nat,a=n:=⟨a.toNat,by omega⟩
  obtain⟨kn,rfl⟩:∃ n:Nat,k=n:=⟨k.toNat,by omega⟩
  obtain rfl:tn=0:=by omega
  obtain rfl:un=0:=by omega
  obtain rfl:an=0:=by omega
  obtain rfl:kn=0:=by omega
  obtain rfl:pl=0:=by omega
  exact yG dn sn (by omega) (by omega)
 ·skip
  have hr:=lJ d s t u a k pl 1073741824 hd hs ht hu ha k0 k1
  rw[h] at hr
  simp[df] at hr
  obtain⟨dn,rfl⟩:∃ n:Nat,d=n:=⟨d.toNat,by omega⟩
  obtain⟨sn,rfl⟩:∃ n:Nat,s=n:=⟨s.toNat,by omega⟩
  obtain⟨tn,rfl⟩:∃ n:Nat,t=n:=⟨t.toNat,by omega⟩
  obtain⟨un,rfl⟩:∃ n:Nat,u=n:=⟨u.toNat,by omega⟩
  obtain⟨an,rfl⟩:∃ n:Nat,a=n:=⟨a.toNat,by omega⟩
  obtain⟨kn,rfl⟩:∃ n:Nat,k=n:=⟨k.toNat,by omega⟩
  obtain rfl:tn=0:=by omega
  obtain rfl:un=0:=by omega
  obtain rfl:an=0:=by omega
  obtain rfl:pl=0:=by omega
  exact yF dn sn kn (by omega) (by omega) (by omega) (by omega)
 ·skip
  have hr:=lI d s t u a k pl 1073741824 hd hs ht hu ha k0 k1
  rw[h] at hr
  simp[df] at hr
  obtain⟨dn,rfl⟩:∃ n:Nat,d=n:=⟨d.toNat,by omega⟩
  obtain⟨sn,rfl⟩:∃ n:Nat,s=n:=⟨s.toNat,by omega⟩
  obtain⟨tn,rfl⟩:∃ n:Nat,t=n:=⟨t.toNat,by omega⟩
  obtain⟨un,rfl⟩:∃ n:Nat,u=n:=⟨u.toNat,by omega⟩
  obtain⟨an,rfl⟩:∃ n:Nat,a=n:=⟨a.toNat,by omega⟩
  obtain⟨kn,rfl⟩:∃ n:Nat,k=n:=⟨k.toNat,by omega⟩
  obtain rfl:tn=0:=by omega
  obtain rfl:un=0:=by omega
  obtain rfl:an=0:=by omega
  obtain rfl:pl=0:=by omega
  exact yE dn sn kn (by omega) (by omega) (by omega) (by omega)
 ·skip
  have hr:=jO d s t u a k pl 1073741824 hd hs ht hu ha k0 k1
  rw[h] at hr
  simp[df] at hr
  obtain⟨dn,rfl⟩:∃ n:Nat,d=n:=⟨d.toNat,by omega⟩
  obtain⟨sn,rfl⟩:∃ n:Nat,s=n:=⟨s.toNat,by omega⟩
  obtain⟨tn,rfl⟩:∃ n:Nat,t=n:=⟨t.toNat,by omega⟩
  obtain⟨un,rfl⟩:∃ n:Nat,u=n:=⟨u.toNat,by omega⟩
  obtain⟨an,rfl⟩:∃ n:Nat,a=n:=⟨a.toNat,by omega⟩
  obtain⟨kn,rfl⟩:∃ n:Nat,k=n:=⟨k.toNat,by omega⟩
  obtain rfl:tn=0:=by omega
  obtain rfl:un=0:=by omega
  obtain rfl:an=0:=by omega
  obtain rfl:pl=0:=by omega
  exact yD dn sn kn (by omega) (by omega) (by omega) (by omega)
 ·skip
  have hr:=jN d s t u a k pl 1073741824 hd hs ht hu ha k0 k1
  rw[h] at hr
  simp[df] at hr
  obtain⟨dn,rfl⟩:∃ n:Nat,d=n:=⟨d.toNat,by omega⟩
  obtain⟨sn,rfl⟩:∃ n:Nat,s=n:=⟨s.toNat,by omega⟩
  obtain⟨tn,rfl⟩:∃ n:Nat,t=n:=⟨t.toNat,by omega⟩
  obtain⟨un,rfl⟩:∃ n:Nat,u=n:=⟨u.toNat,by omega⟩
  obtain⟨an,rfl⟩:∃ n:Nat,a=n:=⟨a.toNat,by omega⟩
  obtain⟨kn,rfl⟩:∃ n:Nat,k=n:=⟨k.toNat,by omega⟩
  obtain rfl:tn=0:=by omega
  obtain rfl:un=0:=by omega
  obtain rfl:an=0:=by omega
  obtain rfl:pl=0:=by omega
  exact yC dn sn kn (by omega) (by omega) (by omega) (by omega)
 ·skip
  have hr:=lH d s t u a k pl 1073741824 hd hs ht hu ha k0 k1
  rw[h] at hr
  simp[df] at hr
  obtain⟨dn,rfl⟩:∃ n:Nat,d=n:=⟨d.toNat,by omega⟩
  obtain⟨sn,rfl⟩:∃ n:Nat,s=n:=⟨s.toNat,by omega⟩
  obtain⟨tn,rfl⟩:∃ n:Nat,t=n:=⟨t.toNat,by omega⟩
  obtain⟨un,rfl⟩:∃ n:Nat,u=n:=⟨u.toNat,by omega⟩
  obtain⟨an,rfl⟩:∃ n:Nat,a=n:=⟨a.toNat,by omega⟩
  obtain⟨kn,rfl⟩:∃ n:Nat,k=n:=⟨k.toNat,by omega⟩
  obtain rfl:un=0:=by omega
  obtain rfl:an=0:=by omega
  obtain rfl:kn=0:=by omega
  obtain rfl:pl=0:=by omega
  exact yB dn sn tn (by omega) (by omega) (by omega)
 ·skip
  have hr:=lG d s t u a k pl 1073741824 hd hs ht hu ha k0 k1
  rw[h] at hr
  simp[df] at hr
  obtain⟨dn,rfl⟩:∃ n:Nat,d=n:=⟨d.toNat,by omega⟩
  obtain⟨sn,rfl⟩:∃ n:Nat,s=n:=⟨s.toNat,by omega⟩
  obtain⟨tn,rfl⟩:∃ n:Nat,t=n:=⟨t.toNat,by omega⟩
  obtain⟨un,rfl⟩:∃ n:Nat,u=n:=⟨u.toNat,by omega⟩
  obtain⟨an,rfl⟩:∃ n:Nat,a=n:=⟨a.toNat,by omega⟩
  obtain⟨kn,rfl⟩:∃ n:Nat,k=n:=⟨k.toNat,by omega⟩
  obtain rfl:dn=0:=by omega
  obtain rfl:un=0:=by omega
  obtain rfl:an=0:=by omega
  obtain rfl:kn=0:=by omega
  obtain⟨pn,rfl⟩:∃ n:Nat,pl=n:=⟨pl.toNat,by omega⟩
  exact yA sn tn pn (by omega) (by omega) (by omega)
 ·skip
  have hr:=lF d s t u a k pl 1073741824 hd hs ht hu ha k0 k1
  rw[h] at hr
  simp[df] at hr
  obtain⟨dn,rfl⟩:∃ n:Nat,d=n:=⟨d.toNat,by omega⟩
  obtain⟨sn,rfl⟩:∃ n:Nat,s=n:=⟨s.toNat,by omega⟩
  obtain⟨tn,rfl⟩:∃ n:Nat,t=n:=⟨t.toNat,by omega⟩
  obtain⟨un,rfl⟩:∃ n:Nat,u=n:=⟨u.toNat,by omega⟩
  obtain⟨an,rfl⟩:∃ n:Nat,a=n:=⟨a.toNat,by omega⟩
  obtain⟨kn,rfl⟩:∃ n:Nat,k=n:=⟨k.toNat,by omega⟩
  obtain rfl:dn=0:=by omega
  obtain rfl:un=0:=by omega
  obtain rfl:an=0:=by omega
  obtain rfl:kn=0:=by omega
  obtain⟨pn,rfl⟩:∃ n:Nat,pl=n:=⟨pl.toNat,by omega⟩
  exact yz sn tn pn (by omega) (by omega) (by omega)
 ·skip
  have hr:=jF d s t u a k pl 1073741824 hd hs ht hu ha k0 k1
  rw[h] at hr
  simp[df] at hr
  obtain⟨dn,rfl⟩:∃ n:Nat,d=n:=⟨d.toNat,by omega⟩
  obtain⟨sn,rfl⟩:∃ n:Nat,s=n:=⟨s.toNat,by omega⟩
  obtain⟨tn,rfl⟩:∃ n:Nat,t=n:=⟨t.toNat,by omega⟩
  obtain⟨un,rfl⟩:∃ n:Nat,u=n:=⟨u.toNat,by omega⟩
  obtain⟨an,rfl⟩:∃ n:Nat,a=n:=⟨a.toNat,by omega⟩
  obtain⟨kn,rfl⟩:∃ n:Nat,k=n:=⟨k.toNat,by omega⟩
  obtain rfl:dn=0:=by omega
  obtain rfl:sn=0:=by omega
  obtain rfl:tn=0:=by omega
  obtain rfl:un=0:=by omega
  obtain rfl:an=0:=by omega
  obtain rfl:kn=0:=by omega
  obtain⟨pn,rfl⟩:∃ n:Nat,pl=n:=⟨pl.toNat,by omega⟩
  exact wb pn (by omega)
 ·skip
  have hr:=jE d s t u a k pl 1073741824 hd hs ht hu ha k0 k1
  rw[h] at hr
  simp[df] at hr
  obtain⟨dn,rfl⟩:∃ n:Nat,d=n:=⟨d.toNat,by omega⟩
  obtain⟨sn,rfl⟩:∃ n:Nat,s=n:=⟨s.toNat,by omega⟩
  obtain⟨tn,rfl⟩:∃ n:Nat,t=n:=⟨t.toNat,by omega⟩
  obtain⟨un,rfl⟩:∃ n:Nat,u=n:=⟨u.toNat,by omega⟩
  obtain⟨an,rfl⟩:∃ n:Nat,a=n:=⟨a.toNat,by omega⟩
  obtain⟨kn,rfl⟩:∃ n:Nat,k=n:=⟨k.toNat,by omega⟩
  obtain rfl:sn=0:=by omega
  obtain rfl:tn=0:=by omega
  obtain rfl:un=0:=by omega
  obtain rfl:an=0:=by omega
  obtain rfl:kn=0:=by omega
  obtain rfl:pl=0:=by omega
  exact wa dn (by omega)
 ·skip
  have hr:=ir d s t u a k pl 1073741824 hd hs ht hu ha k0 k1
  rw[h] at hr
  simp[df] at hr
  obtain⟨dn,rfl⟩:∃ n:Nat,d=n:=⟨d.toNat,by omega⟩
  obtain⟨sn,rfl⟩:∃ n:Nat,s=n:=⟨s.toNat,by omega⟩
  obtain⟨tn,rfl⟩:∃ n:Nat,t=n:=⟨t.toNat,by omega⟩
  obtain⟨un,rfl⟩:∃ n:Nat,u=n:=⟨u.toNat,by omega⟩
  obtain⟨an,rfl⟩:∃ n:Nat,a=n:=⟨a.toNat,by omega⟩
  obtain⟨kn,rfl⟩:∃ n:Nat,k=n:=⟨k.toNat,by omega⟩
  obtain rfl:dn=0:=by omega
  obtain rfl:sn=0:=by omega
  obtain rfl:tn=0:=by omega
  obtain rfl:un=0:=by omega
  obtain rfl:an=0:=by omega
  obtain rfl:pl=0:=by omega
  exact v8 kn (by omega) (by omega)
 ·skip
  have hr:=iq d s t u a k pl 1073741824 hd hs ht hu ha k0 k1
  rw[h] at hr
  simp[df] at hr
  obtain⟨dn,rfl⟩:∃ n:Nat,d=n:=⟨d.toNat,by omega⟩
  obtain⟨sn,rfl⟩:∃ n:Nat,s=n:=⟨s.toNat,by omega⟩
  obtain⟨tn,rfl⟩:∃ n:Nat,t=n:=⟨t.toNat,by omega⟩
  obtain⟨un,rfl⟩:∃ n:Nat,u=n:=⟨u.toNat,by omega⟩
  obtain⟨an,rfl⟩:∃ n:Nat,a=n:=⟨a.toNat,by omega⟩
  obtain⟨kn,rfl⟩:∃ n:Nat,k=n:=⟨k.toNat,by omega⟩
  obtain rfl:dn=0:=by omega
  obtain rfl:sn=0:=by omega
  obtain rfl:tn=0:=by omega
  obtain rfl:un=0:=by omega
  obtain rfl:an=0:=by omega
  obtain rfl:pl=0:=by omega
  exact v7 kn (by omega) (by omega)
 ·skip
  have hr:=jD d s t u a k pl 1073741824 hd hs ht hu ha k0 k1
  rw[h] at hr
  simp[df] at hr
  obtain⟨dn,rfl⟩:∃ n:Nat,d=n:=⟨d.toNat,by omega⟩
  obtain⟨sn,rfl⟩:∃ n:Nat,s=n:=⟨s.toNat,by omega⟩
  obtain⟨tn,rfl⟩:∃ n:Nat,t=n:=⟨t.toNat,by omega⟩
  obtain⟨un,rfl⟩:∃ n:Nat,u=n:=⟨u.toNat,by omega⟩
  obtain⟨an,rfl⟩:∃ n:Nat,a=n:=⟨a.toNat,by omega⟩
  obtain⟨kn,rfl⟩:∃ n:Nat,k=n:=⟨k.toNat,by omega⟩
  obtain rfl:tn=0:=by omega
  obtain rfl:un=0:=by omega
  obtain rfl:kn=0:=by omega
  obtain rfl:pl=0:=by omega
  exact vZ dn sn an (by omega) (by omega) (by omega)
 ·skip
  have hr:=jC d s t u a k pl 1073741824 hd hs ht hu ha k0 k1
  rw[h] at hr
  simp[df] at hr
  obtain⟨dn,rfl⟩:∃ n:Nat,d=n:=⟨d.toNat,by omega⟩
  obtain⟨sn,rfl⟩:∃ n:Nat,s=n:=⟨s.toNat,by omega⟩
  obtain⟨tn,rfl⟩:∃ n:Nat,t=n:=⟨t.toNat,by omega⟩
  obtain⟨un,rfl⟩:∃ n:Nat,u=n:=⟨u.toNat,by omega⟩
  obtain⟨an,rfl⟩:∃ n:Nat,a=n:=⟨a.toNat,by omega⟩
  obtain⟨kn,rfl⟩:∃ n:Nat,k=n:=⟨k.toNat,by omega⟩
  obtain rfl:dn=0:=by omega
  obtain rfl:un=0:=by omega
  obtain rfl:kn=0:=by omega
  obtain rfl:pl=0:=by omega
  exact vY sn tn an (by omega) (by omega) (by omega)
 ·skip
  have hr:=jB d s t u a k pl 1073741824 hd hs ht hu ha k0 k1
  rw[h] at hr
  simp[df] at hr
  obtain⟨dn,rfl⟩:∃ n:Nat,d=n:=⟨d.toNat,by omega⟩
  obtain⟨sn,rfl⟩:∃ n:Nat,s=n:=⟨s.toNat,by omega⟩
  obtain⟨tn,rfl⟩:∃ n:Nat,t=n:=⟨t.toNat,by omega⟩
  obtain⟨un,rfl⟩:∃ n:Nat,u=n:=⟨u.toNat,by omega⟩
  obtain⟨an,rfl⟩:∃ n:Nat,a=n:=⟨a.toNat,by omega⟩
  obtain⟨kn,rfl⟩:∃ n:Nat,k=n:=⟨k.toNat,by omega⟩
  obtain rfl:un=0:=by omega
  obtain rfl:kn=0:=by omega
  obtain rfl:pl=0:=by omega
  exact vX dn sn tn an (by omega) (by omega) (by omega) (by omega)
 ·skip
  have hr:=jA d s t u a k pl 1073741824 hd hs ht hu ha k0 k1
  rw[h] at hr
  simp[df] at hr
  obtain⟨dn,rfl⟩:∃ n:Nat,d=n:=⟨d.toNat,by omega⟩
  obtain⟨sn,rfl⟩:∃ n:Nat,s=n:=⟨s.toNat,by omega⟩
  obtain⟨tn,rfl⟩:∃ n:Nat,t=n:=⟨t.toNat,by omega⟩
  obtain⟨un,rfl⟩:∃ n:Nat,u=n:=⟨u.toNat,by omega⟩
  obtain⟨an,rfl⟩:∃ n:Nat,a=n:=⟨a.toNat,by omega⟩
  obtain⟨kn,rfl⟩:∃ n:Nat,k=n:=⟨k.toNat,by omega⟩
  obtain rfl:kn=0:=by omega
  obtain rfl:pl=0:=by omega
  exact vW dn sn tn un an (by omega) (by omega) (by omega) (by omega) (by omega)
 ·skip
  have hr:=jz d s t u a k pl 1073741824 hd hs ht hu ha k0 k1
  rw[h] at hr
  simp[df] at hr
  obtain⟨dn,rfl⟩:∃ n:Nat,d=n:=⟨d.toNat,by omega⟩
  obtain⟨sn,rfl⟩:∃ n:Nat,s=n:=⟨s.toNat,by omega⟩
  obtain⟨tn,rfl⟩:∃ n:Nat,t=n:=⟨t.toNat,by omega⟩
  obtain⟨un,rfl⟩:∃ n:Nat,u=n:=⟨u.toNat,by omega⟩
  obtain⟨an,rfl⟩:∃ n:Nat,a=n:=⟨a.toNat,by omega⟩
  obtain⟨kn,rfl⟩:∃ n:Nat,k=n:=⟨k.toNat,by omega⟩
  obtain rfl:tn=0:=by omega
  obtain rfl:un=0:=by omega
  obtain rfl:pl=0:=by omega
  exact vV dn sn an kn (by omega) (by omega) (by omega) (by omega) (by omega)
 ·skip
  have hr:=gE d s t u a k pl 1073741824 hd hs ht hu ha k0 k1
  rw[h] at hr
  simp[df] at hr
  obtain⟨dn,rfl⟩:∃ n:Nat,d=n:=⟨d.toNat,by omega⟩
  obtain⟨sn,rfl⟩:∃ n:Nat,s=n:=⟨s.toNat,by omega⟩
  obtain⟨tn,rfl⟩:∃ n:Nat,t=n:=⟨t.toNat,by omega⟩
  obtain⟨un,rfl⟩:∃ n:Nat,u=n:=⟨u.toNat,by omega⟩
  obtain⟨an,rfl⟩:∃ n:Nat,a=n:=⟨a.toNat,by omega⟩
  obtain⟨kn,rfl⟩:∃ n:Nat,k=n:=⟨k.toNat,by omega⟩
  obtain rfl:un=0:=by omega
  by_cases hm:pl=-1
  ·subst hm
   by_cases hk:kn=0
   ·subst hk;exact pd dn sn tn an 0 (by omega) (by omega) (by omega) (by omega) (by omega)
   ·obtain rfl:kn=1:=by omega
    exact oZ dn sn tn an 0 (by omega) (by omega) (by omega) (by omega) (by omega)
  ·obtain⟨pn,rfl⟩:∃ n:Nat,pl=n:=⟨pl.toNat,by omega⟩
   by_cases hk:kn=0
   ·subst hk;exact pa dn sn tn an pn (by omega) (by omega) (by omega) (by omega) (by omega)
   ·obtain rfl:kn=1:=by omega
    exact oY dn sn tn an pn (by omega) (by omega) (by omega) (by omega) (by omega)
 ·skip
  have hr:=jy d s t u a k pl 1073741824 hd hs ht hu ha k0 k1
  rw[h] at hr
  simp[df] at hr
  obtain⟨dn,rfl⟩:∃ n:Nat,d=n:=⟨d.toNat,by omega⟩
  obtain⟨sn,rfl⟩:∃ n:Nat,s=n:=⟨s.toNat,by omega⟩
  obtain⟨tn,rfl⟩:∃ n:Nat,t=n:=⟨t.toNat,by omega⟩
  obtain⟨un,rfl⟩:∃ n:Nat,u=n:=⟨u.toNat,by omega⟩
  obtain⟨an,rfl⟩:∃ n:Nat,a=n:=⟨a.toNat,by omega⟩
  obtain⟨kn,rfl⟩:∃ n:Nat,k=n:=⟨k.toNat,by omega⟩
  obtain rfl:sn=0:=by omega
  obtain rfl:tn=0:=by omega
  obtain rfl:un=0:=by omega
  obtain rfl:an=0:=by omega
  obtain rfl:kn=0:=by omega
  obtain rfl:pl=0:=by omega
  exact vU dn (by omega)
 ·skip
  have hr:=jx d s t u a k pl 1073741824 hd hs ht hu ha k0 k1
  rw[h] at hr
  simp[df] at hr
  obtain⟨dn,rfl⟩:∃ n:Nat,d=n:=⟨d.toNat,by omega⟩
  obtain⟨sn,rfl⟩:∃ n:Nat,s=n:=⟨s.toNat,by omega⟩
  obtain⟨tn,rfl⟩:∃ n:Nat,t=n:=⟨t.toNat,by omega⟩
  obtain⟨un,rfl⟩:∃ n:Nat,u=n:=⟨u.toNat,by omega⟩
  obtain⟨an,rfl⟩:∃ n:Nat,a=n:=⟨a.toNat,by omega⟩
  obtain⟨kn,rfl⟩:∃ n:Nat,k=n:=⟨k.toNat,by omega⟩
  obtain rfl:dn=0:=by omega
  obtain rfl:tn=0:=by omega
  obtain rfl:un=0:=by omega
  obtain rfl:an=0:=by omega
  obtain rfl:kn=0:=by omega
  obtain rfl:pl=0:=by omega
  exact vT sn (by omega)
 ·exfalso
  unfold ar at h
  simp only[(dt hn).1] at h
  cases h
theorem sJ (i:aK)(h:ar i 1073741824=O)(k0:0<=i.k)(k1:i.k<4294967296):jj (ah i)=O/\av (ah i)=i:=by
 have e:=qv i h k0 k1
 refine⟨?_,e⟩
 unfold jj
 rw[e,h]
 simp
end
section
open Go.ChangeShapes Go.WideShapes Go.ChangeAt Go.RowKit
def iQ (s:List UInt8):Int:=
 if s.length=2/\(s.getD 0 0).toNat=114/\48<=(s.getD 1 0).toNat/\(s.getD 1 0).toNat<=55 then ((s.getD 1 0).toNat:Int)-48 else -1
theorem vh (s:List UInt8)(hl:s.length<100000)(w:World):
 Calls Tryz.prog 142 #[bs s] w fun e w'=>e=.returned (I Q (iQ s))/\w=w':=by
 have E:iQ s=if s.length=2/\(s.getD 0 0).toNat=114/\48<=(s.getD 1 0).toNat/\(s.getD 1 0).toNat<=55 then ((s.getD 1 0).toNat:Int)-48 else -1:=rfl
 generalize iQ s=r at *
 unfold bs
 by_cases h2:s.length=2
 ·have i0:∀ w,(Instr.index 9 (.string ⟨s.toArray⟩) (I Q 0)).run Tryz.prog w=.ok (I .u8 ((s.getD 0 0).toNat:Int)) w:=ez s 0 (by omega)
  have i1:∀ w,(Instr.index 9 (.string ⟨s.toArray⟩) (I Q 1)).run Tryz.prog w=.ok (I .u8 ((s.getD 1 0).toNat:Int)) w:=ez s 1 (by omega)
  generalize (s.getD 0 0).toNat=x at *
  generalize (s.getD 1 0).toNat=y at *
  have dl:((s.length:Int) != 2)=N:=by simp;omega
  by_cases h1:x=114
  ·subst h1
   by_cases h3:y<48
   ·have HE:=Z (E.trans (if_neg (by omega)))
    clear E h2
    have d:(y:Int)<48:=by omega
    have d0:((114:Nat):Int)=114:=rfl
    rw[d0] at i0
    clear d0
    go_enter Tryz.func142,Tryz.ntmps142
    go_wp2
    go_ret
    exact⟨cg HE.out.symm,rfl⟩
   have d0:((114:Nat):Int)=114:=rfl
   rw[d0] at i0
   clear d0
   by_cases h4:55<y
   ·have HE:=Z (E.trans (if_neg (by omega)))
    clear E h2
    have d:decide ((y:Int)<48)=N:=by simp;omega
    have d2:(y:Int) > 55:=by omega
    go_enter Tryz.func142,Tryz.ntmps142
    go_wp2
    go_ret
    exact⟨cg HE.out.symm,rfl⟩
   ·have HE:=Z (E.trans (if_pos (by omega)))
    clear E h2
    have d:decide ((y:Int)<48)=N:=by simp;omega
    have d2:decide ((y:Int) > 55)=N:=by simp;omega
    have d3:48<=(y:Int):=by omega
    have d4:(y:Int)<=55:=by omega
    go_enter Tryz.func142,Tryz.ntmps142
    go_wp2
    go_ret
    exact⟨cg HE.out.symm,rfl⟩
  ·have HE:=Z (E.trans (if_neg (by omega)))
   clear E h2
   have d:((x:Int) != 114)=O:=by simp;omega
   go_enter Tryz.func142,Tryz.ntmps142
   go_wp2
   go_ret
   exact⟨cg HE.out.symm,rfl⟩
 ·have HE:=Z (E.trans (if_neg (by omega)))
  have d:((s.length:Int) != 2)=O:=by simp;omega
  clear E
  go_enter Tryz.func142,Tryz.ntmps142
  go_wp2
  go_ret
  exact⟨cg HE.out.symm,rfl⟩
def dr (acc:Int):List UInt8->Option Int
 | []=>some acc
 | c :: r=>if 48<=c.toNat/\c.toNat<=57 then dr (acc*10+((c.toNat:Int)-48)) r else none
def pU:Option Int->Int
 | none=>-1
 | some n=>if 4294967295<n then -1 else n
def kN (s:List UInt8):Int:=
 if s=[]\/10<s.length\/(1<s.length/\(s.getD 0 0).toNat=48) then -1 else pU (dr 0 s)
theorem oX (acc:Int)(s:List UInt8)(k:Nat)(h:k<s.length):
 dr acc (s.drop k)=if 48<=(s.getD k 0).toNat/\(s.getD k 0).toNat<=57 then dr (acc*10+(((s.getD k 0).toNat:Int)-48)) (s.drop (k+1)) else none:=by
 rw[List.drop_eq_getElem_cons h]
 simp[dr,h]
def xi:Nat->Int
 | 0=>1
 | n+1=>xi n*10
theorem Ak:∀ k,k<=10->1<=xi k/\xi k<=10000000000:=by
 intro k hk
 have:k=0\/k=1\/k=2\/k=3\/k=4\/k=5\/k=6\/k=7\/k=8\/k=9\/k=10:=by omega
 rcases this with rfl|rfl|rfl|rfl|rfl|rfl|rfl|rfl|rfl|rfl|rfl <;> decide
theorem Az (s:List UInt8)(hl:s.length<100000)(w:World):
 Calls Tryz.prog 143 #[bs s] w fun e w'=>e=.returned (I Q (kN s))/\w=w':=by
 have E:kN s=if s=[]\/10<s.length\/(1<s.length/\(s.getD 0 0).toNat=48) then -1 else pU (dr 0 s):=rfl
 generalize kN s=r at *
 by_cases h0:s=[]
 ·subst h0
  have HE:=Z (E.trans (if_pos (.inl rfl)))
  clear E
  unfold bs
  go_enter Tryz.func143,Tryz.ntmps143
  go_wp2
  go_ret
  exact⟨cg HE.out.symm,rfl⟩
 have he:s.isEmpty=N:=by simpa using h0
 have hpos:0<s.length:=List.length_pos_iff.2 h0
 by_cases h10:10<s.length
 ·have HE:=Z (E.trans (if_pos (.inr (.inl h10))))
  have d:(s.length:Int) > 10:=by omega
  clear E h0
  unfold bs
  go_enter Tryz.func143,Tryz.ntmps143
  go_wp2
  go_ret
  exact⟨cg HE.out.symm,rfl⟩
 have d10:decide ((s.length:Int) > 10)=N:=by simp;omega
 have i0:∀ w,(Instr.index 9 (.string ⟨s.toArray⟩) (I Q 0)).run Tryz.prog w=.ok (I .u8 ((s.getD 0 0).toNat:Int)) w:=ez s 0 hpos
 by_cases h1:1<s.length/\(s.getD 0 0).toNat=48
 ·have HE:=Z (E.trans (if_pos (.inr (.inr h1))))
  obtain⟨h1,h48⟩:=h1
  rw[h48] at i0
  have d0:((48:Nat):Int)=48:=rfl
  rw[d0] at i0
  clear d0
  have d:(s.length:Int) > 1:=by omega
  clear E h0 h48
  unfold bs
  go_enter Tryz.func143,Tryz.ntmps143
  go_wp2
  go_ret
  exact⟨cg HE.out.symm,rfl⟩
 have E2:r=pU (dr 0 s):=E.trans (if_neg (by
  rintro(h | h | h)
  ·exact h0 h
  ·exact h10 h
  ·exact h1 h))
 have HE:=Z E2
 clear E E2
 have HK:=Z (Ak)
 generalize (s.getD 0 0).toNat=c0 at *
 unfold bs
 have hgo:∀ (K:Prop),((decide ((s.length:Int) > 1)=N->K)/\(decide ((s.length:Int) > 1)=O->((c0:Int)==48)=N->K))->K:=by
  intro K hK
  by_cases h:s.length=1
  ·exact hK.1 (by simp;omega)
  ·have:c0≠48:=fun e=>h1 ⟨by omega,e⟩
   exact hK.2 (by simp;omega) (by simp;omega)
 refine hgo _ ⟨fun hd1=>?_,fun hd1 hd2=>?_⟩
 all_goals
  clear hgo h0 h1
  go_enter Tryz.func143,Tryz.ntmps143
  go_wp2
  go_loop [3,4] (fun n i=>∃ (k:Nat) (v:Int),k<=s.length/\i=I Q k/\n=I Q v/\0<=v/\v<xi k/\r=pU (dr v (s.drop k))) (fun _ i=>s.length-(intOf i).toNat)
  case atStart=>exact⟨0,0,Nat.zero_le _,rfl,rfl,by omega,by decide,HE.out⟩
  case round=>
   obtain⟨k,v,hk,rfl,rfl,v0,v1,hr⟩:=hrel
   obtain⟨q0,q1⟩:=HK.out k (by omega)
   by_cases hlt:k<s.length
   ·have ix:=ez s k hlt
    rw[oX v s k hlt] at hr
    have hrf:xi (k+1)=xi k*10:=rfl
    have hu:=(s.getD k 0).toNat_lt
    generalize (s.getD k 0).toNat=c at *
    have HR:=Z hr
    have HF:=Z hrf
    clear hr hrf
    by_cases c1:c<48
    ·rw[if_neg (by omega)] at HR
     have d1:(c:Int)<48:=by omega
     go_wp2
     go_ret
     exact⟨cg HR.out.symm,rfl⟩
    by_cases c2:57<c
    ·rw[if_neg (by omega)] at HR
     have d1:decide ((c:Int)<48)=N:=by simp;omega
     have d2:(c:Int) > 57:=by omega
     go_wp2
     go_ret
     exact⟨cg HR.out.symm,rfl⟩
    ·rw[if_pos (by omega)] at HR
     have d1:decide ((c:Int)<48)=N:=by simp;omega
     have d2:decide ((c:Int) > 57)=N:=by simp;omega
     have d3:48<=(c:Int):=by omega
     have d4:(c:Int)<=57:=by omega
     have hv9:v<10000000000:=by omega
     have hk10:(k:Int)<=10:=by omega
     go_wp2
     go_round
     case rel=>exact⟨k+1,v*10+((c:Int)-48),by omega,by go_num,rfl,by omega,by rw[HF.out];omega,HR.out⟩
     case measure=>simp[intOf];omega
   ·obtain rfl:k=s.length:=by omega
    rw[List.drop_length] at hr
    have HR:=Z (show r=if 4294967295<v then -1 else v from hr)
    clear hr
    by_cases hv:4294967295<v
    ·rw[if_pos hv] at HR
     go_wp2
     go_ret
     exact⟨cg HR.out.symm,rfl⟩
    ·rw[if_neg hv] at HR
     go_wp2
     go_ret
     exact⟨cg HR.out.symm,rfl⟩
end
section
def eO (w:List UInt8):Nat->Int
 | 0=>0
 | n+1=>if (bG ((n:Int)+1)).isEmpty=N/\bG ((n:Int)+1)=w then (n:Int)+1 else eO w n
def j6 (w:List UInt8):Bool:=decide (0<=iQ w) || (decide (0<=kN w) || (decide (w=[110,101]) || (decide (w=[101,113]) || decide (w=[101,108,115,101]))))
def ij (w:List UInt8):List Int:=if 0<=iQ w then [iQ w] else []
def ik (w:List UInt8):List Int:=if 0<=iQ w then [] else if 0<=kN w then [kN w] else []
def kP (w:List UInt8):Bool:=!decide (0<=iQ w) && (!decide (0<=kN w) && decide (w=[110,101]))
def bu (l:List (List UInt8)):List Int:=l.flatMap ij
def bT (l:List (List UInt8)):List Int:=l.flatMap ik
def lr (l:List (List UInt8)):Int:=if l.any kP=O then 1 else 0
def cq (n:Nat)(v:Int)(l:List Int):List Int:=l++List.replicate (n-l.length) v
def cQ (op:Int)(rs ns:List Int)(k:Int):aK:=
 if op=1\/op=3\/op=4\/op=5\/op=6 then ⟨op,aG rs 0,aG rs 1,aG rs 2,0,0,aG ns 0 % 4294967296,0⟩
 else if op=2\/op=7\/op=11\/op=22 then ⟨op,aG rs 0,aG rs 1,aG rs 2,0,0,k,0⟩
 else if op=8\/op=9\/op=10 then ⟨op,0,aG rs 0,aG rs 1,0,0,k,aG ns 0⟩
 else if op=12\/op=13 then ⟨op,0,0,0,0,0,aG ns 0 % 4294967296,0⟩
 else if op=16\/op=18\/op=19 then ⟨op,aG rs 0,aG rs 1,aG rs 2,aG rs 3,aG ns 0,k,0⟩
 else if op=20 then ⟨op,aG rs 0,aG rs 1,aG rs 2,aG rs 3,aG ns 0,aG ns 1 % 4294967296,0⟩
 else if op=21 then ⟨op,aG rs 0,aG rs 1,aG rs 2,aG rs 3,aG ns 0,k,aG ns 1⟩
 else if op=17 then ⟨op,0,aG rs 0,aG rs 1,0,aG ns 0,k,0⟩
 else if op=23 then ⟨op,0,aG rs 0,0,0,0,k,0⟩
 else ⟨op,0,0,0,0,0,k,0⟩
def aD (ws:List (List UInt8)):aK:=cQ (eO (ws.getD 0 []) 23) (cq 4 0 (bu ws.tail)) (cq 2 (-1) (bT ws.tail)) (lr ws.tail)
def jS (s:List UInt8):Bool:=(ap s).tail.all j6 && (ar (aD (ap s)) 1073741824 && decide (ah (aD (ap s))=s))
theorem kG:∀ (a b:List UInt8) (acc u:Int),dr acc a=some u->dr acc (a++b)=dr u b
 | [],b,acc,u,h=>by simp[dr] at h;subst h;rfl
 | c :: a,b,acc,u,h=>by
  simp only[dr,List.cons_append] at h ⊢
  split at h
  ·rename_i h1
   rw[if_pos h1]
   exact kG a b _ u h
  ·cases h
theorem ii:∀ (n:Nat),dr 0 (Lib.decDigits n)=some (n:Int):=by
 intro n
 induction n using Nat.strongRecOn with
 | _ n ih=>
  rw[Lib.decDigits]
  by_cases h:n<10
  ·rw[dif_pos h]
   have e:(UInt8.ofNat (48+n)).toNat=48+n:=by rw[UInt8.toNat_ofNat',Nat.mod_eq_of_lt (by omega)]
   simp only[dr,e]
   rw[if_pos (by omega)]
   congr 1
   omega
  ·rw[dif_neg h,kG _ _ _ _ (ih (n / 10) (by omega))]
   have e:(UInt8.ofNat (48+n % 10)).toNat=48+n % 10:=by rw[UInt8.toNat_ofNat',Nat.mod_eq_of_lt (by omega)]
   simp only[dr,e]
   rw[if_pos (by omega)]
   congr 1
   omega
theorem oF:∀ (m n:Nat),n<10 ^ (m+1)->(Lib.decDigits n).length<=m+1:=by
 intro m
 induction m with
 | zero=>intro n h;rw[Lib.decDigits,dif_pos (by simpa using h)];simp
 | succ m ih=>
  intro n h
  rw[Lib.decDigits]
  by_cases h9:n<10
  ·rw[dif_pos h9];simp
  ·rw[dif_neg h9]
   have h2:n / 10<10 ^ (m+1):=by
    rw[Nat.div_lt_iff_lt_mul (by decide)]
    rw[Nat.pow_succ] at h
    exact h
   have:=ih _ h2
   simp
   omega
theorem AH (n:Nat)(h:n<4294967296):kN (Lib.decDigits n)=n:=by
 have hf:=ii n
 have hl:=oF 9 n (by
  have:(10:Nat) ^ (9+1)=10000000000:=by decide
  omega)
 obtain⟨c,r,e,h1,h2,h3⟩:=iw n
 have h10:1<(Lib.decDigits n).length->10<=n:=by
  intro hh
  by_cases hn:n<10
  ·rw[Lib.decDigits,dif_pos hn] at hh;simp at hh
  ·omega
 unfold kN
 rw[if_neg,hf]
 ·show (if 4294967295<(n:Int) then -1 else (n:Int))=n
  rw[if_neg (by omega)]
 ·rintro(hh | hh | ⟨hh,hz⟩)
  ·rw[e] at hh;cases hh
  ·omega
  ·have:=h3 (h10 hh)
   rw[e] at hz
   simp at hz
   omega
theorem Am (n:Nat):iQ (Lib.decDigits n)=-1:=by
 obtain⟨c,r,e,h1,h2,-⟩:=iw n
 unfold iQ
 rw[if_neg]
 rintro⟨-,hh,-⟩
 rw[e] at hh
 simp at hh
 omega
theorem Al (n:Nat)(h:n<=7):iQ (dA n)=n:=by
 unfold dA
 rw[Lib.decDigits,dif_pos (by omega)]
 have e:(UInt8.ofNat (48+n)).toNat=48+n:=by rw[UInt8.toNat_ofNat',Nat.mod_eq_of_lt (by omega)]
 unfold iQ
 rw[if_pos]
 ·simp only[List.getD_cons_succ,List.getD_cons_zero,e];omega
 ·refine⟨rfl,rfl,?_⟩
  simp only[List.getD_cons_succ,List.getD_cons_zero,e]
  omega
theorem bA (n:Nat)(h:n<=7):j6 (dA n)=O/\ij (dA n)=[(n:Int)]/\ik (dA n)=[]/\kP (dA n)=N:=by
 have e:=Al n h
 unfold j6 ij ik kP
 rw[e]
 have h0:(0:Int)<=(n:Int):=by omega
 simp[h0]
theorem dO (n:Nat)(h:n<4294967296):j6 (Lib.decDigits n)=O/\ij (Lib.decDigits n)=[]/\ik (Lib.decDigits n)=[(n:Int)]/\kP (Lib.decDigits n)=N:=by
 have e:=AH n h
 have e2:=Am n
 unfold j6 ij ik kP
 rw[e,e2]
 have h0:(0:Int)<=(n:Int):=by omega
 simp[h0]
theorem D7:j6 [101,113]=O/\ij [101,113]=[]/\ik [101,113]=[]/\kP [101,113]=N:=by decide
theorem D6:j6 [110,101]=O/\ij [110,101]=[]/\ik [110,101]=[]/\kP [110,101]=O:=by decide
theorem pP:j6 [101,108,115,101]=O/\ij [101,108,115,101]=[]/\ik [101,108,115,101]=[]/\kP [101,108,115,101]=N:=by decide
theorem wo (dn kn:Nat)(hdn:dn<=7)(hkn:kn<4294967296):(ap (ah ⟨1,(dn:Nat),0,0,0,0,(kn:Nat),0⟩)).tail.all j6=O/\aD (ap (ah ⟨1,(dn:Nat),0,0,0,0,(kn:Nat),0⟩))=⟨1,(dn:Nat),0,0,0,0,(kn:Nat),0⟩:=by
 obtain⟨adn,bdn,cdn,ddn⟩:=bA dn hdn
 obtain⟨akn,bkn,ckn,dkn⟩:=dO kn hkn
 rw[pr]
 have e:eO (bG 1) 23=1:=by decide
 refine⟨by simp[adn,akn],?_⟩
 simp[aD,e,bu,bT,bdn,cdn,bkn,ckn,cq,cQ,aG]
 omega
theorem wn (dn sn:Nat)(hdn:dn<=7)(hsn:sn<=7):(ap (ah ⟨2,(dn:Nat),(sn:Nat),0,0,0,0,0⟩)).tail.all j6=O/\aD (ap (ah ⟨2,(dn:Nat),(sn:Nat),0,0,0,0,0⟩))=⟨2,(dn:Nat),(sn:Nat),0,0,0,0,0⟩:=by
 obtain⟨adn,bdn,cdn,ddn⟩:=bA dn hdn
 obtain⟨asn,bsn,csn,dsn⟩:=bA sn hsn
 rw[pq]
 have e:eO (bG 2) 23=2:=by decide
 refine⟨by simp[adn,asn],?_⟩
 simp[aD,e,bu,lr,bdn,ddn,bsn,dsn,cq,cQ,aG]
theorem wm (dn sn kn:Nat)(hdn:dn<=7)(hsn:sn<=7)(hkn:kn<4294967296):(ap (ah ⟨3,(dn:Nat),(sn:Nat),0,0,0,(kn:Nat),0⟩)).tail.all j6=O/\aD (ap (ah ⟨3,(dn:Nat),(sn:Nat),0,0,0,(kn:Nat),0⟩))=⟨3,(dn:Nat),(sn:Nat),0,0,0,(kn:Nat),0⟩:=by
 obtain⟨adn,bdn,cdn,ddn⟩:=bA dn hdn
 obtain⟨asn,bsn,csn,dsn⟩:=bA sn hsn
 obtain⟨akn,bkn,ckn,dkn⟩:=dO kn hkn
 rw[po]
 have e:eO (bG 3) 23=3:=by decide
 refine⟨by simp[adn,asn,akn],?_⟩
 simp[aD,e,bu,bT,bdn,cdn,bsn,csn,bkn,ckn,cq,cQ,aG]
 omega
theorem wk (dn sn kn:Nat)(hdn:dn<=7)(hsn:sn<=7)(hkn:kn<4294967296):(ap (ah ⟨4,(dn:Nat),(sn:Nat),0,0,0,(kn:Nat),0⟩)).tail.all j6=O/\aD (ap (ah ⟨4,(dn:Nat),(sn:Nat),0,0,0,(kn:Nat),0⟩))=⟨4,(dn:Nat),(sn:Nat),0,0,0,(kn:Nat),0⟩:=by
 obtain⟨adn,bdn,cdn,ddn⟩:=bA dn hdn
 obtain⟨asn,bsn,csn,dsn⟩:=bA sn hsn
 obtain⟨akn,bkn,ckn,dkn⟩:=dO kn hkn
 rw[pm]
 have e:eO (bG 4) 23=4:=by decide
 refine⟨by simp[adn,asn,akn],?_⟩
 simp[aD,e,bu,bT,bdn,cdn,bsn,csn,bkn,ckn,cq,cQ,aG]
 omega
theorem wj (dn sn kn:Nat)(hdn:dn<=7)(hsn:sn<=7)(hkn:kn<4294967296):(ap (ah ⟨5,(dn:Nat),(sn:Nat),0,0,0,(kn:Nat),0⟩)).tail.all j6=O/\aD (ap (ah ⟨5,(dn:Nat),(sn:Nat),0,0,0,(kn:Nat),0⟩))=⟨5,(dn:Nat),(sn:Nat),0,0,0,(kn:Nat),0⟩:=by
 obtain⟨adn,bdn,cdn,ddn⟩:=bA dn hdn
 obtain⟨asn,bsn,csn,dsn⟩:=bA sn hsn
 obtain⟨akn,bkn,ckn,dkn⟩:=dO kn hkn
 rw[pk]
 have e:eO (bG 5) 23=5:=by decide
 refine⟨by simp[adn,asn,akn],?_⟩
 simp[aD,e,bu,bT,bdn,cdn,bsn,csn,bkn,ckn,cq,cQ,aG]
 omega
theorem wi (dn sn kn:Nat)(hdn:dn<=7)(hsn:sn<=7)(hkn:kn<4294967296):(ap (ah ⟨6,(dn:Nat),(sn:Nat),0,0,0,(kn:Nat),0⟩)).tail.all j6=O/\aD (ap (ah ⟨6,(dn:Nat),(sn:Nat),0,0,0,(kn:Nat),0⟩))=⟨6,(dn:Nat),(sn:Nat),0,0,0,(kn:Nat),0⟩:=by
 obtain⟨adn,bdn,cdn,ddn⟩:=bA dn hdn
 obtain⟨asn,bsn,csn,dsn⟩:=bA sn hsn
 obtain⟨akn,bkn,ckn,dkn⟩:=dO kn hkn
 rw[pj]
 have e:eO (bG 6) 23=6:=by decide
 refine⟨by simp[adn,asn,akn],?_⟩
 simp[aD,e,bu,bT,bdn,cdn,bsn,csn,bkn,ckn,cq,cQ,aG]
 omega
theorem wh (dn sn tn:Nat)(hdn:dn<=7)(hsn:sn<=7)(htn:tn<=7):(ap (ah ⟨7,(dn:Nat),(sn:Nat),(tn:Nat),0,0,0,0⟩)).tail.all j6=O/\aD (ap (ah ⟨7,(dn:Nat),(sn:Nat),(tn:Nat),0,0,0,0⟩))=⟨7,(dn:Nat),(sn:Nat),(tn:Nat),0,0,0,0⟩:=by
 obtain⟨adn,bdn,cdn,ddn⟩:=bA dn hdn
 obtain⟨asn,bsn,csn,dsn⟩:=bA sn hsn
 obtain⟨atn,btn,ctn,dtn⟩:=bA tn htn
 rw[pi]
 have e:eO (bG 7) 23=7:=by decide
 refine⟨by simp[adn,asn,atn],?_⟩
 simp[aD,e,bu,lr,bdn,ddn,bsn,dsn,btn,dtn,cq,cQ,aG]
theorem wg (sn tn pn:Nat)(hsn:sn<=7)(htn:tn<=7)(hpn:pn<4294967296):(ap (ah ⟨8,0,(sn:Nat),(tn:Nat),0,0,0,(pn:Nat)⟩)).tail.all j6=O/\aD (ap (ah ⟨8,0,(sn:Nat),(tn:Nat),0,0,0,(pn:Nat)⟩))=⟨8,0,(sn:Nat),(tn:Nat),0,0,0,(pn:Nat)⟩:=by
 obtain⟨asn,bsn,csn,dsn⟩:=bA sn hsn
 obtain⟨atn,btn,ctn,dtn⟩:=bA tn htn
 obtain⟨apn,bpn,cpn,dpn⟩:=dO pn hpn
 rw[ph]
 have e:eO (bG 8) 23=8:=by decide
 refine⟨by simp[asn,atn,apn],?_⟩
 simp[aD,e,bu,bT,lr,bsn,csn,dsn,btn,ctn,dtn,bpn,cpn,dpn,cq,cQ,aG]
theorem we (sn tn pn:Nat)(hsn:sn<=7)(htn:tn<=7)(hpn:pn<4294967296):(ap (ah ⟨9,0,(sn:Nat),(tn:Nat),0,0,0,(pn:Nat)⟩)).tail.all j6=O/\aD (ap (ah ⟨9,0,(sn:Nat),(tn:Nat),0,0,0,(pn:Nat)⟩))=⟨9,0,(sn:Nat),(tn:Nat),0,0,0,(pn:Nat)⟩:=by
 obtain⟨asn,bsn,csn,dsn⟩:=bA sn hsn
 obtain⟨atn,btn,ctn,dtn⟩:=bA tn htn
 obtain⟨apn,bpn,cpn,dpn⟩:=dO pn hpn
 rw[pg]
 have e:eO (bG 9) 23=9:=by decide
 refine⟨by simp[asn,atn,apn],?_⟩
 simp[aD,e,bu,bT,lr,bsn,csn,dsn,btn,ctn,dtn,bpn,cpn,dpn,cq,cQ,aG]
theorem tu (pn:Nat)(hpn:pn<4294967296):(ap (ah ⟨10,0,0,0,0,0,0,(pn:Nat)⟩)).tail.all j6=O/\aD (ap (ah ⟨10,0,0,0,0,0,0,(pn:Nat)⟩))=⟨10,0,0,0,0,0,0,(pn:Nat)⟩:=by
 obtain⟨apn,bpn,cpn,dpn⟩:=dO pn hpn
 rw[mH]
 have e:eO (bG 10) 23=10:=by decide
 refine⟨by simp[apn],?_⟩
 simp[aD,e,bu,bT,lr,bpn,cpn,dpn,cq,cQ,aG]
theorem tt (dn:Nat)(hdn:dn<=7):(ap (ah ⟨11,(dn:Nat),0,0,0,0,0,0⟩)).tail.all j6=O/\aD (ap (ah ⟨11,(dn:Nat),0,0,0,0,0,0⟩))=⟨11,(dn:Nat),0,0,0,0,0,0⟩:=by
 obtain⟨adn,bdn,cdn,ddn⟩:=bA dn hdn
 rw[mG]
 have e:eO (bG 11) 23=11:=by decide
 refine⟨by simp[adn],?_⟩
 simp[aD,e,bu,lr,bdn,ddn,cq,cQ,aG]
theorem tb (dn:Nat)(hdn:dn<=7):(ap (ah ⟨22,(dn:Nat),0,0,0,0,0,0⟩)).tail.all j6=O/\aD (ap (ah ⟨22,(dn:Nat),0,0,0,0,0,0⟩))=⟨22,(dn:Nat),0,0,0,0,0,0⟩:=by
 obtain⟨adn,bdn,cdn,ddn⟩:=bA dn hdn
 rw[my]
 have e:eO (bG 22) 23=22:=by decide
 refine⟨by simp[adn],?_⟩
 simp[aD,e,bu,lr,bdn,ddn,cq,cQ,aG]
theorem tq (kn:Nat)(hkn:kn<4294967296):(ap (ah ⟨12,0,0,0,0,0,(kn:Nat),0⟩)).tail.all j6=O/\aD (ap (ah ⟨12,0,0,0,0,0,(kn:Nat),0⟩))=⟨12,0,0,0,0,0,(kn:Nat),0⟩:=by
 obtain⟨akn,bkn,ckn,dkn⟩:=dO kn hkn
 rw[mF]
 have e:eO (bG 12) 23=12:=by decide
 refine⟨by simp[akn],?_⟩
 simp[aD,e,bT,ckn,cq,cQ,aG]
 omega
theorem tm (kn:Nat)(hkn:kn<4294967296):(ap (ah ⟨13,0,0,0,0,0,(kn:Nat),0⟩)).tail.all j6=O/\aD (ap (ah ⟨13,0,0,0,0,0,(kn:Nat),0⟩))=⟨13,0,0,0,0,0,(kn:Nat),0⟩:=by
 obtain⟨akn,bkn,ckn,dkn⟩:=dO kn hkn
 rw[mE]
 have e:eO (bG 13) 23=13:=by decide
 refine⟨by simp[akn],?_⟩
 simp[aD,e,bT,ckn,cq,cQ,aG]
 omega
theorem tk (dn sn an:Nat)(hdn:dn<=7)(hsn:sn<=7)(han:an<4294967296):(ap (ah ⟨16,(dn:Nat),(sn:Nat),0,0,(an:Nat),0,0⟩)).tail.all j6=O/\aD (ap (ah ⟨16,(dn:Nat),(sn:Nat),0,0,(an:Nat),0,0⟩))=⟨16,(dn:Nat),(sn:Nat),0,0,(an:Nat),0,0⟩:=by
 obtain⟨adn,bdn,cdn,ddn⟩:=bA dn hdn
 obtain⟨asn,bsn,csn,dsn⟩:=bA sn hsn
 obtain⟨aan,ban,can,dan⟩:=dO an han
 rw[mD]
 have e:eO (bG 16) 23=16:=by decide
 refine⟨by simp[adn,asn,aan],?_⟩
 simp[aD,e,bu,bT,lr,bdn,cdn,ddn,bsn,csn,dsn,ban,can,dan,cq,cQ,aG]
theorem tj (sn tn an:Nat)(hsn:sn<=7)(htn:tn<=7)(han:an<4294967296):(ap (ah ⟨17,0,(sn:Nat),(tn:Nat),0,(an:Nat),0,0⟩)).tail.all j6=O/\aD (ap (ah ⟨17,0,(sn:Nat),(tn:Nat),0,(an:Nat),0,0⟩))=⟨17,0,(sn:Nat),(tn:Nat),0,(an:Nat),0,0⟩:=by
 obtain⟨asn,bsn,csn,dsn⟩:=bA sn hsn
 obtain⟨atn,btn,ctn,dtn⟩:=bA tn htn
 obtain⟨aan,ban,can,dan⟩:=dO an han
 rw[mC]
 have e:eO (bG 17) 23=17:=by decide
 refine⟨by simp[asn,atn,aan],?_⟩
 simp[aD,e,bu,bT,lr,bsn,csn,dsn,btn,ctn,dtn,ban,can,dan,cq,cQ,aG]
theorem tg (dn sn tn an:Nat)(hdn:dn<=7)(hsn:sn<=7)(htn:tn<=7)(han:an<4294967296):(ap (ah ⟨18,(dn:Nat),(sn:Nat),(tn:Nat),0,(an:Nat),0,0⟩)).tail.all j6=O/\aD (ap (ah ⟨18,(dn:Nat),(sn:Nat),(tn:Nat),0,(an:Nat),0,0⟩))=⟨18,(dn:Nat),(sn:Nat),(tn:Nat),0,(an:Nat),0,0⟩:=by
 obtain⟨adn,bdn,cdn,ddn⟩:=bA dn hdn
 obtain⟨asn,bsn,csn,dsn⟩:=bA sn hsn
 obtain⟨atn,btn,ctn,dtn⟩:=bA tn htn
 obtain⟨aan,ban,can,dan⟩:=dO an han
 rw[mB]
 have e:eO (bG 18) 23=18:=by decide
 refine⟨by simp[adn,asn,atn,aan],?_⟩
 simp[aD,e,bu,bT,lr,bdn,cdn,ddn,bsn,csn,dsn,btn,ctn,dtn,ban,can,dan,cq,cQ,aG]
theorem tf (dn sn tn un an:Nat)(hdn:dn<=7)(hsn:sn<=7)(htn:tn<=7)(hun:un<=7)(han:an<4294967296):(ap (ah ⟨19,(dn:Nat),(sn:Nat),(tn:Nat),(un:Nat),(an:Nat),0,0⟩)).tail.all j6=O/\aD (ap (ah ⟨19,(dn:Nat),(sn:Nat),(tn:Nat),(un:Nat),(an:Nat),0,0⟩))=⟨19,(dn:Nat),(sn:Nat),(tn:Nat),(un:Nat),(an:Nat),0,0⟩:=by
 obtain⟨adn,bdn,cdn,ddn⟩:=bA dn hdn
 obtain⟨asn,bsn,csn,dsn⟩:=bA sn hsn
 obtain⟨atn,btn,ctn,dtn⟩:=bA tn htn
 obtain⟨aun,bun,cun,dun⟩:=bA un hun
 obtain⟨aan,ban,can,dan⟩:=dO an han
 rw[mA]
 have e:eO (bG 19) 23=19:=by decide
 refine⟨by simp[adn,asn,atn,aun,aan],?_⟩
 simp[aD,e,bu,bT,lr,bdn,cdn,ddn,bsn,csn,dsn,btn,ctn,dtn,bun,cun,dun,ban,can,dan,cq,cQ,aG]
theorem td (dn sn an kn:Nat)(hdn:dn<=7)(hsn:sn<=7)(han:an<4294967296)(hkn:kn<4294967296):(ap (ah ⟨20,(dn:Nat),(sn:Nat),0,0,(an:Nat),(kn:Nat),0⟩)).tail.all j6=O/\aD (ap (ah ⟨20,(dn:Nat),(sn:Nat),0,0,(an:Nat),(kn:Nat),0⟩))=⟨20,(dn:Nat),(sn:Nat),0,0,(an:Nat),(kn:Nat),0⟩:=by
 obtain⟨adn,bdn,cdn,ddn⟩:=bA dn hdn
 obtain⟨asn,bsn,csn,dsn⟩:=bA sn hsn
 obtain⟨aan,ban,can,dan⟩:=dO an han
 obtain⟨akn,bkn,ckn,dkn⟩:=dO kn hkn
 rw[mz]
 have e:eO (bG 20) 23=20:=by decide
 refine⟨by simp[adn,asn,aan,akn],?_⟩
 simp[aD,e,bu,bT,bdn,cdn,bsn,csn,ban,can,bkn,ckn,cq,cQ,aG]
 omega
theorem ta (sn:Nat)(hsn:sn<=7):(ap (ah ⟨23,0,(sn:Nat),0,0,0,0,0⟩)).tail.all j6=O/\aD (ap (ah ⟨23,0,(sn:Nat),0,0,0,0,0⟩))=⟨23,0,(sn:Nat),0,0,0,0,0⟩:=by
 obtain⟨asn,bsn,csn,dsn⟩:=bA sn hsn
 rw[mw]
 have e:eO (bG 23) 23=23:=by decide
 refine⟨by simp[asn],?_⟩
 simp[aD,e,bu,lr,bsn,dsn,cq,cQ,aG]
theorem ny (dn sn tn an pn:Nat)(hdn:dn<=7)(hsn:sn<=7)(htn:tn<=7)(han:an<4294967296)(hpn:pn<4294967296):(ap (ah ⟨21,(dn:Nat),(sn:Nat),(tn:Nat),0,(an:Nat),0,(pn:Nat)⟩)).tail.all j6=O/\aD (ap (ah ⟨21,(dn:Nat),(sn:Nat),(tn:Nat),0,(an:Nat),0,(pn:Nat)⟩))=⟨21,(dn:Nat),(sn:Nat),(tn:Nat),0,(an:Nat),0,(pn:Nat)⟩:=by
 obtain⟨adn,bdn,cdn,ddn⟩:=bA dn hdn
 obtain⟨asn,bsn,csn,dsn⟩:=bA sn hsn
 obtain⟨atn,btn,ctn,dtn⟩:=bA tn htn
 obtain⟨aan,ban,can,dan⟩:=dO an han
 obtain⟨apn,bpn,cpn,dpn⟩:=dO pn hpn
 obtain⟨ae,be,ce,de⟩:=D7
 obtain⟨al,bl,cl,dl⟩:=pP
 rw[fZ dn sn tn an pn]
 have e:eO (bG 21) 23=21:=by decide
 refine⟨by simp[adn,asn,atn,aan,ae,apn,al],?_⟩
 simp[aD,e,bu,bT,lr,bdn,cdn,ddn,bsn,csn,dsn,btn,ctn,dtn,ban,can,dan,be,ce,de,bpn,cpn,dpn,bl,cl,dl,cq,cQ,aG]
theorem nz (dn sn tn an pn:Nat)(hdn:dn<=7)(hsn:sn<=7)(htn:tn<=7)(han:an<4294967296)(hpn:pn<4294967296):(ap (ah ⟨21,(dn:Nat),(sn:Nat),(tn:Nat),0,(an:Nat),0,-1⟩)).tail.all j6=O/\aD (ap (ah ⟨21,(dn:Nat),(sn:Nat),(tn:Nat),0,(an:Nat),0,-1⟩))=⟨21,(dn:Nat),(sn:Nat),(tn:Nat),0,(an:Nat),0,-1⟩:=by
 obtain⟨adn,bdn,cdn,ddn⟩:=bA dn hdn
 obtain⟨asn,bsn,csn,dsn⟩:=bA sn hsn
 obtain⟨atn,btn,ctn,dtn⟩:=bA tn htn
 obtain⟨aan,ban,can,dan⟩:=dO an han
 obtain⟨apn,bpn,cpn,dpn⟩:=dO pn hpn
 obtain⟨ae,be,ce,de⟩:=D7
 obtain⟨al,bl,cl,dl⟩:=pP
 rw[ga dn sn tn an pn]
 have e:eO (bG 21) 23=21:=by decide
 refine⟨by simp[adn,asn,atn,aan,ae],?_⟩
 simp[aD,e,bu,bT,lr,bdn,cdn,ddn,bsn,csn,dsn,btn,ctn,dtn,ban,can,dan,be,ce,de,cq,cQ,aG]
theorem nu (dn sn tn an pn:Nat)(hdn:dn<=7)(hsn:sn<=7)(htn:tn<=7)(han:an<4294967296)(hpn:pn<4294967296):(ap (ah ⟨21,(dn:Nat),(sn:Nat),(tn:Nat),0,(an:Nat),1,(pn:Nat)⟩)).tail.all j6=O/\aD (ap (ah ⟨21,(dn:Nat),(sn:Nat),(tn:Nat),0,(an:Nat),1,(pn:Nat)⟩))=⟨21,(dn:Nat),(sn:Nat),(tn:Nat),0,(an:Nat),1,(pn:Nat)⟩:=by
 obtain⟨adn,bdn,cdn,ddn⟩:=bA dn hdn
 obtain⟨asn,bsn,csn,dsn⟩:=bA sn hsn
 obtain⟨atn,btn,ctn,dtn⟩:=bA tn htn
 obtain⟨aan,ban,can,dan⟩:=dO an han
 obtain⟨apn,bpn,cpn,dpn⟩:=dO pn hpn
 obtain⟨ae,be,ce,de⟩:=D6
 obtain⟨al,bl,cl,dl⟩:=pP
 rw[fX dn sn tn an pn]
 have e:eO (bG 21) 23=21:=by decide
 refine⟨by simp[adn,asn,atn,aan,ae,apn,al],?_⟩
 simp[aD,e,bu,bT,lr,bdn,cdn,ddn,bsn,csn,dsn,btn,ctn,dtn,ban,can,dan,be,ce,de,bpn,cpn,dpn,bl,cl,dl,cq,cQ,aG]
theorem nw (dn sn tn an pn:Nat)(hdn:dn<=7)(hsn:sn<=7)(htn:tn<=7)(han:an<4294967296)(hpn:pn<4294967296):(ap (ah ⟨21,(dn:Nat),(sn:Nat),(tn:Nat),0,(an:Nat),1,-1⟩)).tail.all j6=O/\aD (ap (ah ⟨21,(dn:Nat),(sn:Nat),(tn:Nat),0,(an:Nat),1,-1⟩))=⟨21,(dn:Nat),(sn:Nat),(tn:Nat),0,(an:Nat),1,-1⟩:=by
 obtain⟨adn,bdn,cdn,ddn⟩:=bA dn hdn
 obtain⟨asn,bsn,csn,dsn⟩:=bA sn hsn
 obtain⟨atn,btn,ctn,dtn⟩:=bA tn htn
 obtain⟨aan,ban,can,dan⟩:=dO an han
 obtain⟨apn,bpn,cpn,dpn⟩:=dO pn hpn
 obtain⟨ae,be,ce,de⟩:=D6
 obtain⟨al,bl,cl,dl⟩:=pP
 rw[fY dn sn tn an pn]
 have e:eO (bG 21) 23=21:=by decide
 refine⟨by simp[adn,asn,atn,aan,ae],?_⟩
 simp[aD,e,bu,bT,lr,bdn,cdn,ddn,bsn,csn,dsn,btn,ctn,dtn,ban,can,dan,be,ce,de,cq,cQ,aG]
theorem kM (i:aK)(h:ar i 1073741824=O)(k0:0<=i.k)(k1:i.k<4294967296):(ap (ah i)).tail.all j6=O/\aD (ap (ah i))=i:=by
 obtain⟨hd,hs,ht,hu,ha⟩:=ee i _ h
 obtain⟨op,d,s,t,u,a,k,pl⟩:=i
 simp only at hd hs ht hu ha k0 k1
 rcases ci op with rfl|rfl|rfl|rfl|rfl|rfl|rfl|rfl|rfl|rfl|rfl|rfl|rfl|rfl|rfl|rfl|rfl|rfl|rfl|rfl|rfl | hn
 ·skip
  have hr:=lL d s t u a k pl 1073741824 hd hs ht hu ha k0 k1
  rw[h] at hr
  simp[df] at hr
  obtain⟨dn,rfl⟩:∃ n:Nat,d=n:=⟨d.toNat,by omega⟩
  obtain⟨sn,rfl⟩:∃ n:Nat,s=n:=⟨s.toNat,by omega⟩
  obtain⟨tn,rfl⟩:∃ n:Nat,t=n:=⟨t.toNat,by omega⟩
  obtain⟨un,rfl⟩:∃ n:Nat,u=n:=⟨u.toNat,by omega⟩
  obtain⟨an,rfl⟩:∃ n:Nat,a=n:=⟨a.toNat,by omega⟩
  obtain⟨kn,rfl⟩:∃ n:Nat,k=n:=⟨k.toNat,by omega⟩
  obtain rfl:sn=0:=by omega
  obtain rfl:tn=0:=by omega
  obtain rfl:un=0:=by omega
  obtain rfl:an=0:=by omega
  obtain rfl:pl=0:=by omega
  exact wo dn kn (by omega) (by omega)
 ·skip
  have hr:=lK d s t u a k pl 1073741824 hd hs ht hu ha k0 k1
  rw[h] at hr
  simp[df] at hr
  obtain⟨dn,rfl⟩:∃ n:Nat,d=n:=⟨d.toNat,by omega⟩
  obtain⟨sn,rfl⟩:∃ n:Nat,s=n:=⟨s.toNat,by omega⟩
  obtain⟨tn,rfl⟩:∃ n:Nat,t=n:=⟨t.toNat,by omega⟩
  obtain⟨un,rfl⟩:∃ n:Nat,u=n:=⟨u.toNat,by omega⟩
  obtain⟨an,rfl⟩:∃ n:Nat,a=n:=⟨a.toNat,by omega⟩
  obtain⟨kn,rfl⟩:∃ n:Nat,k=n:=⟨k.toNat,by omega⟩
  obtain rfl:tn=0:=by omega
  obtain rfl:un=0:=by omega
  obtain rfl:an=0:=by omega
  obtain rfl:kn=0:=by omega
  obtain rfl:pl=0:=by omega
  exact wn dn sn (by omega) (by omega)
 ·skip
  have hr:=lJ d s t u a k pl 1073741824 hd hs ht hu ha k0 k1
  rw[h] at hr
  simp[df] at hr
  obtain⟨dn,rfl⟩:∃ n:Nat,d=n:=⟨d.toNat,by omega⟩
  obtain⟨sn,rfl⟩:∃ n:Nat,s=n:=⟨s.toNat,by omega⟩
  obtain⟨tn,rfl⟩:∃ n:Nat,t=n:=⟨t.toNat,by omega⟩
  obtain⟨un,rfl⟩:∃ n:Nat,u=n:=⟨u.toNat,by omega⟩
  obtain⟨an,rfl⟩:∃ n:Nat,a=n:=⟨a.toNat,by omega⟩
  obtain⟨kn,rfl⟩:∃ n:Nat,k=n:=⟨k.toNat,by omega⟩
  obtain rfl:tn=0:=by omega
  obtain rfl:un=0:=by omega
  obtain rfl:an=0:=by omega
  obtain rfl:pl=0:=by omega
  exact wm dn sn kn (by omega) (by omega) (by omega)
 ·skip
  have hr:=lI d s t u a k pl 1073741824 hd hs ht hu ha k0 k1
  rw[h] at hr
  simp[df] at hr
  obtain⟨dn,rfl⟩:∃ n:Nat,d=n:=⟨d.toNat,by omega⟩
  obtain⟨sn,rfl⟩:∃ n:Nat,s=n:=⟨s.toNat,by omega⟩
  obtain⟨tn,rfl⟩:∃ n:Nat,t=n:=⟨t.toNat,by omega⟩
  obtain⟨un,rfl⟩:∃ n:Nat,u=n:=⟨u.toNat,by omega⟩
  obtain⟨an,rfl⟩:∃ n:Nat,a=n:=⟨a.toNat,by omega⟩
  obtain⟨kn,rfl⟩:∃ n:Nat,k=n:=⟨k.toNat,by omega⟩
  obtain rfl:tn=0:=by omega
  obtain rfl:un=0:=by omega
  obtain rfl:an=0:=by omega
  obtain rfl:pl=0:=by omega
  exact wk dn sn kn (by omega) (by omega) (by omega)
 ·skip
  have hr:=jO d s t u a k pl 1073741824 hd hs ht hu ha k0 k1
  rw[h] at hr
  simp[df] at hr
  obtain⟨dn,rfl⟩:∃ n:Nat,d=n:=⟨d.toNat,by omega⟩
  obtain⟨sn,rfl⟩:∃ n:Nat,s=n:=⟨s.toNat,by omega⟩
  obtain⟨tn,rfl⟩:∃ n:Nat,t=n:=⟨t.toNat,by omega⟩
  obtain⟨un,rfl⟩:∃ n:Nat,u=n:=⟨u.toNat,by omega⟩
  obtain⟨an,rfl⟩:∃ n:Nat,a=n:=⟨a.toNat,by omega⟩
  obtain⟨kn,rfl⟩:∃ n:Nat,k=n:=⟨k.toNat,by omega⟩
  obtain rfl:tn=0:=by omega
  obtain rfl:un=0:=by omega
  obtain rfl:an=0:=by omega
  obtain rfl:pl=0:=by omega
  exact wj dn sn kn (by omega) (by omega) (by omega)
 ·skip
  have hr:=jN d s t u a k pl 1073741824 hd hs ht hu ha k0 k1
  rw[h] at hr
  simp[df] at hr
  obtain⟨dn,rfl⟩:∃ n:Nat,d=n:=⟨d.toNat,by omega⟩
  obtain⟨sn,rfl⟩:∃ n:Nat,s=n:=⟨s.toNat,by omega⟩
  obtain⟨tn,rfl⟩:∃ n:Nat,t=n:=⟨t.toNat,by omega⟩
  obtain⟨un,rfl⟩:∃ n:Nat,u=n:=⟨u.toNat,by omega⟩
  obtain⟨an,rfl⟩:∃ n:Nat,a=n:=⟨a.toNat,by omega⟩
  obtain⟨kn,rfl⟩:∃ n:Nat,k=n:=⟨k.toNat,by omega⟩
  obtain rfl:tn=0:=by omega
  obtain rfl:un=0:=by omega
  obtain rfl:an=0:=by omega
  obtain rfl:pl=0:=by omega
  exact wi dn sn kn (by omega) (by omega) (by omega)
 ·skip
  have hr:=lH d s t u a k pl 1073741824 hd hs ht hu ha k0 k1
  rw[h] at hr
  simp[df] at hr
  obtain⟨dn,rfl⟩:∃ n:Nat,d=n:=⟨d.toNat,by omega⟩
  obtain⟨sn,rfl⟩:∃ n:Nat,s=n:=⟨s.toNat,by omega⟩
  obtain⟨tn,rfl⟩:∃ n:Nat,t=n:=⟨t.toNat,by omega⟩
  obtain⟨un,rfl⟩:∃ n:Nat,u=n:=⟨u.toNat,by omega⟩
  obtain⟨an,rfl⟩:∃ n:Nat,a=n:=⟨a.toNat,by omega⟩
  obtain⟨kn,rfl⟩:∃ n:Nat,k=n:=⟨k.toNat,by omega⟩
  obtain rfl:un=0:=by omega
  obtain rfl:an=0:=by omega
  obtain rfl:kn=0:=by omega
  obtain rfl:pl=0:=by omega
  exact wh dn sn tn (by omega) (by omega) (by omega)
 ·skip
  have hr:=lG d s t u a k pl 1073741824 hd hs ht hu ha k0 k1
  rw[h] at hr
  simp[df] at hr
  obtain⟨dn,rfl⟩:∃ n:Nat,d=n:=⟨d.toNat,by omega⟩
  obtain⟨sn,rfl⟩:∃ n:Nat,s=n:=⟨s.toNat,by omega⟩
  obtain⟨tn,rfl⟩:∃ n:Nat,t=n:=⟨t.toNat,by omega⟩
  obtain⟨un,rfl⟩:∃ n:Nat,u=n:=⟨u.toNat,by omega⟩
  obtain⟨an,rfl⟩:∃ n:Nat,a=n:=⟨a.toNat,by omega⟩
  obtain⟨kn,rfl⟩:∃ n:Nat,k=n:=⟨k.toNat,by omega⟩
  obtain rfl:dn=0:=by omega
  obtain rfl:un=0:=by omega
  obtain rfl:an=0:=by omega
  obtain rfl:kn=0:=by omega
  obtain⟨pn,rfl⟩:∃ n:Nat,pl=n:=⟨pl.toNat,by omega⟩
  exact wg sn tn pn (by omega) (by omega) (by omega)
 ·skip
  have hr:=lF d s t u a k pl 1073741824 hd hs ht hu ha k0 k1
  rw[h] at hr
  simp[df] at hr
  obtain⟨dn,rfl⟩:∃ n:Nat,d=n:=⟨d.toNat,by omega⟩
  obtain⟨sn,rfl⟩:∃ n:Nat,s=n:=⟨s.toNat,by omega⟩
  obtain⟨tn,rfl⟩:∃ n:Nat,t=n:=⟨t.toNat,by omega⟩
  obtain⟨un,rfl⟩:∃ n:Nat,u=n:=⟨u.toNat,by omega⟩
  obtain⟨an,rfl⟩:∃ n:Nat,a=n:=⟨a.toNat,by omega⟩
  obtain⟨kn,rfl⟩:∃ n:Nat,k=n:=⟨k.toNat,by omega⟩
  obtain rfl:dn=0:=by omega
  obtain rfl:un=0:=by omega
  obtain rfl:an=0:=by omega
  obtain rfl:kn=0:=by omega
  obtain⟨pn,rfl⟩:∃ n:Nat,pl=n:=⟨pl.toNat,by omega⟩
  exact we sn tn pn (by omega) (by omega) (by omega)
 ·skip
  have hr:=jF d s t u a k pl 1073741824 hd hs ht hu ha k0 k1
  rw[h] at hr
  simp[df] at hr
  obtain⟨dn,rfl⟩:∃ n:Nat,d=n:=⟨d.toNat,by omega⟩
  obtain⟨sn,rfl⟩:∃ n:Nat,s=n:=⟨s.toNat,by omega⟩
  obtain⟨tn,rfl⟩:∃ n:Nat,t=n:=⟨t.toNat,by omega⟩
  obtain⟨un,rfl⟩:∃ n:Nat,u=n:=⟨u.toNat,by omega⟩
  obtain⟨an,rfl⟩:∃ n:Nat,a=n:=⟨a.toNat,by omega⟩
  obtain⟨kn,rfl⟩:∃ n:Nat,k=n:=⟨k.toNat,by omega⟩
  obtain rfl:dn=0:=by omega
  obtain rfl:sn=0:=by omega
  obtain rfl:tn=0:=by omega
  obtain rfl:un=0:=by omega
  obtain rfl:an=0:=by omega
  obtain rfl:kn=0:=by omega
  obtain⟨pn,rfl⟩:∃ n:Nat,pl=n:=⟨pl.toNat,by omega⟩
  exact tu pn (by omega)
 ·skip
  have hr:=jE d s t u a k pl 1073741824 hd hs ht hu ha k0 k1
  rw[h] at hr
  simp[df] at hr
  obtain⟨dn,rfl⟩:∃ n:Nat,d=n:=⟨d.toNat,by omega⟩
  obtain⟨sn,rfl⟩:∃ n:Nat,s=n:=⟨s.toNat,by omega⟩
  obtain⟨tn,rfl⟩:∃ n:Nat,t=n:=⟨t.toNat,by omega⟩
  obtain⟨un,rfl⟩:∃ n:Nat,u=n:=⟨u.toNat,by omega⟩
  obtain⟨an,rfl⟩:∃ n:Nat,a=n:=⟨a.toNat,by omega⟩
  obtain⟨kn,rfl⟩:∃ n:Nat,k=n:=⟨k.toNat,by omega⟩
  obtain rfl:sn=0:=by omega
  obtain rfl:tn=0:=by omega
  obtain rfl:un=0:=by omega
  obtain rfl:an=0:=by omega
  obtain rfl:kn=0:=by omega
  obtain rfl:pl=0:=by omega
  exact tt dn (by omega)
 ·skip
  have hr:=ir d s t u a k pl 1073741824 hd hs ht hu ha k0 k1
  rw[h] at hr
  simp[df] at hr
  obtain⟨dn,rfl⟩:∃ n:Nat,d=n:=⟨d.toNat,by omega⟩
  obtain⟨sn,rfl⟩:∃ n:Nat,s=n:=⟨s.toNat,by omega⟩
  obtain⟨tn,rfl⟩:∃ n:Nat,t=n:=⟨t.toNat,by omega⟩
  obtain⟨un,rfl⟩:∃ n:Nat,u=n:=⟨u.toNat,by omega⟩
  obtain⟨an,rfl⟩:∃ n:Nat,a=n:=⟨a.toNat,by omega⟩
  obtain⟨kn,rfl⟩:∃ n:Nat,k=n:=⟨k.toNat,by omega⟩
  obtain rfl:dn=0:=by omega
  obtain rfl:sn=0:=by omega
  obtain rfl:tn=0:=by omega
  obtain rfl:un=0:=by omega
  obtain rfl:an=0:=by omega
  obtain rfl:pl=0:=by omega
  exact tq kn (by omega)
 ·skip
  have hr:=iq d s t u a k pl 1073741824 hd hs ht hu ha k0 k1
  rw[h] at hr
  simp[df] at hr
  obtain⟨dn,rfl⟩:∃ n:Nat,d=n:=⟨d.toNat,by omega⟩
  obtain⟨sn,rfl⟩:∃ n:Nat,s=n:=⟨s.toNat,by omega⟩
  obtain⟨tn,rfl⟩:∃ n:Nat,t=n:=⟨t.toNat,by omega⟩
  obtain⟨un,rfl⟩:∃ n:Nat,u=n:=⟨u.toNat,by omega⟩
  obtain⟨an,rfl⟩:∃ n:Nat,a=n:=⟨a.toNat,by omega⟩
  obtain⟨kn,rfl⟩:∃ n:Nat,k=n:=⟨k.toNat,by omega⟩
  obtain rfl:dn=0:=by omega
  obtain rfl:sn=0:=by omega
  obtain rfl:tn=0:=by omega
  obtain rfl:un=0:=by omega
  obtain rfl:an=0:=by omega
  obtain rfl:pl=0:=by omega
  exact tm kn (by omega)
 ·skip
  have hr:=jD d s t u a k pl 1073741824 hd hs ht hu ha k0 k1
  rw[h] at hr
  simp[df] at hr
  obtain⟨dn,rfl⟩:∃ n:Nat,d=n:=⟨d.toNat,by omega⟩
  obtain⟨sn,rfl⟩:∃ n:Nat,s=n:=⟨s.toNat,by omega⟩
  obtain⟨tn,rfl⟩:∃ n:Nat,t=n:=⟨t.toNat,by omega⟩
  obtain⟨un,rfl⟩:∃ n:Nat,u=n:=⟨u.toNat,by omega⟩
  obtain⟨an,rfl⟩:∃ n:Nat,a=n:=⟨a.toNat,by omega⟩
  obtain⟨kn,rfl⟩:∃ n:Nat,k=n:=⟨k.toNat,by omega⟩
  obtain rfl:tn=0:=by omega
  obtain rfl:un=0:=by omega
  obtain rfl:kn=0:=by omega
  obtain rfl:pl=0:=by omega
  exact tk dn sn an (by omega) (by omega) (by omega)
 ·skip
  have hr:=jC d s t u a k pl 1073741824 hd hs ht hu ha k0 k1
  rw[h] at hr
  simp[df] at hr
  obtain⟨dn,rfl⟩:∃ n:Nat,d=n:=⟨d.toNat,by omega⟩
  obtain⟨sn,rfl⟩:∃ n:Nat,s=n:=⟨s.toNat,by omega⟩
  obtain⟨tn,rfl⟩:∃ n:Nat,t=n:=⟨t.toNat,by omega⟩
  obtain⟨un,rfl⟩:∃ n:Nat,u=n:=⟨u.toNat,by omega⟩
  obtain⟨an,rfl⟩:∃ n:Nat,a=n:=⟨a.toNat,by omega⟩
  obtain⟨kn,rfl⟩:∃ n:Nat,k=n:=⟨k.toNat,by omega⟩
  obtain rfl:dn=0:=by omega
  obtain rfl:un=0:=by omega
  obtain rfl:kn=0:=by omega
  obtain rfl:pl=0:=by omega
  exact tj sn tn an (by omega) (by omega) (by omega)
 ·skip
  have hr:=jB d s t u a k pl 1073741824 hd hs ht hu ha k0 k1
  rw[h] at hr
  simp[df] at hr
  obtain⟨dn,rfl⟩:∃ n:Nat,d=n:=⟨d.toNat,by omega⟩
  obtain⟨sn,rfl⟩:∃ n:Nat,s=n:=⟨s.toNat,by omega⟩
  obtain⟨tn,rfl⟩:∃ n:Nat,t=n:=⟨t.toNat,by omega⟩
  obtain⟨un,rfl⟩:∃ n:Nat,u=n:=⟨u.toNat,by omega⟩
  obtain⟨an,rfl⟩:∃ n:Nat,a=n:=⟨a.toNat,by omega⟩
  obtain⟨kn,rfl⟩:∃ n:Nat,k=n:=⟨k.toNat,by omega⟩
  obtain rfl:un=0:=by omega
  obtain rfl:kn=0:=by omega
  obtain rfl:pl=0:=by omega
  exact tg dn sn tn an (by omega) (by omega) (by omega) (by omega)
 ·skip
  have hr:=jA d s t u a k pl 1073741824 hd hs ht hu ha k0 k1
  rw[h] at hr
  simp[df] at hr
  obtain⟨dn,rfl⟩:∃ n:Nat,d=n:=⟨d.toNat,by omega⟩
  obtain⟨sn,rfl⟩:∃ n:Nat,s=n:=⟨s.toNat,by omega⟩
  obtain⟨tn,rfl⟩:∃ n:Nat,t=n:=⟨t.toNat,by omega⟩
  obtain⟨un,rfl⟩:∃ n:Nat,u=n:=⟨u.toNat,by omega⟩
  obtain⟨an,rfl⟩:∃ n:Nat,a=n:=⟨a.toNat,by omega⟩
  obtain⟨kn,rfl⟩:∃ n:Nat,k=n:=⟨k.toNat,by omega⟩
  obtain rfl:kn=0:=by omega
  obtain rfl:pl=0:=by omega
  exact tf dn sn tn un an (by omega) (by omega) (by omega) (by omega) (by omega)
 ·skip
  have hr:=jz d s t u a k pl 1073741824 hd hs ht hu ha k0 k1
  rw[h] at hr
  simp[df] at hr
  obtain⟨dn,rfl⟩:∃ n:Nat,d=n:=⟨d.toNat,by omega⟩
  obtain⟨sn,rfl⟩:∃ n:Nat,s=n:=⟨s.toNat,by omega⟩
  obtain⟨tn,rfl⟩:∃ n:Nat,t=n:=⟨t.toNat,by omega⟩
  obtain⟨un,rfl⟩:∃ n:Nat,u=n:=⟨u.toNat,by omega⟩
  obtain⟨an,rfl⟩:∃ n:Nat,a=n:=⟨a.toNat,by omega⟩
  obtain⟨kn,rfl⟩:∃ n:Nat,k=n:=⟨k.toNat,by omega⟩
  obtain rfl:tn=0:=by omega
  obtain rfl:un=0:=by omega
  obtain rfl:pl=0:=by omega
  exact td dn sn an kn (by omega) (by omega) (by omega) (by omega)
 ·skip
  have hr:=gE d s t u a k pl 1073741824 hd hs ht hu ha k0 k1
  rw[h] at hr
  simp[df] at hr
  obtain⟨dn,rfl⟩:∃ n:Nat,d=n:=⟨d.toNat,by omega⟩
  obtain⟨sn,rfl⟩:∃ n:Nat,s=n:=⟨s.toNat,by omega⟩
  obtain⟨tn,rfl⟩:∃ n:Nat,t=n:=⟨t.toNat,by omega⟩
  obtain⟨un,rfl⟩:∃ n:Nat,u=n:=⟨u.toNat,by omega⟩
  obtain⟨an,rfl⟩:∃ n:Nat,a=n:=⟨a.toNat,by omega⟩
  obtain⟨kn,rfl⟩:∃ n:Nat,k=n:=⟨k.toNat,by omega⟩
  obtain rfl:un=0:=by omega
  by_cases hm:pl=-1
  ·subst hm
   by_cases hk:kn=0
   ·subst hk;exact nz dn sn tn an 0 (by omega) (by omega) (by omega) (by omega) (by omega)
   ·obtain rfl:kn=1:=by omega
    exact nw dn sn tn an 0 (by omega) (by omega) (by omega) (by omega) (by omega)
  ·obtain⟨pn,rfl⟩:∃ n:Nat,pl=n:=⟨pl.toNat,by omega⟩
   by_cases hk:kn=0
   ·subst hk;exact ny dn sn tn an pn (by omega) (by omega) (by omega) (by omega) (by omega)
   ·obtain rfl:kn=1:=by omega
    exact nu dn sn tn an pn (by omega) (by omega) (by omega) (by omega) (by omega)
 ·skip
  have hr:=jy d s t u a k pl 1073741824 hd hs ht hu ha k0 k1
  rw[h] at hr
  simp[df] at hr
  obtain⟨dn,rfl⟩:∃ n:Nat,d=n:=⟨d.toNat,by omega⟩
  obtain⟨sn,rfl⟩:∃ n:Nat,s=n:=⟨s.toNat,by omega⟩
  obtain⟨tn,rfl⟩:∃ n:Nat,t=n:=⟨t.toNat,by omega⟩
  obtain⟨un,rfl⟩:∃ n:Nat,u=n:=⟨u.toNat,by omega⟩
  obtain⟨an,rfl⟩:∃ n:Nat,a=n:=⟨a.toNat,by omega⟩
  obtain⟨kn,rfl⟩:∃ n:Nat,k=n:=⟨k.toNat,by omega⟩
  obtain rfl:sn=0:=by omega
  obtain rfl:tn=0:=by omega
  obtain rfl:un=0:=by omega
  obtain rfl:an=0:=by omega
  obtain rfl:kn=0:=by omega
  obtain rfl:pl=0:=by omega
  exact tb dn (by omega)
 ·skip
  have hr:=jx d s t u a k pl 1073741824 hd hs ht hu ha k0 k1
  rw[h] at hr
  simp[df] at hr
  obtain⟨dn,rfl⟩:∃ n:Nat,d=n:=⟨d.toNat,by omega⟩
  obtain⟨sn,rfl⟩:∃ n:Nat,s=n:=⟨s.toNat,by omega⟩
  obtain⟨tn,rfl⟩:∃ n:Nat,t=n:=⟨t.toNat,by omega⟩
  obtain⟨un,rfl⟩:∃ n:Nat,u=n:=⟨u.toNat,by omega⟩
  obtain⟨an,rfl⟩:∃ n:Nat,a=n:=⟨a.toNat,by omega⟩
  obtain⟨kn,rfl⟩:∃ n:Nat,k=n:=⟨k.toNat,by omega⟩
  obtain rfl:dn=0:=by omega
  obtain rfl:tn=0:=by omega
  obtain rfl:un=0:=by omega
  obtain rfl:an=0:=by omega
  obtain rfl:kn=0:=by omega
  obtain rfl:pl=0:=by omega
  exact ta sn (by omega)
 ·exfalso
  unfold ar at h
  simp only[(dt hn).1] at h
  cases h
theorem qw (i:aK)(h:ar i 1073741824=O)(k0:0<=i.k)(k1:i.k<4294967296):jS (ah i)=O:=by
 obtain⟨h1,h2⟩:=kM i h k0 k1
 unfold jS
 rw[h1,h2,h]
 simp
end
section
open Go.ChangeShapes Go.WideShapes Go.ChangeAt Go.RowKit
theorem As (c:fy)(v:Value)(w:World)(hv:Pv w v c)(hw:∀ i∈c.l,i.Wf):
 Calls Tryz.prog 33 #[v] w fun e w'=>e=.returned (.bool (iY c))/\Below w.heap.size w w':=by
 obtain⟨a,ca,rfl,hc1,hc2,_,ha⟩:=hv
 have k1:=Bk.made w 35 #[.slice a c.l.length ca,I Q c.lo,I Q c.un]
 have b0:Below w.heap.size w (w.alloc (.cells #[.slice a c.l.length ca,I Q c.lo,I Q c.un] 35)):=(Below.refl _ _).alloc (Nat.le_refl _) _
 replace ha:=ha.below b0
 go_enter Tryz.func33,Tryz.ntmps33
 go_upto_region 1 with fail
 generalize w.alloc (.cells #[.slice a c.l.length ca,I Q c.lo,I Q c.un] 35)=x at *
 obtain⟨x0,x1,x2⟩:=k1.iT
 by_cases h1:1<=c.l.length
 case neg=>
  have HF:=Z (qV (c:=c) (by omega))
  have i1:(c.l.length:Int)<1:=by omega
  go_wp2
  go_ret
  exact⟨by rw[HF.out];rfl,b0⟩
 case pos=>
  have i1:¬ (c.l.length:Int)<1:=by omega
  by_cases h2:c.l.length<=64
  case neg=>
   have HF:=Z (qV (c:=c) (by omega))
   have i2:(64:Int)<c.l.length:=by omega
   go_wp2
   go_ret
   exact⟨by rw[HF.out];rfl,b0⟩
  case pos=>
   have i2:¬ (64:Int)<c.l.length:=by omega
   have HP:=Z (AB c h1 h2)
   by_cases hb1:c.lo<0\/c.un<0\/(c.l.length:Int)<=c.lo\/(c.l.length:Int)<=c.un
   case pos=>
    have HF:Hid (iY c=N):=Z (by
     rw[HP.out]
     have:((decide (0<=c.lo) && decide (c.lo<c.l.length)) && (decide (0<=c.un) && decide (c.un<c.l.length)))=N:=by
      simp only[Bool.and_eq_false_iff,decide_eq_false_iff_not]
      omega
     rw[this];simp)
    generalize c.lo=lo at *
    generalize c.un=un at *
    clear HP
    by_cases z1:lo<0
    ·clear hb1;go_wp2;go_ret;exact⟨by rw[HF.out];rfl,b0⟩
    by_cases z2:un<0
    ·clear hb1;go_wp2;go_ret;exact⟨by rw[HF.out];rfl,b0⟩
    by_cases z3:(c.l.length:Int)<=lo
    ·clear hb1;go_wp2;go_ret;exact⟨by rw[HF.out];rfl,b0⟩
    have z4:(c.l.length:Int)<=un:=by omega
    clear hb1;go_wp2;go_ret;exact⟨by rw[HF.out];rfl,b0⟩
   have z1:¬ c.lo<0:=by omega
   have z2:¬ c.un<0:=by omega
   have z3:¬ (c.l.length:Int)<=c.lo:=by omega
   have z4:¬ (c.l.length:Int)<=c.un:=by omega
   have HP2:Hid (iY c=(c.l.all fun i=>ar i c.l.length)):=Z (by
    rw[HP.out]
    have:((decide (0<=c.lo) && decide (c.lo<c.l.length)) && (decide (0<=c.un) && decide (c.un<c.l.length)))=O:=by
     simp only[Bool.and_eq_true,decide_eq_true_eq]
     omega
    rw[this];simp)
   clear HP hb1
   go_wp2
   go_loopw [2,40] (fun q i wr=>∃ k:Nat,q=.bool N/\i=I Q k/\k<=c.l.length/\Below x.heap.size x wr/\Hid (∀ j i,c.l[j]?=some i->j<k->ar i c.l.length=O)) (fun _ i _=>c.l.length-(intOf i).toNat)
   case atStart=>exact⟨0,rfl,rfl,Nat.zero_le _,Below.refl _ _,Z (fun _ _ _ h=>by omega)⟩
   case round=>
    obtain⟨k,rfl,rfl,hk,hb,HA⟩:=hrel
    have hbw:=b0.trans (hb.mono b0.size)
    by_cases hlt:k<c.l.length
    ·have hki:(k:Int)<c.l.length:=by omega
     have hge:=List.getElem?_eq_getElem hlt
     obtain⟨g,off,rfl,hgl,e0,e1,e2,e3,e4,e5,e6,e7⟩:=(ha.below hb).at_ hge
     have hWf:=hw _ (List.getElem_mem hlt)
     have HG:=Z hge
     clear hge
     generalize c.l[k]=i at *
     have HR:=Z (fun W=>yZ i (c.l.length:Int) hWf.k0 hWf.k1 W)
     obtain⟨op,d,s,t,u,a',k',pl⟩:=i
     simp only at e0 e1 e2 e3 e4 e5 e6 e7
     go_upto_region 7 with fail
     have m2:=Jb.made wr op d s t u a' k' pl
     replace hb:=hb.alloc (o:=.cells #[I Q op,I Q d,I Q s,I Q t,I Q u,I Q a',I .u32 k',I Q pl] 125) hb.size
     clear e0 e1 e2 e3 e4 e5 e6 e7 hbw
     generalize wr.heap.size=q at *
     generalize wr.alloc (.cells #[I Q op,I Q d,I Q s,I Q t,I Q u,I Q a',I .u32 k',I Q pl] 125)=y at *
     have hbw:=b0.trans (hb.mono b0.size)
     obtain⟨e0,e1,e2,e3,e4,e5,e6,e7⟩:=m2.cells
     simp only at e0 e1 e2 e3 e4 e5 e6 e7
     go_wp2_with fail
     refine(HR.out y).mono ?_
     rintro e z ⟨rfl,hz⟩
     replace hb:=hb.trans (hz.mono hb.size)
     replace hbw:=hbw.trans (hz.mono hbw.size)
     cases hq:ar ⟨op,d,s,t,u,a',k',pl⟩ c.l.length with
     | true=>
      have HA2:Hid (∀ j i,c.l[j]?=some i->j<k+1->ar i c.l.length=O):=Z fun j i hj hjk=>by
       by_cases e:j=k
       ·subst e
        rw[HG.out] at hj
        injection hj with hj
        subst hj
        exact hq
       ·exact HA.out j i hj (by omega)
      clear hq HA HR HG
      go_wp2
      go_roundw
      case rel=>exact⟨k+1,rfl,by go_num,by omega,hb,HA2⟩
      case measure=>
       show c.l.length-((k:Int)+1).toNat<c.l.length-(k:Int).toNat
       omega
     | false=>
      have HQ:Hid (iY c=N):=Z (by
       rw[HP2.out]
       have:(c.l.all fun i=>ar i c.l.length)=N:=by
        rw[List.all_eq_false]
        exact⟨_,List.mem_of_getElem? HG.out,by rw[hq];simp⟩
       rw[this])
      clear hq HA HR HG
      go_wp2
      go_ret
      exact⟨by rw[HQ.out];rfl,hbw⟩
    ·have hki:¬ (k:Int)<c.l.length:=by omega
     have hall:(c.l.all fun i=>ar i c.l.length)=O:=by
      rw[List.all_eq_true]
      intro i hi
      obtain⟨j,hj,rfl⟩:=List.getElem_of_mem hi
      exact HA.out j _ (List.getElem?_eq_getElem hj) (by omega)
     have HQ:Hid (iY c=O):=Z (by rw[HP2.out,hall])
     clear HA hall
     go_wp2
     go_ret
     exact⟨by rw[HQ.out];rfl,hbw⟩
end
