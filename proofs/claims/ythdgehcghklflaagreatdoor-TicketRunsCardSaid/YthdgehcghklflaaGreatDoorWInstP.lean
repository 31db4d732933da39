import Derived.Test.YthdgehcghklflaaGreatDoorWTkD
import Derived.Test.YthdgehcghklflaaGreatDoorWMem
import Derived.Test.YthdgehcghklflaaGreatDoorWRecs
import Derived.Test.YthdgehcghklflaaGreatDoorWInstC
import Derived.Test.YthdgehcghklflaaGreatDoorWPrgM
set_option linter.unusedVariables false
set_option maxHeartbeats 1000000
set_option maxRecDepth 100000
open Go.Value renaming int->I
open Bool renaming false->Q,true->O
open Go.Lib renaming hid->Z
namespace Go.Proofs.YthdgehcghklflaaGreatDoor
section
theorem kI:∀ (m:Nat) (s:List UInt8),(ah s).length<=m+1->Lib.splitK [32] 0 m s=ah s
 | 0,s,h=>by
  rcases nk s with h1 | ⟨t,r,h1,rfl⟩
  ·rw[cO s h1];rfl
  ·rw[fe t r h1] at h
   have:=fR r
   rw[List.length_cons] at h
   omega
 | m+1,s,h=>by
  rcases nk s with h1 | ⟨t,r,h1,rfl⟩
  ·rw[cO s h1];unfold Lib.splitK;rw[qW s h1];rfl
  ·rw[fe t r h1] at h ⊢
   unfold Lib.splitK
   rw[qX t r h1,if_neg (by simp <;> omega)]
   have e1:(t++32 :: r).take (((t.length:Int)).toNat+0)=t:=by simp
   have e2:(t++32 :: r).drop (((t.length:Int)).toNat+[(32:UInt8)].length)=r:=by simp[List.drop_append]
   rw[e1,e2,kI m r (by simp at h;omega)]
theorem aH (s:List UInt8)(h:(ah s).length<=9):fo s=ah s:=by
 unfold fo Lib.splitN
 have:=gQ s
 exact kI _ s (by omega)
def dE (n:Nat):List UInt8:=114 :: Lib.decDigits n
theorem dm (n:Nat):Bf (dE n):=by
 intro c hc
 rcases List.mem_cons.1 hc with rfl | hc
 ·decide
 ·exact dC n c hc
theorem cg (n:Nat)(h:n<9223372036854775808):jP (Lib.decDigits n)=n:=by
 have ha:=ro n h
 obtain⟨c,r,e,h1,h2,-⟩:=iz n
 rw[e] at ha ⊢
 have n1:c≠101:=fun e=>by rw[e] at h2;exact absurd h2 (by decide)
 have n2:c≠110:=fun e=>by rw[e] at h2;exact absurd h2 (by decide)
 have n3:c≠114:=fun e=>by rw[e] at h2;exact absurd h2 (by decide)
 unfold jP
 rw[if_neg (by intro e;injection e with e _;exact n1 e),if_neg (by intro e;injection e with e _;exact n2 e)]
 have et:Lib.trimPrefix (c :: r) [114]=c :: r:=by
  unfold Lib.trimPrefix Lib.hasPrefix
  rw[if_neg (by simp[List.isPrefixOf];exact fun e=>n3 e.symm)]
 rw[et,ha]
theorem aN (n:Nat)(h:n<9223372036854775808):jP (dE n)=n:=by
 have ha:=ro n h
 unfold jP dE
 rw[if_neg (by intro e;injection e with e _;exact absurd e (by decide)),if_neg (by intro e;injection e with e _;exact absurd e (by decide))]
 have et:Lib.trimPrefix (114 :: Lib.decDigits n) [114]=Lib.decDigits n:=by
  unfold Lib.trimPrefix Lib.hasPrefix
  rw[if_pos (by simp[List.isPrefixOf])]
  rfl
 rw[et,ha]
theorem CU (dn kn:Nat):af ⟨1,(dn:Nat),0,0,0,0,(kn:Nat),0⟩=bt (bM 1) [dE dn,Lib.decDigits kn]:=by
 simp[af,dh,aE,aY,bf,aD,bt,dE]
theorem pr (dn kn:Nat):ah (af ⟨1,(dn:Nat),0,0,0,0,(kn:Nat),0⟩)=bM 1 :: [dE dn,Lib.decDigits kn]:=by
 rw[CU]
 exact aT _ _ (by unfold Bf;decide) (by simp[dm,dC])
theorem yi (dn kn:Nat)(hdn:dn<9223372036854775808)(hkn:kn<9223372036854775808)(k1:kn<4294967296):az (af ⟨1,(dn:Nat),0,0,0,0,(kn:Nat),0⟩)=⟨1,(dn:Nat),0,0,0,0,(kn:Nat),0⟩:=by
 unfold az
 rw[aH _ (by rw[pr];simp),pr]
 have e:nr (bM 1)=1:=by decide
 simp[bY,e,dh,cb,dg,cJ,bZ,aN dn hdn,cg kn hkn,aJ.zero]
 omega
theorem CT (dn sn:Nat):af ⟨2,(dn:Nat),(sn:Nat),0,0,0,0,0⟩=bt (bM 2) [dE dn,dE sn]:=by
 simp[af,dh,aE,aY,bf,aD,bt,dE]
theorem pq (dn sn:Nat):ah (af ⟨2,(dn:Nat),(sn:Nat),0,0,0,0,0⟩)=bM 2 :: [dE dn,dE sn]:=by
 rw[CT]
 exact aT _ _ (by unfold Bf;decide) (by simp[dm])
theorem yh (dn sn:Nat)(hdn:dn<9223372036854775808)(hsn:sn<9223372036854775808):az (af ⟨2,(dn:Nat),(sn:Nat),0,0,0,0,0⟩)=⟨2,(dn:Nat),(sn:Nat),0,0,0,0,0⟩:=by
 unfold az
 rw[aH _ (by rw[pq];simp),pq]
 have e:nr (bM 2)=2:=by decide
 simp[bY,e,dh,cb,dg,cJ,bZ,aN dn hdn,aN sn hsn,aJ.zero]
theorem CS (dn sn kn:Nat):af ⟨3,(dn:Nat),(sn:Nat),0,0,0,(kn:Nat),0⟩=bt (bM 3) [dE dn,dE sn,Lib.decDigits kn]:=by
 simp[af,dh,aE,aY,bf,aD,bt,dE]
theorem po (dn sn kn:Nat):ah (af ⟨3,(dn:Nat),(sn:Nat),0,0,0,(kn:Nat),0⟩)=bM 3 :: [dE dn,dE sn,Lib.decDigits kn]:=by
 rw[CS]
 exact aT _ _ (by unfold Bf;decide) (by simp[dm,dC])
theorem yg (dn sn kn:Nat)(hdn:dn<9223372036854775808)(hsn:sn<9223372036854775808)(hkn:kn<9223372036854775808)(k1:kn<4294967296):az (af ⟨3,(dn:Nat),(sn:Nat),0,0,0,(kn:Nat),0⟩)=⟨3,(dn:Nat),(sn:Nat),0,0,0,(kn:Nat),0⟩:=by
 unfold az
 rw[aH _ (by rw[po];simp),po]
 have e:nr (bM 3)=3:=by decide
 simp[bY,e,dh,cb,dg,cJ,bZ,aN dn hdn,aN sn hsn,cg kn hkn,aJ.zero]
 omega
theorem CR (dn sn kn:Nat):af ⟨4,(dn:Nat),(sn:Nat),0,0,0,(kn:Nat),0⟩=bt (bM 4) [dE dn,dE sn,Lib.decDigits kn]:=by
 simp[af,dh,aE,aY,bf,aD,bt,dE]
theorem pm (dn sn kn:Nat):ah (af ⟨4,(dn:Nat),(sn:Nat),0,0,0,(kn:Nat),0⟩)=bM 4 :: [dE dn,dE sn,Lib.decDigits kn]:=by
 rw[CR]
 exact aT _ _ (by unfold Bf;decide) (by simp[dm,dC])
theorem ye (dn sn kn:Nat)(hdn:dn<9223372036854775808)(hsn:sn<9223372036854775808)(hkn:kn<9223372036854775808)(k1:kn<4294967296):az (af ⟨4,(dn:Nat),(sn:Nat),0,0,0,(kn:Nat),0⟩)=⟨4,(dn:Nat),(sn:Nat),0,0,0,(kn:Nat),0⟩:=by
 unfold az
 rw[aH _ (by rw[pm];simp),pm]
 have e:nr (bM 4)=4:=by decide
 simp[bY,e,dh,cb,dg,cJ,bZ,aN dn hdn,aN sn hsn,cg kn hkn,aJ.zero]
 omega
theorem CQ (dn sn kn:Nat):af ⟨5,(dn:Nat),(sn:Nat),0,0,0,(kn:Nat),0⟩=bt (bM 5) [dE dn,dE sn,Lib.decDigits kn]:=by
 simp[af,dh,aE,aY,bf,aD,bt,dE]
theorem pk (dn sn kn:Nat):ah (af ⟨5,(dn:Nat),(sn:Nat),0,0,0,(kn:Nat),0⟩)=bM 5 :: [dE dn,dE sn,Lib.decDigits kn]:=by
 rw[CQ]
 exact aT _ _ (by unfold Bf;decide) (by simp[dm,dC])
theorem yc (dn sn kn:Nat)(hdn:dn<9223372036854775808)(hsn:sn<9223372036854775808)(hkn:kn<9223372036854775808)(k1:kn<4294967296):az (af ⟨5,(dn:Nat),(sn:Nat),0,0,0,(kn:Nat),0⟩)=⟨5,(dn:Nat),(sn:Nat),0,0,0,(kn:Nat),0⟩:=by
 unfold az
 rw[aH _ (by rw[pk];simp),pk]
 have e:nr (bM 5)=5:=by decide
 simp[bY,e,dh,cb,dg,cJ,bZ,aN dn hdn,aN sn hsn,cg kn hkn,aJ.zero]
 omega
theorem CP (dn sn kn:Nat):af ⟨6,(dn:Nat),(sn:Nat),0,0,0,(kn:Nat),0⟩=bt (bM 6) [dE dn,dE sn,Lib.decDigits kn]:=by
 simp[af,dh,aE,aY,bf,aD,bt,dE]
theorem pj (dn sn kn:Nat):ah (af ⟨6,(dn:Nat),(sn:Nat),0,0,0,(kn:Nat),0⟩)=bM 6 :: [dE dn,dE sn,Lib.decDigits kn]:=by
 rw[CP]
 exact aT _ _ (by unfold Bf;decide) (by simp[dm,dC])
theorem xZ (dn sn kn:Nat)(hdn:dn<9223372036854775808)(hsn:sn<9223372036854775808)(hkn:kn<9223372036854775808)(k1:kn<4294967296):az (af ⟨6,(dn:Nat),(sn:Nat),0,0,0,(kn:Nat),0⟩)=⟨6,(dn:Nat),(sn:Nat),0,0,0,(kn:Nat),0⟩:=by
 unfold az
 rw[aH _ (by rw[pj];simp),pj]
 have e:nr (bM 6)=6:=by decide
 simp[bY,e,dh,cb,dg,cJ,bZ,aN dn hdn,aN sn hsn,cg kn hkn,aJ.zero]
 omega
theorem CO (dn sn tn:Nat):af ⟨7,(dn:Nat),(sn:Nat),(tn:Nat),0,0,0,0⟩=bt (bM 7) [dE dn,dE sn,dE tn]:=by
 simp[af,dh,aE,aY,bf,aD,bt,dE]
theorem pi (dn sn tn:Nat):ah (af ⟨7,(dn:Nat),(sn:Nat),(tn:Nat),0,0,0,0⟩)=bM 7 :: [dE dn,dE sn,dE tn]:=by
 rw[CO]
 exact aT _ _ (by unfold Bf;decide) (by simp[dm])
theorem xY (dn sn tn:Nat)(hdn:dn<9223372036854775808)(hsn:sn<9223372036854775808)(htn:tn<9223372036854775808):az (af ⟨7,(dn:Nat),(sn:Nat),(tn:Nat),0,0,0,0⟩)=⟨7,(dn:Nat),(sn:Nat),(tn:Nat),0,0,0,0⟩:=by
 unfold az
 rw[aH _ (by rw[pi];simp),pi]
 have e:nr (bM 7)=7:=by decide
 simp[bY,e,dh,cb,dg,cJ,bZ,aN dn hdn,aN sn hsn,aN tn htn,aJ.zero]
theorem CN (sn tn pn:Nat):af ⟨8,0,(sn:Nat),(tn:Nat),0,0,0,(pn:Nat)⟩=bt (bM 8) [dE sn,dE tn,Lib.decDigits pn]:=by
 simp[af,dh,aE,aY,bf,aD,bt,dE]
theorem ph (sn tn pn:Nat):ah (af ⟨8,0,(sn:Nat),(tn:Nat),0,0,0,(pn:Nat)⟩)=bM 8 :: [dE sn,dE tn,Lib.decDigits pn]:=by
 rw[CN]
 exact aT _ _ (by unfold Bf;decide) (by simp[dm,dC])
theorem xX (sn tn pn:Nat)(hsn:sn<9223372036854775808)(htn:tn<9223372036854775808)(hpn:pn<9223372036854775808):az (af ⟨8,0,(sn:Nat),(tn:Nat),0,0,0,(pn:Nat)⟩)=⟨8,0,(sn:Nat),(tn:Nat),0,0,0,(pn:Nat)⟩:=by
 unfold az
 rw[aH _ (by rw[ph];simp),ph]
 have e:nr (bM 8)=8:=by decide
 simp[bY,e,dh,cb,dg,cJ,bZ,aN sn hsn,aN tn htn,cg pn hpn,aJ.zero]
theorem CM (sn tn pn:Nat):af ⟨9,0,(sn:Nat),(tn:Nat),0,0,0,(pn:Nat)⟩=bt (bM 9) [dE sn,dE tn,Lib.decDigits pn]:=by
 simp[af,dh,aE,aY,bf,aD,bt,dE]
theorem pg (sn tn pn:Nat):ah (af ⟨9,0,(sn:Nat),(tn:Nat),0,0,0,(pn:Nat)⟩)=bM 9 :: [dE sn,dE tn,Lib.decDigits pn]:=by
 rw[CM]
 exact aT _ _ (by unfold Bf;decide) (by simp[dm,dC])
theorem xW (sn tn pn:Nat)(hsn:sn<9223372036854775808)(htn:tn<9223372036854775808)(hpn:pn<9223372036854775808):az (af ⟨9,0,(sn:Nat),(tn:Nat),0,0,0,(pn:Nat)⟩)=⟨9,0,(sn:Nat),(tn:Nat),0,0,0,(pn:Nat)⟩:=by
 unfold az
 rw[aH _ (by rw[pg];simp),pg]
 have e:nr (bM 9)=9:=by decide
 simp[bY,e,dh,cb,dg,cJ,bZ,aN sn hsn,aN tn htn,cg pn hpn,aJ.zero]
theorem AS (pn:Nat):af ⟨10,0,0,0,0,0,0,(pn:Nat)⟩=bt (bM 10) [Lib.decDigits pn]:=by
 simp[af,dh,aE,aY,bf,aD,bt]
theorem mM (pn:Nat):ah (af ⟨10,0,0,0,0,0,0,(pn:Nat)⟩)=bM 10 :: [Lib.decDigits pn]:=by
 rw[AS]
 exact aT _ _ (by unfold Bf;decide) (by simp[dC])
theorem vF (pn:Nat)(hpn:pn<9223372036854775808):az (af ⟨10,0,0,0,0,0,0,(pn:Nat)⟩)=⟨10,0,0,0,0,0,0,(pn:Nat)⟩:=by
 unfold az
 rw[aH _ (by rw[mM];simp),mM]
 have e:nr (bM 10)=10:=by decide
 simp[bY,e,dh,cb,dg,cJ,bZ,cg pn hpn,aJ.zero]
theorem AR (dn:Nat):af ⟨11,(dn:Nat),0,0,0,0,0,0⟩=bt (bM 11) [dE dn]:=by
 simp[af,dh,aE,aY,bf,aD,bt,dE]
theorem mL (dn:Nat):ah (af ⟨11,(dn:Nat),0,0,0,0,0,0⟩)=bM 11 :: [dE dn]:=by
 rw[AR]
 exact aT _ _ (by unfold Bf;decide) (by simp[dm])
theorem vE (dn:Nat)(hdn:dn<9223372036854775808):az (af ⟨11,(dn:Nat),0,0,0,0,0,0⟩)=⟨11,(dn:Nat),0,0,0,0,0,0⟩:=by
 unfold az
 rw[aH _ (by rw[mL];simp),mL]
 have e:nr (bM 11)=11:=by decide
 simp[bY,e,dh,cb,dg,cJ,bZ,aN dn hdn,aJ.zero]
theorem AH (dn:Nat):af ⟨22,(dn:Nat),0,0,0,0,0,0⟩=bt (bM 22) [dE dn]:=by
 simp[af,dh,aE,aY,bf,aD,bt,dE]
theorem mD (dn:Nat):ah (af ⟨22,(dn:Nat),0,0,0,0,0,0⟩)=bM 22 :: [dE dn]:=by
 rw[AH]
 exact aT _ _ (by unfold Bf;decide) (by simp[dm])
theorem vw (dn:Nat)(hdn:dn<9223372036854775808):az (af ⟨22,(dn:Nat),0,0,0,0,0,0⟩)=⟨22,(dn:Nat),0,0,0,0,0,0⟩:=by
 unfold az
 rw[aH _ (by rw[mD];simp),mD]
 have e:nr (bM 22)=22:=by decide
 simp[bY,e,dh,cb,dg,cJ,bZ,aN dn hdn,aJ.zero]
theorem AQ (kn:Nat):af ⟨12,0,0,0,0,0,(kn:Nat),0⟩=bt (bM 12) [Lib.decDigits kn]:=by
 simp[af,dh,aE,aY,bf,aD,bt]
theorem mK (kn:Nat):ah (af ⟨12,0,0,0,0,0,(kn:Nat),0⟩)=bM 12 :: [Lib.decDigits kn]:=by
 rw[AQ]
 exact aT _ _ (by unfold Bf;decide) (by simp[dC])
theorem vD (kn:Nat)(hkn:kn<9223372036854775808)(k1:kn<4294967296):az (af ⟨12,0,0,0,0,0,(kn:Nat),0⟩)=⟨12,0,0,0,0,0,(kn:Nat),0⟩:=by
 unfold az
 rw[aH _ (by rw[mK];simp),mK]
 have e:nr (bM 12)=12:=by decide
 simp[bY,e,dh,cb,dg,cJ,bZ,cg kn hkn,aJ.zero]
 omega
theorem AO (kn:Nat):af ⟨13,0,0,0,0,0,(kn:Nat),0⟩=bt (bM 13) [Lib.decDigits kn]:=by
 simp[af,dh,aE,aY,bf,aD,bt]
theorem mJ (kn:Nat):ah (af ⟨13,0,0,0,0,0,(kn:Nat),0⟩)=bM 13 :: [Lib.decDigits kn]:=by
 rw[AO]
 exact aT _ _ (by unfold Bf;decide) (by simp[dC])
theorem vC (kn:Nat)(hkn:kn<9223372036854775808)(k1:kn<4294967296):az (af ⟨13,0,0,0,0,0,(kn:Nat),0⟩)=⟨13,0,0,0,0,0,(kn:Nat),0⟩:=by
 unfold az
 rw[aH _ (by rw[mJ];simp),mJ]
 have e:nr (bM 13)=13:=by decide
 simp[bY,e,dh,cb,dg,cJ,bZ,cg kn hkn,aJ.zero]
 omega
theorem AN (dn sn an:Nat):af ⟨16,(dn:Nat),(sn:Nat),0,0,(an:Nat),0,0⟩=bt (bM 16) [dE dn,Lib.decDigits an,dE sn]:=by
 simp[af,dh,aE,aY,bf,aD,bt,dE]
theorem mI (dn sn an:Nat):ah (af ⟨16,(dn:Nat),(sn:Nat),0,0,(an:Nat),0,0⟩)=bM 16 :: [dE dn,Lib.decDigits an,dE sn]:=by
 rw[AN]
 exact aT _ _ (by unfold Bf;decide) (by simp[dm,dC])
theorem vB (dn sn an:Nat)(hdn:dn<9223372036854775808)(hsn:sn<9223372036854775808)(han:an<9223372036854775808):az (af ⟨16,(dn:Nat),(sn:Nat),0,0,(an:Nat),0,0⟩)=⟨16,(dn:Nat),(sn:Nat),0,0,(an:Nat),0,0⟩:=by
 unfold az
 rw[aH _ (by rw[mI];simp),mI]
 have e:nr (bM 16)=16:=by decide
 simp[bY,e,dh,cb,dg,cJ,bZ,aN dn hdn,aN sn hsn,cg an han,aJ.zero]
theorem AM (sn tn an:Nat):af ⟨17,0,(sn:Nat),(tn:Nat),0,(an:Nat),0,0⟩=bt (bM 17) [Lib.decDigits an,dE sn,dE tn]:=by
 simp[af,dh,aE,aY,bf,aD,bt,dE]
theorem mH (sn tn an:Nat):ah (af ⟨17,0,(sn:Nat),(tn:Nat),0,(an:Nat),0,0⟩)=bM 17 :: [Lib.decDigits an,dE sn,dE tn]:=by
 rw[AM]
 exact aT _ _ (by unfold Bf;decide) (by simp[dm,dC])
theorem vA (sn tn an:Nat)(hsn:sn<9223372036854775808)(htn:tn<9223372036854775808)(han:an<9223372036854775808):az (af ⟨17,0,(sn:Nat),(tn:Nat),0,(an:Nat),0,0⟩)=⟨17,0,(sn:Nat),(tn:Nat),0,(an:Nat),0,0⟩:=by
 unfold az
 rw[aH _ (by rw[mH];simp),mH]
 have e:nr (bM 17)=17:=by decide
 simp[bY,e,dh,cb,dg,cJ,bZ,aN sn hsn,aN tn htn,cg an han,aJ.zero]
theorem AK (dn sn tn an:Nat):af ⟨18,(dn:Nat),(sn:Nat),(tn:Nat),0,(an:Nat),0,0⟩=bt (bM 18) [dE dn,Lib.decDigits an,dE sn,dE tn]:=by
 simp[af,dh,aE,aY,bf,aD,bt,dE]
theorem mG (dn sn tn an:Nat):ah (af ⟨18,(dn:Nat),(sn:Nat),(tn:Nat),0,(an:Nat),0,0⟩)=bM 18 :: [dE dn,Lib.decDigits an,dE sn,dE tn]:=by
 rw[AK]
 exact aT _ _ (by unfold Bf;decide) (by simp[dm,dC])
theorem vz (dn sn tn an:Nat)(hdn:dn<9223372036854775808)(hsn:sn<9223372036854775808)(htn:tn<9223372036854775808)(han:an<9223372036854775808):az (af ⟨18,(dn:Nat),(sn:Nat),(tn:Nat),0,(an:Nat),0,0⟩)=⟨18,(dn:Nat),(sn:Nat),(tn:Nat),0,(an:Nat),0,0⟩:=by
 unfold az
 rw[aH _ (by rw[mG];simp),mG]
 have e:nr (bM 18)=18:=by decide
 simp[bY,e,dh,cb,dg,cJ,bZ,aN dn hdn,aN sn hsn,aN tn htn,cg an han,aJ.zero]
theorem AJ (dn sn tn un an:Nat):af ⟨19,(dn:Nat),(sn:Nat),(tn:Nat),(un:Nat),(an:Nat),0,0⟩=bt (bM 19) [dE dn,Lib.decDigits an,dE sn,dE tn,dE un]:=by
 simp[af,dh,aE,aY,bf,aD,bt,dE]
theorem mF (dn sn tn un an:Nat):ah (af ⟨19,(dn:Nat),(sn:Nat),(tn:Nat),(un:Nat),(an:Nat),0,0⟩)=bM 19 :: [dE dn,Lib.decDigits an,dE sn,dE tn,dE un]:=by
 rw[AJ]
 exact aT _ _ (by unfold Bf;decide) (by simp[dm,dC])
theorem vy (dn sn tn un an:Nat)(hdn:dn<9223372036854775808)(hsn:sn<9223372036854775808)(htn:tn<9223372036854775808)(hun:un<9223372036854775808)(han:an<9223372036854775808):az (af ⟨19,(dn:Nat),(sn:Nat),(tn:Nat),(un:Nat),(an:Nat),0,0⟩)=⟨19,(dn:Nat),(sn:Nat),(tn:Nat),(un:Nat),(an:Nat),0,0⟩:=by
 unfold az
 rw[aH _ (by rw[mF];simp),mF]
 have e:nr (bM 19)=19:=by decide
 simp[bY,e,dh,cb,dg,cJ,bZ,aN dn hdn,aN sn hsn,aN tn htn,aN un hun,cg an han,aJ.zero]
theorem AI (dn sn an kn:Nat):af ⟨20,(dn:Nat),(sn:Nat),0,0,(an:Nat),(kn:Nat),0⟩=bt (bM 20) [dE dn,Lib.decDigits an,dE sn,Lib.decDigits kn]:=by
 simp[af,dh,aE,aY,bf,aD,bt,dE]
theorem mE (dn sn an kn:Nat):ah (af ⟨20,(dn:Nat),(sn:Nat),0,0,(an:Nat),(kn:Nat),0⟩)=bM 20 :: [dE dn,Lib.decDigits an,dE sn,Lib.decDigits kn]:=by
 rw[AI]
 exact aT _ _ (by unfold Bf;decide) (by simp[dm,dC])
theorem vx (dn sn an kn:Nat)(hdn:dn<9223372036854775808)(hsn:sn<9223372036854775808)(han:an<9223372036854775808)(hkn:kn<9223372036854775808)(k1:kn<4294967296):az (af ⟨20,(dn:Nat),(sn:Nat),0,0,(an:Nat),(kn:Nat),0⟩)=⟨20,(dn:Nat),(sn:Nat),0,0,(an:Nat),(kn:Nat),0⟩:=by
 unfold az
 rw[aH _ (by rw[mE];simp),mE]
 have e:nr (bM 20)=20:=by decide
 simp[bY,e,dh,cb,dg,cJ,bZ,aN dn hdn,aN sn hsn,cg an han,cg kn hkn,aJ.zero]
 omega
theorem AG (sn:Nat):af ⟨23,0,(sn:Nat),0,0,0,0,0⟩=bt (bM 23) [dE sn]:=by
 simp[af,dh,aE,aY,bf,aD,bt,dE]
theorem mC (sn:Nat):ah (af ⟨23,0,(sn:Nat),0,0,0,0,0⟩)=bM 23 :: [dE sn]:=by
 rw[AG]
 exact aT _ _ (by unfold Bf;decide) (by simp[dm])
theorem vu (sn:Nat)(hsn:sn<9223372036854775808):az (af ⟨23,0,(sn:Nat),0,0,0,0,0⟩)=⟨23,0,(sn:Nat),0,0,0,0,0⟩:=by
 unfold az
 rw[aH _ (by rw[mC];simp),mC]
 have e:nr (bM 23)=23:=by decide
 simp[bY,e,dh,cb,dg,cJ,bZ,aN sn hsn,aJ.zero]
theorem sH (dn sn tn an pn:Nat):af ⟨21,(dn:Nat),(sn:Nat),(tn:Nat),0,(an:Nat),0,(pn:Nat)⟩=bt (bM 21) [dE dn,Lib.decDigits an,dE sn,[101,113],dE tn,[101,108,115,101],Lib.decDigits pn]:=by
 have e:¬ ((pn:Int)=-1):=by omega
 simp[af,dh,aE,aY,bf,aD,bt,dE,e]
theorem gg (dn sn tn an pn:Nat):ah (af ⟨21,(dn:Nat),(sn:Nat),(tn:Nat),0,(an:Nat),0,(pn:Nat)⟩)=bM 21 :: [dE dn,Lib.decDigits an,dE sn,[101,113],dE tn,[101,108,115,101],Lib.decDigits pn]:=by
 rw[sH dn sn tn an pn]
 refine aT _ _ (by unfold Bf;decide) ?_
 have b1:Bf [101,113]:=by unfold Bf;decide
 have b2:Bf [101,108,115,101]:=by unfold Bf;decide
 simp[dm,dC,b1,b2]
theorem oY (dn sn tn an pn:Nat)(hdn:dn<9223372036854775808)(hsn:sn<9223372036854775808)(htn:tn<9223372036854775808)(han:an<9223372036854775808)(hpn:pn<9223372036854775808):az (af ⟨21,(dn:Nat),(sn:Nat),(tn:Nat),0,(an:Nat),0,(pn:Nat)⟩)=⟨21,(dn:Nat),(sn:Nat),(tn:Nat),0,(an:Nat),0,(pn:Nat)⟩:=by
 unfold az
 rw[aH _ (by rw[gg dn sn tn an pn];simp),gg dn sn tn an pn]
 have e:nr (bM 21)=21:=by decide
 have v:jP [101,113]=0:=by decide
 simp[bY,e,dh,cb,dg,cJ,bZ,aN dn hdn,aN sn hsn,aN tn htn,cg an han,cg pn hpn,v,aJ.zero]
theorem sI (dn sn tn an pn:Nat):af ⟨21,(dn:Nat),(sn:Nat),(tn:Nat),0,(an:Nat),0,-1⟩=bt (bM 21) [dE dn,Lib.decDigits an,dE sn,[101,113],dE tn]:=by
 simp[af,dh,aE,aY,bf,aD,bt,dE]
theorem gh (dn sn tn an pn:Nat):ah (af ⟨21,(dn:Nat),(sn:Nat),(tn:Nat),0,(an:Nat),0,-1⟩)=bM 21 :: [dE dn,Lib.decDigits an,dE sn,[101,113],dE tn]:=by
 rw[sI dn sn tn an pn]
 refine aT _ _ (by unfold Bf;decide) ?_
 have b1:Bf [101,113]:=by unfold Bf;decide
 simp[dm,dC,b1]
theorem oZ (dn sn tn an pn:Nat)(hdn:dn<9223372036854775808)(hsn:sn<9223372036854775808)(htn:tn<9223372036854775808)(han:an<9223372036854775808)(hpn:pn<9223372036854775808):az (af ⟨21,(dn:Nat),(sn:Nat),(tn:Nat),0,(an:Nat),0,-1⟩)=⟨21,(dn:Nat),(sn:Nat),(tn:Nat),0,(an:Nat),0,-1⟩:=by
 unfold az
 rw[aH _ (by rw[gh dn sn tn an pn];simp),gh dn sn tn an pn]
 have e:nr (bM 21)=21:=by decide
 have v:jP [101,113]=0:=by decide
 simp[bY,e,dh,cb,dg,cJ,bZ,aN dn hdn,aN sn hsn,aN tn htn,cg an han,v,aJ.zero]
theorem sF (dn sn tn an pn:Nat):af ⟨21,(dn:Nat),(sn:Nat),(tn:Nat),0,(an:Nat),1,(pn:Nat)⟩=bt (bM 21) [dE dn,Lib.decDigits an,dE sn,[110,101],dE tn,[101,108,115,101],Lib.decDigits pn]:=by
 have e:¬ ((pn:Int)=-1):=by omega
 simp[af,dh,aE,aY,bf,aD,bt,dE,e]
theorem gc (dn sn tn an pn:Nat):ah (af ⟨21,(dn:Nat),(sn:Nat),(tn:Nat),0,(an:Nat),1,(pn:Nat)⟩)=bM 21 :: [dE dn,Lib.decDigits an,dE sn,[110,101],dE tn,[101,108,115,101],Lib.decDigits pn]:=by
 rw[sF dn sn tn an pn]
 refine aT _ _ (by unfold Bf;decide) ?_
 have b1:Bf [110,101]:=by unfold Bf;decide
 have b2:Bf [101,108,115,101]:=by unfold Bf;decide
 simp[dm,dC,b1,b2]
theorem oW (dn sn tn an pn:Nat)(hdn:dn<9223372036854775808)(hsn:sn<9223372036854775808)(htn:tn<9223372036854775808)(han:an<9223372036854775808)(hpn:pn<9223372036854775808):az (af ⟨21,(dn:Nat),(sn:Nat),(tn:Nat),0,(an:Nat),1,(pn:Nat)⟩)=⟨21,(dn:Nat),(sn:Nat),(tn:Nat),0,(an:Nat),1,(pn:Nat)⟩:=by
 unfold az
 rw[aH _ (by rw[gc dn sn tn an pn];simp),gc dn sn tn an pn]
 have e:nr (bM 21)=21:=by decide
 have v:jP [110,101]=1:=by decide
 simp[bY,e,dh,cb,dg,cJ,bZ,aN dn hdn,aN sn hsn,aN tn htn,cg an han,cg pn hpn,v,aJ.zero]
theorem sG (dn sn tn an pn:Nat):af ⟨21,(dn:Nat),(sn:Nat),(tn:Nat),0,(an:Nat),1,-1⟩=bt (bM 21) [dE dn,Lib.decDigits an,dE sn,[110,101],dE tn]:=by
 simp[af,dh,aE,aY,bf,aD,bt,dE]
theorem gd (dn sn tn an pn:Nat):ah (af ⟨21,(dn:Nat),(sn:Nat),(tn:Nat),0,(an:Nat),1,-1⟩)=bM 21 :: [dE dn,Lib.decDigits an,dE sn,[110,101],dE tn]:=by
 rw[sG dn sn tn an pn]
 refine aT _ _ (by unfold Bf;decide) ?_
 have b1:Bf [110,101]:=by unfold Bf;decide
 simp[dm,dC,b1]
theorem oX (dn sn tn an pn:Nat)(hdn:dn<9223372036854775808)(hsn:sn<9223372036854775808)(htn:tn<9223372036854775808)(han:an<9223372036854775808)(hpn:pn<9223372036854775808):az (af ⟨21,(dn:Nat),(sn:Nat),(tn:Nat),0,(an:Nat),1,-1⟩)=⟨21,(dn:Nat),(sn:Nat),(tn:Nat),0,(an:Nat),1,-1⟩:=by
 unfold az
 rw[aH _ (by rw[gd dn sn tn an pn];simp),gd dn sn tn an pn]
 have e:nr (bM 21)=21:=by decide
 have v:jP [110,101]=1:=by decide
 simp[bY,e,dh,cb,dg,cJ,bZ,aN dn hdn,aN sn hsn,aN tn htn,cg an han,v,aJ.zero]
theorem qi (i:aJ)(h:au i 1073741824=O)(k0:0<=i.k)(k1:i.k<4294967296):az (af i)=i:=by
 obtain⟨hd,hs,ht,hu,ha⟩:=eA i _ h
 obtain⟨op,d,s,t,u,a,k,pl⟩:=i
 simp only at hd hs ht hu ha k0 k1
 rcases co op with rfl|rfl|rfl|rfl|rfl|rfl|rfl|rfl|rfl|rfl|rfl|rfl|rfl|rfl|rfl|rfl|rfl|rfl|rfl|rfl|rfl | hn
 ·skip
  have hr:=lL d s t u a k pl 1073741824 hd hs ht hu ha k0 k1
  rw[h] at hr
  simp[dj] at hr
  obtain⟨dn,rfl⟩:∃ n:Nat,d=n:=⟨d.toNat,by omega⟩
  obtain⟨sn,rfl⟩:∃ n:Nat,s=n:=⟨s.toNat,by omega⟩
  obtain⟨tn,rfl⟩:∃ n:Nat,t=n:=⟨t.toNat,by omega⟩
  obtain⟨un,rfl⟩:∃ n:Nat,u=n:=⟨u.toNat,by omega⟩
  obtain⟨an,rfl⟩:∃ n:Nat,a=n:=⟨a.toNat,by omega⟩
  obtain⟨kn,rfl⟩:∃ n:Nat,k=n:=⟨k.toNat,by omega⟩
  obtain rfl:sn=0:=by omega
  obtain rfl:tn=0:=by omega
  obtain rfl:un=0:=by omega
  obtain rfl:an=0:=by omega
  obtain rfl:pl=0:=by omega
  exact yi dn kn (by omega) (by omega) (by omega)
 ·skip
  have hr:=lK d s t u a k pl 1073741824 hd hs ht hu ha k0 k1
  rw[h] at hr
  simp[dj] at hr
  obtain⟨dn,rfl⟩:∃ n:Nat,d=n:=⟨d.toNat,by omega⟩
  obtain⟨sn,rfl⟩:∃ n:Nat,s=n:=⟨s.toNat,by omega⟩
  obtain⟨tn,rfl⟩:∃ n:Nat,t=n:=⟨t.toNat,by omega⟩
  obtain⟨un,rfl⟩:∃ n:Nat,u=n:=⟨u.toNat,by omega⟩
  obtain⟨an,rfl⟩:∃ n:Nat,a=n:=⟨a.toNat,by omega⟩
  obtain⟨kn,rfl⟩:∃ n:Nat,k=n:=⟨k.toNat,by omega⟩
  obtain rfl:tn=0:=by omega
  obtain rfl:un=0:=by omega
  obtain rfl:an=0:=by omega
  obtain rfl:kn=0:=by omega
  obtain rfl:pl=0:=by omega
  exact yh dn sn (by omega) (by omega)
 ·skip
  have hr:=lJ d s t u a k pl 1073741824 hd hs ht hu ha k0 k1
  rw[h] at hr
  simp[dj] at hr
  obtain⟨dn,rfl⟩:∃ n:Nat,d=n:=⟨d.toNat,by omega⟩
  obtain⟨sn,rfl⟩:∃ n:Nat,s=n:=⟨s.toNat,by omega⟩
  obtain⟨tn,rfl⟩:∃ n:Nat,t=n:=⟨t.toNat,by omega⟩
  obtain⟨un,rfl⟩:∃ n:Nat,u=n:=⟨u.toNat,by omega⟩
  obtain⟨an,rfl⟩:∃ n:Nat,a=n:=⟨a.toNat,by omega⟩
  obtain⟨kn,rfl⟩:∃ n:Nat,k=n:=⟨k.toNat,by omega⟩
  obtain rfl:tn=0:=by omega
  obtain rfl:un=0:=by omega
  obtain rfl:an=0:=by omega
  obtain rfl:pl=0:=by omega
  exact yg dn sn kn (by omega) (by omega) (by omega) (by omega)
 ·skip
  have hr:=lI d s t u a k pl 1073741824 hd hs ht hu ha k0 k1
  rw[h] at hr
  simp[dj] at hr
  obtain⟨dn,rfl⟩:∃ n:Nat,d=n:=⟨d.toNat,by omega⟩
  obtain⟨sn,rfl⟩:∃ n:Nat,s=n:=⟨s.toNat,by omega⟩
  obtain⟨tn,rfl⟩:∃ n:Nat,t=n:=⟨t.toNat,by omega⟩
  obtain⟨un,rfl⟩:∃ n:Nat,u=n:=⟨u.toNat,by omega⟩
  obtain⟨an,rfl⟩:∃ n:Nat,a=n:=⟨a.toNat,by omega⟩
  obtain⟨kn,rfl⟩:∃ n:Nat,k=n:=⟨k.toNat,by omega⟩
  obtain rfl:tn=0:=by omega
  obtain rfl:un=0:=by omega
  obtain rfl:an=0:=by omega
  obtain rfl:pl=0:=by omega
  exact ye dn sn kn (by omega) (by omega) (by omega) (by omega)
 ·skip
  have hr:=jH d s t u a k pl 1073741824 hd hs ht hu ha k0 k1
  rw[h] at hr
  simp[dj] at hr
  obtain⟨dn,rfl⟩:∃ n:Nat,d=n:=⟨d.toNat,by omega⟩
  obtain⟨sn,rfl⟩:∃ n:Nat,s=n:=⟨s.toNat,by omega⟩
  obtain⟨tn,rfl⟩:∃ n:Nat,t=n:=⟨t.toNat,by omega⟩
  obtain⟨un,rfl⟩:∃ n:Nat,u=n:=⟨u.toNat,by omega⟩
  obtain⟨an,rfl⟩:∃ n:Nat,a=n:=⟨a.toNat,by omega⟩
  obtain⟨kn,rfl⟩:∃ n:Nat,k=n:=⟨k.toNat,by omega⟩
  obtain rfl:tn=0:=by omega
  obtain rfl:un=0:=by omega
  obtain rfl:an=0:=by omega
  obtain rfl:pl=0:=by omega
  exact yc dn sn kn (by omega) (by omega) (by omega) (by omega)
 ·skip
  have hr:=jG d s t u a k pl 1073741824 hd hs ht hu ha k0 k1
  rw[h] at hr
  simp[dj] at hr
  obtain⟨dn,rfl⟩:∃ n:Nat,d=n:=⟨d.toNat,by omega⟩
  obtain⟨sn,rfl⟩:∃ n:Nat,s=n:=⟨s.toNat,by omega⟩
  obtain⟨tn,rfl⟩:∃ n:Nat,t=n:=⟨t.toNat,by omega⟩
  obtain⟨un,rfl⟩:∃ n:Nat,u=n:=⟨u.toNat,by omega⟩
  obtain⟨an,rfl⟩:∃ n:Nat,a=n:=⟨a.toNat,by omega⟩
  obtain⟨kn,rfl⟩:∃ n:Nat,k=n:=⟨k.toNat,by omega⟩
  obtain rfl:tn=0:=by omega
  obtain rfl:un=0:=by omega
  obtain rfl:an=0:=by omega
  obtain rfl:pl=0:=by omega
  exact xZ dn sn kn (by omega) (by omega) (by omega) (by omega)
 ·skip
  have hr:=lH d s t u a k pl 1073741824 hd hs ht hu ha k0 k1
  rw[h] at hr
  simp[dj] at hr
  obtain⟨dn,rfl⟩:∃ n:Nat,d=n:=⟨d.toNat,by omega⟩
  obtain⟨sn,rfl⟩:∃ n:Nat,s=n:=⟨s.toNat,by omega⟩
  obtain⟨tn,rfl⟩:∃ n:Nat,t=n:=⟨t.toNat,by omega⟩
  obtain⟨un,rfl⟩:∃ n:Nat,u=n:=⟨u.toNat,by omega⟩
  obtain⟨an,rfl⟩:∃ n:Nat,a=n:=⟨a.toNat,by omega⟩
  obtain⟨kn,rfl⟩:∃ n:Nat,k=n:=⟨k.toNat,by omega⟩
  obtain rfl:un=0:=by omega
  obtain rfl:an=0:=by omega
  obtain rfl:kn=0:=by omega
  obtain rfl:pl=0:=by omega
  exact xY dn sn tn (by omega) (by omega) (by omega)
 ·skip
  have hr:=lG d s t u a k pl 1073741824 hd hs ht hu ha k0 k1
  rw[h] at hr
  simp[dj] at hr
  obtain⟨dn,rfl⟩:∃ n:Nat,d=n:=⟨d.toNat,by omega⟩
  obtain⟨sn,rfl⟩:∃ n:Nat,s=n:=⟨s.toNat,by omega⟩
  obtain⟨tn,rfl⟩:∃ n:Nat,t=n:=⟨t.toNat,by omega⟩
  obtain⟨un,rfl⟩:∃ n:Nat,u=n:=⟨u.toNat,by omega⟩
  obtain⟨an,rfl⟩:∃ n:Nat,a=n:=⟨a.toNat,by omega⟩
  obtain⟨kn,rfl⟩:∃ n:Nat,k=n:=⟨k.toNat,by omega⟩
  obtain rfl:dn=0:=by omega
  obtain rfl:un=0:=by omega
  obtain rfl:an=0:=by omega
  obtain rfl:kn=0:=by omega
  obtain⟨pn,rfl⟩:∃ n:Nat,pl=n:=⟨pl.toNat,by omega⟩
  exact xX sn tn pn (by omega) (by omega) (by omega)
 ·skip
  have hr:=lF d s t u a k pl 1073741824 hd hs ht hu ha k0 k1
  rw[h] at hr
  simp[dj] at hr
  obtain⟨dn,rfl⟩:∃ n:Nat,d=n:=⟨d.toNat,by omega⟩
  obtain⟨sn,rfl⟩:∃ n:Nat,s=n:=⟨s.toNat,by omega⟩
  obtain⟨tn,rfl⟩:∃ n:Nat,t=n:=⟨t.toNat,by omega⟩
  obtain⟨un,rfl⟩:∃ n:Nat,u=n:=⟨u.toNat,by omega⟩
  obtain⟨an,rfl⟩:∃ n:Nat,a=n:=⟨a.toNat,by omega⟩
  obtain⟨kn,rfl⟩:∃ n:Nat,k=n:=⟨k.toNat,by omega⟩
  obtain rfl:dn=0:=by omega
  obtain rfl:un=0:=by omega
  obtain rfl:an=0:=by omega
  obtain rfl:kn=0:=by omega
  obtain⟨pn,rfl⟩:∃ n:Nat,pl=n:=⟨pl.toNat,by omega⟩
  exact xW sn tn pn (by omega) (by omega) (by omega)
 ·skip
  have hr:=jz d s t u a k pl 1073741824 hd hs ht hu ha k0 k1
  rw[h] at hr
  simp[dj] at hr
  obtain⟨dn,rfl⟩:∃ n:Nat,d=n:=⟨d.toNat,by omega⟩
  obtain⟨sn,rfl⟩:∃ n:Nat,s=n:=⟨s.toNat,by omega⟩
  obtain⟨tn,rfl⟩:∃ n:Nat,t=n:=⟨t.toNat,by omega⟩
  obtain⟨un,rfl⟩:∃ n:Nat,u=n:=⟨u.toNat,by omega⟩
  obtain⟨an,rfl⟩:∃ n:Nat,a=n:=⟨a.toNat,by omega⟩
  obtain⟨kn,rfl⟩:∃ n:Nat,k=n:=⟨k.toNat,by omega⟩
  obtain rfl:dn=0:=by omega
  obtain rfl:sn=0:=by omega
  obtain rfl:tn=0:=by omega
  obtain rfl:un=0:=by omega
  obtain rfl:an=0:=by omega
  obtain rfl:kn=0:=by omega
  obtain⟨pn,rfl⟩:∃ n:Nat,pl=n:=⟨pl.toNat,by omega⟩
  exact vF pn (by omega)
 ·skip
  have hr:=jy d s t u a k pl 1073741824 hd hs ht hu ha k0 k1
  rw[h] at hr
  simp[dj] at hr
  obtain⟨dn,rfl⟩:∃ n:Nat,d=n:=⟨d.toNat,by omega⟩
  obtain⟨sn,rfl⟩:∃ n:Nat,s=n:=⟨s.toNat,by omega⟩
  obtain⟨tn,rfl⟩:∃ n:Nat,t=n:=⟨t.toNat,by omega⟩
  obtain⟨un,rfl⟩:∃ n:Nat,u=n:=⟨u.toNat,by omega⟩
  obtain⟨an,rfl⟩:∃ n:Nat,a=n:=⟨a.toNat,by omega⟩
  obtain⟨kn,rfl⟩:∃ n:Nat,k=n:=⟨k.toNat,by omega⟩
  obtain rfl:sn=0:=by omega
  obtain rfl:tn=0:=by omega
  obtain rfl:un=0:=by omega
  obtain rfl:an=0:=by omega
  obtain rfl:kn=0:=by omega
  obtain rfl:pl=0:=by omega
  exact vE dn (by omega)
 ·skip
  have hr:=iu d s t u a k pl 1073741824 hd hs ht hu ha k0 k1
  rw[h] at hr
  simp[dj] at hr
  obtain⟨dn,rfl⟩:∃ n:Nat,d=n:=⟨d.toNat,by omega⟩
  obtain⟨sn,rfl⟩:∃ n:Nat,s=n:=⟨s.toNat,by omega⟩
  obtain⟨tn,rfl⟩:∃ n:Nat,t=n:=⟨t.toNat,by omega⟩
  obtain⟨un,rfl⟩:∃ n:Nat,u=n:=⟨u.toNat,by omega⟩
  obtain⟨an,rfl⟩:∃ n:Nat,a=n:=⟨a.toNat,by omega⟩
  obtain⟨kn,rfl⟩:∃ n:Nat,k=n:=⟨k.toNat,by omega⟩
  obtain rfl:dn=0:=by omega
  obtain rfl:sn=0:=by omega
  obtain rfl:tn=0:=by omega
  obtain rfl:un=0:=by omega
  obtain rfl:an=0:=by omega
  obtain rfl:pl=0:=by omega
  exact vD kn (by omega) (by omega)
 ·skip
  have hr:=ir d s t u a k pl 1073741824 hd hs ht hu ha k0 k1
  rw[h] at hr
  simp[dj] at hr
  obtain⟨dn,rfl⟩:∃ n:Nat,d=n:=⟨d.toNat,by omega⟩
  obtain⟨sn,rfl⟩:∃ n:Nat,s=n:=⟨s.toNat,by omega⟩
  obtain⟨tn,rfl⟩:∃ n:Nat,t=n:=⟨t.toNat,by omega⟩
  obtain⟨un,rfl⟩:∃ n:Nat,u=n:=⟨u.toNat,by omega⟩
  obtain⟨an,rfl⟩:∃ n:Nat,a=n:=⟨a.toNat,by omega⟩
  obtain⟨kn,rfl⟩:∃ n:Nat,k=n:=⟨k.toNat,by omega⟩
  obtain rfl:dn=0:=by omega
  obtain rfl:sn=0:=by omega
  obtain rfl:tn=0:=by omega
  obtain rfl:un=0:=by omega
  obtain rfl:an=0:=by omega
  obtain rfl:pl=0:=by omega
  exact vC kn (by omega) (by omega)
 ·skip
  have hr:=jx d s t u a k pl 1073741824 hd hs ht hu ha k0 k1
  rw[h] at hr
  simp[dj] at hr
  obtain⟨dn,rfl⟩:∃ n:Nat,d=n:=⟨d.toNat,by omega⟩
  obtain⟨sn,rfl⟩:∃ n:Nat,s=n:=⟨s.toNat,by omega⟩
  obtain⟨tn,rfl⟩:∃ n:Nat,t=n:=⟨t.toNat,by omega⟩
  obtain⟨un,rfl⟩:∃ n:Nat,u=n:=⟨u.toNat,by omega⟩
  obtain⟨an,rfl⟩:∃ n:Nat,a=n:=⟨a.toNat,by omega⟩
  obtain⟨kn,rfl⟩:∃ n:Nat,k=n:=⟨k.toNat,by omega⟩
  obtain rfl:tn=0:=by omega
  obtain rfl:un=0:=by omega
  obtain rfl:kn=0:=by omega
  obtain rfl:pl=0:=by omega
  exact vB dn sn an (by omega) (by omega) (by omega)
 ·skip
  have hr:=jw d s t u a k pl 1073741824 hd hs ht hu ha k0 k1
  rw[h] at hr
  simp[dj] at hr
  obtain⟨dn,rfl⟩:∃ n:Nat,d=n:=⟨d.toNat,by omega⟩
  obtain⟨sn,rfl⟩:∃ n:Nat,s=n:=⟨s.toNat,by omega⟩
  obtain⟨tn,rfl⟩:∃ n:Nat,t=n:=⟨t.toNat,by omega⟩
  obtain⟨un,rfl⟩:∃ n:Nat,u=n:=⟨u.toNat,by omega⟩
  obtain⟨an,rfl⟩:∃ n:Nat,a=n:=⟨a.toNat,by omega⟩
  obtain⟨kn,rfl⟩:∃ n:Nat,k=n:=⟨k.toNat,by omega⟩
  obtain rfl:dn=0:=by omega
  obtain rfl:un=0:=by omega
  obtain rfl:kn=0:=by omega
  obtain rfl:pl=0:=by omega
  exact vA sn tn an (by omega) (by omega) (by omega)
 ·skip
  have hr:=ju d s t u a k pl 1073741824 hd hs ht hu ha k0 k1
  rw[h] at hr
  simp[dj] at hr
  obtain⟨dn,rfl⟩:∃ n:Nat,d=n:=⟨d.toNat,by omega⟩
  obtain⟨sn,rfl⟩:∃ n:Nat,s=n:=⟨s.toNat,by omega⟩
  obtain⟨tn,rfl⟩:∃ n:Nat,t=n:=⟨t.toNat,by omega⟩
  obtain⟨un,rfl⟩:∃ n:Nat,u=n:=⟨u.toNat,by omega⟩
  obtain⟨an,rfl⟩:∃ n:Nat,a=n:=⟨a.toNat,by omega⟩
  obtain⟨kn,rfl⟩:∃ n:Nat,k=n:=⟨k.toNat,by omega⟩
  obtain rfl:un=0:=by omega
  obtain rfl:kn=0:=by omega
  obtain rfl:pl=0:=by omega
  exact vz dn sn tn an (by omega) (by omega) (by omega) (by omega)
 ·skip
  have hr:=js d s t u a k pl 1073741824 hd hs ht hu ha k0 k1
  rw[h] at hr
  simp[dj] at hr
  obtain⟨dn,rfl⟩:∃ n:Nat,d=n:=⟨d.toNat,by omega⟩
  obtain⟨sn,rfl⟩:∃ n:Nat,s=n:=⟨s.toNat,by omega⟩
  obtain⟨tn,rfl⟩:∃ n:Nat,t=n:=⟨t.toNat,by omega⟩
  obtain⟨un,rfl⟩:∃ n:Nat,u=n:=⟨u.toNat,by omega⟩
  obtain⟨an,rfl⟩:∃ n:Nat,a=n:=⟨a.toNat,by omega⟩
  obtain⟨kn,rfl⟩:∃ n:Nat,k=n:=⟨k.toNat,by omega⟩
  obtain rfl:kn=0:=by omega
  obtain rfl:pl=0:=by omega
  exact vy dn sn tn un an (by omega) (by omega) (by omega) (by omega) (by omega)
 ·skip
  have hr:=jq d s t u a k pl 1073741824 hd hs ht hu ha k0 k1
  rw[h] at hr
  simp[dj] at hr
  obtain⟨dn,rfl⟩:∃ n:Nat,d=n:=⟨d.toNat,by omega⟩
  obtain⟨sn,rfl⟩:∃ n:Nat,s=n:=⟨s.toNat,by omega⟩
  obtain⟨tn,rfl⟩:∃ n:Nat,t=n:=⟨t.toNat,by omega⟩
  obtain⟨un,rfl⟩:∃ n:Nat,u=n:=⟨u.toNat,by omega⟩
  obtain⟨an,rfl⟩:∃ n:Nat,a=n:=⟨a.toNat,by omega⟩
  obtain⟨kn,rfl⟩:∃ n:Nat,k=n:=⟨k.toNat,by omega⟩
  obtain rfl:tn=0:=by omega
  obtain rfl:un=0:=by omega
  obtain rfl:pl=0:=by omega
  exact vx dn sn an kn (by omega) (by omega) (by omega) (by omega) (by omega)
 ·skip
  have hr:=gN d s t u a k pl 1073741824 hd hs ht hu ha k0 k1
  rw[h] at hr
  simp[dj] at hr
  obtain⟨dn,rfl⟩:∃ n:Nat,d=n:=⟨d.toNat,by omega⟩
  obtain⟨sn,rfl⟩:∃ n:Nat,s=n:=⟨s.toNat,by omega⟩
  obtain⟨tn,rfl⟩:∃ n:Nat,t=n:=⟨t.toNat,by omega⟩
  obtain⟨un,rfl⟩:∃ n:Nat,u=n:=⟨u.toNat,by omega⟩
  obtain⟨an,rfl⟩:∃ n:Nat,a=n:=⟨a.toNat,by omega⟩
  obtain⟨kn,rfl⟩:∃ n:Nat,k=n:=⟨k.toNat,by omega⟩
  obtain rfl:un=0:=by omega
  by_cases hm:pl=-1
  ·subst hm
   by_cases hk:kn=0
   ·subst hk;exact oZ dn sn tn an 0 (by omega) (by omega) (by omega) (by omega) (by omega)
   ·obtain rfl:kn=1:=by omega
    exact oX dn sn tn an 0 (by omega) (by omega) (by omega) (by omega) (by omega)
  ·obtain⟨pn,rfl⟩:∃ n:Nat,pl=n:=⟨pl.toNat,by omega⟩
   by_cases hk:kn=0
   ·subst hk;exact oY dn sn tn an pn (by omega) (by omega) (by omega) (by omega) (by omega)
   ·obtain rfl:kn=1:=by omega
    exact oW dn sn tn an pn (by omega) (by omega) (by omega) (by omega) (by omega)
 ·skip
  have hr:=jp d s t u a k pl 1073741824 hd hs ht hu ha k0 k1
  rw[h] at hr
  simp[dj] at hr
  obtain⟨dn,rfl⟩:∃ n:Nat,d=n:=⟨d.toNat,by omega⟩
  obtain⟨sn,rfl⟩:∃ n:Nat,s=n:=⟨s.toNat,by omega⟩
  obtain⟨tn,rfl⟩:∃ n:Nat,t=n:=⟨t.toNat,by omega⟩
  obtain⟨un,rfl⟩:∃ n:Nat,u=n:=⟨u.toNat,by omega⟩
  obtain⟨an,rfl⟩:∃ n:Nat,a=n:=⟨a.toNat,by omega⟩
  obtain⟨kn,rfl⟩:∃ n:Nat,k=n:=⟨k.toNat,by omega⟩
  obtain rfl:sn=0:=by omega
  obtain rfl:tn=0:=by omega
  obtain rfl:un=0:=by omega
  obtain rfl:an=0:=by omega
  obtain rfl:kn=0:=by omega
  obtain rfl:pl=0:=by omega
  exact vw dn (by omega)
 ·skip
  have hr:=jn d s t u a k pl 1073741824 hd hs ht hu ha k0 k1
  rw[h] at hr
  simp[dj] at hr
  obtain⟨dn,rfl⟩:∃ n:Nat,d=n:=⟨d.toNat,by omega⟩
  obtain⟨sn,rfl⟩:∃ n:Nat,s=n:=⟨s.toNat,by omega⟩
  obtain⟨tn,rfl⟩:∃ n:Nat,t=n:=⟨t.toNat,by omega⟩
  obtain⟨un,rfl⟩:∃ n:Nat,u=n:=⟨u.toNat,by omega⟩
  obtain⟨an,rfl⟩:∃ n:Nat,a=n:=⟨a.toNat,by omega⟩
  obtain⟨kn,rfl⟩:∃ n:Nat,k=n:=⟨k.toNat,by omega⟩
  obtain rfl:dn=0:=by omega
  obtain rfl:tn=0:=by omega
  obtain rfl:un=0:=by omega
  obtain rfl:an=0:=by omega
  obtain rfl:kn=0:=by omega
  obtain rfl:pl=0:=by omega
  exact vu sn (by omega)
 ·exfalso
  unfold au at h
  simp only[(dw hn).1] at h
  cases h
theorem ss (i:aJ)(h:au i 1073741824=O)(k0:0<=i.k)(k1:i.k<4294967296):i5 (af i)=O/\az (af i)=i:=by
 have e:=qi i h k0 k1
 refine⟨?_,e⟩
 unfold i5
 rw[e,h]
 simp
end
section
open Go.ChangeShapes Go.WideShapes Go.ChangeAt Go.RowKit
def iO (s:List UInt8):Int:=
 if s.length=2/\(s.getD 0 0).toNat=114/\48<=(s.getD 1 0).toNat/\(s.getD 1 0).toNat<=55 then ((s.getD 1 0).toNat:Int)-48 else -1
theorem uK (s:List UInt8)(hl:s.length<100000)(w:World):
 Calls Tryz.prog 142 #[bs s] w fun e w'=>e=.returned (I .i64 (iO s))/\w=w':=by
 have E:iO s=if s.length=2/\(s.getD 0 0).toNat=114/\48<=(s.getD 1 0).toNat/\(s.getD 1 0).toNat<=55 then ((s.getD 1 0).toNat:Int)-48 else -1:=rfl
 generalize iO s=r at *
 unfold bs
 by_cases h2:s.length=2
 ·have i0:∀ w,(Instr.index 9 (.string ⟨s.toArray⟩) (I .i64 0)).run Tryz.prog w=.ok (I .u8 ((s.getD 0 0).toNat:Int)) w:=eE s 0 (by omega)
  have i1:∀ w,(Instr.index 9 (.string ⟨s.toArray⟩) (I .i64 1)).run Tryz.prog w=.ok (I .u8 ((s.getD 1 0).toNat:Int)) w:=eE s 1 (by omega)
  generalize (s.getD 0 0).toNat=x at *
  generalize (s.getD 1 0).toNat=y at *
  have dl:((s.length:Int) != 2)=Q:=by simp;omega
  by_cases h1:x=114
  ·subst h1
   by_cases h3:y<48
   ·have HE:=Z (E.trans (if_neg (by omega)))
    clear E h2
    have d:(y:Int)<48:=by omega
    have d0:((114:Nat):Int)=114:=rfl
    rw[d0] at i0
    clear d0
    go_enter Tryz.func142,Tryz.ntmps142
    go_wp2
    go_ret
    exact⟨br HE.out.symm,rfl⟩
   have d0:((114:Nat):Int)=114:=rfl
   rw[d0] at i0
   clear d0
   by_cases h4:55<y
   ·have HE:=Z (E.trans (if_neg (by omega)))
    clear E h2
    have d:decide ((y:Int)<48)=Q:=by simp;omega
    have d2:(y:Int) > 55:=by omega
    go_enter Tryz.func142,Tryz.ntmps142
    go_wp2
    go_ret
    exact⟨br HE.out.symm,rfl⟩
   ·have HE:=Z (E.trans (if_pos (by omega)))
    clear E h2
    have d:decide ((y:Int)<48)=Q:=by simp;omega
    have d2:decide ((y:Int) > 55)=Q:=by simp;omega
    have d3:48<=(y:Int):=by omega
    have d4:(y:Int)<=55:=by omega
    go_enter Tryz.func142,Tryz.ntmps142
    go_wp2
    go_ret
    exact⟨br HE.out.symm,rfl⟩
  ·have HE:=Z (E.trans (if_neg (by omega)))
   clear E h2
   have d:((x:Int) != 114)=O:=by simp;omega
   go_enter Tryz.func142,Tryz.ntmps142
   go_wp2
   go_ret
   exact⟨br HE.out.symm,rfl⟩
 ·have HE:=Z (E.trans (if_neg (by omega)))
  have d:((s.length:Int) != 2)=O:=by simp;omega
  clear E
  go_enter Tryz.func142,Tryz.ntmps142
  go_wp2
  go_ret
  exact⟨br HE.out.symm,rfl⟩
def dv (acc:Int):List UInt8->Option Int
 | []=>some acc
 | c :: r=>if 48<=c.toNat/\c.toNat<=57 then dv (acc*10+((c.toNat:Int)-48)) r else none
def pV:Option Int->Int
 | none=>-1
 | some n=>if 4294967295<n then -1 else n
def kQ (s:List UInt8):Int:=
 if s=[]\/10<s.length\/(1<s.length/\(s.getD 0 0).toNat=48) then -1 else pV (dv 0 s)
theorem oV (acc:Int)(s:List UInt8)(k:Nat)(h:k<s.length):
 dv acc (s.drop k)=if 48<=(s.getD k 0).toNat/\(s.getD k 0).toNat<=57 then dv (acc*10+(((s.getD k 0).toNat:Int)-48)) (s.drop (k+1)) else none:=by
 rw[List.drop_eq_getElem_cons h]
 simp[dv,h]
def wM:Nat->Int
 | 0=>1
 | n+1=>wM n*10
theorem Ad:∀ k,k<=10->1<=wM k/\wM k<=10000000000:=by
 intro k hk
 have:k=0\/k=1\/k=2\/k=3\/k=4\/k=5\/k=6\/k=7\/k=8\/k=9\/k=10:=by omega
 rcases this with rfl|rfl|rfl|rfl|rfl|rfl|rfl|rfl|rfl|rfl|rfl <;> decide
theorem Ap (s:List UInt8)(hl:s.length<100000)(w:World):
 Calls Tryz.prog 143 #[bs s] w fun e w'=>e=.returned (I .i64 (kQ s))/\w=w':=by
 have E:kQ s=if s=[]\/10<s.length\/(1<s.length/\(s.getD 0 0).toNat=48) then -1 else pV (dv 0 s):=rfl
 generalize kQ s=r at *
 by_cases h0:s=[]
 ·subst h0
  have HE:=Z (E.trans (if_pos (.inl rfl)))
  clear E
  unfold bs
  go_enter Tryz.func143,Tryz.ntmps143
  go_wp2
  go_ret
  exact⟨br HE.out.symm,rfl⟩
 have he:s.isEmpty=Q:=by simpa using h0
 have hpos:0<s.length:=List.length_pos_iff.2 h0
 by_cases h10:10<s.length
 ·have HE:=Z (E.trans (if_pos (.inr (.inl h10))))
  have d:(s.length:Int) > 10:=by omega
  clear E h0
  unfold bs
  go_enter Tryz.func143,Tryz.ntmps143
  go_wp2
  go_ret
  exact⟨br HE.out.symm,rfl⟩
 have d10:decide ((s.length:Int) > 10)=Q:=by simp;omega
 have i0:∀ w,(Instr.index 9 (.string ⟨s.toArray⟩) (I .i64 0)).run Tryz.prog w=.ok (I .u8 ((s.getD 0 0).toNat:Int)) w:=eE s 0 hpos
 by_cases h1:1<s.length/\(s.getD 0 0).toNat=48
 ·have HE:=Z (E.trans (if_pos (.inr (.inr h1))))
  obtain⟨h1,h48⟩:=h1
  rw[h48] at i0
  have d0:((48:Nat):Int)=48:=rfl
  rw[d0] at i0
  clear d0
  have d:(s.length:Int) > 1:=by omega
  clear E h0 h48
  unfold bs
  go_enter Tryz.func143,Tryz.ntmps143
  go_wp2
  go_ret
  exact⟨br HE.out.symm,rfl⟩
 have E2:r=pV (dv 0 s):=E.trans (if_neg (by
  rintro(h | h | h)
  ·exact h0 h
  ·exact h10 h
  ·exact h1 h))
 have HE:=Z E2
 clear E E2
 have HK:=Z (Ad)
 generalize (s.getD 0 0).toNat=c0 at *
 unfold bs
 have hgo:∀ (K:Prop),((decide ((s.length:Int) > 1)=Q->K)/\(decide ((s.length:Int) > 1)=O->((c0:Int)==48)=Q->K))->K:=by
  intro K hK
  by_cases h:s.length=1
  ·exact hK.1 (by simp;omega)
  ·have:c0≠48:=fun e=>h1 ⟨by omega,e⟩
   exact hK.2 (by simp;omega) (by simp;omega)
 refine hgo _ ⟨fun hd1=>?_,fun hd1 hd2=>?_⟩
 all_goals
  clear hgo h0 h1
  go_enter Tryz.func143,Tryz.ntmps143
  go_wp2
  go_loop [3,4] (fun n i=>∃ (k:Nat) (v:Int),k<=s.length/\i=I .i64 k/\n=I .i64 v/\0<=v/\v<wM k/\r=pV (dv v (s.drop k))) (fun _ i=>s.length-(intOf i).toNat)
  case atStart=>exact⟨0,0,Nat.zero_le _,rfl,rfl,by omega,by decide,HE.out⟩
  case round=>
   obtain⟨k,v,hk,rfl,rfl,v0,v1,hr⟩:=hrel
   obtain⟨q0,q1⟩:=HK.out k (by omega)
   by_cases hlt:k<s.length
   ·have ix:=eE s k hlt
    rw[oV v s k hlt] at hr
    have hrf:wM (k+1)=wM k*10:=rfl
    have hu:=(s.getD k 0).toNat_lt
    generalize (s.getD k 0).toNat=c at *
    have HR:=Z hr
    have HF:=Z hrf
    clear hr hrf
    by_cases c1:c<48
    ·rw[if_neg (by omega)] at HR
     have d1:(c:Int)<48:=by omega
     go_wp2
     go_ret
     exact⟨br HR.out.symm,rfl⟩
    by_cases c2:57<c
    ·rw[if_neg (by omega)] at HR
     have d1:decide ((c:Int)<48)=Q:=by simp;omega
     have d2:(c:Int) > 57:=by omega
     go_wp2
     go_ret
     exact⟨br HR.out.symm,rfl⟩
    ·rw[if_pos (by omega)] at HR
     have d1:decide ((c:Int)<48)=Q:=by simp;omega
     have d2:decide ((c:Int) > 57)=Q:=by simp;omega
     have d3:48<=(c:Int):=by omega
     have d4:(c:Int)<=57:=by omega
     have hv9:v<10000000000:=by omega
     have hk10:(k:Int)<=10:=by omega
     go_wp2
     go_round
     case rel=>exact⟨k+1,v*10+((c:Int)-48),by omega,by go_num,rfl,by omega,by rw[HF.out];omega,HR.out⟩
     case measure=>simp[intOf];omega
   ·obtain rfl:k=s.length:=by omega
    rw[List.drop_length] at hr
    have HR:=Z (show r=if 4294967295<v then -1 else v from hr)
    clear hr
    by_cases hv:4294967295<v
    ·rw[if_pos hv] at HR
     go_wp2
     go_ret
     exact⟨br HR.out.symm,rfl⟩
    ·rw[if_neg hv] at HR
     go_wp2
     go_ret
     exact⟨br HR.out.symm,rfl⟩
end
section
def eP (w:List UInt8):Nat->Int
 | 0=>0
 | n+1=>if (bM ((n:Int)+1)).isEmpty=Q/\bM ((n:Int)+1)=w then (n:Int)+1 else eP w n
def jV (w:List UInt8):Bool:=decide (0<=iO w) || (decide (0<=kQ w) || (decide (w=[110,101]) || (decide (w=[101,113]) || decide (w=[101,108,115,101]))))
def il (w:List UInt8):List Int:=if 0<=iO w then [iO w] else []
def im (w:List UInt8):List Int:=if 0<=iO w then [] else if 0<=kQ w then [kQ w] else []
def kR (w:List UInt8):Bool:=!decide (0<=iO w) && (!decide (0<=kQ w) && decide (w=[110,101]))
def bC (l:List (List UInt8)):List Int:=l.flatMap il
def bW (l:List (List UInt8)):List Int:=l.flatMap im
def lu (l:List (List UInt8)):Int:=if l.any kR=O then 1 else 0
def cz (n:Nat)(v:Int)(l:List Int):List Int:=l++List.replicate (n-l.length) v
def cY (op:Int)(rs ns:List Int)(k:Int):aJ:=
 if op=1\/op=3\/op=4\/op=5\/op=6 then ⟨op,aG rs 0,aG rs 1,aG rs 2,0,0,aG ns 0 % 4294967296,0⟩
 else if op=2\/op=7\/op=11\/op=22 then ⟨op,aG rs 0,aG rs 1,aG rs 2,0,0,k,0⟩
 else if op=8\/op=9\/op=10 then ⟨op,0,aG rs 0,aG rs 1,0,0,k,aG ns 0⟩
 else if op=12\/op=13 then ⟨op,0,0,0,0,0,aG ns 0 % 4294967296,0⟩
 else if op=16\/op=18\/op=19 then ⟨op,aG rs 0,aG rs 1,aG rs 2,aG rs 3,aG ns 0,k,0⟩
 else if op=20 then ⟨op,aG rs 0,aG rs 1,aG rs 2,aG rs 3,aG ns 0,aG ns 1 % 4294967296,0⟩
 else if op=21 then ⟨op,aG rs 0,aG rs 1,aG rs 2,aG rs 3,aG ns 0,k,aG ns 1⟩
 else if op=17 then ⟨op,0,aG rs 0,aG rs 1,0,aG ns 0,k,0⟩
 else if op=23 then ⟨op,0,aG rs 0,0,0,0,k,0⟩
 else ⟨op,0,0,0,0,0,k,0⟩
def aK (ws:List (List UInt8)):aJ:=cY (eP (ws.getD 0 []) 23) (cz 4 0 (bC ws.tail)) (cz 2 (-1) (bW ws.tail)) (lu ws.tail)
def jJ (s:List UInt8):Bool:=(ah s).tail.all jV && (au (aK (ah s)) 1073741824 && decide (af (aK (ah s))=s))
theorem kK:∀ (a b:List UInt8) (acc u:Int),dv acc a=some u->dv acc (a++b)=dv u b
 | [],b,acc,u,h=>by simp[dv] at h;subst h;rfl
 | c :: a,b,acc,u,h=>by
  simp only[dv,List.cons_append] at h ⊢
  split at h
  ·rename_i h1
   rw[if_pos h1]
   exact kK a b _ u h
  ·cases h
theorem ij:∀ (n:Nat),dv 0 (Lib.decDigits n)=some (n:Int):=by
 intro n
 induction n using Nat.strongRecOn with
 | _ n ih=>
  rw[Lib.decDigits]
  by_cases h:n<10
  ·rw[dif_pos h]
   have e:(UInt8.ofNat (48+n)).toNat=48+n:=by rw[UInt8.toNat_ofNat',Nat.mod_eq_of_lt (by omega)]
   simp only[dv,e]
   rw[if_pos (by omega)]
   congr 1
   omega
  ·rw[dif_neg h,kK _ _ _ _ (ih (n / 10) (by omega))]
   have e:(UInt8.ofNat (48+n % 10)).toNat=48+n % 10:=by rw[UInt8.toNat_ofNat',Nat.mod_eq_of_lt (by omega)]
   simp only[dv,e]
   rw[if_pos (by omega)]
   congr 1
   omega
theorem oE:∀ (m n:Nat),n<10 ^ (m+1)->(Lib.decDigits n).length<=m+1:=by
 intro m
 induction m with
 | zero=>intro n h;rw[Lib.decDigits,dif_pos (by simpa using h)];simp
 | succ m ih=>
  intro n h
  rw[Lib.decDigits]
  by_cases h9:n<10
  ·rw[dif_pos h9];simp
  ·rw[dif_neg h9]
   have h2:n / 10<10 ^ (m+1):=by
    rw[Nat.div_lt_iff_lt_mul (by decide)]
    rw[Nat.pow_succ] at h
    exact h
   have:=ih _ h2
   simp
   omega
theorem Av (n:Nat)(h:n<4294967296):kQ (Lib.decDigits n)=n:=by
 have hf:=ij n
 have hl:=oE 9 n (by
  have:(10:Nat) ^ (9+1)=10000000000:=by decide
  omega)
 obtain⟨c,r,e,h1,h2,h3⟩:=iz n
 have h10:1<(Lib.decDigits n).length->10<=n:=by
  intro hh
  by_cases hn:n<10
  ·rw[Lib.decDigits,dif_pos hn] at hh;simp at hh
  ·omega
 unfold kQ
 rw[if_neg,hf]
 ·show (if 4294967295<(n:Int) then -1 else (n:Int))=n
  rw[if_neg (by omega)]
 ·rintro(hh | hh | ⟨hh,hz⟩)
  ·rw[e] at hh;cases hh
  ·omega
  ·have:=h3 (h10 hh)
   rw[e] at hz
   simp at hz
   omega
theorem Af (n:Nat):iO (Lib.decDigits n)=-1:=by
 obtain⟨c,r,e,h1,h2,-⟩:=iz n
 unfold iO
 rw[if_neg]
 rintro⟨-,hh,-⟩
 rw[e] at hh
 simp at hh
 omega
theorem Ae (n:Nat)(h:n<=7):iO (dE n)=n:=by
 unfold dE
 rw[Lib.decDigits,dif_pos (by omega)]
 have e:(UInt8.ofNat (48+n)).toNat=48+n:=by rw[UInt8.toNat_ofNat',Nat.mod_eq_of_lt (by omega)]
 unfold iO
 rw[if_pos]
 ·simp only[List.getD_cons_succ,List.getD_cons_zero,e];omega
 ·refine⟨rfl,rfl,?_⟩
  simp only[List.getD_cons_succ,List.getD_cons_zero,e]
  omega
theorem bE (n:Nat)(h:n<=7):jV (dE n)=O/\il (dE n)=[(n:Int)]/\im (dE n)=[]/\kR (dE n)=Q:=by
 have e:=Ae n h
 unfold jV il im kR
 rw[e]
 have h0:(0:Int)<=(n:Int):=by omega
 simp[h0]
theorem dW (n:Nat)(h:n<4294967296):jV (Lib.decDigits n)=O/\il (Lib.decDigits n)=[]/\im (Lib.decDigits n)=[(n:Int)]/\kR (Lib.decDigits n)=Q:=by
 have e:=Av n h
 have e2:=Af n
 unfold jV il im kR
 rw[e,e2]
 have h0:(0:Int)<=(n:Int):=by omega
 simp[h0]
theorem Ep:jV [101,113]=O/\il [101,113]=[]/\im [101,113]=[]/\kR [101,113]=Q:=by decide
theorem Eo:jV [110,101]=O/\il [110,101]=[]/\im [110,101]=[]/\kR [110,101]=O:=by decide
theorem pQ:jV [101,108,115,101]=O/\il [101,108,115,101]=[]/\im [101,108,115,101]=[]/\kR [101,108,115,101]=Q:=by decide
theorem vO (dn kn:Nat)(hdn:dn<=7)(hkn:kn<4294967296):(ah (af ⟨1,(dn:Nat),0,0,0,0,(kn:Nat),0⟩)).tail.all jV=O/\aK (ah (af ⟨1,(dn:Nat),0,0,0,0,(kn:Nat),0⟩))=⟨1,(dn:Nat),0,0,0,0,(kn:Nat),0⟩:=by
 obtain⟨adn,bdn,cdn,ddn⟩:=bE dn hdn
 obtain⟨akn,bkn,ckn,dkn⟩:=dW kn hkn
 rw[pr]
 have e:eP (bM 1) 23=1:=by decide
 refine⟨by simp[adn,akn],?_⟩
 simp[aK,e,bC,bW,bdn,cdn,bkn,ckn,cz,cY,aG]
 omega
theorem vN (dn sn:Nat)(hdn:dn<=7)(hsn:sn<=7):(ah (af ⟨2,(dn:Nat),(sn:Nat),0,0,0,0,0⟩)).tail.all jV=O/\aK (ah (af ⟨2,(dn:Nat),(sn:Nat),0,0,0,0,0⟩))=⟨2,(dn:Nat),(sn:Nat),0,0,0,0,0⟩:=by
 obtain⟨adn,bdn,cdn,ddn⟩:=bE dn hdn
 obtain⟨asn,bsn,csn,dsn⟩:=bE sn hsn
 rw[pq]
 have e:eP (bM 2) 23=2:=by decide
 refine⟨by simp[adn,asn],?_⟩
 simp[aK,e,bC,lu,bdn,ddn,bsn,dsn,cz,cY,aG]
theorem vM (dn sn kn:Nat)(hdn:dn<=7)(hsn:sn<=7)(hkn:kn<4294967296):(ah (af ⟨3,(dn:Nat),(sn:Nat),0,0,0,(kn:Nat),0⟩)).tail.all jV=O/\aK (ah (af ⟨3,(dn:Nat),(sn:Nat),0,0,0,(kn:Nat),0⟩))=⟨3,(dn:Nat),(sn:Nat),0,0,0,(kn:Nat),0⟩:=by
 obtain⟨adn,bdn,cdn,ddn⟩:=bE dn hdn
 obtain⟨asn,bsn,csn,dsn⟩:=bE sn hsn
 obtain⟨akn,bkn,ckn,dkn⟩:=dW kn hkn
 rw[po]
 have e:eP (bM 3) 23=3:=by decide
 refine⟨by simp[adn,asn,akn],?_⟩
 simp[aK,e,bC,bW,bdn,cdn,bsn,csn,bkn,ckn,cz,cY,aG]
 omega
theorem vL (dn sn kn:Nat)(hdn:dn<=7)(hsn:sn<=7)(hkn:kn<4294967296):(ah (af ⟨4,(dn:Nat),(sn:Nat),0,0,0,(kn:Nat),0⟩)).tail.all jV=O/\aK (ah (af ⟨4,(dn:Nat),(sn:Nat),0,0,0,(kn:Nat),0⟩))=⟨4,(dn:Nat),(sn:Nat),0,0,0,(kn:Nat),0⟩:=by
 obtain⟨adn,bdn,cdn,ddn⟩:=bE dn hdn
 obtain⟨asn,bsn,csn,dsn⟩:=bE sn hsn
 obtain⟨akn,bkn,ckn,dkn⟩:=dW kn hkn
 rw[pm]
 have e:eP (bM 4) 23=4:=by decide
 refine⟨by simp[adn,asn,akn],?_⟩
 simp[aK,e,bC,bW,bdn,cdn,bsn,csn,bkn,ckn,cz,cY,aG]
 omega
theorem vK (dn sn kn:Nat)(hdn:dn<=7)(hsn:sn<=7)(hkn:kn<4294967296):(ah (af ⟨5,(dn:Nat),(sn:Nat),0,0,0,(kn:Nat),0⟩)).tail.all jV=O/\aK (ah (af ⟨5,(dn:Nat),(sn:Nat),0,0,0,(kn:Nat),0⟩))=⟨5,(dn:Nat),(sn:Nat),0,0,0,(kn:Nat),0⟩:=by
 obtain⟨adn,bdn,cdn,ddn⟩:=bE dn hdn
 obtain⟨asn,bsn,csn,dsn⟩:=bE sn hsn
 obtain⟨akn,bkn,ckn,dkn⟩:=dW kn hkn
 rw[pk]
 have e:eP (bM 5) 23=5:=by decide
 refine⟨by simp[adn,asn,akn],?_⟩
 simp[aK,e,bC,bW,bdn,cdn,bsn,csn,bkn,ckn,cz,cY,aG]
 omega
theorem vJ (dn sn kn:Nat)(hdn:dn<=7)(hsn:sn<=7)(hkn:kn<4294967296):(ah (af ⟨6,(dn:Nat),(sn:Nat),0,0,0,(kn:Nat),0⟩)).tail.all jV=O/\aK (ah (af ⟨6,(dn:Nat),(sn:Nat),0,0,0,(kn:Nat),0⟩))=⟨6,(dn:Nat),(sn:Nat),0,0,0,(kn:Nat),0⟩:=by
 obtain⟨adn,bdn,cdn,ddn⟩:=bE dn hdn
 obtain⟨asn,bsn,csn,dsn⟩:=bE sn hsn
 obtain⟨akn,bkn,ckn,dkn⟩:=dW kn hkn
 rw[pj]
 have e:eP (bM 6) 23=6:=by decide
 refine⟨by simp[adn,asn,akn],?_⟩
 simp[aK,e,bC,bW,bdn,cdn,bsn,csn,bkn,ckn,cz,cY,aG]
 omega
theorem vI (dn sn tn:Nat)(hdn:dn<=7)(hsn:sn<=7)(htn:tn<=7):(ah (af ⟨7,(dn:Nat),(sn:Nat),(tn:Nat),0,0,0,0⟩)).tail.all jV=O/\aK (ah (af ⟨7,(dn:Nat),(sn:Nat),(tn:Nat),0,0,0,0⟩))=⟨7,(dn:Nat),(sn:Nat),(tn:Nat),0,0,0,0⟩:=by
 obtain⟨adn,bdn,cdn,ddn⟩:=bE dn hdn
 obtain⟨asn,bsn,csn,dsn⟩:=bE sn hsn
 obtain⟨atn,btn,ctn,dtn⟩:=bE tn htn
 rw[pi]
 have e:eP (bM 7) 23=7:=by decide
 refine⟨by simp[adn,asn,atn],?_⟩
 simp[aK,e,bC,lu,bdn,ddn,bsn,dsn,btn,dtn,cz,cY,aG]
theorem vH (sn tn pn:Nat)(hsn:sn<=7)(htn:tn<=7)(hpn:pn<4294967296):(ah (af ⟨8,0,(sn:Nat),(tn:Nat),0,0,0,(pn:Nat)⟩)).tail.all jV=O/\aK (ah (af ⟨8,0,(sn:Nat),(tn:Nat),0,0,0,(pn:Nat)⟩))=⟨8,0,(sn:Nat),(tn:Nat),0,0,0,(pn:Nat)⟩:=by
 obtain⟨asn,bsn,csn,dsn⟩:=bE sn hsn
 obtain⟨atn,btn,ctn,dtn⟩:=bE tn htn
 obtain⟨apn,bpn,cpn,dpn⟩:=dW pn hpn
 rw[ph]
 have e:eP (bM 8) 23=8:=by decide
 refine⟨by simp[asn,atn,apn],?_⟩
 simp[aK,e,bC,bW,lu,bsn,csn,dsn,btn,ctn,dtn,bpn,cpn,dpn,cz,cY,aG]
theorem vG (sn tn pn:Nat)(hsn:sn<=7)(htn:tn<=7)(hpn:pn<4294967296):(ah (af ⟨9,0,(sn:Nat),(tn:Nat),0,0,0,(pn:Nat)⟩)).tail.all jV=O/\aK (ah (af ⟨9,0,(sn:Nat),(tn:Nat),0,0,0,(pn:Nat)⟩))=⟨9,0,(sn:Nat),(tn:Nat),0,0,0,(pn:Nat)⟩:=by
 obtain⟨asn,bsn,csn,dsn⟩:=bE sn hsn
 obtain⟨atn,btn,ctn,dtn⟩:=bE tn htn
 obtain⟨apn,bpn,cpn,dpn⟩:=dW pn hpn
 rw[pg]
 have e:eP (bM 9) 23=9:=by decide
 refine⟨by simp[asn,atn,apn],?_⟩
 simp[aK,e,bC,bW,lu,bsn,csn,dsn,btn,ctn,dtn,bpn,cpn,dpn,cz,cY,aG]
theorem sX (pn:Nat)(hpn:pn<4294967296):(ah (af ⟨10,0,0,0,0,0,0,(pn:Nat)⟩)).tail.all jV=O/\aK (ah (af ⟨10,0,0,0,0,0,0,(pn:Nat)⟩))=⟨10,0,0,0,0,0,0,(pn:Nat)⟩:=by
 obtain⟨apn,bpn,cpn,dpn⟩:=dW pn hpn
 rw[mM]
 have e:eP (bM 10) 23=10:=by decide
 refine⟨by simp[apn],?_⟩
 simp[aK,e,bC,bW,lu,bpn,cpn,dpn,cz,cY,aG]
theorem sW (dn:Nat)(hdn:dn<=7):(ah (af ⟨11,(dn:Nat),0,0,0,0,0,0⟩)).tail.all jV=O/\aK (ah (af ⟨11,(dn:Nat),0,0,0,0,0,0⟩))=⟨11,(dn:Nat),0,0,0,0,0,0⟩:=by
 obtain⟨adn,bdn,cdn,ddn⟩:=bE dn hdn
 rw[mL]
 have e:eP (bM 11) 23=11:=by decide
 refine⟨by simp[adn],?_⟩
 simp[aK,e,bC,lu,bdn,ddn,cz,cY,aG]
theorem sN (dn:Nat)(hdn:dn<=7):(ah (af ⟨22,(dn:Nat),0,0,0,0,0,0⟩)).tail.all jV=O/\aK (ah (af ⟨22,(dn:Nat),0,0,0,0,0,0⟩))=⟨22,(dn:Nat),0,0,0,0,0,0⟩:=by
 obtain⟨adn,bdn,cdn,ddn⟩:=bE dn hdn
 rw[mD]
 have e:eP (bM 22) 23=22:=by decide
 refine⟨by simp[adn],?_⟩
 simp[aK,e,bC,lu,bdn,ddn,cz,cY,aG]
theorem sV (kn:Nat)(hkn:kn<4294967296):(ah (af ⟨12,0,0,0,0,0,(kn:Nat),0⟩)).tail.all jV=O/\aK (ah (af ⟨12,0,0,0,0,0,(kn:Nat),0⟩))=⟨12,0,0,0,0,0,(kn:Nat),0⟩:=by
 obtain⟨akn,bkn,ckn,dkn⟩:=dW kn hkn
 rw[mK]
 have e:eP (bM 12) 23=12:=by decide
 refine⟨by simp[akn],?_⟩
 simp[aK,e,bW,ckn,cz,cY,aG]
 omega
theorem sU (kn:Nat)(hkn:kn<4294967296):(ah (af ⟨13,0,0,0,0,0,(kn:Nat),0⟩)).tail.all jV=O/\aK (ah (af ⟨13,0,0,0,0,0,(kn:Nat),0⟩))=⟨13,0,0,0,0,0,(kn:Nat),0⟩:=by
 obtain⟨akn,bkn,ckn,dkn⟩:=dW kn hkn
 rw[mJ]
 have e:eP (bM 13) 23=13:=by decide
 refine⟨by simp[akn],?_⟩
 simp[aK,e,bW,ckn,cz,cY,aG]
 omega
theorem sS (dn sn an:Nat)(hdn:dn<=7)(hsn:sn<=7)(han:an<4294967296):(ah (af ⟨16,(dn:Nat),(sn:Nat),0,0,(an:Nat),0,0⟩)).tail.all jV=O/\aK (ah (af ⟨16,(dn:Nat),(sn:Nat),0,0,(an:Nat),0,0⟩))=⟨16,(dn:Nat),(sn:Nat),0,0,(an:Nat),0,0⟩:=by
 obtain⟨adn,bdn,cdn,ddn⟩:=bE dn hdn
 obtain⟨asn,bsn,csn,dsn⟩:=bE sn hsn
 obtain⟨aan,ban,can,dan⟩:=dW an han
 rw[mI]
 have e:eP (bM 16) 23=16:=by decide
 refine⟨by simp[adn,asn,aan],?_⟩
 simp[aK,e,bC,bW,lu,bdn,cdn,ddn,bsn,csn,dsn,ban,can,dan,cz,cY,aG]
theorem sR (sn tn an:Nat)(hsn:sn<=7)(htn:tn<=7)(han:an<4294967296):(ah (af ⟨17,0,(sn:Nat),(tn:Nat),0,(an:Nat),0,0⟩)).tail.all jV=O/\aK (ah (af ⟨17,0,(sn:Nat),(tn:Nat),0,(an:Nat),0,0⟩))=⟨17,0,(sn:Nat),(tn:Nat),0,(an:Nat),0,0⟩:=by
 obtain⟨asn,bsn,csn,dsn⟩:=bE sn hsn
 obtain⟨atn,btn,ctn,dtn⟩:=bE tn htn
 obtain⟨aan,ban,can,dan⟩:=dW an han
 rw[mH]
 have e:eP (bM 17) 23=17:=by decide
 refine⟨by simp[asn,atn,aan],?_⟩
 simp[aK,e,bC,bW,lu,bsn,csn,dsn,btn,ctn,dtn,ban,can,dan,cz,cY,aG]
theorem sQ (dn sn tn an:Nat)(hdn:dn<=7)(hsn:sn<=7)(htn:tn<=7)(han:an<4294967296):(ah (af ⟨18,(dn:Nat),(sn:Nat),(tn:Nat),0,(an:Nat),0,0⟩)).tail.all jV=O/\aK (ah (af ⟨18,(dn:Nat),(sn:Nat),(tn:Nat),0,(an:Nat),0,0⟩))=⟨18,(dn:Nat),(sn:Nat),(tn:Nat),0,(an:Nat),0,0⟩:=by
 obtain⟨adn,bdn,cdn,ddn⟩:=bE dn hdn
 obtain⟨asn,bsn,csn,dsn⟩:=bE sn hsn
 obtain⟨atn,btn,ctn,dtn⟩:=bE tn htn
 obtain⟨aan,ban,can,dan⟩:=dW an han
 rw[mG]
 have e:eP (bM 18) 23=18:=by decide
 refine⟨by simp[adn,asn,atn,aan],?_⟩
 simp[aK,e,bC,bW,lu,bdn,cdn,ddn,bsn,csn,dsn,btn,ctn,dtn,ban,can,dan,cz,cY,aG]
theorem sP (dn sn tn un an:Nat)(hdn:dn<=7)(hsn:sn<=7)(htn:tn<=7)(hun:un<=7)(han:an<4294967296):(ah (af ⟨19,(dn:Nat),(sn:Nat),(tn:Nat),(un:Nat),(an:Nat),0,0⟩)).tail.all jV=O/\aK (ah (af ⟨19,(dn:Nat),(sn:Nat),(tn:Nat),(un:Nat),(an:Nat),0,0⟩))=⟨19,(dn:Nat),(sn:Nat),(tn:Nat),(un:Nat),(an:Nat),0,0⟩:=by
 obtain⟨adn,bdn,cdn,ddn⟩:=bE dn hdn
 obtain⟨asn,bsn,csn,dsn⟩:=bE sn hsn
 obtain⟨atn,btn,ctn,dtn⟩:=bE tn htn
 obtain⟨aun,bun,cun,dun⟩:=bE un hun
 obtain⟨aan,ban,can,dan⟩:=dW an han
 rw[mF]
 have e:eP (bM 19) 23=19:=by decide
 refine⟨by simp[adn,asn,atn,aun,aan],?_⟩
 simp[aK,e,bC,bW,lu,bdn,cdn,ddn,bsn,csn,dsn,btn,ctn,dtn,bun,cun,dun,ban,can,dan,cz,cY,aG]
theorem sO (dn sn an kn:Nat)(hdn:dn<=7)(hsn:sn<=7)(han:an<4294967296)(hkn:kn<4294967296):(ah (af ⟨20,(dn:Nat),(sn:Nat),0,0,(an:Nat),(kn:Nat),0⟩)).tail.all jV=O/\aK (ah (af ⟨20,(dn:Nat),(sn:Nat),0,0,(an:Nat),(kn:Nat),0⟩))=⟨20,(dn:Nat),(sn:Nat),0,0,(an:Nat),(kn:Nat),0⟩:=by
 obtain⟨adn,bdn,cdn,ddn⟩:=bE dn hdn
 obtain⟨asn,bsn,csn,dsn⟩:=bE sn hsn
 obtain⟨aan,ban,can,dan⟩:=dW an han
 obtain⟨akn,bkn,ckn,dkn⟩:=dW kn hkn
 rw[mE]
 have e:eP (bM 20) 23=20:=by decide
 refine⟨by simp[adn,asn,aan,akn],?_⟩
 simp[aK,e,bC,bW,bdn,cdn,bsn,csn,ban,can,bkn,ckn,cz,cY,aG]
 omega
theorem sM (sn:Nat)(hsn:sn<=7):(ah (af ⟨23,0,(sn:Nat),0,0,0,0,0⟩)).tail.all jV=O/\aK (ah (af ⟨23,0,(sn:Nat),0,0,0,0,0⟩))=⟨23,0,(sn:Nat),0,0,0,0,0⟩:=by
 obtain⟨asn,bsn,csn,dsn⟩:=bE sn hsn
 rw[mC]
 have e:eP (bM 23) 23=23:=by decide
 refine⟨by simp[asn],?_⟩
 simp[aK,e,bC,lu,bsn,dsn,cz,cY,aG]
theorem nz (dn sn tn an pn:Nat)(hdn:dn<=7)(hsn:sn<=7)(htn:tn<=7)(han:an<4294967296)(hpn:pn<4294967296):(ah (af ⟨21,(dn:Nat),(sn:Nat),(tn:Nat),0,(an:Nat),0,(pn:Nat)⟩)).tail.all jV=O/\aK (ah (af ⟨21,(dn:Nat),(sn:Nat),(tn:Nat),0,(an:Nat),0,(pn:Nat)⟩))=⟨21,(dn:Nat),(sn:Nat),(tn:Nat),0,(an:Nat),0,(pn:Nat)⟩:=by
 obtain⟨adn,bdn,cdn,ddn⟩:=bE dn hdn
 obtain⟨asn,bsn,csn,dsn⟩:=bE sn hsn
 obtain⟨atn,btn,ctn,dtn⟩:=bE tn htn
 obtain⟨aan,ban,can,dan⟩:=dW an han
 obtain⟨apn,bpn,cpn,dpn⟩:=dW pn hpn
 obtain⟨ae,be,ce,de⟩:=Ep
 obtain⟨al,bl,cl,dl⟩:=pQ
 rw[gg dn sn tn an pn]
 have e:eP (bM 21) 23=21:=by decide
 refine⟨by simp[adn,asn,atn,aan,ae,apn,al],?_⟩
 simp[aK,e,bC,bW,lu,bdn,cdn,ddn,bsn,csn,dsn,btn,ctn,dtn,ban,can,dan,be,ce,de,bpn,cpn,dpn,bl,cl,dl,cz,cY,aG]
theorem nA (dn sn tn an pn:Nat)(hdn:dn<=7)(hsn:sn<=7)(htn:tn<=7)(han:an<4294967296)(hpn:pn<4294967296):(ah (af ⟨21,(dn:Nat),(sn:Nat),(tn:Nat),0,(an:Nat),0,-1⟩)).tail.all jV=O/\aK (ah (af ⟨21,(dn:Nat),(sn:Nat),(tn:Nat),0,(an:Nat),0,-1⟩))=⟨21,(dn:Nat),(sn:Nat),(tn:Nat),0,(an:Nat),0,-1⟩:=by
 obtain⟨adn,bdn,cdn,ddn⟩:=bE dn hdn
 obtain⟨asn,bsn,csn,dsn⟩:=bE sn hsn
 obtain⟨atn,btn,ctn,dtn⟩:=bE tn htn
 obtain⟨aan,ban,can,dan⟩:=dW an han
 obtain⟨apn,bpn,cpn,dpn⟩:=dW pn hpn
 obtain⟨ae,be,ce,de⟩:=Ep
 obtain⟨al,bl,cl,dl⟩:=pQ
 rw[gh dn sn tn an pn]
 have e:eP (bM 21) 23=21:=by decide
 refine⟨by simp[adn,asn,atn,aan,ae],?_⟩
 simp[aK,e,bC,bW,lu,bdn,cdn,ddn,bsn,csn,dsn,btn,ctn,dtn,ban,can,dan,be,ce,de,cz,cY,aG]
theorem nw (dn sn tn an pn:Nat)(hdn:dn<=7)(hsn:sn<=7)(htn:tn<=7)(han:an<4294967296)(hpn:pn<4294967296):(ah (af ⟨21,(dn:Nat),(sn:Nat),(tn:Nat),0,(an:Nat),1,(pn:Nat)⟩)).tail.all jV=O/\aK (ah (af ⟨21,(dn:Nat),(sn:Nat),(tn:Nat),0,(an:Nat),1,(pn:Nat)⟩))=⟨21,(dn:Nat),(sn:Nat),(tn:Nat),0,(an:Nat),1,(pn:Nat)⟩:=by
 obtain⟨adn,bdn,cdn,ddn⟩:=bE dn hdn
 obtain⟨asn,bsn,csn,dsn⟩:=bE sn hsn
 obtain⟨atn,btn,ctn,dtn⟩:=bE tn htn
 obtain⟨aan,ban,can,dan⟩:=dW an han
 obtain⟨apn,bpn,cpn,dpn⟩:=dW pn hpn
 obtain⟨ae,be,ce,de⟩:=Eo
 obtain⟨al,bl,cl,dl⟩:=pQ
 rw[gc dn sn tn an pn]
 have e:eP (bM 21) 23=21:=by decide
 refine⟨by simp[adn,asn,atn,aan,ae,apn,al],?_⟩
 simp[aK,e,bC,bW,lu,bdn,cdn,ddn,bsn,csn,dsn,btn,ctn,dtn,ban,can,dan,be,ce,de,bpn,cpn,dpn,bl,cl,dl,cz,cY,aG]
theorem ny (dn sn tn an pn:Nat)(hdn:dn<=7)(hsn:sn<=7)(htn:tn<=7)(han:an<4294967296)(hpn:pn<4294967296):(ah (af ⟨21,(dn:Nat),(sn:Nat),(tn:Nat),0,(an:Nat),1,-1⟩)).tail.all jV=O/\aK (ah (af ⟨21,(dn:Nat),(sn:Nat),(tn:Nat),0,(an:Nat),1,-1⟩))=⟨21,(dn:Nat),(sn:Nat),(tn:Nat),0,(an:Nat),1,-1⟩:=by
 obtain⟨adn,bdn,cdn,ddn⟩:=bE dn hdn
 obtain⟨asn,bsn,csn,dsn⟩:=bE sn hsn
 obtain⟨atn,btn,ctn,dtn⟩:=bE tn htn
 obtain⟨aan,ban,can,dan⟩:=dW an han
 obtain⟨apn,bpn,cpn,dpn⟩:=dW pn hpn
 obtain⟨ae,be,ce,de⟩:=Eo
 obtain⟨al,bl,cl,dl⟩:=pQ
 rw[gd dn sn tn an pn]
 have e:eP (bM 21) 23=21:=by decide
 refine⟨by simp[adn,asn,atn,aan,ae],?_⟩
 simp[aK,e,bC,bW,lu,bdn,cdn,ddn,bsn,csn,dsn,btn,ctn,dtn,ban,can,dan,be,ce,de,cz,cY,aG]
theorem kP (i:aJ)(h:au i 1073741824=O)(k0:0<=i.k)(k1:i.k<4294967296):(ah (af i)).tail.all jV=O/\aK (ah (af i))=i:=by
 obtain⟨hd,hs,ht,hu,ha⟩:=eA i _ h
 obtain⟨op,d,s,t,u,a,k,pl⟩:=i
 simp only at hd hs ht hu ha k0 k1
 rcases co op with rfl|rfl|rfl|rfl|rfl|rfl|rfl|rfl|rfl|rfl|rfl|rfl|rfl|rfl|rfl|rfl|rfl|rfl|rfl|rfl|rfl | hn
 ·skip
  have hr:=lL d s t u a k pl 1073741824 hd hs ht hu ha k0 k1
  rw[h] at hr
  simp[dj] at hr
  obtain⟨dn,rfl⟩:∃ n:Nat,d=n:=⟨d.toNat,by omega⟩
  obtain⟨sn,rfl⟩:∃ n:Nat,s=n:=⟨s.toNat,by omega⟩
  obtain⟨tn,rfl⟩:∃ n:Nat,t=n:=⟨t.toNat,by omega⟩
  obtain⟨un,rfl⟩:∃ n:Nat,u=n:=⟨u.toNat,by omega⟩
  obtain⟨an,rfl⟩:∃ n:Nat,a=n:=⟨a.toNat,by omega⟩
  obtain⟨kn,rfl⟩:∃ n:Nat,k=n:=⟨k.toNat,by omega⟩
  obtain rfl:sn=0:=by omega
  obtain rfl:tn=0:=by omega
  obtain rfl:un=0:=by omega
  obtain rfl:an=0:=by omega
  obtain rfl:pl=0:=by omega
  exact vO dn kn (by omega) (by omega)
 ·skip
  have hr:=lK d s t u a k pl 1073741824 hd hs ht hu ha k0 k1
  rw[h] at hr
  simp[dj] at hr
  obtain⟨dn,rfl⟩:∃ n:Nat,d=n:=⟨d.toNat,by omega⟩
  obtain⟨sn,rfl⟩:∃ n:Nat,s=n:=⟨s.toNat,by omega⟩
  obtain⟨tn,rfl⟩:∃ n:Nat,t=n:=⟨t.toNat,by omega⟩
  obtain⟨un,rfl⟩:∃ n:Nat,u=n:=⟨u.toNat,by omega⟩
  obtain⟨an,rfl⟩:∃ n:Nat,a=n:=⟨a.toNat,by omega⟩
  obtain⟨kn,rfl⟩:∃ n:Nat,k=n:=⟨k.toNat,by omega⟩
  obtain rfl:tn=0:=by omega
  obtain rfl:un=0:=by omega
  obtain rfl:an=0:=by omega
  obtain rfl:kn=0:=by omega
  obtain rfl:pl=0:=by omega
  exact vN dn sn (by omega) (by omega)
 ·skip
  have hr:=lJ d s t u a k pl 1073741824 hd hs ht hu ha k0 k1
  rw[h] at hr
  simp[dj] at hr
  obtain⟨dn,rfl⟩:∃ n:Nat,d=n:=⟨d.toNat,by omega⟩
  obtain⟨sn,rfl⟩:∃ n:Nat,s=n:=⟨s.toNat,by omega⟩
  obtain⟨tn,rfl⟩:∃ n:Nat,t=n:=⟨t.toNat,by omega⟩
  obtain⟨un,rfl⟩:∃ n:Nat,u=n:=⟨u.toNat,by omega⟩
  obtain⟨an,rfl⟩:∃ n:Nat,a=n:=⟨a.toNat,by omega⟩
  obtain⟨kn,rfl⟩:∃ n:Nat,k=n:=⟨k.toNat,by omega⟩
  obtain rfl:tn=0:=by omega
  obtain rfl:un=0:=by omega
  obtain rfl:an=0:=by omega
  obtain rfl:pl=0:=by omega
  exact vM dn sn kn (by omega) (by omega) (by omega)
 ·skip
  have hr:=lI d s t u a k pl 1073741824 hd hs ht hu ha k0 k1
  rw[h] at hr
  simp[dj] at hr
  obtain⟨dn,rfl⟩:∃ n:Nat,d=n:=⟨d.toNat,by omega⟩
  obtain⟨sn,rfl⟩:∃ n:Nat,s=n:=⟨s.toNat,by omega⟩
  obtain⟨tn,rfl⟩:∃ n:Nat,t=n:=⟨t.toNat,by omega⟩
  obtain⟨un,rfl⟩:∃ n:Nat,u=n:=⟨u.toNat,by omega⟩
  obtain⟨an,rfl⟩:∃ n:Nat,a=n:=⟨a.toNat,by omega⟩
  obtain⟨kn,rfl⟩:∃ n:Nat,k=n:=⟨k.toNat,by omega⟩
  obtain rfl:tn=0:=by omega
  obtain rfl:un=0:=by omega
  obtain rfl:an=0:=by omega
  obtain rfl:pl=0:=by omega
  exact vL dn sn kn (by omega) (by omega) (by omega)
 ·skip
  have hr:=jH d s t u a k pl 1073741824 hd hs ht hu ha k0 k1
  rw[h] at hr
  simp[dj] at hr
  obtain⟨dn,rfl⟩:∃ n:Nat,d=n:=⟨d.toNat,by omega⟩
  obtain⟨sn,rfl⟩:∃ n:Nat,s=n:=⟨s.toNat,by omega⟩
  obtain⟨tn,rfl⟩:∃ n:Nat,t=n:=⟨t.toNat,by omega⟩
  obtain⟨un,rfl⟩:∃ n:Nat,u=n:=⟨u.toNat,by omega⟩
  obtain⟨an,rfl⟩:∃ n:Nat,a=n:=⟨a.toNat,by omega⟩
  obtain⟨kn,rfl⟩:∃ n:Nat,k=n:=⟨k.toNat,by omega⟩
  obtain rfl:tn=0:=by omega
  obtain rfl:un=0:=by omega
  obtain rfl:an=0:=by omega
  obtain rfl:pl=0:=by omega
  exact vK dn sn kn (by omega) (by omega) (by omega)
 ·skip
  have hr:=jG d s t u a k pl 1073741824 hd hs ht hu ha k0 k1
  rw[h] at hr
  simp[dj] at hr
  obtain⟨dn,rfl⟩:∃ n:Nat,d=n:=⟨d.toNat,by omega⟩
  obtain⟨sn,rfl⟩:∃ n:Nat,s=n:=⟨s.toNat,by omega⟩
  obtain⟨tn,rfl⟩:∃ n:Nat,t=n:=⟨t.toNat,by omega⟩
  obtain⟨un,rfl⟩:∃ n:Nat,u=n:=⟨u.toNat,by omega⟩
  obtain⟨an,rfl⟩:∃ n:Nat,a=n:=⟨a.toNat,by omega⟩
  obtain⟨kn,rfl⟩:∃ n:Nat,k=n:=⟨k.toNat,by omega⟩
  obtain rfl:tn=0:=by omega
  obtain rfl:un=0:=by omega
  obtain rfl:an=0:=by omega
  obtain rfl:pl=0:=by omega
  exact vJ dn sn kn (by omega) (by omega) (by omega)
 ·skip
  have hr:=lH d s t u a k pl 1073741824 hd hs ht hu ha k0 k1
  rw[h] at hr
  simp[dj] at hr
  obtain⟨dn,rfl⟩:∃ n:Nat,d=n:=⟨d.toNat,by omega⟩
  obtain⟨sn,rfl⟩:∃ n:Nat,s=n:=⟨s.toNat,by omega⟩
  obtain⟨tn,rfl⟩:∃ n:Nat,t=n:=⟨t.toNat,by omega⟩
  obtain⟨un,rfl⟩:∃ n:Nat,u=n:=⟨u.toNat,by omega⟩
  obtain⟨an,rfl⟩:∃ n:Nat,a=n:=⟨a.toNat,by omega⟩
  obtain⟨kn,rfl⟩:∃ n:Nat,k=n:=⟨k.toNat,by omega⟩
  obtain rfl:un=0:=by omega
  obtain rfl:an=0:=by omega
  obtain rfl:kn=0:=by omega
  obtain rfl:pl=0:=by omega
  exact vI dn sn tn (by omega) (by omega) (by omega)
 ·skip
  have hr:=lG d s t u a k pl 1073741824 hd hs ht hu ha k0 k1
  rw[h] at hr
  simp[dj] at hr
  obtain⟨dn,rfl⟩:∃ n:Nat,d=n:=⟨d.toNat,by omega⟩
  obtain⟨sn,rfl⟩:∃ n:Nat,s=n:=⟨s.toNat,by omega⟩
  obtain⟨tn,rfl⟩:∃ n:Nat,t=n:=⟨t.toNat,by omega⟩
  obtain⟨un,rfl⟩:∃ n:Nat,u=n:=⟨u.toNat,by omega⟩
  obtain⟨an,rfl⟩:∃ n:Nat,a=n:=⟨a.toNat,by omega⟩
  obtain⟨kn,rfl⟩:∃ n:Nat,k=n:=⟨k.toNat,by omega⟩
  obtain rfl:dn=0:=by omega
  obtain rfl:un=0:=by omega
  obtain rfl:an=0:=by omega
  obtain rfl:kn=0:=by omega
  obtain⟨pn,rfl⟩:∃ n:Nat,pl=n:=⟨pl.toNat,by omega⟩
  exact vH sn tn pn (by omega) (by omega) (by omega)
 ·skip
  have hr:=lF d s t u a k pl 1073741824 hd hs ht hu ha k0 k1
  rw[h] at hr
  simp[dj] at hr
  obtain⟨dn,rfl⟩:∃ n:Nat,d=n:=⟨d.toNat,by omega⟩
  obtain⟨sn,rfl⟩:∃ n:Nat,s=n:=⟨s.toNat,by omega⟩
  obtain⟨tn,rfl⟩:∃ n:Nat,t=n:=⟨t.toNat,by omega⟩
  obtain⟨un,rfl⟩:∃ n:Nat,u=n:=⟨u.toNat,by omega⟩
  obtain⟨an,rfl⟩:∃ n:Nat,a=n:=⟨a.toNat,by omega⟩
  obtain⟨kn,rfl⟩:∃ n:Nat,k=n:=⟨k.toNat,by omega⟩
  obtain rfl:dn=0:=by omega
  obtain rfl:un=0:=by omega
  obtain rfl:an=0:=by omega
  obtain rfl:kn=0:=by omega
  obtain⟨pn,rfl⟩:∃ n:Nat,pl=n:=⟨pl.toNat,by omega⟩
  exact vG sn tn pn (by omega) (by omega) (by omega)
 ·skip
  have hr:=jz d s t u a k pl 1073741824 hd hs ht hu ha k0 k1
  rw[h] at hr
  simp[dj] at hr
  obtain⟨dn,rfl⟩:∃ n:Nat,d=n:=⟨d.toNat,by omega⟩
  obtain⟨sn,rfl⟩:∃ n:Nat,s=n:=⟨s.toNat,by omega⟩
  obtain⟨tn,rfl⟩:∃ n:Nat,t=n:=⟨t.toNat,by omega⟩
  obtain⟨un,rfl⟩:∃ n:Nat,u=n:=⟨u.toNat,by omega⟩
  obtain⟨an,rfl⟩:∃ n:Nat,a=n:=⟨a.toNat,by omega⟩
  obtain⟨kn,rfl⟩:∃ n:Nat,k=n:=⟨k.toNat,by omega⟩
  obtain rfl:dn=0:=by omega
  obtain rfl:sn=0:=by omega
  obtain rfl:tn=0:=by omega
  obtain rfl:un=0:=by omega
  obtain rfl:an=0:=by omega
  obtain rfl:kn=0:=by omega
  obtain⟨pn,rfl⟩:∃ n:Nat,pl=n:=⟨pl.toNat,by omega⟩
  exact sX pn (by omega)
 ·skip
  have hr:=jy d s t u a k pl 1073741824 hd hs ht hu ha k0 k1
  rw[h] at hr
  simp[dj] at hr
  obtain⟨dn,rfl⟩:∃ n:Nat,d=n:=⟨d.toNat,by omega⟩
  obtain⟨sn,rfl⟩:∃ n:Nat,s=n:=⟨s.toNat,by omega⟩
  obtain⟨tn,rfl⟩:∃ n:Nat,t=n:=⟨t.toNat,by omega⟩
  obtain⟨un,rfl⟩:∃ n:Nat,u=n:=⟨u.toNat,by omega⟩
  obtain⟨an,rfl⟩:∃ n:Nat,a=n:=⟨a.toNat,by omega⟩
  obtain⟨kn,rfl⟩:∃ n:Nat,k=n:=⟨k.toNat,by omega⟩
  obtain rfl:sn=0:=by omega
  obtain rfl:tn=0:=by omega
  obtain rfl:un=0:=by omega
  obtain rfl:an=0:=by omega
  obtain rfl:kn=0:=by omega
  obtain rfl:pl=0:=by omega
  exact sW dn (by omega)
 ·skip
  have hr:=iu d s t u a k pl 1073741824 hd hs ht hu ha k0 k1
  rw[h] at hr
  simp[dj] at hr
  obtain⟨dn,rfl⟩:∃ n:Nat,d=n:=⟨d.toNat,by omega⟩
  obtain⟨sn,rfl⟩:∃ n:Nat,s=n:=⟨s.toNat,by omega⟩
  obtain⟨tn,rfl⟩:∃ n:Nat,t=n:=⟨t.toNat,by omega⟩
  obtain⟨un,rfl⟩:∃ n:Nat,u=n:=⟨u.toNat,by omega⟩
  obtain⟨an,rfl⟩:∃ n:Nat,a=n:=⟨a.toNat,by omega⟩
  obtain⟨kn,rfl⟩:∃ n:Nat,k=n:=⟨k.toNat,by omega⟩
  obtain rfl:dn=0:=by omega
  obtain rfl:sn=0:=by omega
  obtain rfl:tn=0:=by omega
  obtain rfl:un=0:=by omega
  obtain rfl:an=0:=by omega
  obtain rfl:pl=0:=by omega
  exact sV kn (by omega)
 ·skip
  have hr:=ir d s t u a k pl 1073741824 hd hs ht hu ha k0 k1
  rw[h] at hr
  simp[dj] at hr
  obtain⟨dn,rfl⟩:∃ n:Nat,d=n:=⟨d.toNat,by omega⟩
  obtain⟨sn,rfl⟩:∃ n:Nat,s=n:=⟨s.toNat,by omega⟩
  obtain⟨tn,rfl⟩:∃ n:Nat,t=n:=⟨t.toNat,by omega⟩
  obtain⟨un,rfl⟩:∃ n:Nat,u=n:=⟨u.toNat,by omega⟩
  obtain⟨an,rfl⟩:∃ n:Nat,a=n:=⟨a.toNat,by omega⟩
  obtain⟨kn,rfl⟩:∃ n:Nat,k=n:=⟨k.toNat,by omega⟩
  obtain rfl:dn=0:=by omega
  obtain rfl:sn=0:=by omega
  obtain rfl:tn=0:=by omega
  obtain rfl:un=0:=by omega
  obtain rfl:an=0:=by omega
  obtain rfl:pl=0:=by omega
  exact sU kn (by omega)
 ·skip
  have hr:=jx d s t u a k pl 1073741824 hd hs ht hu ha k0 k1
  rw[h] at hr
  simp[dj] at hr
  obtain⟨dn,rfl⟩:∃ n:Nat,d=n:=⟨d.toNat,by omega⟩
  obtain⟨sn,rfl⟩:∃ n:Nat,s=n:=⟨s.toNat,by omega⟩
  obtain⟨tn,rfl⟩:∃ n:Nat,t=n:=⟨t.toNat,by omega⟩
  obtain⟨un,rfl⟩:∃ n:Nat,u=n:=⟨u.toNat,by omega⟩
  obtain⟨an,rfl⟩:∃ n:Nat,a=n:=⟨a.toNat,by omega⟩
  obtain⟨kn,rfl⟩:∃ n:Nat,k=n:=⟨k.toNat,by omega⟩
  obtain rfl:tn=0:=by omega
  obtain rfl:un=0:=by omega
  obtain rfl:kn=0:=by omega
  obtain rfl:pl=0:=by omega
  exact sS dn sn an (by omega) (by omega) (by omega)
 ·skip
  have hr:=jw d s t u a k pl 1073741824 hd hs ht hu ha k0 k1
  rw[h] at hr
  simp[dj] at hr
  obtain⟨dn,rfl⟩:∃ n:Nat,d=n:=⟨d.toNat,by omega⟩
  obtain⟨sn,rfl⟩:∃ n:Nat,s=n:=⟨s.toNat,by omega⟩
  obtain⟨tn,rfl⟩:∃ n:Nat,t=n:=⟨t.toNat,by omega⟩
  obtain⟨un,rfl⟩:∃ n:Nat,u=n:=⟨u.toNat,by omega⟩
  obtain⟨an,rfl⟩:∃ n:Nat,a=n:=⟨a.toNat,by omega⟩
  obtain⟨kn,rfl⟩:∃ n:Nat,k=n:=⟨k.toNat,by omega⟩
  obtain rfl:dn=0:=by omega
  obtain rfl:un=0:=by omega
  obtain rfl:kn=0:=by omega
  obtain rfl:pl=0:=by omega
  exact sR sn tn an (by omega) (by omega) (by omega)
 ·skip
  have hr:=ju d s t u a k pl 1073741824 hd hs ht hu ha k0 k1
  rw[h] at hr
  simp[dj] at hr
  obtain⟨dn,rfl⟩:∃ n:Nat,d=n:=⟨d.toNat,by omega⟩
  obtain⟨sn,rfl⟩:∃ n:Nat,s=n:=⟨s.toNat,by omega⟩
  obtain⟨tn,rfl⟩:∃ n:Nat,t=n:=⟨t.toNat,by omega⟩
  obtain⟨un,rfl⟩:∃ n:Nat,u=n:=⟨u.toNat,by omega⟩
  obtain⟨an,rfl⟩:∃ n:Nat,a=n:=⟨a.toNat,by omega⟩
  obtain⟨kn,rfl⟩:∃ n:Nat,k=n:=⟨k.toNat,by omega⟩
  obtain rfl:un=0:=by omega
  obtain rfl:kn=0:=by omega
  obtain rfl:pl=0:=by omega
  exact sQ dn sn tn an (by omega) (by omega) (by omega) (by omega)
 ·skip
  have hr:=js d s t u a k pl 1073741824 hd hs ht hu ha k0 k1
  rw[h] at hr
  simp[dj] at hr
  obtain⟨dn,rfl⟩:∃ n:Nat,d=n:=⟨d.toNat,by omega⟩
  obtain⟨sn,rfl⟩:∃ n:Nat,s=n:=⟨s.toNat,by omega⟩
  obtain⟨tn,rfl⟩:∃ n:Nat,t=n:=⟨t.toNat,by omega⟩
  obtain⟨un,rfl⟩:∃ n:Nat,u=n:=⟨u.toNat,by omega⟩
  obtain⟨an,rfl⟩:∃ n:Nat,a=n:=⟨a.toNat,by omega⟩
  obtain⟨kn,rfl⟩:∃ n:Nat,k=n:=⟨k.toNat,by omega⟩
  obtain rfl:kn=0:=by omega
  obtain rfl:pl=0:=by omega
  exact sP dn sn tn un an (by omega) (by omega) (by omega) (by omega) (by omega)
 ·skip
  have hr:=jq d s t u a k pl 1073741824 hd hs ht hu ha k0 k1
  rw[h] at hr
  simp[dj] at hr
  obtain⟨dn,rfl⟩:∃ n:Nat,d=n:=⟨d.toNat,by omega⟩
  obtain⟨sn,rfl⟩:∃ n:Nat,s=n:=⟨s.toNat,by omega⟩
  obtain⟨tn,rfl⟩:∃ n:Nat,t=n:=⟨t.toNat,by omega⟩
  obtain⟨un,rfl⟩:∃ n:Nat,u=n:=⟨u.toNat,by omega⟩
  obtain⟨an,rfl⟩:∃ n:Nat,a=n:=⟨a.toNat,by omega⟩
  obtain⟨kn,rfl⟩:∃ n:Nat,k=n:=⟨k.toNat,by omega⟩
  obtain rfl:tn=0:=by omega
  obtain rfl:un=0:=by omega
  obtain rfl:pl=0:=by omega
  exact sO dn sn an kn (by omega) (by omega) (by omega) (by omega)
 ·skip
  have hr:=gN d s t u a k pl 1073741824 hd hs ht hu ha k0 k1
  rw[h] at hr
  simp[dj] at hr
  obtain⟨dn,rfl⟩:∃ n:Nat,d=n:=⟨d.toNat,by omega⟩
  obtain⟨sn,rfl⟩:∃ n:Nat,s=n:=⟨s.toNat,by omega⟩
  obtain⟨tn,rfl⟩:∃ n:Nat,t=n:=⟨t.toNat,by omega⟩
  obtain⟨un,rfl⟩:∃ n:Nat,u=n:=⟨u.toNat,by omega⟩
  obtain⟨an,rfl⟩:∃ n:Nat,a=n:=⟨a.toNat,by omega⟩
  obtain⟨kn,rfl⟩:∃ n:Nat,k=n:=⟨k.toNat,by omega⟩
  obtain rfl:un=0:=by omega
  by_cases hm:pl=-1
  ·subst hm
   by_cases hk:kn=0
   ·subst hk;exact nA dn sn tn an 0 (by omega) (by omega) (by omega) (by omega) (by omega)
   ·obtain rfl:kn=1:=by omega
    exact ny dn sn tn an 0 (by omega) (by omega) (by omega) (by omega) (by omega)
  ·obtain⟨pn,rfl⟩:∃ n:Nat,pl=n:=⟨pl.toNat,by omega⟩
   by_cases hk:kn=0
   ·subst hk;exact nz dn sn tn an pn (by omega) (by omega) (by omega) (by omega) (by omega)
   ·obtain rfl:kn=1:=by omega
    exact nw dn sn tn an pn (by omega) (by omega) (by omega) (by omega) (by omega)
 ·skip
  have hr:=jp d s t u a k pl 1073741824 hd hs ht hu ha k0 k1
  rw[h] at hr
  simp[dj] at hr
  obtain⟨dn,rfl⟩:∃ n:Nat,d=n:=⟨d.toNat,by omega⟩
  obtain⟨sn,rfl⟩:∃ n:Nat,s=n:=⟨s.toNat,by omega⟩
  obtain⟨tn,rfl⟩:∃ n:Nat,t=n:=⟨t.toNat,by omega⟩
  obtain⟨un,rfl⟩:∃ n:Nat,u=n:=⟨u.toNat,by omega⟩
  obtain⟨an,rfl⟩:∃ n:Nat,a=n:=⟨a.toNat,by omega⟩
  obtain⟨kn,rfl⟩:∃ n:Nat,k=n:=⟨k.toNat,by omega⟩
  obtain rfl:sn=0:=by omega
  obtain rfl:tn=0:=by omega
  obtain rfl:un=0:=by omega
  obtain rfl:an=0:=by omega
  obtain rfl:kn=0:=by omega
  obtain rfl:pl=0:=by omega
  exact sN dn (by omega)
 ·skip
  have hr:=jn d s t u a k pl 1073741824 hd hs ht hu ha k0 k1
  rw[h] at hr
  simp[dj] at hr
  obtain⟨dn,rfl⟩:∃ n:Nat,d=n:=⟨d.toNat,by omega⟩
  obtain⟨sn,rfl⟩:∃ n:Nat,s=n:=⟨s.toNat,by omega⟩
  obtain⟨tn,rfl⟩:∃ n:Nat,t=n:=⟨t.toNat,by omega⟩
  obtain⟨un,rfl⟩:∃ n:Nat,u=n:=⟨u.toNat,by omega⟩
  obtain⟨an,rfl⟩:∃ n:Nat,a=n:=⟨a.toNat,by omega⟩
  obtain⟨kn,rfl⟩:∃ n:Nat,k=n:=⟨k.toNat,by omega⟩
  obtain rfl:dn=0:=by omega
  obtain rfl:tn=0:=by omega
  obtain rfl:un=0:=by omega
  obtain rfl:an=0:=by omega
  obtain rfl:kn=0:=by omega
  obtain rfl:pl=0:=by omega
  exact sM sn (by omega)
 ·exfalso
  unfold au at h
  simp only[(dw hn).1] at h
  cases h
theorem qj (i:aJ)(h:au i 1073741824=O)(k0:0<=i.k)(k1:i.k<4294967296):jJ (af i)=O:=by
 obtain⟨h1,h2⟩:=kP i h k0 k1
 unfold jJ
 rw[h1,h2,h]
 simp
end
section
open Go.ChangeShapes Go.WideShapes Go.ChangeAt Go.RowKit
section
variable {w w':World}{x n each N:Nat}{R:RM}{free:Nat->List Nat}{gen out:List Int}
theorem Cm (h:Rf w x n each R free gen out)(h64:n<=64)(h8:each<=8)(t:Nat)(ht:t<n)(hl:(free t).length<=each):
 Calls Tryz.prog 38 #[.pointer (some ⟨x,0,none⟩),I .i64 t] w fun e w'=>e=.returned (I .i64 ((each-(free t).length:Nat):Int))/\∃ m,w'=w.drewN m:=by
 have c0:=h.c0
 have c1:=h.c1
 obtain⟨g,cap,e,h1,h2,hf,hc⟩:=h.Fb (by omega)
 rw[e] at c1
 have hct:=hc t ht
 clear hc e
 have hlen:(mt (free t)).length=(free t).length:=by simp[mt]
 obtain⟨A,B,hv⟩:∃ A B,R.vs t=.slice A (free t).length B:=by
  rcases h.frees t ht with ⟨e1,e2⟩ | ⟨g',off,cap',cs,e1,_⟩
  ·have:(free t).length=0:=by rw[<-hlen,e2];rfl
   rw[this];exact⟨_,_,e1⟩
  ·rw[hlen] at e1;exact⟨_,_,e1⟩
 rw[hv] at hct
 clear hlen hv
 go_enter Tryz.func38,Tryz.ntmps38
 go_wp2
 go_quiet (fail)
 go_wp2
 go_ret
 exact⟨br (by omega),_,rfl⟩
end
end
