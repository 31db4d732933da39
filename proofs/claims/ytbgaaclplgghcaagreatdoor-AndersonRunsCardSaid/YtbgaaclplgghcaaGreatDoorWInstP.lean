import Derived.Test.YtbgaaclplgghcaaGreatDoorWInstV
import Derived.Test.YtbgaaclplgghcaaGreatDoorWMem
import Derived.Test.YtbgaaclplgghcaaGreatDoorWCell
import Derived.Test.YtbgaaclplgghcaaGreatDoorWInstC
set_option linter.unusedVariables false
set_option maxHeartbeats 1000000
open Bool renaming false->I,true->Q
open Go.Lib renaming hid->N
namespace Go.Proofs.YtbgaaclplgghcaaGreatDoor
section
theorem kQ:∀ (m:Nat) (s:List UInt8),(ah s).length<=m+1->Lib.splitK [32] 0 m s=ah s
 | 0,s,h=>by
  rcases nf s with h1 | ⟨t,r,h1,rfl⟩
  ·rw[cH s h1];rfl
  ·rw[fb t r h1] at h
   have:=fQ r
   rw[List.length_cons] at h
   omega
 | m+1,s,h=>by
  rcases nf s with h1 | ⟨t,r,h1,rfl⟩
  ·rw[cH s h1];unfold Lib.splitK;rw[qF s h1];rfl
  ·rw[fb t r h1] at h ⊢
   unfold Lib.splitK
   rw[qG t r h1,if_neg (by simp <;> omega)]
   have e1:(t++32 :: r).take (((t.length:Int)).toNat+0)=t:=by simp
   have e2:(t++32 :: r).drop (((t.length:Int)).toNat+[(32:UInt8)].length)=r:=by simp[List.drop_append]
   rw[e1,e2,kQ m r (by simp at h;omega)]
theorem aH (s:List UInt8)(h:(ah s).length<=9):fo s=ah s:=by
 unfold fo Lib.splitN
 have:=gQ s
 exact kQ _ s (by omega)
def dC (n:Nat):List UInt8:=114 :: Lib.decDigits n
theorem dk (n:Nat):Bf (dC n):=by
 intro c hc
 rcases List.mem_cons.1 hc with rfl | hc
 ·decide
 ·exact dB n c hc
theorem bY (n:Nat)(h:n<9223372036854775808):j8 (Lib.decDigits n)=n:=by
 have ha:=qS n h
 obtain⟨c,r,e,h1,h2,-⟩:=iH n
 rw[e] at ha ⊢
 have n1:c≠101:=fun e=>by rw[e] at h2;exact absurd h2 (by decide)
 have n2:c≠110:=fun e=>by rw[e] at h2;exact absurd h2 (by decide)
 have n3:c≠114:=fun e=>by rw[e] at h2;exact absurd h2 (by decide)
 unfold j8
 rw[if_neg (by intro e;injection e with e _;exact n1 e),if_neg (by intro e;injection e with e _;exact n2 e)]
 have et:Lib.trimPrefix (c :: r) [114]=c :: r:=by
  unfold Lib.trimPrefix Lib.hasPrefix
  rw[if_neg (by simp[List.isPrefixOf];exact fun e=>n3 e.symm)]
 rw[et,ha]
theorem aN (n:Nat)(h:n<9223372036854775808):j8 (dC n)=n:=by
 have ha:=qS n h
 unfold j8 dC
 rw[if_neg (by intro e;injection e with e _;exact absurd e (by decide)),if_neg (by intro e;injection e with e _;exact absurd e (by decide))]
 have et:Lib.trimPrefix (114 :: Lib.decDigits n) [114]=Lib.decDigits n:=by
  unfold Lib.trimPrefix Lib.hasPrefix
  rw[if_pos (by simp[List.isPrefixOf])]
  rfl
 rw[et,ha]
theorem CY (dn kn:Nat):af ⟨1,(dn:Nat),0,0,0,0,(kn:Nat),0⟩=bt (bE 1) [dC dn,Lib.decDigits kn]:=by
 simp[af,cX,az,aW,aY,aE,bt,dC]
theorem pa (dn kn:Nat):ah (af ⟨1,(dn:Nat),0,0,0,0,(kn:Nat),0⟩)=bE 1 :: [dC dn,Lib.decDigits kn]:=by
 rw[CY]
 exact aT _ _ (by unfold Bf;decide) (by simp[dk,dB])
theorem xW (dn kn:Nat)(hdn:dn<9223372036854775808)(hkn:kn<9223372036854775808)(k1:kn<4294967296):aC (af ⟨1,(dn:Nat),0,0,0,0,(kn:Nat),0⟩)=⟨1,(dn:Nat),0,0,0,0,(kn:Nat),0⟩:=by
 unfold aC
 rw[aH _ (by rw[pa];simp),pa]
 have e:nk (bE 1)=1:=by decide
 simp[bU,e,cX,bW,dd,cE,bV,aN dn hdn,bY kn hkn,aM.zero]
 omega
theorem CX (dn sn:Nat):af ⟨2,(dn:Nat),(sn:Nat),0,0,0,0,0⟩=bt (bE 2) [dC dn,dC sn]:=by
 simp[af,cX,az,aW,aY,aE,bt,dC]
theorem oZ (dn sn:Nat):ah (af ⟨2,(dn:Nat),(sn:Nat),0,0,0,0,0⟩)=bE 2 :: [dC dn,dC sn]:=by
 rw[CX]
 exact aT _ _ (by unfold Bf;decide) (by simp[dk])
theorem xV (dn sn:Nat)(hdn:dn<9223372036854775808)(hsn:sn<9223372036854775808):aC (af ⟨2,(dn:Nat),(sn:Nat),0,0,0,0,0⟩)=⟨2,(dn:Nat),(sn:Nat),0,0,0,0,0⟩:=by
 unfold aC
 rw[aH _ (by rw[oZ];simp),oZ]
 have e:nk (bE 2)=2:=by decide
 simp[bU,e,cX,bW,dd,cE,bV,aN dn hdn,aN sn hsn,aM.zero]
theorem CW (dn sn kn:Nat):af ⟨3,(dn:Nat),(sn:Nat),0,0,0,(kn:Nat),0⟩=bt (bE 3) [dC dn,dC sn,Lib.decDigits kn]:=by
 simp[af,cX,az,aW,aY,aE,bt,dC]
theorem oY (dn sn kn:Nat):ah (af ⟨3,(dn:Nat),(sn:Nat),0,0,0,(kn:Nat),0⟩)=bE 3 :: [dC dn,dC sn,Lib.decDigits kn]:=by
 rw[CW]
 exact aT _ _ (by unfold Bf;decide) (by simp[dk,dB])
theorem xU (dn sn kn:Nat)(hdn:dn<9223372036854775808)(hsn:sn<9223372036854775808)(hkn:kn<9223372036854775808)(k1:kn<4294967296):aC (af ⟨3,(dn:Nat),(sn:Nat),0,0,0,(kn:Nat),0⟩)=⟨3,(dn:Nat),(sn:Nat),0,0,0,(kn:Nat),0⟩:=by
 unfold aC
 rw[aH _ (by rw[oY];simp),oY]
 have e:nk (bE 3)=3:=by decide
 simp[bU,e,cX,bW,dd,cE,bV,aN dn hdn,aN sn hsn,bY kn hkn,aM.zero]
 omega
theorem CV (dn sn kn:Nat):af ⟨4,(dn:Nat),(sn:Nat),0,0,0,(kn:Nat),0⟩=bt (bE 4) [dC dn,dC sn,Lib.decDigits kn]:=by
 simp[af,cX,az,aW,aY,aE,bt,dC]
theorem oX (dn sn kn:Nat):ah (af ⟨4,(dn:Nat),(sn:Nat),0,0,0,(kn:Nat),0⟩)=bE 4 :: [dC dn,dC sn,Lib.decDigits kn]:=by
 rw[CV]
 exact aT _ _ (by unfold Bf;decide) (by simp[dk,dB])
theorem xT (dn sn kn:Nat)(hdn:dn<9223372036854775808)(hsn:sn<9223372036854775808)(hkn:kn<9223372036854775808)(k1:kn<4294967296):aC (af ⟨4,(dn:Nat),(sn:Nat),0,0,0,(kn:Nat),0⟩)=⟨4,(dn:Nat),(sn:Nat),0,0,0,(kn:Nat),0⟩:=by
 unfold aC
 rw[aH _ (by rw[oX];simp),oX]
 have e:nk (bE 4)=4:=by decide
 simp[bU,e,cX,bW,dd,cE,bV,aN dn hdn,aN sn hsn,bY kn hkn,aM.zero]
 omega
theorem CU (dn sn kn:Nat):af ⟨5,(dn:Nat),(sn:Nat),0,0,0,(kn:Nat),0⟩=bt (bE 5) [dC dn,dC sn,Lib.decDigits kn]:=by
 simp[af,cX,az,aW,aY,aE,bt,dC]
theorem oW (dn sn kn:Nat):ah (af ⟨5,(dn:Nat),(sn:Nat),0,0,0,(kn:Nat),0⟩)=bE 5 :: [dC dn,dC sn,Lib.decDigits kn]:=by
 rw[CU]
 exact aT _ _ (by unfold Bf;decide) (by simp[dk,dB])
theorem xS (dn sn kn:Nat)(hdn:dn<9223372036854775808)(hsn:sn<9223372036854775808)(hkn:kn<9223372036854775808)(k1:kn<4294967296):aC (af ⟨5,(dn:Nat),(sn:Nat),0,0,0,(kn:Nat),0⟩)=⟨5,(dn:Nat),(sn:Nat),0,0,0,(kn:Nat),0⟩:=by
 unfold aC
 rw[aH _ (by rw[oW];simp),oW]
 have e:nk (bE 5)=5:=by decide
 simp[bU,e,cX,bW,dd,cE,bV,aN dn hdn,aN sn hsn,bY kn hkn,aM.zero]
 omega
theorem CT (dn sn kn:Nat):af ⟨6,(dn:Nat),(sn:Nat),0,0,0,(kn:Nat),0⟩=bt (bE 6) [dC dn,dC sn,Lib.decDigits kn]:=by
 simp[af,cX,az,aW,aY,aE,bt,dC]
theorem oV (dn sn kn:Nat):ah (af ⟨6,(dn:Nat),(sn:Nat),0,0,0,(kn:Nat),0⟩)=bE 6 :: [dC dn,dC sn,Lib.decDigits kn]:=by
 rw[CT]
 exact aT _ _ (by unfold Bf;decide) (by simp[dk,dB])
theorem xR (dn sn kn:Nat)(hdn:dn<9223372036854775808)(hsn:sn<9223372036854775808)(hkn:kn<9223372036854775808)(k1:kn<4294967296):aC (af ⟨6,(dn:Nat),(sn:Nat),0,0,0,(kn:Nat),0⟩)=⟨6,(dn:Nat),(sn:Nat),0,0,0,(kn:Nat),0⟩:=by
 unfold aC
 rw[aH _ (by rw[oV];simp),oV]
 have e:nk (bE 6)=6:=by decide
 simp[bU,e,cX,bW,dd,cE,bV,aN dn hdn,aN sn hsn,bY kn hkn,aM.zero]
 omega
theorem CS (dn sn tn:Nat):af ⟨7,(dn:Nat),(sn:Nat),(tn:Nat),0,0,0,0⟩=bt (bE 7) [dC dn,dC sn,dC tn]:=by
 simp[af,cX,az,aW,aY,aE,bt,dC]
theorem oU (dn sn tn:Nat):ah (af ⟨7,(dn:Nat),(sn:Nat),(tn:Nat),0,0,0,0⟩)=bE 7 :: [dC dn,dC sn,dC tn]:=by
 rw[CS]
 exact aT _ _ (by unfold Bf;decide) (by simp[dk])
theorem xQ (dn sn tn:Nat)(hdn:dn<9223372036854775808)(hsn:sn<9223372036854775808)(htn:tn<9223372036854775808):aC (af ⟨7,(dn:Nat),(sn:Nat),(tn:Nat),0,0,0,0⟩)=⟨7,(dn:Nat),(sn:Nat),(tn:Nat),0,0,0,0⟩:=by
 unfold aC
 rw[aH _ (by rw[oU];simp),oU]
 have e:nk (bE 7)=7:=by decide
 simp[bU,e,cX,bW,dd,cE,bV,aN dn hdn,aN sn hsn,aN tn htn,aM.zero]
theorem CR (sn tn pn:Nat):af ⟨8,0,(sn:Nat),(tn:Nat),0,0,0,(pn:Nat)⟩=bt (bE 8) [dC sn,dC tn,Lib.decDigits pn]:=by
 simp[af,cX,az,aW,aY,aE,bt,dC]
theorem oT (sn tn pn:Nat):ah (af ⟨8,0,(sn:Nat),(tn:Nat),0,0,0,(pn:Nat)⟩)=bE 8 :: [dC sn,dC tn,Lib.decDigits pn]:=by
 rw[CR]
 exact aT _ _ (by unfold Bf;decide) (by simp[dk,dB])
theorem xP (sn tn pn:Nat)(hsn:sn<9223372036854775808)(htn:tn<9223372036854775808)(hpn:pn<9223372036854775808):aC (af ⟨8,0,(sn:Nat),(tn:Nat),0,0,0,(pn:Nat)⟩)=⟨8,0,(sn:Nat),(tn:Nat),0,0,0,(pn:Nat)⟩:=by
 unfold aC
 rw[aH _ (by rw[oT];simp),oT]
 have e:nk (bE 8)=8:=by decide
 simp[bU,e,cX,bW,dd,cE,bV,aN sn hsn,aN tn htn,bY pn hpn,aM.zero]
theorem CQ (sn tn pn:Nat):af ⟨9,0,(sn:Nat),(tn:Nat),0,0,0,(pn:Nat)⟩=bt (bE 9) [dC sn,dC tn,Lib.decDigits pn]:=by
 simp[af,cX,az,aW,aY,aE,bt,dC]
theorem oS (sn tn pn:Nat):ah (af ⟨9,0,(sn:Nat),(tn:Nat),0,0,0,(pn:Nat)⟩)=bE 9 :: [dC sn,dC tn,Lib.decDigits pn]:=by
 rw[CQ]
 exact aT _ _ (by unfold Bf;decide) (by simp[dk,dB])
theorem xO (sn tn pn:Nat)(hsn:sn<9223372036854775808)(htn:tn<9223372036854775808)(hpn:pn<9223372036854775808):aC (af ⟨9,0,(sn:Nat),(tn:Nat),0,0,0,(pn:Nat)⟩)=⟨9,0,(sn:Nat),(tn:Nat),0,0,0,(pn:Nat)⟩:=by
 unfold aC
 rw[aH _ (by rw[oS];simp),oS]
 have e:nk (bE 9)=9:=by decide
 simp[bU,e,cX,bW,dd,cE,bV,aN sn hsn,aN tn htn,bY pn hpn,aM.zero]
theorem AX (pn:Nat):af ⟨10,0,0,0,0,0,0,(pn:Nat)⟩=bt (bE 10) [Lib.decDigits pn]:=by
 simp[af,cX,az,aW,aY,aE,bt]
theorem mK (pn:Nat):ah (af ⟨10,0,0,0,0,0,0,(pn:Nat)⟩)=bE 10 :: [Lib.decDigits pn]:=by
 rw[AX]
 exact aT _ _ (by unfold Bf;decide) (by simp[dB])
theorem vr (pn:Nat)(hpn:pn<9223372036854775808):aC (af ⟨10,0,0,0,0,0,0,(pn:Nat)⟩)=⟨10,0,0,0,0,0,0,(pn:Nat)⟩:=by
 unfold aC
 rw[aH _ (by rw[mK];simp),mK]
 have e:nk (bE 10)=10:=by decide
 simp[bU,e,cX,bW,dd,cE,bV,bY pn hpn,aM.zero]
theorem AW (dn:Nat):af ⟨11,(dn:Nat),0,0,0,0,0,0⟩=bt (bE 11) [dC dn]:=by
 simp[af,cX,az,aW,aY,aE,bt,dC]
theorem mJ (dn:Nat):ah (af ⟨11,(dn:Nat),0,0,0,0,0,0⟩)=bE 11 :: [dC dn]:=by
 rw[AW]
 exact aT _ _ (by unfold Bf;decide) (by simp[dk])
theorem vq (dn:Nat)(hdn:dn<9223372036854775808):aC (af ⟨11,(dn:Nat),0,0,0,0,0,0⟩)=⟨11,(dn:Nat),0,0,0,0,0,0⟩:=by
 unfold aC
 rw[aH _ (by rw[mJ];simp),mJ]
 have e:nk (bE 11)=11:=by decide
 simp[bU,e,cX,bW,dd,cE,bV,aN dn hdn,aM.zero]
theorem AN (dn:Nat):af ⟨22,(dn:Nat),0,0,0,0,0,0⟩=bt (bE 22) [dC dn]:=by
 simp[af,cX,az,aW,aY,aE,bt,dC]
theorem mB (dn:Nat):ah (af ⟨22,(dn:Nat),0,0,0,0,0,0⟩)=bE 22 :: [dC dn]:=by
 rw[AN]
 exact aT _ _ (by unfold Bf;decide) (by simp[dk])
theorem vb (dn:Nat)(hdn:dn<9223372036854775808):aC (af ⟨22,(dn:Nat),0,0,0,0,0,0⟩)=⟨22,(dn:Nat),0,0,0,0,0,0⟩:=by
 unfold aC
 rw[aH _ (by rw[mB];simp),mB]
 have e:nk (bE 22)=22:=by decide
 simp[bU,e,cX,bW,dd,cE,bV,aN dn hdn,aM.zero]
theorem AV (kn:Nat):af ⟨12,0,0,0,0,0,(kn:Nat),0⟩=bt (bE 12) [Lib.decDigits kn]:=by
 simp[af,cX,az,aW,aY,aE,bt]
theorem mI (kn:Nat):ah (af ⟨12,0,0,0,0,0,(kn:Nat),0⟩)=bE 12 :: [Lib.decDigits kn]:=by
 rw[AV]
 exact aT _ _ (by unfold Bf;decide) (by simp[dB])
theorem vp (kn:Nat)(hkn:kn<9223372036854775808)(k1:kn<4294967296):aC (af ⟨12,0,0,0,0,0,(kn:Nat),0⟩)=⟨12,0,0,0,0,0,(kn:Nat),0⟩:=by
 unfold aC
 rw[aH _ (by rw[mI];simp),mI]
 have e:nk (bE 12)=12:=by decide
 simp[bU,e,cX,bW,dd,cE,bV,bY kn hkn,aM.zero]
 omega
theorem AU (kn:Nat):af ⟨13,0,0,0,0,0,(kn:Nat),0⟩=bt (bE 13) [Lib.decDigits kn]:=by
 simp[af,cX,az,aW,aY,aE,bt]
theorem mH (kn:Nat):ah (af ⟨13,0,0,0,0,0,(kn:Nat),0⟩)=bE 13 :: [Lib.decDigits kn]:=by
 rw[AU]
 exact aT _ _ (by unfold Bf;decide) (by simp[dB])
theorem vm (kn:Nat)(hkn:kn<9223372036854775808)(k1:kn<4294967296):aC (af ⟨13,0,0,0,0,0,(kn:Nat),0⟩)=⟨13,0,0,0,0,0,(kn:Nat),0⟩:=by
 unfold aC
 rw[aH _ (by rw[mH];simp),mH]
 have e:nk (bE 13)=13:=by decide
 simp[bU,e,cX,bW,dd,cE,bV,bY kn hkn,aM.zero]
 omega
theorem AT (dn sn an:Nat):af ⟨16,(dn:Nat),(sn:Nat),0,0,(an:Nat),0,0⟩=bt (bE 16) [dC dn,Lib.decDigits an,dC sn]:=by
 simp[af,cX,az,aW,aY,aE,bt,dC]
theorem mG (dn sn an:Nat):ah (af ⟨16,(dn:Nat),(sn:Nat),0,0,(an:Nat),0,0⟩)=bE 16 :: [dC dn,Lib.decDigits an,dC sn]:=by
 rw[AT]
 exact aT _ _ (by unfold Bf;decide) (by simp[dk,dB])
theorem vj (dn sn an:Nat)(hdn:dn<9223372036854775808)(hsn:sn<9223372036854775808)(han:an<9223372036854775808):aC (af ⟨16,(dn:Nat),(sn:Nat),0,0,(an:Nat),0,0⟩)=⟨16,(dn:Nat),(sn:Nat),0,0,(an:Nat),0,0⟩:=by
 unfold aC
 rw[aH _ (by rw[mG];simp),mG]
 have e:nk (bE 16)=16:=by decide
 simp[bU,e,cX,bW,dd,cE,bV,aN dn hdn,aN sn hsn,bY an han,aM.zero]
theorem AS (sn tn an:Nat):af ⟨17,0,(sn:Nat),(tn:Nat),0,(an:Nat),0,0⟩=bt (bE 17) [Lib.decDigits an,dC sn,dC tn]:=by
 simp[af,cX,az,aW,aY,aE,bt,dC]
theorem mF (sn tn an:Nat):ah (af ⟨17,0,(sn:Nat),(tn:Nat),0,(an:Nat),0,0⟩)=bE 17 :: [Lib.decDigits an,dC sn,dC tn]:=by
 rw[AS]
 exact aT _ _ (by unfold Bf;decide) (by simp[dk,dB])
theorem vh (sn tn an:Nat)(hsn:sn<9223372036854775808)(htn:tn<9223372036854775808)(han:an<9223372036854775808):aC (af ⟨17,0,(sn:Nat),(tn:Nat),0,(an:Nat),0,0⟩)=⟨17,0,(sn:Nat),(tn:Nat),0,(an:Nat),0,0⟩:=by
 unfold aC
 rw[aH _ (by rw[mF];simp),mF]
 have e:nk (bE 17)=17:=by decide
 simp[bU,e,cX,bW,dd,cE,bV,aN sn hsn,aN tn htn,bY an han,aM.zero]
theorem AR (dn sn tn an:Nat):af ⟨18,(dn:Nat),(sn:Nat),(tn:Nat),0,(an:Nat),0,0⟩=bt (bE 18) [dC dn,Lib.decDigits an,dC sn,dC tn]:=by
 simp[af,cX,az,aW,aY,aE,bt,dC]
theorem mE (dn sn tn an:Nat):ah (af ⟨18,(dn:Nat),(sn:Nat),(tn:Nat),0,(an:Nat),0,0⟩)=bE 18 :: [dC dn,Lib.decDigits an,dC sn,dC tn]:=by
 rw[AR]
 exact aT _ _ (by unfold Bf;decide) (by simp[dk,dB])
theorem vf (dn sn tn an:Nat)(hdn:dn<9223372036854775808)(hsn:sn<9223372036854775808)(htn:tn<9223372036854775808)(han:an<9223372036854775808):aC (af ⟨18,(dn:Nat),(sn:Nat),(tn:Nat),0,(an:Nat),0,0⟩)=⟨18,(dn:Nat),(sn:Nat),(tn:Nat),0,(an:Nat),0,0⟩:=by
 unfold aC
 rw[aH _ (by rw[mE];simp),mE]
 have e:nk (bE 18)=18:=by decide
 simp[bU,e,cX,bW,dd,cE,bV,aN dn hdn,aN sn hsn,aN tn htn,bY an han,aM.zero]
theorem AQ (dn sn tn un an:Nat):af ⟨19,(dn:Nat),(sn:Nat),(tn:Nat),(un:Nat),(an:Nat),0,0⟩=bt (bE 19) [dC dn,Lib.decDigits an,dC sn,dC tn,dC un]:=by
 simp[af,cX,az,aW,aY,aE,bt,dC]
theorem mD (dn sn tn un an:Nat):ah (af ⟨19,(dn:Nat),(sn:Nat),(tn:Nat),(un:Nat),(an:Nat),0,0⟩)=bE 19 :: [dC dn,Lib.decDigits an,dC sn,dC tn,dC un]:=by
 rw[AQ]
 exact aT _ _ (by unfold Bf;decide) (by simp[dk,dB])
theorem ve (dn sn tn un an:Nat)(hdn:dn<9223372036854775808)(hsn:sn<9223372036854775808)(htn:tn<9223372036854775808)(hun:un<9223372036854775808)(han:an<9223372036854775808):aC (af ⟨19,(dn:Nat),(sn:Nat),(tn:Nat),(un:Nat),(an:Nat),0,0⟩)=⟨19,(dn:Nat),(sn:Nat),(tn:Nat),(un:Nat),(an:Nat),0,0⟩:=by
 unfold aC
 rw[aH _ (by rw[mD];simp),mD]
 have e:nk (bE 19)=19:=by decide
 simp[bU,e,cX,bW,dd,cE,bV,aN dn hdn,aN sn hsn,aN tn htn,aN un hun,bY an han,aM.zero]
theorem AO (dn sn an kn:Nat):af ⟨20,(dn:Nat),(sn:Nat),0,0,(an:Nat),(kn:Nat),0⟩=bt (bE 20) [dC dn,Lib.decDigits an,dC sn,Lib.decDigits kn]:=by
 simp[af,cX,az,aW,aY,aE,bt,dC]
theorem mC (dn sn an kn:Nat):ah (af ⟨20,(dn:Nat),(sn:Nat),0,0,(an:Nat),(kn:Nat),0⟩)=bE 20 :: [dC dn,Lib.decDigits an,dC sn,Lib.decDigits kn]:=by
 rw[AO]
 exact aT _ _ (by unfold Bf;decide) (by simp[dk,dB])
theorem vd (dn sn an kn:Nat)(hdn:dn<9223372036854775808)(hsn:sn<9223372036854775808)(han:an<9223372036854775808)(hkn:kn<9223372036854775808)(k1:kn<4294967296):aC (af ⟨20,(dn:Nat),(sn:Nat),0,0,(an:Nat),(kn:Nat),0⟩)=⟨20,(dn:Nat),(sn:Nat),0,0,(an:Nat),(kn:Nat),0⟩:=by
 unfold aC
 rw[aH _ (by rw[mC];simp),mC]
 have e:nk (bE 20)=20:=by decide
 simp[bU,e,cX,bW,dd,cE,bV,aN dn hdn,aN sn hsn,bY an han,bY kn hkn,aM.zero]
 omega
theorem AM (sn:Nat):af ⟨23,0,(sn:Nat),0,0,0,0,0⟩=bt (bE 23) [dC sn]:=by
 simp[af,cX,az,aW,aY,aE,bt,dC]
theorem mA (sn:Nat):ah (af ⟨23,0,(sn:Nat),0,0,0,0,0⟩)=bE 23 :: [dC sn]:=by
 rw[AM]
 exact aT _ _ (by unfold Bf;decide) (by simp[dk])
theorem uZ (sn:Nat)(hsn:sn<9223372036854775808):aC (af ⟨23,0,(sn:Nat),0,0,0,0,0⟩)=⟨23,0,(sn:Nat),0,0,0,0,0⟩:=by
 unfold aC
 rw[aH _ (by rw[mA];simp),mA]
 have e:nk (bE 23)=23:=by decide
 simp[bU,e,cX,bW,dd,cE,bV,aN sn hsn,aM.zero]
theorem sm (dn sn tn an pn:Nat):af ⟨21,(dn:Nat),(sn:Nat),(tn:Nat),0,(an:Nat),0,(pn:Nat)⟩=bt (bE 21) [dC dn,Lib.decDigits an,dC sn,[101,113],dC tn,[101,108,115,101],Lib.decDigits pn]:=by
 have e:¬ ((pn:Int)=-1):=by omega
 simp[af,cX,az,aW,aY,aE,bt,dC,e]
theorem gc (dn sn tn an pn:Nat):ah (af ⟨21,(dn:Nat),(sn:Nat),(tn:Nat),0,(an:Nat),0,(pn:Nat)⟩)=bE 21 :: [dC dn,Lib.decDigits an,dC sn,[101,113],dC tn,[101,108,115,101],Lib.decDigits pn]:=by
 rw[sm dn sn tn an pn]
 refine aT _ _ (by unfold Bf;decide) ?_
 have b1:Bf [101,113]:=by unfold Bf;decide
 have b2:Bf [101,108,115,101]:=by unfold Bf;decide
 simp[dk,dB,b1,b2]
theorem oL (dn sn tn an pn:Nat)(hdn:dn<9223372036854775808)(hsn:sn<9223372036854775808)(htn:tn<9223372036854775808)(han:an<9223372036854775808)(hpn:pn<9223372036854775808):aC (af ⟨21,(dn:Nat),(sn:Nat),(tn:Nat),0,(an:Nat),0,(pn:Nat)⟩)=⟨21,(dn:Nat),(sn:Nat),(tn:Nat),0,(an:Nat),0,(pn:Nat)⟩:=by
 unfold aC
 rw[aH _ (by rw[gc dn sn tn an pn];simp),gc dn sn tn an pn]
 have e:nk (bE 21)=21:=by decide
 have v:j8 [101,113]=0:=by decide
 simp[bU,e,cX,bW,dd,cE,bV,aN dn hdn,aN sn hsn,aN tn htn,bY an han,bY pn hpn,v,aM.zero]
theorem so (dn sn tn an pn:Nat):af ⟨21,(dn:Nat),(sn:Nat),(tn:Nat),0,(an:Nat),0,-1⟩=bt (bE 21) [dC dn,Lib.decDigits an,dC sn,[101,113],dC tn]:=by
 simp[af,cX,az,aW,aY,aE,bt,dC]
theorem gd (dn sn tn an pn:Nat):ah (af ⟨21,(dn:Nat),(sn:Nat),(tn:Nat),0,(an:Nat),0,-1⟩)=bE 21 :: [dC dn,Lib.decDigits an,dC sn,[101,113],dC tn]:=by
 rw[so dn sn tn an pn]
 refine aT _ _ (by unfold Bf;decide) ?_
 have b1:Bf [101,113]:=by unfold Bf;decide
 simp[dk,dB,b1]
theorem oM (dn sn tn an pn:Nat)(hdn:dn<9223372036854775808)(hsn:sn<9223372036854775808)(htn:tn<9223372036854775808)(han:an<9223372036854775808)(hpn:pn<9223372036854775808):aC (af ⟨21,(dn:Nat),(sn:Nat),(tn:Nat),0,(an:Nat),0,-1⟩)=⟨21,(dn:Nat),(sn:Nat),(tn:Nat),0,(an:Nat),0,-1⟩:=by
 unfold aC
 rw[aH _ (by rw[gd dn sn tn an pn];simp),gd dn sn tn an pn]
 have e:nk (bE 21)=21:=by decide
 have v:j8 [101,113]=0:=by decide
 simp[bU,e,cX,bW,dd,cE,bV,aN dn hdn,aN sn hsn,aN tn htn,bY an han,v,aM.zero]
theorem sg (dn sn tn an pn:Nat):af ⟨21,(dn:Nat),(sn:Nat),(tn:Nat),0,(an:Nat),1,(pn:Nat)⟩=bt (bE 21) [dC dn,Lib.decDigits an,dC sn,[110,101],dC tn,[101,108,115,101],Lib.decDigits pn]:=by
 have e:¬ ((pn:Int)=-1):=by omega
 simp[af,cX,az,aW,aY,aE,bt,dC,e]
theorem fZ (dn sn tn an pn:Nat):ah (af ⟨21,(dn:Nat),(sn:Nat),(tn:Nat),0,(an:Nat),1,(pn:Nat)⟩)=bE 21 :: [dC dn,Lib.decDigits an,dC sn,[110,101],dC tn,[101,108,115,101],Lib.decDigits pn]:=by
 rw[sg dn sn tn an pn]
 refine aT _ _ (by unfold Bf;decide) ?_
 have b1:Bf [110,101]:=by unfold Bf;decide
 have b2:Bf [101,108,115,101]:=by unfold Bf;decide
 simp[dk,dB,b1,b2]
theorem oJ (dn sn tn an pn:Nat)(hdn:dn<9223372036854775808)(hsn:sn<9223372036854775808)(htn:tn<9223372036854775808)(han:an<9223372036854775808)(hpn:pn<9223372036854775808):aC (af ⟨21,(dn:Nat),(sn:Nat),(tn:Nat),0,(an:Nat),1,(pn:Nat)⟩)=⟨21,(dn:Nat),(sn:Nat),(tn:Nat),0,(an:Nat),1,(pn:Nat)⟩:=by
 unfold aC
 rw[aH _ (by rw[fZ dn sn tn an pn];simp),fZ dn sn tn an pn]
 have e:nk (bE 21)=21:=by decide
 have v:j8 [110,101]=1:=by decide
 simp[bU,e,cX,bW,dd,cE,bV,aN dn hdn,aN sn hsn,aN tn htn,bY an han,bY pn hpn,v,aM.zero]
theorem sj (dn sn tn an pn:Nat):af ⟨21,(dn:Nat),(sn:Nat),(tn:Nat),0,(an:Nat),1,-1⟩=bt (bE 21) [dC dn,Lib.decDigits an,dC sn,[110,101],dC tn]:=by
 simp[af,cX,az,aW,aY,aE,bt,dC]
theorem ga (dn sn tn an pn:Nat):ah (af ⟨21,(dn:Nat),(sn:Nat),(tn:Nat),0,(an:Nat),1,-1⟩)=bE 21 :: [dC dn,Lib.decDigits an,dC sn,[110,101],dC tn]:=by
 rw[sj dn sn tn an pn]
 refine aT _ _ (by unfold Bf;decide) ?_
 have b1:Bf [110,101]:=by unfold Bf;decide
 simp[dk,dB,b1]
theorem oK (dn sn tn an pn:Nat)(hdn:dn<9223372036854775808)(hsn:sn<9223372036854775808)(htn:tn<9223372036854775808)(han:an<9223372036854775808)(hpn:pn<9223372036854775808):aC (af ⟨21,(dn:Nat),(sn:Nat),(tn:Nat),0,(an:Nat),1,-1⟩)=⟨21,(dn:Nat),(sn:Nat),(tn:Nat),0,(an:Nat),1,-1⟩:=by
 unfold aC
 rw[aH _ (by rw[ga dn sn tn an pn];simp),ga dn sn tn an pn]
 have e:nk (bE 21)=21:=by decide
 have v:j8 [110,101]=1:=by decide
 simp[bU,e,cX,bW,dd,cE,bV,aN dn hdn,aN sn hsn,aN tn htn,bY an han,v,aM.zero]
theorem pV (i:aM)(h:au i 1073741824=Q)(k0:0<=i.k)(k1:i.k<4294967296):aC (af i)=i:=by
 obtain⟨hd,hs,ht,hu,ha⟩:=eu i _ h
 obtain⟨op,d,s,t,u,a,k,pl⟩:=i
 simp only at hd hs ht hu ha k0 k1
 rcases ci op with rfl|rfl|rfl|rfl|rfl|rfl|rfl|rfl|rfl|rfl|rfl|rfl|rfl|rfl|rfl|rfl|rfl|rfl|rfl|rfl|rfl | hn
 ·skip
  have hr:=lQ d s t u a k pl 1073741824 hd hs ht hu ha k0 k1
  rw[h] at hr
  simp[dg] at hr
  obtain⟨dn,rfl⟩:∃ n:Nat,d=n:=⟨d.toNat,by omega⟩
  obtain⟨sn,rfl⟩:∃ n:Nat,s=n:=⟨s.toNat,by omega⟩
  obtain⟨tn,rfl⟩:∃ n:Nat,t=n:=⟨t.toNat,by omega⟩
  obtain⟨un,rfl⟩:∃ n:Nat,u=n:=⟨u.toNat,by omega⟩
  obtain⟨an,rfl⟩:∃ n:Nat,a=n:=⟨a.toNat,by omega⟩
  obtain⟨kn,rfl⟩:∃ n:Nat,k=n:=⟨k.toNat,by omega⟩
  obtain rfl:sn=0:=by omega
  obtain rfl:tn=0:=by omega
  obtain rfl:un=0:=by omega
  obtain rfl:an=0:=by omega
  obtain rfl:pl=0:=by omega
  exact xW dn kn (by omega) (by omega) (by omega)
 ·skip
  have hr:=lP d s t u a k pl 1073741824 hd hs ht hu ha k0 k1
  rw[h] at hr
  simp[dg] at hr
  obtain⟨dn,rfl⟩:∃ n:Nat,d=n:=⟨d.toNat,by omega⟩
  obtain⟨sn,rfl⟩:∃ n:Nat,s=n:=⟨s.toNat,by omega⟩
  obtain⟨tn,rfl⟩:∃ n:Nat,t=n:=⟨t.toNat,by omega⟩
  obtain⟨un,rfl⟩:∃ n:Nat,u=n:=⟨u.toNat,by omega⟩
  obtain⟨an,rfl⟩:∃ n:Nat,a=n:=⟨a.toNat,by omega⟩
  obtain⟨kn,rfl⟩:∃ n:Nat,k=n:=⟨k.toNat,by omega⟩
  obtain rfl:tn=0:=by omega
  obtain rfl:un=0:=by omega
  obtain rfl:an=0:=by omega
  obtain rfl:kn=0:=by omega
  obtain rfl:pl=0:=by omega
  exact xV dn sn (by omega) (by omega)
 ·skip
  have hr:=lO d s t u a k pl 1073741824 hd hs ht hu ha k0 k1
  rw[h] at hr
  simp[dg] at hr
  obtain⟨dn,rfl⟩:∃ n:Nat,d=n:=⟨d.toNat,by omega⟩
  obtain⟨sn,rfl⟩:∃ n:Nat,s=n:=⟨s.toNat,by omega⟩
  obtain⟨tn,rfl⟩:∃ n:Nat,t=n:=⟨t.toNat,by omega⟩
  obtain⟨un,rfl⟩:∃ n:Nat,u=n:=⟨u.toNat,by omega⟩
  obtain⟨an,rfl⟩:∃ n:Nat,a=n:=⟨a.toNat,by omega⟩
  obtain⟨kn,rfl⟩:∃ n:Nat,k=n:=⟨k.toNat,by omega⟩
  obtain rfl:tn=0:=by omega
  obtain rfl:un=0:=by omega
  obtain rfl:an=0:=by omega
  obtain rfl:pl=0:=by omega
  exact xU dn sn kn (by omega) (by omega) (by omega) (by omega)
 ·skip
  have hr:=lN d s t u a k pl 1073741824 hd hs ht hu ha k0 k1
  rw[h] at hr
  simp[dg] at hr
  obtain⟨dn,rfl⟩:∃ n:Nat,d=n:=⟨d.toNat,by omega⟩
  obtain⟨sn,rfl⟩:∃ n:Nat,s=n:=⟨s.toNat,by omega⟩
  obtain⟨tn,rfl⟩:∃ n:Nat,t=n:=⟨t.toNat,by omega⟩
  obtain⟨un,rfl⟩:∃ n:Nat,u=n:=⟨u.toNat,by omega⟩
  obtain⟨an,rfl⟩:∃ n:Nat,a=n:=⟨a.toNat,by omega⟩
  obtain⟨kn,rfl⟩:∃ n:Nat,k=n:=⟨k.toNat,by omega⟩
  obtain rfl:tn=0:=by omega
  obtain rfl:un=0:=by omega
  obtain rfl:an=0:=by omega
  obtain rfl:pl=0:=by omega
  exact xT dn sn kn (by omega) (by omega) (by omega) (by omega)
 ·skip
  have hr:=jS d s t u a k pl 1073741824 hd hs ht hu ha k0 k1
  rw[h] at hr
  simp[dg] at hr
  obtain⟨dn,rfl⟩:∃ n:Nat,d=n:=⟨d.toNat,by omega⟩
  obtain⟨sn,rfl⟩:∃ n:Nat,s=n:=⟨s.toNat,by omega⟩
  obtain⟨tn,rfl⟩:∃ n:Nat,t=n:=⟨t.toNat,by omega⟩
  obtain⟨un,rfl⟩:∃ n:Nat,u=n:=⟨u.toNat,by omega⟩
  obtain⟨an,rfl⟩:∃ n:Nat,a=n:=⟨a.toNat,by omega⟩
  obtain⟨kn,rfl⟩:∃ n:Nat,k=n:=⟨k.toNat,by omega⟩
  obtain rfl:tn=0:=by omega
  obtain rfl:un=0:=by omega
  obtain rfl:an=0:=by omega
  obtain rfl:pl=0:=by omega
  exact xS dn sn kn (by omega) (by omega) (by omega) (by omega)
 ·skip
  have hr:=jR d s t u a k pl 1073741824 hd hs ht hu ha k0 k1
  rw[h] at hr
  simp[dg] at hr
  obtain⟨dn,rfl⟩:∃ n:Nat,d=n:=⟨d.toNat,by omega⟩
  obtain⟨sn,rfl⟩:∃ n:Nat,s=n:=⟨s.toNat,by omega⟩
  obtain⟨tn,rfl⟩:∃ n:Nat,t=n:=⟨t.toNat,by omega⟩
  obtain⟨un,rfl⟩:∃ n:Nat,u=n:=⟨u.toNat,by omega⟩
  obtain⟨an,rfl⟩:∃ n:Nat,a=n:=⟨a.toNat,by omega⟩
  obtain⟨kn,rfl⟩:∃ n:Nat,k=n:=⟨k.toNat,by omega⟩
  obtain rfl:tn=0:=by omega
  obtain rfl:un=0:=by omega
  obtain rfl:an=0:=by omega
  obtain rfl:pl=0:=by omega
  exact xR dn sn kn (by omega) (by omega) (by omega) (by omega)
 ·skip
  have hr:=lM d s t u a k pl 1073741824 hd hs ht hu ha k0 k1
  rw[h] at hr
  simp[dg] at hr
  obtain⟨dn,rfl⟩:∃ n:Nat,d=n:=⟨d.toNat,by omega⟩
  obtain⟨sn,rfl⟩:∃ n:Nat,s=n:=⟨s.toNat,by omega⟩
  obtain⟨tn,rfl⟩:∃ n:Nat,t=n:=⟨t.toNat,by omega⟩
  obtain⟨un,rfl⟩:∃ n:Nat,u=n:=⟨u.toNat,by omega⟩
  obtain⟨an,rfl⟩:∃ n:Nat,a=n:=⟨a.toNat,by omega⟩
  obtain⟨kn,rfl⟩:∃ n:Nat,k=n:=⟨k.toNat,by omega⟩
  obtain rfl:un=0:=by omega
  obtain rfl:an=0:=by omega
  obtain rfl:kn=0:=by omega
  obtain rfl:pl=0:=by omega
  exact xQ dn sn tn (by omega) (by omega) (by omega)
 ·skip
  have hr:=lL d s t u a k pl 1073741824 hd hs ht hu ha k0 k1
  rw[h] at hr
  simp[dg] at hr
  obtain⟨dn,rfl⟩:∃ n:Nat,d=n:=⟨d.toNat,by omega⟩
  obtain⟨sn,rfl⟩:∃ n:Nat,s=n:=⟨s.toNat,by omega⟩
  obtain⟨tn,rfl⟩:∃ n:Nat,t=n:=⟨t.toNat,by omega⟩
  obtain⟨un,rfl⟩:∃ n:Nat,u=n:=⟨u.toNat,by omega⟩
  obtain⟨an,rfl⟩:∃ n:Nat,a=n:=⟨a.toNat,by omega⟩
  obtain⟨kn,rfl⟩:∃ n:Nat,k=n:=⟨k.toNat,by omega⟩
  obtain rfl:dn=0:=by omega
  obtain rfl:un=0:=by omega
  obtain rfl:an=0:=by omega
  obtain rfl:kn=0:=by omega
  obtain⟨pn,rfl⟩:∃ n:Nat,pl=n:=⟨pl.toNat,by omega⟩
  exact xP sn tn pn (by omega) (by omega) (by omega)
 ·skip
  have hr:=lK d s t u a k pl 1073741824 hd hs ht hu ha k0 k1
  rw[h] at hr
  simp[dg] at hr
  obtain⟨dn,rfl⟩:∃ n:Nat,d=n:=⟨d.toNat,by omega⟩
  obtain⟨sn,rfl⟩:∃ n:Nat,s=n:=⟨s.toNat,by omega⟩
  obtain⟨tn,rfl⟩:∃ n:Nat,t=n:=⟨t.toNat,by omega⟩
  obtain⟨un,rfl⟩:∃ n:Nat,u=n:=⟨u.toNat,by omega⟩
  obtain⟨an,rfl⟩:∃ n:Nat,a=n:=⟨a.toNat,by omega⟩
  obtain⟨kn,rfl⟩:∃ n:Nat,k=n:=⟨k.toNat,by omega⟩
  obtain rfl:dn=0:=by omega
  obtain rfl:un=0:=by omega
  obtain rfl:an=0:=by omega
  obtain rfl:kn=0:=by omega
  obtain⟨pn,rfl⟩:∃ n:Nat,pl=n:=⟨pl.toNat,by omega⟩
  exact xO sn tn pn (by omega) (by omega) (by omega)
 ·skip
  have hr:=jJ d s t u a k pl 1073741824 hd hs ht hu ha k0 k1
  rw[h] at hr
  simp[dg] at hr
  obtain⟨dn,rfl⟩:∃ n:Nat,d=n:=⟨d.toNat,by omega⟩
  obtain⟨sn,rfl⟩:∃ n:Nat,s=n:=⟨s.toNat,by omega⟩
  obtain⟨tn,rfl⟩:∃ n:Nat,t=n:=⟨t.toNat,by omega⟩
  obtain⟨un,rfl⟩:∃ n:Nat,u=n:=⟨u.toNat,by omega⟩
  obtain⟨an,rfl⟩:∃ n:Nat,a=n:=⟨a.toNat,by omega⟩
  obtain⟨kn,rfl⟩:∃ n:Nat,k=n:=⟨k.toNat,by omega⟩
  obtain rfl:dn=0:=by omega
  obtain rfl:sn=0:=by omega
  obtain rfl:tn=0:=by omega
  obtain rfl:un=0:=by omega
  obtain rfl:an=0:=by omega
  obtain rfl:kn=0:=by omega
  obtain⟨pn,rfl⟩:∃ n:Nat,pl=n:=⟨pl.toNat,by omega⟩
  exact vr pn (by omega)
 ·skip
  have hr:=jI d s t u a k pl 1073741824 hd hs ht hu ha k0 k1
  rw[h] at hr
  simp[dg] at hr
  obtain⟨dn,rfl⟩:∃ n:Nat,d=n:=⟨d.toNat,by omega⟩
  obtain⟨sn,rfl⟩:∃ n:Nat,s=n:=⟨s.toNat,by omega⟩
  obtain⟨tn,rfl⟩:∃ n:Nat,t=n:=⟨t.toNat,by omega⟩
  obtain⟨un,rfl⟩:∃ n:Nat,u=n:=⟨u.toNat,by omega⟩
  obtain⟨an,rfl⟩:∃ n:Nat,a=n:=⟨a.toNat,by omega⟩
  obtain⟨kn,rfl⟩:∃ n:Nat,k=n:=⟨k.toNat,by omega⟩
  obtain rfl:sn=0:=by omega
  obtain rfl:tn=0:=by omega
  obtain rfl:un=0:=by omega
  obtain rfl:an=0:=by omega
  obtain rfl:kn=0:=by omega
  obtain rfl:pl=0:=by omega
  exact vq dn (by omega)
 ·skip
  have hr:=iF d s t u a k pl 1073741824 hd hs ht hu ha k0 k1
  rw[h] at hr
  simp[dg] at hr
  obtain⟨dn,rfl⟩:∃ n:Nat,d=n:=⟨d.toNat,by omega⟩
  obtain⟨sn,rfl⟩:∃ n:Nat,s=n:=⟨s.toNat,by omega⟩
  obtain⟨tn,rfl⟩:∃ n:Nat,t=n:=⟨t.toNat,by omega⟩
  obtain⟨un,rfl⟩:∃ n:Nat,u=n:=⟨u.toNat,by omega⟩
  obtain⟨an,rfl⟩:∃ n:Nat,a=n:=⟨a.toNat,by omega⟩
  obtain⟨kn,rfl⟩:∃ n:Nat,k=n:=⟨k.toNat,by omega⟩
  obtain rfl:dn=0:=by omega
  obtain rfl:sn=0:=by omega
  obtain rfl:tn=0:=by omega
  obtain rfl:un=0:=by omega
  obtain rfl:an=0:=by omega
  obtain rfl:pl=0:=by omega
  exact vp kn (by omega) (by omega)
 ·skip
  have hr:=iE d s t u a k pl 1073741824 hd hs ht hu ha k0 k1
  rw[h] at hr
  simp[dg] at hr
  obtain⟨dn,rfl⟩:∃ n:Nat,d=n:=⟨d.toNat,by omega⟩
  obtain⟨sn,rfl⟩:∃ n:Nat,s=n:=⟨s.toNat,by omega⟩
  obtain⟨tn,rfl⟩:∃ n:Nat,t=n:=⟨t.toNat,by omega⟩
  obtain⟨un,rfl⟩:∃ n:Nat,u=n:=⟨u.toNat,by omega⟩
  obtain⟨an,rfl⟩:∃ n:Nat,a=n:=⟨a.toNat,by omega⟩
  obtain⟨kn,rfl⟩:∃ n:Nat,k=n:=⟨k.toNat,by omega⟩
  obtain rfl:dn=0:=by omega
  obtain rfl:sn=0:=by omega
  obtain rfl:tn=0:=by omega
  obtain rfl:un=0:=by omega
  obtain rfl:an=0:=by omega
  obtain rfl:pl=0:=by omega
  exact vm kn (by omega) (by omega)
 ·skip
  have hr:=jH d s t u a k pl 1073741824 hd hs ht hu ha k0 k1
  rw[h] at hr
  simp[dg] at hr
  obtain⟨dn,rfl⟩:∃ n:Nat,d=n:=⟨d.toNat,by omega⟩
  obtain⟨sn,rfl⟩:∃ n:Nat,s=n:=⟨s.toNat,by omega⟩
  obtain⟨tn,rfl⟩:∃ n:Nat,t=n:=⟨t.toNat,by omega⟩
  obtain⟨un,rfl⟩:∃ n:Nat,u=n:=⟨u.toNat,by omega⟩
  obtain⟨an,rfl⟩:∃ n:Nat,a=n:=⟨a.toNat,by omega⟩
  obtain⟨kn,rfl⟩:∃ n:Nat,k=n:=⟨k.toNat,by omega⟩
  obtain rfl:tn=0:=by omega
  obtain rfl:un=0:=by omega
  obtain rfl:kn=0:=by omega
  obtain rfl:pl=0:=by omega
  exact vj dn sn an (by omega) (by omega) (by omega)
 ·skip
  have hr:=jG d s t u a k pl 1073741824 hd hs ht hu ha k0 k1
  rw[h] at hr
  simp[dg] at hr
  obtain⟨dn,rfl⟩:∃ n:Nat,d=n:=⟨d.toNat,by omega⟩
  obtain⟨sn,rfl⟩:∃ n:Nat,s=n:=⟨s.toNat,by omega⟩
  obtain⟨tn,rfl⟩:∃ n:Nat,t=n:=⟨t.toNat,by omega⟩
  obtain⟨un,rfl⟩:∃ n:Nat,u=n:=⟨u.toNat,by omega⟩
  obtain⟨an,rfl⟩:∃ n:Nat,a=n:=⟨a.toNat,by omega⟩
  obtain⟨kn,rfl⟩:∃ n:Nat,k=n:=⟨k.toNat,by omega⟩
  obtain rfl:dn=0:=by omega
  obtain rfl:un=0:=by omega
  obtain rfl:kn=0:=by omega
  obtain rfl:pl=0:=by omega
  exact vh sn tn an (by omega) (by omega) (by omega)
 ·skip
  have hr:=jF d s t u a k pl 1073741824 hd hs ht hu ha k0 k1
  rw[h] at hr
  simp[dg] at hr
  obtain⟨dn,rfl⟩:∃ n:Nat,d=n:=⟨d.toNat,by omega⟩
  obtain⟨sn,rfl⟩:∃ n:Nat,s=n:=⟨s.toNat,by omega⟩
  obtain⟨tn,rfl⟩:∃ n:Nat,t=n:=⟨t.toNat,by omega⟩
  obtain⟨un,rfl⟩:∃ n:Nat,u=n:=⟨u.toNat,by omega⟩
  obtain⟨an,rfl⟩:∃ n:Nat,a=n:=⟨a.toNat,by omega⟩
  obtain⟨kn,rfl⟩:∃ n:Nat,k=n:=⟨k.toNat,by omega⟩
  obtain rfl:un=0:=by omega
  obtain rfl:kn=0:=by omega
  obtain rfl:pl=0:=by omega
  exact vf dn sn tn an (by omega) (by omega) (by omega) (by omega)
 ·skip
  have hr:=jE d s t u a k pl 1073741824 hd hs ht hu ha k0 k1
  rw[h] at hr
  simp[dg] at hr
  obtain⟨dn,rfl⟩:∃ n:Nat,d=n:=⟨d.toNat,by omega⟩
  obtain⟨sn,rfl⟩:∃ n:Nat,s=n:=⟨s.toNat,by omega⟩
  obtain⟨tn,rfl⟩:∃ n:Nat,t=n:=⟨t.toNat,by omega⟩
  obtain⟨un,rfl⟩:∃ n:Nat,u=n:=⟨u.toNat,by omega⟩
  obtain⟨an,rfl⟩:∃ n:Nat,a=n:=⟨a.toNat,by omega⟩
  obtain⟨kn,rfl⟩:∃ n:Nat,k=n:=⟨k.toNat,by omega⟩
  obtain rfl:kn=0:=by omega
  obtain rfl:pl=0:=by omega
  exact ve dn sn tn un an (by omega) (by omega) (by omega) (by omega) (by omega)
 ·skip
  have hr:=jD d s t u a k pl 1073741824 hd hs ht hu ha k0 k1
  rw[h] at hr
  simp[dg] at hr
  obtain⟨dn,rfl⟩:∃ n:Nat,d=n:=⟨d.toNat,by omega⟩
  obtain⟨sn,rfl⟩:∃ n:Nat,s=n:=⟨s.toNat,by omega⟩
  obtain⟨tn,rfl⟩:∃ n:Nat,t=n:=⟨t.toNat,by omega⟩
  obtain⟨un,rfl⟩:∃ n:Nat,u=n:=⟨u.toNat,by omega⟩
  obtain⟨an,rfl⟩:∃ n:Nat,a=n:=⟨a.toNat,by omega⟩
  obtain⟨kn,rfl⟩:∃ n:Nat,k=n:=⟨k.toNat,by omega⟩
  obtain rfl:tn=0:=by omega
  obtain rfl:un=0:=by omega
  obtain rfl:pl=0:=by omega
  exact vd dn sn an kn (by omega) (by omega) (by omega) (by omega) (by omega)
 ·skip
  have hr:=gM d s t u a k pl 1073741824 hd hs ht hu ha k0 k1
  rw[h] at hr
  simp[dg] at hr
  obtain⟨dn,rfl⟩:∃ n:Nat,d=n:=⟨d.toNat,by omega⟩
  obtain⟨sn,rfl⟩:∃ n:Nat,s=n:=⟨s.toNat,by omega⟩
  obtain⟨tn,rfl⟩:∃ n:Nat,t=n:=⟨t.toNat,by omega⟩
  obtain⟨un,rfl⟩:∃ n:Nat,u=n:=⟨u.toNat,by omega⟩
  obtain⟨an,rfl⟩:∃ n:Nat,a=n:=⟨a.toNat,by omega⟩
  obtain⟨kn,rfl⟩:∃ n:Nat,k=n:=⟨k.toNat,by omega⟩
  obtain rfl:un=0:=by omega
  by_cases hm:pl=-1
  ·subst hm
   by_cases hk:kn=0
   ·subst hk;exact oM dn sn tn an 0 (by omega) (by omega) (by omega) (by omega) (by omega)
   ·obtain rfl:kn=1:=by omega
    exact oK dn sn tn an 0 (by omega) (by omega) (by omega) (by omega) (by omega)
  ·obtain⟨pn,rfl⟩:∃ n:Nat,pl=n:=⟨pl.toNat,by omega⟩
   by_cases hk:kn=0
   ·subst hk;exact oL dn sn tn an pn (by omega) (by omega) (by omega) (by omega) (by omega)
   ·obtain rfl:kn=1:=by omega
    exact oJ dn sn tn an pn (by omega) (by omega) (by omega) (by omega) (by omega)
 ·skip
  have hr:=jC d s t u a k pl 1073741824 hd hs ht hu ha k0 k1
  rw[h] at hr
  simp[dg] at hr
  obtain⟨dn,rfl⟩:∃ n:Nat,d=n:=⟨d.toNat,by omega⟩
  obtain⟨sn,rfl⟩:∃ n:Nat,s=n:=⟨s.toNat,by omega⟩
  obtain⟨tn,rfl⟩:∃ n:Nat,t=n:=⟨t.toNat,by omega⟩
  obtain⟨un,rfl⟩:∃ n:Nat,u=n:=⟨u.toNat,by omega⟩
  obtain⟨an,rfl⟩:∃ n:Nat,a=n:=⟨a.toNat,by omega⟩
  obtain⟨kn,rfl⟩:∃ n:Nat,k=n:=⟨k.toNat,by omega⟩
  obtain rfl:sn=0:=by omega
  obtain rfl:tn=0:=by omega
  obtain rfl:un=0:=by omega
  obtain rfl:an=0:=by omega
  obtain rfl:kn=0:=by omega
  obtain rfl:pl=0:=by omega
  exact vb dn (by omega)
 ·skip
  have hr:=jB d s t u a k pl 1073741824 hd hs ht hu ha k0 k1
  rw[h] at hr
  simp[dg] at hr
  obtain⟨dn,rfl⟩:∃ n:Nat,d=n:=⟨d.toNat,by omega⟩
  obtain⟨sn,rfl⟩:∃ n:Nat,s=n:=⟨s.toNat,by omega⟩
  obtain⟨tn,rfl⟩:∃ n:Nat,t=n:=⟨t.toNat,by omega⟩
  obtain⟨un,rfl⟩:∃ n:Nat,u=n:=⟨u.toNat,by omega⟩
  obtain⟨an,rfl⟩:∃ n:Nat,a=n:=⟨a.toNat,by omega⟩
  obtain⟨kn,rfl⟩:∃ n:Nat,k=n:=⟨k.toNat,by omega⟩
  obtain rfl:dn=0:=by omega
  obtain rfl:tn=0:=by omega
  obtain rfl:un=0:=by omega
  obtain rfl:an=0:=by omega
  obtain rfl:kn=0:=by omega
  obtain rfl:pl=0:=by omega
  exact uZ sn (by omega)
 ·exfalso
  unfold au at h
  simp only[(dv hn).1] at h
  cases h
theorem rZ (i:aM)(h:au i 1073741824=Q)(k0:0<=i.k)(k1:i.k<4294967296):jg (af i)=Q/\aC (af i)=i:=by
 have e:=pV i h k0 k1
 refine⟨?_,e⟩
 unfold jg
 rw[e,h]
 simp
end
section
open Go.ChangeShapes Go.WideShapes Go.ChangeAt Go.RowKit
def iV (s:List UInt8):Int:=
 if s.length=2/\(s.getD 0 0).toNat=114/\48<=(s.getD 1 0).toNat/\(s.getD 1 0).toNat<=55 then ((s.getD 1 0).toNat:Int)-48 else -1
theorem uB (s:List UInt8)(hl:s.length<100000)(w:World):
 Calls Tryz.prog 156 #[bs s] w fun e w'=>e=.returned (.int .i64 (iV s))/\w=w':=by
 have E:iV s=if s.length=2/\(s.getD 0 0).toNat=114/\48<=(s.getD 1 0).toNat/\(s.getD 1 0).toNat<=55 then ((s.getD 1 0).toNat:Int)-48 else -1:=rfl
 generalize iV s=r at *
 unfold bs
 by_cases h2:s.length=2
 ·have i0:∀ w,(Instr.index 9 (.string ⟨s.toArray⟩) (.int .i64 0)).run Tryz.prog w=.ok (.int .u8 ((s.getD 0 0).toNat:Int)) w:=eD s 0 (by omega)
  have i1:∀ w,(Instr.index 9 (.string ⟨s.toArray⟩) (.int .i64 1)).run Tryz.prog w=.ok (.int .u8 ((s.getD 1 0).toNat:Int)) w:=eD s 1 (by omega)
  generalize (s.getD 0 0).toNat=x at *
  generalize (s.getD 1 0).toNat=y at *
  have dl:((s.length:Int) != 2)=I:=by simp;omega
  by_cases h1:x=114
  ·subst h1
   by_cases h3:y<48
   ·have HE:=N (E.trans (if_neg (by omega)))
    clear E h2
    have d:(y:Int)<48:=by omega
    have d0:((114:Nat):Int)=114:=rfl
    rw[d0] at i0
    clear d0
    go_enter Tryz.func156,Tryz.ntmps156
    go_wp2
    go_ret
    exact⟨br HE.out.symm,rfl⟩
   have d0:((114:Nat):Int)=114:=rfl
   rw[d0] at i0
   clear d0
   by_cases h4:55<y
   ·have HE:=N (E.trans (if_neg (by omega)))
    clear E h2
    have d:decide ((y:Int)<48)=I:=by simp;omega
    have d2:(y:Int) > 55:=by omega
    go_enter Tryz.func156,Tryz.ntmps156
    go_wp2
    go_ret
    exact⟨br HE.out.symm,rfl⟩
   ·have HE:=N (E.trans (if_pos (by omega)))
    clear E h2
    have d:decide ((y:Int)<48)=I:=by simp;omega
    have d2:decide ((y:Int) > 55)=I:=by simp;omega
    have d3:48<=(y:Int):=by omega
    have d4:(y:Int)<=55:=by omega
    go_enter Tryz.func156,Tryz.ntmps156
    go_wp2
    go_ret
    exact⟨br HE.out.symm,rfl⟩
  ·have HE:=N (E.trans (if_neg (by omega)))
   clear E h2
   have d:((x:Int) != 114)=Q:=by simp;omega
   go_enter Tryz.func156,Tryz.ntmps156
   go_wp2
   go_ret
   exact⟨br HE.out.symm,rfl⟩
 ·have HE:=N (E.trans (if_neg (by omega)))
  have d:((s.length:Int) != 2)=Q:=by simp;omega
  clear E
  go_enter Tryz.func156,Tryz.ntmps156
  go_wp2
  go_ret
  exact⟨br HE.out.symm,rfl⟩
def du (acc:Int):List UInt8->Option Int
 | []=>some acc
 | c :: r=>if 48<=c.toNat/\c.toNat<=57 then du (acc*10+((c.toNat:Int)-48)) r else none
def pI:Option Int->Int
 | none=>-1
 | some n=>if 4294967295<n then -1 else n
def kV (s:List UInt8):Int:=
 if s=[]\/10<s.length\/(1<s.length/\(s.getD 0 0).toNat=48) then -1 else pI (du 0 s)
theorem oI (acc:Int)(s:List UInt8)(k:Nat)(h:k<s.length):
 du acc (s.drop k)=if 48<=(s.getD k 0).toNat/\(s.getD k 0).toNat<=57 then du (acc*10+(((s.getD k 0).toNat:Int)-48)) (s.drop (k+1)) else none:=by
 rw[List.drop_eq_getElem_cons h]
 simp[du,h]
def wK:Nat->Int
 | 0=>1
 | n+1=>wK n*10
theorem Ag:∀ k,k<=10->1<=wK k/\wK k<=10000000000:=by
 intro k hk
 have:k=0\/k=1\/k=2\/k=3\/k=4\/k=5\/k=6\/k=7\/k=8\/k=9\/k=10:=by omega
 rcases this with rfl|rfl|rfl|rfl|rfl|rfl|rfl|rfl|rfl|rfl|rfl <;> decide
theorem Ar (s:List UInt8)(hl:s.length<100000)(w:World):
 Calls Tryz.prog 157 #[bs s] w fun e w'=>e=.returned (.int .i64 (kV s))/\w=w':=by
 have E:kV s=if s=[]\/10<s.length\/(1<s.length/\(s.getD 0 0).toNat=48) then -1 else pI (du 0 s):=rfl
 generalize kV s=r at *
 by_cases h0:s=[]
 ·subst h0
  have HE:=N (E.trans (if_pos (.inl rfl)))
  clear E
  unfold bs
  go_enter Tryz.func157,Tryz.ntmps157
  go_wp2
  go_ret
  exact⟨br HE.out.symm,rfl⟩
 have he:s.isEmpty=I:=by simpa using h0
 have hpos:0<s.length:=List.length_pos_iff.2 h0
 by_cases h10:10<s.length
 ·have HE:=N (E.trans (if_pos (.inr (.inl h10))))
  have d:(s.length:Int) > 10:=by omega
  clear E h0
  unfold bs
  go_enter Tryz.func157,Tryz.ntmps157
  go_wp2
  go_ret
  exact⟨br HE.out.symm,rfl⟩
 have d10:decide ((s.length:Int) > 10)=I:=by simp;omega
 have i0:∀ w,(Instr.index 9 (.string ⟨s.toArray⟩) (.int .i64 0)).run Tryz.prog w=.ok (.int .u8 ((s.getD 0 0).toNat:Int)) w:=eD s 0 hpos
 by_cases h1:1<s.length/\(s.getD 0 0).toNat=48
 ·have HE:=N (E.trans (if_pos (.inr (.inr h1))))
  obtain⟨h1,h48⟩:=h1
  rw[h48] at i0
  have d0:((48:Nat):Int)=48:=rfl
  rw[d0] at i0
  clear d0
  have d:(s.length:Int) > 1:=by omega
  clear E h0 h48
  unfold bs
  go_enter Tryz.func157,Tryz.ntmps157
  go_wp2
  go_ret
  exact⟨br HE.out.symm,rfl⟩
 have E2:r=pI (du 0 s):=E.trans (if_neg (by
  rintro(h | h | h)
  ·exact h0 h
  ·exact h10 h
  ·exact h1 h))
 have HE:=N E2
 clear E E2
 have HK:=N (Ag)
 generalize (s.getD 0 0).toNat=c0 at *
 unfold bs
 have hgo:∀ (K:Prop),((decide ((s.length:Int) > 1)=I->K)/\(decide ((s.length:Int) > 1)=Q->((c0:Int)==48)=I->K))->K:=by
  intro K hK
  by_cases h:s.length=1
  ·exact hK.1 (by simp;omega)
  ·have:c0≠48:=fun e=>h1 ⟨by omega,e⟩
   exact hK.2 (by simp;omega) (by simp;omega)
 refine hgo _ ⟨fun hd1=>?_,fun hd1 hd2=>?_⟩
 all_goals
  clear hgo h0 h1
  go_enter Tryz.func157,Tryz.ntmps157
  go_wp2
  go_loop [3,4] (fun n i=>∃ (k:Nat) (v:Int),k<=s.length/\i=.int .i64 k/\n=.int .i64 v/\0<=v/\v<wK k/\r=pI (du v (s.drop k))) (fun _ i=>s.length-(intOf i).toNat)
  case atStart=>exact⟨0,0,Nat.zero_le _,rfl,rfl,by omega,by decide,HE.out⟩
  case round=>
   obtain⟨k,v,hk,rfl,rfl,v0,v1,hr⟩:=hrel
   obtain⟨q0,q1⟩:=HK.out k (by omega)
   by_cases hlt:k<s.length
   ·have ix:=eD s k hlt
    rw[oI v s k hlt] at hr
    have hrf:wK (k+1)=wK k*10:=rfl
    have hu:=(s.getD k 0).toNat_lt
    generalize (s.getD k 0).toNat=c at *
    have HR:=N hr
    have HF:=N hrf
    clear hr hrf
    by_cases c1:c<48
    ·rw[if_neg (by omega)] at HR
     have d1:(c:Int)<48:=by omega
     go_wp2
     go_ret
     exact⟨br HR.out.symm,rfl⟩
    by_cases c2:57<c
    ·rw[if_neg (by omega)] at HR
     have d1:decide ((c:Int)<48)=I:=by simp;omega
     have d2:(c:Int) > 57:=by omega
     go_wp2
     go_ret
     exact⟨br HR.out.symm,rfl⟩
    ·rw[if_pos (by omega)] at HR
     have d1:decide ((c:Int)<48)=I:=by simp;omega
     have d2:decide ((c:Int) > 57)=I:=by simp;omega
     have d3:48<=(c:Int):=by omega
     have d4:(c:Int)<=57:=by omega
     have hv9:v<10000000000:=by omega
     have hk10:(k:Int)<=10:=by omega
     go_wp2
     go_round
     case rel=>exact⟨k+1,v*10+((c:Int)-48),by omega,by go_num,rfl,by omega,by rw[HF.out];omega,HR.out⟩
     case measure=>simp[intOf];omega
   ·obtain rfl:k=s.length:=by omega
    rw[List.drop_length] at hr
    have HR:=N (show r=if 4294967295<v then -1 else v from hr)
    clear hr
    by_cases hv:4294967295<v
    ·rw[if_pos hv] at HR
     go_wp2
     go_ret
     exact⟨br HR.out.symm,rfl⟩
    ·rw[if_neg hv] at HR
     go_wp2
     go_ret
     exact⟨br HR.out.symm,rfl⟩
end
section
def eM (w:List UInt8):Nat->Int
 | 0=>0
 | n+1=>if (bE ((n:Int)+1)).isEmpty=I/\bE ((n:Int)+1)=w then (n:Int)+1 else eM w n
def kf (w:List UInt8):Bool:=decide (0<=iV w) || (decide (0<=kV w) || (decide (w=[110,101]) || (decide (w=[101,113]) || decide (w=[101,108,115,101]))))
def it (w:List UInt8):List Int:=if 0<=iV w then [iV w] else []
def iy (w:List UInt8):List Int:=if 0<=iV w then [] else if 0<=kV w then [kV w] else []
def kW (w:List UInt8):Bool:=!decide (0<=iV w) && (!decide (0<=kV w) && decide (w=[110,101]))
def bF (l:List (List UInt8)):List Int:=l.flatMap it
def bT (l:List (List UInt8)):List Int:=l.flatMap iy
def lA (l:List (List UInt8)):Int:=if l.any kW=Q then 1 else 0
def cq (n:Nat)(v:Int)(l:List Int):List Int:=l++List.replicate (n-l.length) v
def cP (op:Int)(rs ns:List Int)(k:Int):aM:=
 if op=1\/op=3\/op=4\/op=5\/op=6 then ⟨op,aG rs 0,aG rs 1,aG rs 2,0,0,aG ns 0 % 4294967296,0⟩
 else if op=2\/op=7\/op=11\/op=22 then ⟨op,aG rs 0,aG rs 1,aG rs 2,0,0,k,0⟩
 else if op=8\/op=9\/op=10 then ⟨op,0,aG rs 0,aG rs 1,0,0,k,aG ns 0⟩
 else if op=12\/op=13 then ⟨op,0,0,0,0,0,aG ns 0 % 4294967296,0⟩
 else if op=16\/op=18\/op=19 then ⟨op,aG rs 0,aG rs 1,aG rs 2,aG rs 3,aG ns 0,k,0⟩
 else if op=20 then ⟨op,aG rs 0,aG rs 1,aG rs 2,aG rs 3,aG ns 0,aG ns 1 % 4294967296,0⟩
 else if op=21 then ⟨op,aG rs 0,aG rs 1,aG rs 2,aG rs 3,aG ns 0,k,aG ns 1⟩
 else if op=17 then ⟨op,0,aG rs 0,aG rs 1,0,aG ns 0,k,0⟩
 else if op=23 then ⟨op,0,aG rs 0,0,0,0,k,0⟩
 else ⟨op,0,0,0,0,0,k,0⟩
def aJ (ws:List (List UInt8)):aM:=cP (eM (ws.getD 0 []) 23) (cq 4 0 (bF ws.tail)) (cq 2 (-1) (bT ws.tail)) (lA ws.tail)
def jV (s:List UInt8):Bool:=(ah s).tail.all kf && (au (aJ (ah s)) 1073741824 && decide (af (aJ (ah s))=s))
theorem kS:∀ (a b:List UInt8) (acc u:Int),du acc a=some u->du acc (a++b)=du u b
 | [],b,acc,u,h=>by simp[du] at h;subst h;rfl
 | c :: a,b,acc,u,h=>by
  simp only[du,List.cons_append] at h ⊢
  split at h
  ·rename_i h1
   rw[if_pos h1]
   exact kS a b _ u h
  ·cases h
theorem p5:∀ (n:Nat),du 0 (Lib.decDigits n)=some (n:Int):=by
 intro n
 induction n using Nat.strongRecOn with
 | _ n ih=>
  rw[Lib.decDigits]
  by_cases h:n<10
  ·rw[dif_pos h]
   have e:(UInt8.ofNat (48+n)).toNat=48+n:=by rw[UInt8.toNat_ofNat',Nat.mod_eq_of_lt (by omega)]
   simp only[du,e]
   rw[if_pos (by omega)]
   congr 1
   omega
  ·rw[dif_neg h,kS _ _ _ _ (ih (n / 10) (by omega))]
   have e:(UInt8.ofNat (48+n % 10)).toNat=48+n % 10:=by rw[UInt8.toNat_ofNat',Nat.mod_eq_of_lt (by omega)]
   simp only[du,e]
   rw[if_pos (by omega)]
   congr 1
   omega
theorem vE:∀ (m n:Nat),n<10 ^ (m+1)->(Lib.decDigits n).length<=m+1:=by
 intro m
 induction m with
 | zero=>intro n h;rw[Lib.decDigits,dif_pos (by simpa using h)];simp
 | succ m ih=>
  intro n h
  rw[Lib.decDigits]
  by_cases h9:n<10
  ·rw[dif_pos h9];simp
  ·rw[dif_neg h9]
   have h2:n / 10<10 ^ (m+1):=by
    rw[Nat.div_lt_iff_lt_mul (by decide)]
    rw[Nat.pow_succ] at h
    exact h
   have:=ih _ h2
   simp
   omega
theorem Ax (n:Nat)(h:n<4294967296):kV (Lib.decDigits n)=n:=by
 have hf:=p5 n
 have hl:=vE 9 n (by
  have:(10:Nat) ^ (9+1)=10000000000:=by decide
  omega)
 obtain⟨c,r,e,h1,h2,h3⟩:=iH n
 have h10:1<(Lib.decDigits n).length->10<=n:=by
  intro hh
  by_cases hn:n<10
  ·rw[Lib.decDigits,dif_pos hn] at hh;simp at hh
  ·omega
 unfold kV
 rw[if_neg,hf]
 ·show (if 4294967295<(n:Int) then -1 else (n:Int))=n
  rw[if_neg (by omega)]
 ·rintro(hh | hh | ⟨hh,hz⟩)
  ·rw[e] at hh;cases hh
  ·omega
  ·have:=h3 (h10 hh)
   rw[e] at hz
   simp at hz
   omega
theorem Ai (n:Nat):iV (Lib.decDigits n)=-1:=by
 obtain⟨c,r,e,h1,h2,-⟩:=iH n
 unfold iV
 rw[if_neg]
 rintro⟨-,hh,-⟩
 rw[e] at hh
 simp at hh
 omega
theorem Ah (n:Nat)(h:n<=7):iV (dC n)=n:=by
 unfold dC
 rw[Lib.decDigits,dif_pos (by omega)]
 have e:(UInt8.ofNat (48+n)).toNat=48+n:=by rw[UInt8.toNat_ofNat',Nat.mod_eq_of_lt (by omega)]
 unfold iV
 rw[if_pos]
 ·simp only[List.getD_cons_succ,List.getD_cons_zero,e];omega
 ·refine⟨rfl,rfl,?_⟩
  simp only[List.getD_cons_succ,List.getD_cons_zero,e]
  omega
theorem bH (n:Nat)(h:n<=7):kf (dC n)=Q/\it (dC n)=[(n:Int)]/\iy (dC n)=[]/\kW (dC n)=I:=by
 have e:=Ah n h
 unfold kf it iy kW
 rw[e]
 have h0:(0:Int)<=(n:Int):=by omega
 simp[h0]
theorem dW (n:Nat)(h:n<4294967296):kf (Lib.decDigits n)=Q/\it (Lib.decDigits n)=[]/\iy (Lib.decDigits n)=[(n:Int)]/\kW (Lib.decDigits n)=I:=by
 have e:=Ax n h
 have e2:=Ai n
 unfold kf it iy kW
 rw[e,e2]
 have h0:(0:Int)<=(n:Int):=by omega
 simp[h0]
theorem EJ:kf [101,113]=Q/\it [101,113]=[]/\iy [101,113]=[]/\kW [101,113]=I:=by decide
theorem EI:kf [110,101]=Q/\it [110,101]=[]/\iy [110,101]=[]/\kW [110,101]=Q:=by decide
theorem pE:kf [101,108,115,101]=Q/\it [101,108,115,101]=[]/\iy [101,108,115,101]=[]/\kW [101,108,115,101]=I:=by decide
theorem vC (dn kn:Nat)(hdn:dn<=7)(hkn:kn<4294967296):(ah (af ⟨1,(dn:Nat),0,0,0,0,(kn:Nat),0⟩)).tail.all kf=Q/\aJ (ah (af ⟨1,(dn:Nat),0,0,0,0,(kn:Nat),0⟩))=⟨1,(dn:Nat),0,0,0,0,(kn:Nat),0⟩:=by
 obtain⟨adn,bdn,cdn,ddn⟩:=bH dn hdn
 obtain⟨akn,bkn,ckn,dkn⟩:=dW kn hkn
 rw[pa]
 have e:eM (bE 1) 23=1:=by decide
 refine⟨by simp[adn,akn],?_⟩
 simp[aJ,e,bF,bT,bdn,cdn,bkn,ckn,cq,cP,aG]
 omega
theorem vB (dn sn:Nat)(hdn:dn<=7)(hsn:sn<=7):(ah (af ⟨2,(dn:Nat),(sn:Nat),0,0,0,0,0⟩)).tail.all kf=Q/\aJ (ah (af ⟨2,(dn:Nat),(sn:Nat),0,0,0,0,0⟩))=⟨2,(dn:Nat),(sn:Nat),0,0,0,0,0⟩:=by
 obtain⟨adn,bdn,cdn,ddn⟩:=bH dn hdn
 obtain⟨asn,bsn,csn,dsn⟩:=bH sn hsn
 rw[oZ]
 have e:eM (bE 2) 23=2:=by decide
 refine⟨by simp[adn,asn],?_⟩
 simp[aJ,e,bF,lA,bdn,ddn,bsn,dsn,cq,cP,aG]
theorem vA (dn sn kn:Nat)(hdn:dn<=7)(hsn:sn<=7)(hkn:kn<4294967296):(ah (af ⟨3,(dn:Nat),(sn:Nat),0,0,0,(kn:Nat),0⟩)).tail.all kf=Q/\aJ (ah (af ⟨3,(dn:Nat),(sn:Nat),0,0,0,(kn:Nat),0⟩))=⟨3,(dn:Nat),(sn:Nat),0,0,0,(kn:Nat),0⟩:=by
 obtain⟨adn,bdn,cdn,ddn⟩:=bH dn hdn
 obtain⟨asn,bsn,csn,dsn⟩:=bH sn hsn
 obtain⟨akn,bkn,ckn,dkn⟩:=dW kn hkn
 rw[oY]
 have e:eM (bE 3) 23=3:=by decide
 refine⟨by simp[adn,asn,akn],?_⟩
 simp[aJ,e,bF,bT,bdn,cdn,bsn,csn,bkn,ckn,cq,cP,aG]
 omega
theorem vz (dn sn kn:Nat)(hdn:dn<=7)(hsn:sn<=7)(hkn:kn<4294967296):(ah (af ⟨4,(dn:Nat),(sn:Nat),0,0,0,(kn:Nat),0⟩)).tail.all kf=Q/\aJ (ah (af ⟨4,(dn:Nat),(sn:Nat),0,0,0,(kn:Nat),0⟩))=⟨4,(dn:Nat),(sn:Nat),0,0,0,(kn:Nat),0⟩:=by
 obtain⟨adn,bdn,cdn,ddn⟩:=bH dn hdn
 obtain⟨asn,bsn,csn,dsn⟩:=bH sn hsn
 obtain⟨akn,bkn,ckn,dkn⟩:=dW kn hkn
 rw[oX]
 have e:eM (bE 4) 23=4:=by decide
 refine⟨by simp[adn,asn,akn],?_⟩
 simp[aJ,e,bF,bT,bdn,cdn,bsn,csn,bkn,ckn,cq,cP,aG]
 omega
theorem vy (dn sn kn:Nat)(hdn:dn<=7)(hsn:sn<=7)(hkn:kn<4294967296):(ah (af ⟨5,(dn:Nat),(sn:Nat),0,0,0,(kn:Nat),0⟩)).tail.all kf=Q/\aJ (ah (af ⟨5,(dn:Nat),(sn:Nat),0,0,0,(kn:Nat),0⟩))=⟨5,(dn:Nat),(sn:Nat),0,0,0,(kn:Nat),0⟩:=by
 obtain⟨adn,bdn,cdn,ddn⟩:=bH dn hdn
 obtain⟨asn,bsn,csn,dsn⟩:=bH sn hsn
 obtain⟨akn,bkn,ckn,dkn⟩:=dW kn hkn
 rw[oW]
 have e:eM (bE 5) 23=5:=by decide
 refine⟨by simp[adn,asn,akn],?_⟩
 simp[aJ,e,bF,bT,bdn,cdn,bsn,csn,bkn,ckn,cq,cP,aG]
 omega
theorem vx (dn sn kn:Nat)(hdn:dn<=7)(hsn:sn<=7)(hkn:kn<4294967296):(ah (af ⟨6,(dn:Nat),(sn:Nat),0,0,0,(kn:Nat),0⟩)).tail.all kf=Q/\aJ (ah (af ⟨6,(dn:Nat),(sn:Nat),0,0,0,(kn:Nat),0⟩))=⟨6,(dn:Nat),(sn:Nat),0,0,0,(kn:Nat),0⟩:=by
 obtain⟨adn,bdn,cdn,ddn⟩:=bH dn hdn
 obtain⟨asn,bsn,csn,dsn⟩:=bH sn hsn
 obtain⟨akn,bkn,ckn,dkn⟩:=dW kn hkn
 rw[oV]
 have e:eM (bE 6) 23=6:=by decide
 refine⟨by simp[adn,asn,akn],?_⟩
 simp[aJ,e,bF,bT,bdn,cdn,bsn,csn,bkn,ckn,cq,cP,aG]
 omega
theorem vw (dn sn tn:Nat)(hdn:dn<=7)(hsn:sn<=7)(htn:tn<=7):(ah (af ⟨7,(dn:Nat),(sn:Nat),(tn:Nat),0,0,0,0⟩)).tail.all kf=Q/\aJ (ah (af ⟨7,(dn:Nat),(sn:Nat),(tn:Nat),0,0,0,0⟩))=⟨7,(dn:Nat),(sn:Nat),(tn:Nat),0,0,0,0⟩:=by
 obtain⟨adn,bdn,cdn,ddn⟩:=bH dn hdn
 obtain⟨asn,bsn,csn,dsn⟩:=bH sn hsn
 obtain⟨atn,btn,ctn,dtn⟩:=bH tn htn
 rw[oU]
 have e:eM (bE 7) 23=7:=by decide
 refine⟨by simp[adn,asn,atn],?_⟩
 simp[aJ,e,bF,lA,bdn,ddn,bsn,dsn,btn,dtn,cq,cP,aG]
theorem vu (sn tn pn:Nat)(hsn:sn<=7)(htn:tn<=7)(hpn:pn<4294967296):(ah (af ⟨8,0,(sn:Nat),(tn:Nat),0,0,0,(pn:Nat)⟩)).tail.all kf=Q/\aJ (ah (af ⟨8,0,(sn:Nat),(tn:Nat),0,0,0,(pn:Nat)⟩))=⟨8,0,(sn:Nat),(tn:Nat),0,0,0,(pn:Nat)⟩:=by
 obtain⟨asn,bsn,csn,dsn⟩:=bH sn hsn
 obtain⟨atn,btn,ctn,dtn⟩:=bH tn htn
 obtain⟨apn,bpn,cpn,dpn⟩:=dW pn hpn
 rw[oT]
 have e:eM (bE 8) 23=8:=by decide
 refine⟨by simp[asn,atn,apn],?_⟩
 simp[aJ,e,bF,bT,lA,bsn,csn,dsn,btn,ctn,dtn,bpn,cpn,dpn,cq,cP,aG]
theorem vt (sn tn pn:Nat)(hsn:sn<=7)(htn:tn<=7)(hpn:pn<4294967296):(ah (af ⟨9,0,(sn:Nat),(tn:Nat),0,0,0,(pn:Nat)⟩)).tail.all kf=Q/\aJ (ah (af ⟨9,0,(sn:Nat),(tn:Nat),0,0,0,(pn:Nat)⟩))=⟨9,0,(sn:Nat),(tn:Nat),0,0,0,(pn:Nat)⟩:=by
 obtain⟨asn,bsn,csn,dsn⟩:=bH sn hsn
 obtain⟨atn,btn,ctn,dtn⟩:=bH tn htn
 obtain⟨apn,bpn,cpn,dpn⟩:=dW pn hpn
 rw[oS]
 have e:eM (bE 9) 23=9:=by decide
 refine⟨by simp[asn,atn,apn],?_⟩
 simp[aJ,e,bF,bT,lA,bsn,csn,dsn,btn,ctn,dtn,bpn,cpn,dpn,cq,cP,aG]
theorem sH (pn:Nat)(hpn:pn<4294967296):(ah (af ⟨10,0,0,0,0,0,0,(pn:Nat)⟩)).tail.all kf=Q/\aJ (ah (af ⟨10,0,0,0,0,0,0,(pn:Nat)⟩))=⟨10,0,0,0,0,0,0,(pn:Nat)⟩:=by
 obtain⟨apn,bpn,cpn,dpn⟩:=dW pn hpn
 rw[mK]
 have e:eM (bE 10) 23=10:=by decide
 refine⟨by simp[apn],?_⟩
 simp[aJ,e,bF,bT,lA,bpn,cpn,dpn,cq,cP,aG]
theorem sG (dn:Nat)(hdn:dn<=7):(ah (af ⟨11,(dn:Nat),0,0,0,0,0,0⟩)).tail.all kf=Q/\aJ (ah (af ⟨11,(dn:Nat),0,0,0,0,0,0⟩))=⟨11,(dn:Nat),0,0,0,0,0,0⟩:=by
 obtain⟨adn,bdn,cdn,ddn⟩:=bH dn hdn
 rw[mJ]
 have e:eM (bE 11) 23=11:=by decide
 refine⟨by simp[adn],?_⟩
 simp[aJ,e,bF,lA,bdn,ddn,cq,cP,aG]
theorem sx (dn:Nat)(hdn:dn<=7):(ah (af ⟨22,(dn:Nat),0,0,0,0,0,0⟩)).tail.all kf=Q/\aJ (ah (af ⟨22,(dn:Nat),0,0,0,0,0,0⟩))=⟨22,(dn:Nat),0,0,0,0,0,0⟩:=by
 obtain⟨adn,bdn,cdn,ddn⟩:=bH dn hdn
 rw[mB]
 have e:eM (bE 22) 23=22:=by decide
 refine⟨by simp[adn],?_⟩
 simp[aJ,e,bF,lA,bdn,ddn,cq,cP,aG]
theorem sF (kn:Nat)(hkn:kn<4294967296):(ah (af ⟨12,0,0,0,0,0,(kn:Nat),0⟩)).tail.all kf=Q/\aJ (ah (af ⟨12,0,0,0,0,0,(kn:Nat),0⟩))=⟨12,0,0,0,0,0,(kn:Nat),0⟩:=by
 obtain⟨akn,bkn,ckn,dkn⟩:=dW kn hkn
 rw[mI]
 have e:eM (bE 12) 23=12:=by decide
 refine⟨by simp[akn],?_⟩
 simp[aJ,e,bT,ckn,cq,cP,aG]
 omega
theorem sE (kn:Nat)(hkn:kn<4294967296):(ah (af ⟨13,0,0,0,0,0,(kn:Nat),0⟩)).tail.all kf=Q/\aJ (ah (af ⟨13,0,0,0,0,0,(kn:Nat),0⟩))=⟨13,0,0,0,0,0,(kn:Nat),0⟩:=by
 obtain⟨akn,bkn,ckn,dkn⟩:=dW kn hkn
 rw[mH]
 have e:eM (bE 13) 23=13:=by decide
 refine⟨by simp[akn],?_⟩
 simp[aJ,e,bT,ckn,cq,cP,aG]
 omega
theorem sD (dn sn an:Nat)(hdn:dn<=7)(hsn:sn<=7)(han:an<4294967296):(ah (af ⟨16,(dn:Nat),(sn:Nat),0,0,(an:Nat),0,0⟩)).tail.all kf=Q/\aJ (ah (af ⟨16,(dn:Nat),(sn:Nat),0,0,(an:Nat),0,0⟩))=⟨16,(dn:Nat),(sn:Nat),0,0,(an:Nat),0,0⟩:=by
 obtain⟨adn,bdn,cdn,ddn⟩:=bH dn hdn
 obtain⟨asn,bsn,csn,dsn⟩:=bH sn hsn
 obtain⟨aan,ban,can,dan⟩:=dW an han
 rw[mG]
 have e:eM (bE 16) 23=16:=by decide
 refine⟨by simp[adn,asn,aan],?_⟩
 simp[aJ,e,bF,bT,lA,bdn,cdn,ddn,bsn,csn,dsn,ban,can,dan,cq,cP,aG]
theorem sC (sn tn an:Nat)(hsn:sn<=7)(htn:tn<=7)(han:an<4294967296):(ah (af ⟨17,0,(sn:Nat),(tn:Nat),0,(an:Nat),0,0⟩)).tail.all kf=Q/\aJ (ah (af ⟨17,0,(sn:Nat),(tn:Nat),0,(an:Nat),0,0⟩))=⟨17,0,(sn:Nat),(tn:Nat),0,(an:Nat),0,0⟩:=by
 obtain⟨asn,bsn,csn,dsn⟩:=bH sn hsn
 obtain⟨atn,btn,ctn,dtn⟩:=bH tn htn
 obtain⟨aan,ban,can,dan⟩:=dW an han
 rw[mF]
 have e:eM (bE 17) 23=17:=by decide
 refine⟨by simp[asn,atn,aan],?_⟩
 simp[aJ,e,bF,bT,lA,bsn,csn,dsn,btn,ctn,dtn,ban,can,dan,cq,cP,aG]
theorem sB (dn sn tn an:Nat)(hdn:dn<=7)(hsn:sn<=7)(htn:tn<=7)(han:an<4294967296):(ah (af ⟨18,(dn:Nat),(sn:Nat),(tn:Nat),0,(an:Nat),0,0⟩)).tail.all kf=Q/\aJ (ah (af ⟨18,(dn:Nat),(sn:Nat),(tn:Nat),0,(an:Nat),0,0⟩))=⟨18,(dn:Nat),(sn:Nat),(tn:Nat),0,(an:Nat),0,0⟩:=by
 obtain⟨adn,bdn,cdn,ddn⟩:=bH dn hdn
 obtain⟨asn,bsn,csn,dsn⟩:=bH sn hsn
 obtain⟨atn,btn,ctn,dtn⟩:=bH tn htn
 obtain⟨aan,ban,can,dan⟩:=dW an han
 rw[mE]
 have e:eM (bE 18) 23=18:=by decide
 refine⟨by simp[adn,asn,atn,aan],?_⟩
 simp[aJ,e,bF,bT,lA,bdn,cdn,ddn,bsn,csn,dsn,btn,ctn,dtn,ban,can,dan,cq,cP,aG]
theorem sA (dn sn tn un an:Nat)(hdn:dn<=7)(hsn:sn<=7)(htn:tn<=7)(hun:un<=7)(han:an<4294967296):(ah (af ⟨19,(dn:Nat),(sn:Nat),(tn:Nat),(un:Nat),(an:Nat),0,0⟩)).tail.all kf=Q/\aJ (ah (af ⟨19,(dn:Nat),(sn:Nat),(tn:Nat),(un:Nat),(an:Nat),0,0⟩))=⟨19,(dn:Nat),(sn:Nat),(tn:Nat),(un:Nat),(an:Nat),0,0⟩:=by
 obtain⟨adn,bdn,cdn,ddn⟩:=bH dn hdn
 obtain⟨asn,bsn,csn,dsn⟩:=bH sn hsn
 obtain⟨atn,btn,ctn,dtn⟩:=bH tn htn
 obtain⟨aun,bun,cun,dun⟩:=bH un hun
 obtain⟨aan,ban,can,dan⟩:=dW an han
 rw[mD]
 have e:eM (bE 19) 23=19:=by decide
 refine⟨by simp[adn,asn,atn,aun,aan],?_⟩
 simp[aJ,e,bF,bT,lA,bdn,cdn,ddn,bsn,csn,dsn,btn,ctn,dtn,bun,cun,dun,ban,can,dan,cq,cP,aG]
theorem sy (dn sn an kn:Nat)(hdn:dn<=7)(hsn:sn<=7)(han:an<4294967296)(hkn:kn<4294967296):(ah (af ⟨20,(dn:Nat),(sn:Nat),0,0,(an:Nat),(kn:Nat),0⟩)).tail.all kf=Q/\aJ (ah (af ⟨20,(dn:Nat),(sn:Nat),0,0,(an:Nat),(kn:Nat),0⟩))=⟨20,(dn:Nat),(sn:Nat),0,0,(an:Nat),(kn:Nat),0⟩:=by
 obtain⟨adn,bdn,cdn,ddn⟩:=bH dn hdn
 obtain⟨asn,bsn,csn,dsn⟩:=bH sn hsn
 obtain⟨aan,ban,can,dan⟩:=dW an han
 obtain⟨akn,bkn,ckn,dkn⟩:=dW kn hkn
 rw[mC]
 have e:eM (bE 20) 23=20:=by decide
 refine⟨by simp[adn,asn,aan,akn],?_⟩
 simp[aJ,e,bF,bT,bdn,cdn,bsn,csn,ban,can,bkn,ckn,cq,cP,aG]
 omega
theorem sw (sn:Nat)(hsn:sn<=7):(ah (af ⟨23,0,(sn:Nat),0,0,0,0,0⟩)).tail.all kf=Q/\aJ (ah (af ⟨23,0,(sn:Nat),0,0,0,0,0⟩))=⟨23,0,(sn:Nat),0,0,0,0,0⟩:=by
 obtain⟨asn,bsn,csn,dsn⟩:=bH sn hsn
 rw[mA]
 have e:eM (bE 23) 23=23:=by decide
 refine⟨by simp[asn],?_⟩
 simp[aJ,e,bF,lA,bsn,dsn,cq,cP,aG]
theorem nt (dn sn tn an pn:Nat)(hdn:dn<=7)(hsn:sn<=7)(htn:tn<=7)(han:an<4294967296)(hpn:pn<4294967296):(ah (af ⟨21,(dn:Nat),(sn:Nat),(tn:Nat),0,(an:Nat),0,(pn:Nat)⟩)).tail.all kf=Q/\aJ (ah (af ⟨21,(dn:Nat),(sn:Nat),(tn:Nat),0,(an:Nat),0,(pn:Nat)⟩))=⟨21,(dn:Nat),(sn:Nat),(tn:Nat),0,(an:Nat),0,(pn:Nat)⟩:=by
 obtain⟨adn,bdn,cdn,ddn⟩:=bH dn hdn
 obtain⟨asn,bsn,csn,dsn⟩:=bH sn hsn
 obtain⟨atn,btn,ctn,dtn⟩:=bH tn htn
 obtain⟨aan,ban,can,dan⟩:=dW an han
 obtain⟨apn,bpn,cpn,dpn⟩:=dW pn hpn
 obtain⟨ae,be,ce,de⟩:=EJ
 obtain⟨al,bl,cl,dl⟩:=pE
 rw[gc dn sn tn an pn]
 have e:eM (bE 21) 23=21:=by decide
 refine⟨by simp[adn,asn,atn,aan,ae,apn,al],?_⟩
 simp[aJ,e,bF,bT,lA,bdn,cdn,ddn,bsn,csn,dsn,btn,ctn,dtn,ban,can,dan,be,ce,de,bpn,cpn,dpn,bl,cl,dl,cq,cP,aG]
theorem nu (dn sn tn an pn:Nat)(hdn:dn<=7)(hsn:sn<=7)(htn:tn<=7)(han:an<4294967296)(hpn:pn<4294967296):(ah (af ⟨21,(dn:Nat),(sn:Nat),(tn:Nat),0,(an:Nat),0,-1⟩)).tail.all kf=Q/\aJ (ah (af ⟨21,(dn:Nat),(sn:Nat),(tn:Nat),0,(an:Nat),0,-1⟩))=⟨21,(dn:Nat),(sn:Nat),(tn:Nat),0,(an:Nat),0,-1⟩:=by
 obtain⟨adn,bdn,cdn,ddn⟩:=bH dn hdn
 obtain⟨asn,bsn,csn,dsn⟩:=bH sn hsn
 obtain⟨atn,btn,ctn,dtn⟩:=bH tn htn
 obtain⟨aan,ban,can,dan⟩:=dW an han
 obtain⟨apn,bpn,cpn,dpn⟩:=dW pn hpn
 obtain⟨ae,be,ce,de⟩:=EJ
 obtain⟨al,bl,cl,dl⟩:=pE
 rw[gd dn sn tn an pn]
 have e:eM (bE 21) 23=21:=by decide
 refine⟨by simp[adn,asn,atn,aan,ae],?_⟩
 simp[aJ,e,bF,bT,lA,bdn,cdn,ddn,bsn,csn,dsn,btn,ctn,dtn,ban,can,dan,be,ce,de,cq,cP,aG]
theorem np (dn sn tn an pn:Nat)(hdn:dn<=7)(hsn:sn<=7)(htn:tn<=7)(han:an<4294967296)(hpn:pn<4294967296):(ah (af ⟨21,(dn:Nat),(sn:Nat),(tn:Nat),0,(an:Nat),1,(pn:Nat)⟩)).tail.all kf=Q/\aJ (ah (af ⟨21,(dn:Nat),(sn:Nat),(tn:Nat),0,(an:Nat),1,(pn:Nat)⟩))=⟨21,(dn:Nat),(sn:Nat),(tn:Nat),0,(an:Nat),1,(pn:Nat)⟩:=by
 obtain⟨adn,bdn,cdn,ddn⟩:=bH dn hdn
 obtain⟨asn,bsn,csn,dsn⟩:=bH sn hsn
 obtain⟨atn,btn,ctn,dtn⟩:=bH tn htn
 obtain⟨aan,ban,can,dan⟩:=dW an han
 obtain⟨apn,bpn,cpn,dpn⟩:=dW pn hpn
 obtain⟨ae,be,ce,de⟩:=EI
 obtain⟨al,bl,cl,dl⟩:=pE
 rw[fZ dn sn tn an pn]
 have e:eM (bE 21) 23=21:=by decide
 refine⟨by simp[adn,asn,atn,aan,ae,apn,al],?_⟩
 simp[aJ,e,bF,bT,lA,bdn,cdn,ddn,bsn,csn,dsn,btn,ctn,dtn,ban,can,dan,be,ce,de,bpn,cpn,dpn,bl,cl,dl,cq,cP,aG]
theorem nr (dn sn tn an pn:Nat)(hdn:dn<=7)(hsn:sn<=7)(htn:tn<=7)(han:an<4294967296)(hpn:pn<4294967296):(ah (af ⟨21,(dn:Nat),(sn:Nat),(tn:Nat),0,(an:Nat),1,-1⟩)).tail.all kf=Q/\aJ (ah (af ⟨21,(dn:Nat),(sn:Nat),(tn:Nat),0,(an:Nat),1,-1⟩))=⟨21,(dn:Nat),(sn:Nat),(tn:Nat),0,(an:Nat),1,-1⟩:=by
 obtain⟨adn,bdn,cdn,ddn⟩:=bH dn hdn
 obtain⟨asn,bsn,csn,dsn⟩:=bH sn hsn
 obtain⟨atn,btn,ctn,dtn⟩:=bH tn htn
 obtain⟨aan,ban,can,dan⟩:=dW an han
 obtain⟨apn,bpn,cpn,dpn⟩:=dW pn hpn
 obtain⟨ae,be,ce,de⟩:=EI
 obtain⟨al,bl,cl,dl⟩:=pE
 rw[ga dn sn tn an pn]
 have e:eM (bE 21) 23=21:=by decide
 refine⟨by simp[adn,asn,atn,aan,ae],?_⟩
 simp[aJ,e,bF,bT,lA,bdn,cdn,ddn,bsn,csn,dsn,btn,ctn,dtn,ban,can,dan,be,ce,de,cq,cP,aG]
theorem kU (i:aM)(h:au i 1073741824=Q)(k0:0<=i.k)(k1:i.k<4294967296):(ah (af i)).tail.all kf=Q/\aJ (ah (af i))=i:=by
 obtain⟨hd,hs,ht,hu,ha⟩:=eu i _ h
 obtain⟨op,d,s,t,u,a,k,pl⟩:=i
 simp only at hd hs ht hu ha k0 k1
 rcases ci op with rfl|rfl|rfl|rfl|rfl|rfl|rfl|rfl|rfl|rfl|rfl|rfl|rfl|rfl|rfl|rfl|rfl|rfl|rfl|rfl|rfl | hn
 ·skip
  have hr:=lQ d s t u a k pl 1073741824 hd hs ht hu ha k0 k1
  rw[h] at hr
  simp[dg] at hr
  obtain⟨dn,rfl⟩:∃ n:Nat,d=n:=⟨d.toNat,by omega⟩
  obtain⟨sn,rfl⟩:∃ n:Nat,s=n:=⟨s.toNat,by omega⟩
  obtain⟨tn,rfl⟩:∃ n:Nat,t=n:=⟨t.toNat,by omega⟩
  obtain⟨un,rfl⟩:∃ n:Nat,u=n:=⟨u.toNat,by omega⟩
  obtain⟨an,rfl⟩:∃ n:Nat,a=n:=⟨a.toNat,by omega⟩
  obtain⟨kn,rfl⟩:∃ n:Nat,k=n:=⟨k.toNat,by omega⟩
  obtain rfl:sn=0:=by omega
  obtain rfl:tn=0:=by omega
  obtain rfl:un=0:=by omega
  obtain rfl:an=0:=by omega
  obtain rfl:pl=0:=by omega
  exact vC dn kn (by omega) (by omega)
 ·skip
  have hr:=lP d s t u a k pl 1073741824 hd hs ht hu ha k0 k1
  rw[h] at hr
  simp[dg] at hr
  obtain⟨dn,rfl⟩:∃ n:Nat,d=n:=⟨d.toNat,by omega⟩
  obtain⟨sn,rfl⟩:∃ n:Nat,s=n:=⟨s.toNat,by omega⟩
  obtain⟨tn,rfl⟩:∃ n:Nat,t=n:=⟨t.toNat,by omega⟩
  obtain⟨un,rfl⟩:∃ n:Nat,u=n:=⟨u.toNat,by omega⟩
  obtain⟨an,rfl⟩:∃ n:Nat,a=n:=⟨a.toNat,by omega⟩
  obtain⟨kn,rfl⟩:∃ n:Nat,k=n:=⟨k.toNat,by omega⟩
  obtain rfl:tn=0:=by omega
  obtain rfl:un=0:=by omega
  obtain rfl:an=0:=by omega
  obtain rfl:kn=0:=by omega
  obtain rfl:pl=0:=by omega
  exact vB dn sn (by omega) (by omega)
 ·skip
  have hr:=lO d s t u a k pl 1073741824 hd hs ht hu ha k0 k1
  rw[h] at hr
  simp[dg] at hr
  obtain⟨dn,rfl⟩:∃ n:Nat,d=n:=⟨d.toNat,by omega⟩
  obtain⟨sn,rfl⟩:∃ n:Nat,s=n:=⟨s.toNat,by omega⟩
  obtain⟨tn,rfl⟩:∃ n:Nat,t=n:=⟨t.toNat,by omega⟩
  obtain⟨un,rfl⟩:∃ n:Nat,u=n:=⟨u.toNat,by omega⟩
  obtain⟨an,rfl⟩:∃ n:Nat,a=n:=⟨a.toNat,by omega⟩
  obtain⟨kn,rfl⟩:∃ n:Nat,k=n:=⟨k.toNat,by omega⟩
  obtain rfl:tn=0:=by omega
  obtain rfl:un=0:=by omega
  obtain rfl:an=0:=by omega
  obtain rfl:pl=0:=by omega
  exact vA dn sn kn (by omega) (by omega) (by omega)
 ·skip
  have hr:=lN d s t u a k pl 1073741824 hd hs ht hu ha k0 k1
  rw[h] at hr
  simp[dg] at hr
  obtain⟨dn,rfl⟩:∃ n:Nat,d=n:=⟨d.toNat,by omega⟩
  obtain⟨sn,rfl⟩:∃ n:Nat,s=n:=⟨s.toNat,by omega⟩
  obtain⟨tn,rfl⟩:∃ n:Nat,t=n:=⟨t.toNat,by omega⟩
  obtain⟨un,rfl⟩:∃ n:Nat,u=n:=⟨u.toNat,by omega⟩
  obtain⟨an,rfl⟩:∃ n:Nat,a=n:=⟨a.toNat,by omega⟩
  obtain⟨kn,rfl⟩:∃ n:Nat,k=n:=⟨k.toNat,by omega⟩
  obtain rfl:tn=0:=by omega
  obtain rfl:un=0:=by omega
  obtain rfl:an=0:=by omega
  obtain rfl:pl=0:=by omega
  exact vz dn sn kn (by omega) (by omega) (by omega)
 ·skip
  have hr:=jS d s t u a k pl 1073741824 hd hs ht hu ha k0 k1
  rw[h] at hr
  simp[dg] at hr
  obtain⟨dn,rfl⟩:∃ n:Nat,d=n:=⟨d.toNat,by omega⟩
  obtain⟨sn,rfl⟩:∃ n:Nat,s=n:=⟨s.toNat,by omega⟩
  obtain⟨tn,rfl⟩:∃ n:Nat,t=n:=⟨t.toNat,by omega⟩
  obtain⟨un,rfl⟩:∃ n:Nat,u=n:=⟨u.toNat,by omega⟩
  obtain⟨an,rfl⟩:∃ n:Nat,a=n:=⟨a.toNat,by omega⟩
  obtain⟨kn,rfl⟩:∃ n:Nat,k=n:=⟨k.toNat,by omega⟩
  obtain rfl:tn=0:=by omega
  obtain rfl:un=0:=by omega
  obtain rfl:an=0:=by omega
  obtain rfl:pl=0:=by omega
  exact vy dn sn kn (by omega) (by omega) (by omega)
 ·skip
  have hr:=jR d s t u a k pl 1073741824 hd hs ht hu ha k0 k1
  rw[h] at hr
  simp[dg] at hr
  obtain⟨dn,rfl⟩:∃ n:Nat,d=n:=⟨d.toNat,by omega⟩
  obtain⟨sn,rfl⟩:∃ n:Nat,s=n:=⟨s.toNat,by omega⟩
  obtain⟨tn,rfl⟩:∃ n:Nat,t=n:=⟨t.toNat,by omega⟩
  obtain⟨un,rfl⟩:∃ n:Nat,u=n:=⟨u.toNat,by omega⟩
  obtain⟨an,rfl⟩:∃ n:Nat,a=n:=⟨a.toNat,by omega⟩
  obtain⟨kn,rfl⟩:∃ n:Nat,k=n:=⟨k.toNat,by omega⟩
  obtain rfl:tn=0:=by omega
  obtain rfl:un=0:=by omega
  obtain rfl:an=0:=by omega
  obtain rfl:pl=0:=by omega
  exact vx dn sn kn (by omega) (by omega) (by omega)
 ·skip
  have hr:=lM d s t u a k pl 1073741824 hd hs ht hu ha k0 k1
  rw[h] at hr
  simp[dg] at hr
  obtain⟨dn,rfl⟩:∃ n:Nat,d=n:=⟨d.toNat,by omega⟩
  obtain⟨sn,rfl⟩:∃ n:Nat,s=n:=⟨s.toNat,by omega⟩
  obtain⟨tn,rfl⟩:∃ n:Nat,t=n:=⟨t.toNat,by omega⟩
  obtain⟨un,rfl⟩:∃ n:Nat,u=n:=⟨u.toNat,by omega⟩
  obtain⟨an,rfl⟩:∃ n:Nat,a=n:=⟨a.toNat,by omega⟩
  obtain⟨kn,rfl⟩:∃ n:Nat,k=n:=⟨k.toNat,by omega⟩
  obtain rfl:un=0:=by omega
  obtain rfl:an=0:=by omega
  obtain rfl:kn=0:=by omega
  obtain rfl:pl=0:=by omega
  exact vw dn sn tn (by omega) (by omega) (by omega)
 ·skip
  have hr:=lL d s t u a k pl 1073741824 hd hs ht hu ha k0 k1
  rw[h] at hr
  simp[dg] at hr
  obtain⟨dn,rfl⟩:∃ n:Nat,d=n:=⟨d.toNat,by omega⟩
  obtain⟨sn,rfl⟩:∃ n:Nat,s=n:=⟨s.toNat,by omega⟩
  obtain⟨tn,rfl⟩:∃ n:Nat,t=n:=⟨t.toNat,by omega⟩
  obtain⟨un,rfl⟩:∃ n:Nat,u=n:=⟨u.toNat,by omega⟩
  obtain⟨an,rfl⟩:∃ n:Nat,a=n:=⟨a.toNat,by omega⟩
  obtain⟨kn,rfl⟩:∃ n:Nat,k=n:=⟨k.toNat,by omega⟩
  obtain rfl:dn=0:=by omega
  obtain rfl:un=0:=by omega
  obtain rfl:an=0:=by omega
  obtain rfl:kn=0:=by omega
  obtain⟨pn,rfl⟩:∃ n:Nat,pl=n:=⟨pl.toNat,by omega⟩
  exact vu sn tn pn (by omega) (by omega) (by omega)
 ·skip
  have hr:=lK d s t u a k pl 1073741824 hd hs ht hu ha k0 k1
  rw[h] at hr
  simp[dg] at hr
  obtain⟨dn,rfl⟩:∃ n:Nat,d=n:=⟨d.toNat,by omega⟩
  obtain⟨sn,rfl⟩:∃ n:Nat,s=n:=⟨s.toNat,by omega⟩
  obtain⟨tn,rfl⟩:∃ n:Nat,t=n:=⟨t.toNat,by omega⟩
  obtain⟨un,rfl⟩:∃ n:Nat,u=n:=⟨u.toNat,by omega⟩
  obtain⟨an,rfl⟩:∃ n:Nat,a=n:=⟨a.toNat,by omega⟩
  obtain⟨kn,rfl⟩:∃ n:Nat,k=n:=⟨k.toNat,by omega⟩
  obtain rfl:dn=0:=by omega
  obtain rfl:un=0:=by omega
  obtain rfl:an=0:=by omega
  obtain rfl:kn=0:=by omega
  obtain⟨pn,rfl⟩:∃ n:Nat,pl=n:=⟨pl.toNat,by omega⟩
  exact vt sn tn pn (by omega) (by omega) (by omega)
 ·skip
  have hr:=jJ d s t u a k pl 1073741824 hd hs ht hu ha k0 k1
  rw[h] at hr
  simp[dg] at hr
  obtain⟨dn,rfl⟩:∃ n:Nat,d=n:=⟨d.toNat,by omega⟩
  obtain⟨sn,rfl⟩:∃ n:Nat,s=n:=⟨s.toNat,by omega⟩
  obtain⟨tn,rfl⟩:∃ n:Nat,t=n:=⟨t.toNat,by omega⟩
  obtain⟨un,rfl⟩:∃ n:Nat,u=n:=⟨u.toNat,by omega⟩
  obtain⟨an,rfl⟩:∃ n:Nat,a=n:=⟨a.toNat,by omega⟩
  obtain⟨kn,rfl⟩:∃ n:Nat,k=n:=⟨k.toNat,by omega⟩
  obtain rfl:dn=0:=by omega
  obtain rfl:sn=0:=by omega
  obtain rfl:tn=0:=by omega
  obtain rfl:un=0:=by omega
  obtain rfl:an=0:=by omega
  obtain rfl:kn=0:=by omega
  obtain⟨pn,rfl⟩:∃ n:Nat,pl=n:=⟨pl.toNat,by omega⟩
  exact sH pn (by omega)
 ·skip
  have hr:=jI d s t u a k pl 1073741824 hd hs ht hu ha k0 k1
  rw[h] at hr
  simp[dg] at hr
  obtain⟨dn,rfl⟩:∃ n:Nat,d=n:=⟨d.toNat,by omega⟩
  obtain⟨sn,rfl⟩:∃ n:Nat,s=n:=⟨s.toNat,by omega⟩
  obtain⟨tn,rfl⟩:∃ n:Nat,t=n:=⟨t.toNat,by omega⟩
  obtain⟨un,rfl⟩:∃ n:Nat,u=n:=⟨u.toNat,by omega⟩
  obtain⟨an,rfl⟩:∃ n:Nat,a=n:=⟨a.toNat,by omega⟩
  obtain⟨kn,rfl⟩:∃ n:Nat,k=n:=⟨k.toNat,by omega⟩
  obtain rfl:sn=0:=by omega
  obtain rfl:tn=0:=by omega
  obtain rfl:un=0:=by omega
  obtain rfl:an=0:=by omega
  obtain rfl:kn=0:=by omega
  obtain rfl:pl=0:=by omega
  exact sG dn (by omega)
 ·skip
  have hr:=iF d s t u a k pl 1073741824 hd hs ht hu ha k0 k1
  rw[h] at hr
  simp[dg] at hr
  obtain⟨dn,rfl⟩:∃ n:Nat,d=n:=⟨d.toNat,by omega⟩
  obtain⟨sn,rfl⟩:∃ n:Nat,s=n:=⟨s.toNat,by omega⟩
  obtain⟨tn,rfl⟩:∃ n:Nat,t=n:=⟨t.toNat,by omega⟩
  obtain⟨un,rfl⟩:∃ n:Nat,u=n:=⟨u.toNat,by omega⟩
  obtain⟨an,rfl⟩:∃ n:Nat,a=n:=⟨a.toNat,by omega⟩
  obtain⟨kn,rfl⟩:∃ n:Nat,k=n:=⟨k.toNat,by omega⟩
  obtain rfl:dn=0:=by omega
  obtain rfl:sn=0:=by omega
  obtain rfl:tn=0:=by omega
  obtain rfl:un=0:=by omega
  obtain rfl:an=0:=by omega
  obtain rfl:pl=0:=by omega
  exact sF kn (by omega)
 ·skip
  have hr:=iE d s t u a k pl 1073741824 hd hs ht hu ha k0 k1
  rw[h] at hr
  simp[dg] at hr
  obtain⟨dn,rfl⟩:∃ n:Nat,d=n:=⟨d.toNat,by omega⟩
  obtain⟨sn,rfl⟩:∃ n:Nat,s=n:=⟨s.toNat,by omega⟩
  obtain⟨tn,rfl⟩:∃ n:Nat,t=n:=⟨t.toNat,by omega⟩
  obtain⟨un,rfl⟩:∃ n:Nat,u=n:=⟨u.toNat,by omega⟩
  obtain⟨an,rfl⟩:∃ n:Nat,a=n:=⟨a.toNat,by omega⟩
  obtain⟨kn,rfl⟩:∃ n:Nat,k=n:=⟨k.toNat,by omega⟩
  obtain rfl:dn=0:=by omega
  obtain rfl:sn=0:=by omega
  obtain rfl:tn=0:=by omega
  obtain rfl:un=0:=by omega
  obtain rfl:an=0:=by omega
  obtain rfl:pl=0:=by omega
  exact sE kn (by omega)
 ·skip
  have hr:=jH d s t u a k pl 1073741824 hd hs ht hu ha k0 k1
  rw[h] at hr
  simp[dg] at hr
  obtain⟨dn,rfl⟩:∃ n:Nat,d=n:=⟨d.toNat,by omega⟩
  obtain⟨sn,rfl⟩:∃ n:Nat,s=n:=⟨s.toNat,by omega⟩
  obtain⟨tn,rfl⟩:∃ n:Nat,t=n:=⟨t.toNat,by omega⟩
  obtain⟨un,rfl⟩:∃ n:Nat,u=n:=⟨u.toNat,by omega⟩
  obtain⟨an,rfl⟩:∃ n:Nat,a=n:=⟨a.toNat,by omega⟩
  obtain⟨kn,rfl⟩:∃ n:Nat,k=n:=⟨k.toNat,by omega⟩
  obtain rfl:tn=0:=by omega
  obtain rfl:un=0:=by omega
  obtain rfl:kn=0:=by omega
  obtain rfl:pl=0:=by omega
  exact sD dn sn an (by omega) (by omega) (by omega)
 ·skip
  have hr:=jG d s t u a k pl 1073741824 hd hs ht hu ha k0 k1
  rw[h] at hr
  simp[dg] at hr
  obtain⟨dn,rfl⟩:∃ n:Nat,d=n:=⟨d.toNat,by omega⟩
  obtain⟨sn,rfl⟩:∃ n:Nat,s=n:=⟨s.toNat,by omega⟩
  obtain⟨tn,rfl⟩:∃ n:Nat,t=n:=⟨t.toNat,by omega⟩
  obtain⟨un,rfl⟩:∃ n:Nat,u=n:=⟨u.toNat,by omega⟩
  obtain⟨an,rfl⟩:∃ n:Nat,a=n:=⟨a.toNat,by omega⟩
  obtain⟨kn,rfl⟩:∃ n:Nat,k=n:=⟨k.toNat,by omega⟩
  obtain rfl:dn=0:=by omega
  obtain rfl:un=0:=by omega
  obtain rfl:kn=0:=by omega
  obtain rfl:pl=0:=by omega
  exact sC sn tn an (by omega) (by omega) (by omega)
 ·skip
  have hr:=jF d s t u a k pl 1073741824 hd hs ht hu ha k0 k1
  rw[h] at hr
  simp[dg] at hr
  obtain⟨dn,rfl⟩:∃ n:Nat,d=n:=⟨d.toNat,by omega⟩
  obtain⟨sn,rfl⟩:∃ n:Nat,s=n:=⟨s.toNat,by omega⟩
  obtain⟨tn,rfl⟩:∃ n:Nat,t=n:=⟨t.toNat,by omega⟩
  obtain⟨un,rfl⟩:∃ n:Nat,u=n:=⟨u.toNat,by omega⟩
  obtain⟨an,rfl⟩:∃ n:Nat,a=n:=⟨a.toNat,by omega⟩
  obtain⟨kn,rfl⟩:∃ n:Nat,k=n:=⟨k.toNat,by omega⟩
  obtain rfl:un=0:=by omega
  obtain rfl:kn=0:=by omega
  obtain rfl:pl=0:=by omega
  exact sB dn sn tn an (by omega) (by omega) (by omega) (by omega)
 ·skip
  have hr:=jE d s t u a k pl 1073741824 hd hs ht hu ha k0 k1
  rw[h] at hr
  simp[dg] at hr
  obtain⟨dn,rfl⟩:∃ n:Nat,d=n:=⟨d.toNat,by omega⟩
  obtain⟨sn,rfl⟩:∃ n:Nat,s=n:=⟨s.toNat,by omega⟩
  obtain⟨tn,rfl⟩:∃ n:Nat,t=n:=⟨t.toNat,by omega⟩
  obtain⟨un,rfl⟩:∃ n:Nat,u=n:=⟨u.toNat,by omega⟩
  obtain⟨an,rfl⟩:∃ n:Nat,a=n:=⟨a.toNat,by omega⟩
  obtain⟨kn,rfl⟩:∃ n:Nat,k=n:=⟨k.toNat,by omega⟩
  obtain rfl:kn=0:=by omega
  obtain rfl:pl=0:=by omega
  exact sA dn sn tn un an (by omega) (by omega) (by omega) (by omega) (by omega)
 ·skip
  have hr:=jD d s t u a k pl 1073741824 hd hs ht hu ha k0 k1
  rw[h] at hr
  simp[dg] at hr
  obtain⟨dn,rfl⟩:∃ n:Nat,d=n:=⟨d.toNat,by omega⟩
  obtain⟨sn,rfl⟩:∃ n:Nat,s=n:=⟨s.toNat,by omega⟩
  obtain⟨tn,rfl⟩:∃ n:Nat,t=n:=⟨t.toNat,by omega⟩
  obtain⟨un,rfl⟩:∃ n:Nat,u=n:=⟨u.toNat,by omega⟩
  obtain⟨an,rfl⟩:∃ n:Nat,a=n:=⟨a.toNat,by omega⟩
  obtain⟨kn,rfl⟩:∃ n:Nat,k=n:=⟨k.toNat,by omega⟩
  obtain rfl:tn=0:=by omega
  obtain rfl:un=0:=by omega
  obtain rfl:pl=0:=by omega
  exact sy dn sn an kn (by omega) (by omega) (by omega) (by omega)
 ·skip
  have hr:=gM d s t u a k pl 1073741824 hd hs ht hu ha k0 k1
  rw[h] at hr
  simp[dg] at hr
  obtain⟨dn,rfl⟩:∃ n:Nat,d=n:=⟨d.toNat,by omega⟩
  obtain⟨sn,rfl⟩:∃ n:Nat,s=n:=⟨s.toNat,by omega⟩
  obtain⟨tn,rfl⟩:∃ n:Nat,t=n:=⟨t.toNat,by omega⟩
  obtain⟨un,rfl⟩:∃ n:Nat,u=n:=⟨u.toNat,by omega⟩
  obtain⟨an,rfl⟩:∃ n:Nat,a=n:=⟨a.toNat,by omega⟩
  obtain⟨kn,rfl⟩:∃ n:Nat,k=n:=⟨k.toNat,by omega⟩
  obtain rfl:un=0:=by omega
  by_cases hm:pl=-1
  ·subst hm
   by_cases hk:kn=0
   ·subst hk;exact nu dn sn tn an 0 (by omega) (by omega) (by omega) (by omega) (by omega)
   ·obtain rfl:kn=1:=by omega
    exact nr dn sn tn an 0 (by omega) (by omega) (by omega) (by omega) (by omega)
  ·obtain⟨pn,rfl⟩:∃ n:Nat,pl=n:=⟨pl.toNat,by omega⟩
   by_cases hk:kn=0
   ·subst hk;exact nt dn sn tn an pn (by omega) (by omega) (by omega) (by omega) (by omega)
   ·obtain rfl:kn=1:=by omega
    exact np dn sn tn an pn (by omega) (by omega) (by omega) (by omega) (by omega)
 ·skip
  have hr:=jC d s t u a k pl 1073741824 hd hs ht hu ha k0 k1
  rw[h] at hr
  simp[dg] at hr
  obtain⟨dn,rfl⟩:∃ n:Nat,d=n:=⟨d.toNat,by omega⟩
  obtain⟨sn,rfl⟩:∃ n:Nat,s=n:=⟨s.toNat,by omega⟩
  obtain⟨tn,rfl⟩:∃ n:Nat,t=n:=⟨t.toNat,by omega⟩
  obtain⟨un,rfl⟩:∃ n:Nat,u=n:=⟨u.toNat,by omega⟩
  obtain⟨an,rfl⟩:∃ n:Nat,a=n:=⟨a.toNat,by omega⟩
  obtain⟨kn,rfl⟩:∃ n:Nat,k=n:=⟨k.toNat,by omega⟩
  obtain rfl:sn=0:=by omega
  obtain rfl:tn=0:=by omega
  obtain rfl:un=0:=by omega
  obtain rfl:an=0:=by omega
  obtain rfl:kn=0:=by omega
  obtain rfl:pl=0:=by omega
  exact sx dn (by omega)
 ·skip
  have hr:=jB d s t u a k pl 1073741824 hd hs ht hu ha k0 k1
  rw[h] at hr
  simp[dg] at hr
  obtain⟨dn,rfl⟩:∃ n:Nat,d=n:=⟨d.toNat,by omega⟩
  obtain⟨sn,rfl⟩:∃ n:Nat,s=n:=⟨s.toNat,by omega⟩
  obtain⟨tn,rfl⟩:∃ n:Nat,t=n:=⟨t.toNat,by omega⟩
  obtain⟨un,rfl⟩:∃ n:Nat,u=n:=⟨u.toNat,by omega⟩
  obtain⟨an,rfl⟩:∃ n:Nat,a=n:=⟨a.toNat,by omega⟩
  obtain⟨kn,rfl⟩:∃ n:Nat,k=n:=⟨k.toNat,by omega⟩
  obtain rfl:dn=0:=by omega
  obtain rfl:tn=0:=by omega
  obtain rfl:un=0:=by omega
  obtain rfl:an=0:=by omega
  obtain rfl:kn=0:=by omega
  obtain rfl:pl=0:=by omega
  exact sw sn (by omega)
 ·exfalso
  unfold au at h
  simp only[(dv hn).1] at h
  cases h
theorem pW (i:aM)(h:au i 1073741824=Q)(k0:0<=i.k)(k1:i.k<4294967296):jV (af i)=Q:=by
 obtain⟨h1,h2⟩:=kU i h k0 k1
 unfold jV
 rw[h1,h2,h]
 simp
end
