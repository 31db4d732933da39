import Derived.Test.YthdgehcghklflaaGreatDoorRTkD
import Derived.Test.YthdgehcghklflaaGreatDoorRMem
import Derived.Test.YthdgehcghklflaaGreatDoorRWdA
import Derived.Test.YthdgehcghklflaaGreatDoorRInstC
import Derived.Test.YthdgehcghklflaaGreatDoorRPrgM
set_option linter.unusedVariables false
set_option maxHeartbeats 2000000
open Go.Value renaming int->I
open Go.IntKind renaming i64->Q
open Bool renaming false->N,true->O
open Go.Lib renaming hid->Z
namespace Go.Proofs.YthdgehcghklflaaGreatDoor
section
theorem kE:∀ (m:Nat) (s:List UInt8),(aq s).length<=m+1->Lib.splitK [32] 0 m s=aq s
 | 0,s,h=>by
  rcases m8 s with h1 | ⟨t,r,h1,rfl⟩
  ·rw[cJ s h1];rfl
  ·rw[fb t r h1] at h
   have:=fJ r
   rw[List.length_cons] at h
   omega
 | m+1,s,h=>by
  rcases m8 s with h1 | ⟨t,r,h1,rfl⟩
  ·rw[cJ s h1];unfold Lib.splitK;rw[rB s h1];rfl
  ·rw[fb t r h1] at h ⊢
   unfold Lib.splitK
   rw[rC t r h1,if_neg (by simp <;> omega)]
   have e1:(t++32 :: r).take (((t.length:Int)).toNat+0)=t:=by simp
   have e2:(t++32 :: r).drop (((t.length:Int)).toNat+[(32:UInt8)].length)=r:=by simp[List.drop_append]
   rw[e1,e2,kE m r (by simp at h;omega)]
theorem aD (s:List UInt8)(h:(aq s).length<=9):fm s=aq s:=by
 unfold fm Lib.splitN
 have:=gK s
 exact kE _ s (by omega)
def dA (n:Nat):List UInt8:=114 :: Lib.decDigits n
theorem dh (n:Nat):Bf (dA n):=by
 intro c hc
 rcases List.mem_cons.1 hc with rfl | hc
 ·decide
 ·exact dv n c hc
theorem bZ (n:Nat)(h:n<9223372036854775808):jW (Lib.decDigits n)=n:=by
 have ha:=rW n h
 obtain⟨c,r,e,h1,h2,-⟩:=iy n
 rw[e] at ha ⊢
 have n1:c≠101:=fun e=>by rw[e] at h2;exact absurd h2 (by decide)
 have n2:c≠110:=fun e=>by rw[e] at h2;exact absurd h2 (by decide)
 have n3:c≠114:=fun e=>by rw[e] at h2;exact absurd h2 (by decide)
 unfold jW
 rw[if_neg (by intro e;injection e with e _;exact n1 e),if_neg (by intro e;injection e with e _;exact n2 e)]
 have et:Lib.trimPrefix (c :: r) [114]=c :: r:=by
  unfold Lib.trimPrefix Lib.hasPrefix
  rw[if_neg (by simp[List.isPrefixOf];exact fun e=>n3 e.symm)]
 rw[et,ha]
theorem aF (n:Nat)(h:n<9223372036854775808):jW (dA n)=n:=by
 have ha:=rW n h
 unfold jW dA
 rw[if_neg (by intro e;injection e with e _;exact absurd e (by decide)),if_neg (by intro e;injection e with e _;exact absurd e (by decide))]
 have et:Lib.trimPrefix (114 :: Lib.decDigits n) [114]=Lib.decDigits n:=by
  unfold Lib.trimPrefix Lib.hasPrefix
  rw[if_pos (by simp[List.isPrefixOf])]
  rfl
 rw[et,ha]
theorem C2 (dn kn:Nat):aj ⟨1,(dn:Nat),0,0,0,0,(kn:Nat),0⟩=bi (bF 1) [dA dn,Lib.decDigits kn]:=by
 simp[aj,db,aA,aX,ba,az,bi,dA]
theorem px (dn kn:Nat):aq (aj ⟨1,(dn:Nat),0,0,0,0,(kn:Nat),0⟩)=bF 1 :: [dA dn,Lib.decDigits kn]:=by
 rw[C2]
 exact aM _ _ (by unfold Bf;decide) (by simp[dh,dv])
theorem yU (dn kn:Nat)(hdn:dn<9223372036854775808)(hkn:kn<9223372036854775808)(k1:kn<4294967296):ay (aj ⟨1,(dn:Nat),0,0,0,0,(kn:Nat),0⟩)=⟨1,(dn:Nat),0,0,0,0,(kn:Nat),0⟩:=by
 unfold ay
 rw[aD _ (by rw[px];simp),px]
 have e:nl (bF 1)=1:=by decide
 simp[bU,e,db,bX,da,cF,bW,aF dn hdn,bZ kn hkn,aK.zero]
 omega
theorem C1 (dn sn:Nat):aj ⟨2,(dn:Nat),(sn:Nat),0,0,0,0,0⟩=bi (bF 2) [dA dn,dA sn]:=by
 simp[aj,db,aA,aX,ba,az,bi,dA]
theorem pw (dn sn:Nat):aq (aj ⟨2,(dn:Nat),(sn:Nat),0,0,0,0,0⟩)=bF 2 :: [dA dn,dA sn]:=by
 rw[C1]
 exact aM _ _ (by unfold Bf;decide) (by simp[dh])
theorem yT (dn sn:Nat)(hdn:dn<9223372036854775808)(hsn:sn<9223372036854775808):ay (aj ⟨2,(dn:Nat),(sn:Nat),0,0,0,0,0⟩)=⟨2,(dn:Nat),(sn:Nat),0,0,0,0,0⟩:=by
 unfold ay
 rw[aD _ (by rw[pw];simp),pw]
 have e:nl (bF 2)=2:=by decide
 simp[bU,e,db,bX,da,cF,bW,aF dn hdn,aF sn hsn,aK.zero]
theorem C0 (dn sn kn:Nat):aj ⟨3,(dn:Nat),(sn:Nat),0,0,0,(kn:Nat),0⟩=bi (bF 3) [dA dn,dA sn,Lib.decDigits kn]:=by
 simp[aj,db,aA,aX,ba,az,bi,dA]
theorem pu (dn sn kn:Nat):aq (aj ⟨3,(dn:Nat),(sn:Nat),0,0,0,(kn:Nat),0⟩)=bF 3 :: [dA dn,dA sn,Lib.decDigits kn]:=by
 rw[C0]
 exact aM _ _ (by unfold Bf;decide) (by simp[dh,dv])
theorem yS (dn sn kn:Nat)(hdn:dn<9223372036854775808)(hsn:sn<9223372036854775808)(hkn:kn<9223372036854775808)(k1:kn<4294967296):ay (aj ⟨3,(dn:Nat),(sn:Nat),0,0,0,(kn:Nat),0⟩)=⟨3,(dn:Nat),(sn:Nat),0,0,0,(kn:Nat),0⟩:=by
 unfold ay
 rw[aD _ (by rw[pu];simp),pu]
 have e:nl (bF 3)=3:=by decide
 simp[bU,e,db,bX,da,cF,bW,aF dn hdn,aF sn hsn,bZ kn hkn,aK.zero]
 omega
theorem CZ (dn sn kn:Nat):aj ⟨4,(dn:Nat),(sn:Nat),0,0,0,(kn:Nat),0⟩=bi (bF 4) [dA dn,dA sn,Lib.decDigits kn]:=by
 simp[aj,db,aA,aX,ba,az,bi,dA]
theorem pt (dn sn kn:Nat):aq (aj ⟨4,(dn:Nat),(sn:Nat),0,0,0,(kn:Nat),0⟩)=bF 4 :: [dA dn,dA sn,Lib.decDigits kn]:=by
 rw[CZ]
 exact aM _ _ (by unfold Bf;decide) (by simp[dh,dv])
theorem yR (dn sn kn:Nat)(hdn:dn<9223372036854775808)(hsn:sn<9223372036854775808)(hkn:kn<9223372036854775808)(k1:kn<4294967296):ay (aj ⟨4,(dn:Nat),(sn:Nat),0,0,0,(kn:Nat),0⟩)=⟨4,(dn:Nat),(sn:Nat),0,0,0,(kn:Nat),0⟩:=by
 unfold ay
 rw[aD _ (by rw[pt];simp),pt]
 have e:nl (bF 4)=4:=by decide
 simp[bU,e,db,bX,da,cF,bW,aF dn hdn,aF sn hsn,bZ kn hkn,aK.zero]
 omega
theorem CY (dn sn kn:Nat):aj ⟨5,(dn:Nat),(sn:Nat),0,0,0,(kn:Nat),0⟩=bi (bF 5) [dA dn,dA sn,Lib.decDigits kn]:=by
 simp[aj,db,aA,aX,ba,az,bi,dA]
theorem pr (dn sn kn:Nat):aq (aj ⟨5,(dn:Nat),(sn:Nat),0,0,0,(kn:Nat),0⟩)=bF 5 :: [dA dn,dA sn,Lib.decDigits kn]:=by
 rw[CY]
 exact aM _ _ (by unfold Bf;decide) (by simp[dh,dv])
theorem yQ (dn sn kn:Nat)(hdn:dn<9223372036854775808)(hsn:sn<9223372036854775808)(hkn:kn<9223372036854775808)(k1:kn<4294967296):ay (aj ⟨5,(dn:Nat),(sn:Nat),0,0,0,(kn:Nat),0⟩)=⟨5,(dn:Nat),(sn:Nat),0,0,0,(kn:Nat),0⟩:=by
 unfold ay
 rw[aD _ (by rw[pr];simp),pr]
 have e:nl (bF 5)=5:=by decide
 simp[bU,e,db,bX,da,cF,bW,aF dn hdn,aF sn hsn,bZ kn hkn,aK.zero]
 omega
theorem CX (dn sn kn:Nat):aj ⟨6,(dn:Nat),(sn:Nat),0,0,0,(kn:Nat),0⟩=bi (bF 6) [dA dn,dA sn,Lib.decDigits kn]:=by
 simp[aj,db,aA,aX,ba,az,bi,dA]
theorem pq (dn sn kn:Nat):aq (aj ⟨6,(dn:Nat),(sn:Nat),0,0,0,(kn:Nat),0⟩)=bF 6 :: [dA dn,dA sn,Lib.decDigits kn]:=by
 rw[CX]
 exact aM _ _ (by unfold Bf;decide) (by simp[dh,dv])
theorem yP (dn sn kn:Nat)(hdn:dn<9223372036854775808)(hsn:sn<9223372036854775808)(hkn:kn<9223372036854775808)(k1:kn<4294967296):ay (aj ⟨6,(dn:Nat),(sn:Nat),0,0,0,(kn:Nat),0⟩)=⟨6,(dn:Nat),(sn:Nat),0,0,0,(kn:Nat),0⟩:=by
 unfold ay
 rw[aD _ (by rw[pq];simp),pq]
 have e:nl (bF 6)=6:=by decide
 simp[bU,e,db,bX,da,cF,bW,aF dn hdn,aF sn hsn,bZ kn hkn,aK.zero]
 omega
theorem CW (dn sn tn:Nat):aj ⟨7,(dn:Nat),(sn:Nat),(tn:Nat),0,0,0,0⟩=bi (bF 7) [dA dn,dA sn,dA tn]:=by
 simp[aj,db,aA,aX,ba,az,bi,dA]
theorem po (dn sn tn:Nat):aq (aj ⟨7,(dn:Nat),(sn:Nat),(tn:Nat),0,0,0,0⟩)=bF 7 :: [dA dn,dA sn,dA tn]:=by
 rw[CW]
 exact aM _ _ (by unfold Bf;decide) (by simp[dh])
theorem yO (dn sn tn:Nat)(hdn:dn<9223372036854775808)(hsn:sn<9223372036854775808)(htn:tn<9223372036854775808):ay (aj ⟨7,(dn:Nat),(sn:Nat),(tn:Nat),0,0,0,0⟩)=⟨7,(dn:Nat),(sn:Nat),(tn:Nat),0,0,0,0⟩:=by
 unfold ay
 rw[aD _ (by rw[po];simp),po]
 have e:nl (bF 7)=7:=by decide
 simp[bU,e,db,bX,da,cF,bW,aF dn hdn,aF sn hsn,aF tn htn,aK.zero]
theorem CV (sn tn pn:Nat):aj ⟨8,0,(sn:Nat),(tn:Nat),0,0,0,(pn:Nat)⟩=bi (bF 8) [dA sn,dA tn,Lib.decDigits pn]:=by
 simp[aj,db,aA,aX,ba,az,bi,dA]
theorem pm (sn tn pn:Nat):aq (aj ⟨8,0,(sn:Nat),(tn:Nat),0,0,0,(pn:Nat)⟩)=bF 8 :: [dA sn,dA tn,Lib.decDigits pn]:=by
 rw[CV]
 exact aM _ _ (by unfold Bf;decide) (by simp[dh,dv])
theorem yN (sn tn pn:Nat)(hsn:sn<9223372036854775808)(htn:tn<9223372036854775808)(hpn:pn<9223372036854775808):ay (aj ⟨8,0,(sn:Nat),(tn:Nat),0,0,0,(pn:Nat)⟩)=⟨8,0,(sn:Nat),(tn:Nat),0,0,0,(pn:Nat)⟩:=by
 unfold ay
 rw[aD _ (by rw[pm];simp),pm]
 have e:nl (bF 8)=8:=by decide
 simp[bU,e,db,bX,da,cF,bW,aF sn hsn,aF tn htn,bZ pn hpn,aK.zero]
theorem CU (sn tn pn:Nat):aj ⟨9,0,(sn:Nat),(tn:Nat),0,0,0,(pn:Nat)⟩=bi (bF 9) [dA sn,dA tn,Lib.decDigits pn]:=by
 simp[aj,db,aA,aX,ba,az,bi,dA]
theorem pk (sn tn pn:Nat):aq (aj ⟨9,0,(sn:Nat),(tn:Nat),0,0,0,(pn:Nat)⟩)=bF 9 :: [dA sn,dA tn,Lib.decDigits pn]:=by
 rw[CU]
 exact aM _ _ (by unfold Bf;decide) (by simp[dh,dv])
theorem yM (sn tn pn:Nat)(hsn:sn<9223372036854775808)(htn:tn<9223372036854775808)(hpn:pn<9223372036854775808):ay (aj ⟨9,0,(sn:Nat),(tn:Nat),0,0,0,(pn:Nat)⟩)=⟨9,0,(sn:Nat),(tn:Nat),0,0,0,(pn:Nat)⟩:=by
 unfold ay
 rw[aD _ (by rw[pk];simp),pk]
 have e:nl (bF 9)=9:=by decide
 simp[bU,e,db,bX,da,cF,bW,aF sn hsn,aF tn htn,bZ pn hpn,aK.zero]
theorem Bm (pn:Nat):aj ⟨10,0,0,0,0,0,0,(pn:Nat)⟩=bi (bF 10) [Lib.decDigits pn]:=by
 simp[aj,db,aA,aX,ba,az,bi]
theorem mJ (pn:Nat):aq (aj ⟨10,0,0,0,0,0,0,(pn:Nat)⟩)=bF 10 :: [Lib.decDigits pn]:=by
 rw[Bm]
 exact aM _ _ (by unfold Bf;decide) (by simp[dv])
theorem wv (pn:Nat)(hpn:pn<9223372036854775808):ay (aj ⟨10,0,0,0,0,0,0,(pn:Nat)⟩)=⟨10,0,0,0,0,0,0,(pn:Nat)⟩:=by
 unfold ay
 rw[aD _ (by rw[mJ];simp),mJ]
 have e:nl (bF 10)=10:=by decide
 simp[bU,e,db,bX,da,cF,bW,bZ pn hpn,aK.zero]
theorem Bl (dn:Nat):aj ⟨11,(dn:Nat),0,0,0,0,0,0⟩=bi (bF 11) [dA dn]:=by
 simp[aj,db,aA,aX,ba,az,bi,dA]
theorem mI (dn:Nat):aq (aj ⟨11,(dn:Nat),0,0,0,0,0,0⟩)=bF 11 :: [dA dn]:=by
 rw[Bl]
 exact aM _ _ (by unfold Bf;decide) (by simp[dh])
theorem wq (dn:Nat)(hdn:dn<9223372036854775808):ay (aj ⟨11,(dn:Nat),0,0,0,0,0,0⟩)=⟨11,(dn:Nat),0,0,0,0,0,0⟩:=by
 unfold ay
 rw[aD _ (by rw[mI];simp),mI]
 have e:nl (bF 11)=11:=by decide
 simp[bU,e,db,bX,da,cF,bW,aF dn hdn,aK.zero]
theorem Bb (dn:Nat):aj ⟨22,(dn:Nat),0,0,0,0,0,0⟩=bi (bF 22) [dA dn]:=by
 simp[aj,db,aA,aX,ba,az,bi,dA]
theorem mA (dn:Nat):aq (aj ⟨22,(dn:Nat),0,0,0,0,0,0⟩)=bF 22 :: [dA dn]:=by
 rw[Bb]
 exact aM _ _ (by unfold Bf;decide) (by simp[dh])
theorem wg (dn:Nat)(hdn:dn<9223372036854775808):ay (aj ⟨22,(dn:Nat),0,0,0,0,0,0⟩)=⟨22,(dn:Nat),0,0,0,0,0,0⟩:=by
 unfold ay
 rw[aD _ (by rw[mA];simp),mA]
 have e:nl (bF 22)=22:=by decide
 simp[bU,e,db,bX,da,cF,bW,aF dn hdn,aK.zero]
theorem Bj (kn:Nat):aj ⟨12,0,0,0,0,0,(kn:Nat),0⟩=bi (bF 12) [Lib.decDigits kn]:=by
 simp[aj,db,aA,aX,ba,az,bi]
theorem mH (kn:Nat):aq (aj ⟨12,0,0,0,0,0,(kn:Nat),0⟩)=bF 12 :: [Lib.decDigits kn]:=by
 rw[Bj]
 exact aM _ _ (by unfold Bf;decide) (by simp[dv])
theorem wo (kn:Nat)(hkn:kn<9223372036854775808)(k1:kn<4294967296):ay (aj ⟨12,0,0,0,0,0,(kn:Nat),0⟩)=⟨12,0,0,0,0,0,(kn:Nat),0⟩:=by
 unfold ay
 rw[aD _ (by rw[mH];simp),mH]
 have e:nl (bF 12)=12:=by decide
 simp[bU,e,db,bX,da,cF,bW,bZ kn hkn,aK.zero]
 omega
theorem Bi (kn:Nat):aj ⟨13,0,0,0,0,0,(kn:Nat),0⟩=bi (bF 13) [Lib.decDigits kn]:=by
 simp[aj,db,aA,aX,ba,az,bi]
theorem mG (kn:Nat):aq (aj ⟨13,0,0,0,0,0,(kn:Nat),0⟩)=bF 13 :: [Lib.decDigits kn]:=by
 rw[Bi]
 exact aM _ _ (by unfold Bf;decide) (by simp[dv])
theorem wn (kn:Nat)(hkn:kn<9223372036854775808)(k1:kn<4294967296):ay (aj ⟨13,0,0,0,0,0,(kn:Nat),0⟩)=⟨13,0,0,0,0,0,(kn:Nat),0⟩:=by
 unfold ay
 rw[aD _ (by rw[mG];simp),mG]
 have e:nl (bF 13)=13:=by decide
 simp[bU,e,db,bX,da,cF,bW,bZ kn hkn,aK.zero]
 omega
theorem Bh (dn sn an:Nat):aj ⟨16,(dn:Nat),(sn:Nat),0,0,(an:Nat),0,0⟩=bi (bF 16) [dA dn,Lib.decDigits an,dA sn]:=by
 simp[aj,db,aA,aX,ba,az,bi,dA]
theorem mF (dn sn an:Nat):aq (aj ⟨16,(dn:Nat),(sn:Nat),0,0,(an:Nat),0,0⟩)=bF 16 :: [dA dn,Lib.decDigits an,dA sn]:=by
 rw[Bh]
 exact aM _ _ (by unfold Bf;decide) (by simp[dh,dv])
theorem wm (dn sn an:Nat)(hdn:dn<9223372036854775808)(hsn:sn<9223372036854775808)(han:an<9223372036854775808):ay (aj ⟨16,(dn:Nat),(sn:Nat),0,0,(an:Nat),0,0⟩)=⟨16,(dn:Nat),(sn:Nat),0,0,(an:Nat),0,0⟩:=by
 unfold ay
 rw[aD _ (by rw[mF];simp),mF]
 have e:nl (bF 16)=16:=by decide
 simp[bU,e,db,bX,da,cF,bW,aF dn hdn,aF sn hsn,bZ an han,aK.zero]
theorem Bg (sn tn an:Nat):aj ⟨17,0,(sn:Nat),(tn:Nat),0,(an:Nat),0,0⟩=bi (bF 17) [Lib.decDigits an,dA sn,dA tn]:=by
 simp[aj,db,aA,aX,ba,az,bi,dA]
theorem mE (sn tn an:Nat):aq (aj ⟨17,0,(sn:Nat),(tn:Nat),0,(an:Nat),0,0⟩)=bF 17 :: [Lib.decDigits an,dA sn,dA tn]:=by
 rw[Bg]
 exact aM _ _ (by unfold Bf;decide) (by simp[dh,dv])
theorem wk (sn tn an:Nat)(hsn:sn<9223372036854775808)(htn:tn<9223372036854775808)(han:an<9223372036854775808):ay (aj ⟨17,0,(sn:Nat),(tn:Nat),0,(an:Nat),0,0⟩)=⟨17,0,(sn:Nat),(tn:Nat),0,(an:Nat),0,0⟩:=by
 unfold ay
 rw[aD _ (by rw[mE];simp),mE]
 have e:nl (bF 17)=17:=by decide
 simp[bU,e,db,bX,da,cF,bW,aF sn hsn,aF tn htn,bZ an han,aK.zero]
theorem Be (dn sn tn an:Nat):aj ⟨18,(dn:Nat),(sn:Nat),(tn:Nat),0,(an:Nat),0,0⟩=bi (bF 18) [dA dn,Lib.decDigits an,dA sn,dA tn]:=by
 simp[aj,db,aA,aX,ba,az,bi,dA]
theorem mD (dn sn tn an:Nat):aq (aj ⟨18,(dn:Nat),(sn:Nat),(tn:Nat),0,(an:Nat),0,0⟩)=bF 18 :: [dA dn,Lib.decDigits an,dA sn,dA tn]:=by
 rw[Be]
 exact aM _ _ (by unfold Bf;decide) (by simp[dh,dv])
theorem wj (dn sn tn an:Nat)(hdn:dn<9223372036854775808)(hsn:sn<9223372036854775808)(htn:tn<9223372036854775808)(han:an<9223372036854775808):ay (aj ⟨18,(dn:Nat),(sn:Nat),(tn:Nat),0,(an:Nat),0,0⟩)=⟨18,(dn:Nat),(sn:Nat),(tn:Nat),0,(an:Nat),0,0⟩:=by
 unfold ay
 rw[aD _ (by rw[mD];simp),mD]
 have e:nl (bF 18)=18:=by decide
 simp[bU,e,db,bX,da,cF,bW,aF dn hdn,aF sn hsn,aF tn htn,bZ an han,aK.zero]
theorem Bd (dn sn tn un an:Nat):aj ⟨19,(dn:Nat),(sn:Nat),(tn:Nat),(un:Nat),(an:Nat),0,0⟩=bi (bF 19) [dA dn,Lib.decDigits an,dA sn,dA tn,dA un]:=by
 simp[aj,db,aA,aX,ba,az,bi,dA]
theorem mC (dn sn tn un an:Nat):aq (aj ⟨19,(dn:Nat),(sn:Nat),(tn:Nat),(un:Nat),(an:Nat),0,0⟩)=bF 19 :: [dA dn,Lib.decDigits an,dA sn,dA tn,dA un]:=by
 rw[Bd]
 exact aM _ _ (by unfold Bf;decide) (by simp[dh,dv])
theorem wi (dn sn tn un an:Nat)(hdn:dn<9223372036854775808)(hsn:sn<9223372036854775808)(htn:tn<9223372036854775808)(hun:un<9223372036854775808)(han:an<9223372036854775808):ay (aj ⟨19,(dn:Nat),(sn:Nat),(tn:Nat),(un:Nat),(an:Nat),0,0⟩)=⟨19,(dn:Nat),(sn:Nat),(tn:Nat),(un:Nat),(an:Nat),0,0⟩:=by
 unfold ay
 rw[aD _ (by rw[mC];simp),mC]
 have e:nl (bF 19)=19:=by decide
 simp[bU,e,db,bX,da,cF,bW,aF dn hdn,aF sn hsn,aF tn htn,aF un hun,bZ an han,aK.zero]
theorem Bc (dn sn an kn:Nat):aj ⟨20,(dn:Nat),(sn:Nat),0,0,(an:Nat),(kn:Nat),0⟩=bi (bF 20) [dA dn,Lib.decDigits an,dA sn,Lib.decDigits kn]:=by
 simp[aj,db,aA,aX,ba,az,bi,dA]
theorem mB (dn sn an kn:Nat):aq (aj ⟨20,(dn:Nat),(sn:Nat),0,0,(an:Nat),(kn:Nat),0⟩)=bF 20 :: [dA dn,Lib.decDigits an,dA sn,Lib.decDigits kn]:=by
 rw[Bc]
 exact aM _ _ (by unfold Bf;decide) (by simp[dh,dv])
theorem wh (dn sn an kn:Nat)(hdn:dn<9223372036854775808)(hsn:sn<9223372036854775808)(han:an<9223372036854775808)(hkn:kn<9223372036854775808)(k1:kn<4294967296):ay (aj ⟨20,(dn:Nat),(sn:Nat),0,0,(an:Nat),(kn:Nat),0⟩)=⟨20,(dn:Nat),(sn:Nat),0,0,(an:Nat),(kn:Nat),0⟩:=by
 unfold ay
 rw[aD _ (by rw[mB];simp),mB]
 have e:nl (bF 20)=20:=by decide
 simp[bU,e,db,bX,da,cF,bW,aF dn hdn,aF sn hsn,bZ an han,bZ kn hkn,aK.zero]
 omega
theorem Ba (sn:Nat):aj ⟨23,0,(sn:Nat),0,0,0,0,0⟩=bi (bF 23) [dA sn]:=by
 simp[aj,db,aA,aX,ba,az,bi,dA]
theorem mz (sn:Nat):aq (aj ⟨23,0,(sn:Nat),0,0,0,0,0⟩)=bF 23 :: [dA sn]:=by
 rw[Ba]
 exact aM _ _ (by unfold Bf;decide) (by simp[dh])
theorem we (sn:Nat)(hsn:sn<9223372036854775808):ay (aj ⟨23,0,(sn:Nat),0,0,0,0,0⟩)=⟨23,0,(sn:Nat),0,0,0,0,0⟩:=by
 unfold ay
 rw[aD _ (by rw[mz];simp),mz]
 have e:nl (bF 23)=23:=by decide
 simp[bU,e,db,bX,da,cF,bW,aF sn hsn,aK.zero]
theorem td (dn sn tn an pn:Nat):aj ⟨21,(dn:Nat),(sn:Nat),(tn:Nat),0,(an:Nat),0,(pn:Nat)⟩=bi (bF 21) [dA dn,Lib.decDigits an,dA sn,[101,113],dA tn,[101,108,115,101],Lib.decDigits pn]:=by
 have e:¬ ((pn:Int)=-1):=by omega
 simp[aj,db,aA,aX,ba,az,bi,dA,e]
theorem fY (dn sn tn an pn:Nat):aq (aj ⟨21,(dn:Nat),(sn:Nat),(tn:Nat),0,(an:Nat),0,(pn:Nat)⟩)=bF 21 :: [dA dn,Lib.decDigits an,dA sn,[101,113],dA tn,[101,108,115,101],Lib.decDigits pn]:=by
 rw[td dn sn tn an pn]
 refine aM _ _ (by unfold Bf;decide) ?_
 have b1:Bf [101,113]:=by unfold Bf;decide
 have b2:Bf [101,108,115,101]:=by unfold Bf;decide
 simp[dh,dv,b1,b2]
theorem ph (dn sn tn an pn:Nat)(hdn:dn<9223372036854775808)(hsn:sn<9223372036854775808)(htn:tn<9223372036854775808)(han:an<9223372036854775808)(hpn:pn<9223372036854775808):ay (aj ⟨21,(dn:Nat),(sn:Nat),(tn:Nat),0,(an:Nat),0,(pn:Nat)⟩)=⟨21,(dn:Nat),(sn:Nat),(tn:Nat),0,(an:Nat),0,(pn:Nat)⟩:=by
 unfold ay
 rw[aD _ (by rw[fY dn sn tn an pn];simp),fY dn sn tn an pn]
 have e:nl (bF 21)=21:=by decide
 have v:jW [101,113]=0:=by decide
 simp[bU,e,db,bX,da,cF,bW,aF dn hdn,aF sn hsn,aF tn htn,bZ an han,bZ pn hpn,v,aK.zero]
theorem tf (dn sn tn an pn:Nat):aj ⟨21,(dn:Nat),(sn:Nat),(tn:Nat),0,(an:Nat),0,-1⟩=bi (bF 21) [dA dn,Lib.decDigits an,dA sn,[101,113],dA tn]:=by
 simp[aj,db,aA,aX,ba,az,bi,dA]
theorem fZ (dn sn tn an pn:Nat):aq (aj ⟨21,(dn:Nat),(sn:Nat),(tn:Nat),0,(an:Nat),0,-1⟩)=bF 21 :: [dA dn,Lib.decDigits an,dA sn,[101,113],dA tn]:=by
 rw[tf dn sn tn an pn]
 refine aM _ _ (by unfold Bf;decide) ?_
 have b1:Bf [101,113]:=by unfold Bf;decide
 simp[dh,dv,b1]
theorem pi (dn sn tn an pn:Nat)(hdn:dn<9223372036854775808)(hsn:sn<9223372036854775808)(htn:tn<9223372036854775808)(han:an<9223372036854775808)(hpn:pn<9223372036854775808):ay (aj ⟨21,(dn:Nat),(sn:Nat),(tn:Nat),0,(an:Nat),0,-1⟩)=⟨21,(dn:Nat),(sn:Nat),(tn:Nat),0,(an:Nat),0,-1⟩:=by
 unfold ay
 rw[aD _ (by rw[fZ dn sn tn an pn];simp),fZ dn sn tn an pn]
 have e:nl (bF 21)=21:=by decide
 have v:jW [101,113]=0:=by decide
 simp[bU,e,db,bX,da,cF,bW,aF dn hdn,aF sn hsn,aF tn htn,bZ an han,v,aK.zero]
theorem ta (dn sn tn an pn:Nat):aj ⟨21,(dn:Nat),(sn:Nat),(tn:Nat),0,(an:Nat),1,(pn:Nat)⟩=bi (bF 21) [dA dn,Lib.decDigits an,dA sn,[110,101],dA tn,[101,108,115,101],Lib.decDigits pn]:=by
 have e:¬ ((pn:Int)=-1):=by omega
 simp[aj,db,aA,aX,ba,az,bi,dA,e]
theorem fW (dn sn tn an pn:Nat):aq (aj ⟨21,(dn:Nat),(sn:Nat),(tn:Nat),0,(an:Nat),1,(pn:Nat)⟩)=bF 21 :: [dA dn,Lib.decDigits an,dA sn,[110,101],dA tn,[101,108,115,101],Lib.decDigits pn]:=by
 rw[ta dn sn tn an pn]
 refine aM _ _ (by unfold Bf;decide) ?_
 have b1:Bf [110,101]:=by unfold Bf;decide
 have b2:Bf [101,108,115,101]:=by unfold Bf;decide
 simp[dh,dv,b1,b2]
theorem pf (dn sn tn an pn:Nat)(hdn:dn<9223372036854775808)(hsn:sn<9223372036854775808)(htn:tn<9223372036854775808)(han:an<9223372036854775808)(hpn:pn<9223372036854775808):ay (aj ⟨21,(dn:Nat),(sn:Nat),(tn:Nat),0,(an:Nat),1,(pn:Nat)⟩)=⟨21,(dn:Nat),(sn:Nat),(tn:Nat),0,(an:Nat),1,(pn:Nat)⟩:=by
 unfold ay
 rw[aD _ (by rw[fW dn sn tn an pn];simp),fW dn sn tn an pn]
 have e:nl (bF 21)=21:=by decide
 have v:jW [110,101]=1:=by decide
 simp[bU,e,db,bX,da,cF,bW,aF dn hdn,aF sn hsn,aF tn htn,bZ an han,bZ pn hpn,v,aK.zero]
theorem tb (dn sn tn an pn:Nat):aj ⟨21,(dn:Nat),(sn:Nat),(tn:Nat),0,(an:Nat),1,-1⟩=bi (bF 21) [dA dn,Lib.decDigits an,dA sn,[110,101],dA tn]:=by
 simp[aj,db,aA,aX,ba,az,bi,dA]
theorem fX (dn sn tn an pn:Nat):aq (aj ⟨21,(dn:Nat),(sn:Nat),(tn:Nat),0,(an:Nat),1,-1⟩)=bF 21 :: [dA dn,Lib.decDigits an,dA sn,[110,101],dA tn]:=by
 rw[tb dn sn tn an pn]
 refine aM _ _ (by unfold Bf;decide) ?_
 have b1:Bf [110,101]:=by unfold Bf;decide
 simp[dh,dv,b1]
theorem pg (dn sn tn an pn:Nat)(hdn:dn<9223372036854775808)(hsn:sn<9223372036854775808)(htn:tn<9223372036854775808)(han:an<9223372036854775808)(hpn:pn<9223372036854775808):ay (aj ⟨21,(dn:Nat),(sn:Nat),(tn:Nat),0,(an:Nat),1,-1⟩)=⟨21,(dn:Nat),(sn:Nat),(tn:Nat),0,(an:Nat),1,-1⟩:=by
 unfold ay
 rw[aD _ (by rw[fX dn sn tn an pn];simp),fX dn sn tn an pn]
 have e:nl (bF 21)=21:=by decide
 have v:jW [110,101]=1:=by decide
 simp[bU,e,db,bX,da,cF,bW,aF dn hdn,aF sn hsn,aF tn htn,bZ an han,v,aK.zero]
theorem qx (i:aK)(h:au i 1073741824=O)(k0:0<=i.k)(k1:i.k<4294967296):ay (aj i)=i:=by
 obtain⟨hd,hs,ht,hu,ha⟩:=ee i _ h
 obtain⟨op,d,s,t,u,a,k,pl⟩:=i
 simp only at hd hs ht hu ha k0 k1
 rcases cj op with rfl|rfl|rfl|rfl|rfl|rfl|rfl|rfl|rfl|rfl|rfl|rfl|rfl|rfl|rfl|rfl|rfl|rfl|rfl|rfl|rfl | hn
 ·skip
  have hr:=lK d s t u a k pl 1073741824 hd hs ht hu ha k0 k1
  rw[h] at hr
  simp[df] at hr
  obtain⟨dn,rfl⟩:∃ n:Nat,d=n:=⟨d.toNat,by omega⟩
  obtain⟨sn,rfl⟩:∃ n:Nat,s=n:=⟨s.toNat,by omega⟩
  obtain⟨tn,rfl⟩:∃ n:Nat,t=n:=⟨t.toNat,by omega⟩
  obtain⟨un,rfl⟩:∃ n:Nat,u=n:=⟨u.toNat,by omega⟩
  obtain⟨an,rfl⟩:∃ n:Nat,a=n:=⟨a.toNat,by omega⟩
  obtain⟨kn,rfl⟩:∃ n:Nat,k=n:=⟨k.toNat,by omega⟩
  obtain rfl:sn=0:=by omega
  obtain rfl:tn=0:=by omega
  obtain rfl:un=0:=by omega
  obtain rfl:an=0:=by omega
  obtain rfl:pl=0:=by omega
  exact yU dn kn (by omega) (by omega) (by omega)
 ·skip
  have hr:=lJ d s t u a k pl 1073741824 hd hs ht hu ha k0 k1
  rw[h] at hr
  simp[df] at hr
  obtain⟨dn,rfl⟩:∃ n:Nat,d=n:=⟨d.toNat,by omega⟩
  obtain⟨sn,rfl⟩:∃ n:Nat,s=n:=⟨s.toNat,by omega⟩
  obtain⟨tn,rfl⟩:∃ n:Nat,t=n:=⟨t.toNat,by omega⟩
  obtain⟨un,rfl⟩:∃ n:Nat,u=n:=⟨u.toNat,by omega⟩
  obtain⟨an,rfl⟩:∃ n:Nat,a=n:=⟨a.toNat,by omega⟩
  obtain⟨kn,rfl⟩:∃ n:Nat,k=n:=⟨k.toNat,by omega⟩
  obtain rfl:tn=0:=by omega
  obtain rfl:un=0:=by omega
  obtain rfl:an=0:=by omega
  obtain rfl:kn=0:=by omega
  obtain rfl:pl=0:=by omega
  exact yT dn sn (by omega) (by omega)
 ·skip
  have hr:=lI d s t u a k pl 1073741824 hd hs ht hu ha k0 k1
  rw[h] at hr
  simp[df] at hr
  obtain⟨dn,rfl⟩:∃ n:Nat,d=n:=⟨d.toNat,by omega⟩
  obtain⟨sn,rfl⟩:∃ n:Nat,s=n:=⟨s.toNat,by omega⟩
  obtain⟨tn,rfl⟩:∃ n:Nat,t=n:=⟨t.toNat,by omega⟩
  obtain⟨un,rfl⟩:∃ n:Nat,u=n:=⟨u.toNat,by omega⟩
  obtain⟨an,rfl⟩:∃ n:Nat,a=n:=⟨a.toNat,by omega⟩
  obtain⟨kn,rfl⟩:∃ n:Nat,k=n:=⟨k.toNat,by omega⟩
  obtain rfl:tn=0:=by omega
  obtain rfl:un=0:=by omega
  obtain rfl:an=0:=by omega
  obtain rfl:pl=0:=by omega
  exact yS dn sn kn (by omega) (by omega) (by omega) (by omega)
 ·skip
  have hr:=lH d s t u a k pl 1073741824 hd hs ht hu ha k0 k1
  rw[h] at hr
  simp[df] at hr
  obtain⟨dn,rfl⟩:∃ n:Nat,d=n:=⟨d.toNat,by omega⟩
  obtain⟨sn,rfl⟩:∃ n:Nat,s=n:=⟨s.toNat,by omega⟩
  obtain⟨tn,rfl⟩:∃ n:Nat,t=n:=⟨t.toNat,by omega⟩
  obtain⟨un,rfl⟩:∃ n:Nat,u=n:=⟨u.toNat,by omega⟩
  obtain⟨an,rfl⟩:∃ n:Nat,a=n:=⟨a.toNat,by omega⟩
  obtain⟨kn,rfl⟩:∃ n:Nat,k=n:=⟨k.toNat,by omega⟩
  obtain rfl:tn=0:=by omega
  obtain rfl:un=0:=by omega
  obtain rfl:an=0:=by omega
  obtain rfl:pl=0:=by omega
  exact yR dn sn kn (by omega) (by omega) (by omega) (by omega)
 ·skip
  have hr:=jO d s t u a k pl 1073741824 hd hs ht hu ha k0 k1
  rw[h] at hr
  simp[df] at hr
  obtain⟨dn,rfl⟩:∃ n:Nat,d=n:=⟨d.toNat,by omega⟩
  obtain⟨sn,rfl⟩:∃ n:Nat,s=n:=⟨s.toNat,by omega⟩
  obtain⟨tn,rfl⟩:∃ n:Nat,t=n:=⟨t.toNat,by omega⟩
  obtain⟨un,rfl⟩:∃ n:Nat,u=n:=⟨u.toNat,by omega⟩
  obtain⟨an,rfl⟩:∃ n:Nat,a=n:=⟨a.toNat,by omega⟩
  obtain⟨kn,rfl⟩:∃ n:Nat,k=n:=⟨k.toNat,by omega⟩
  obtain rfl:tn=0:=by omega
  obtain rfl:un=0:=by omega
  obtain rfl:an=0:=by omega
  obtain rfl:pl=0:=by omega
  exact yQ dn sn kn (by omega) (by omega) (by omega) (by omega)
 ·skip
  have hr:=jN d s t u a k pl 1073741824 hd hs ht hu ha k0 k1
  rw[h] at hr
  simp[df] at hr
  obtain⟨dn,rfl⟩:∃ n:Nat,d=n:=⟨d.toNat,by omega⟩
  obtain⟨sn,rfl⟩:∃ n:Nat,s=n:=⟨s.toNat,by omega⟩
  obtain⟨tn,rfl⟩:∃ n:Nat,t=n:=⟨t.toNat,by omega⟩
  obtain⟨un,rfl⟩:∃ n:Nat,u=n:=⟨u.toNat,by omega⟩
  obtain⟨an,rfl⟩:∃ n:Nat,a=n:=⟨a.toNat,by omega⟩
  obtain⟨kn,rfl⟩:∃ n:Nat,k=n:=⟨k.toNat,by omega⟩
  obtain rfl:tn=0:=by omega
  obtain rfl:un=0:=by omega
  obtain rfl:an=0:=by omega
  obtain rfl:pl=0:=by omega
  exact yP dn sn kn (by omega) (by omega) (by omega) (by omega)
 ·skip
  have hr:=lG d s t u a k pl 1073741824 hd hs ht hu ha k0 k1
  rw[h] at hr
  simp[df] at hr
  obtain⟨dn,rfl⟩:∃ n:Nat,d=n:=⟨d.toNat,by omega⟩
  obtain⟨sn,rfl⟩:∃ n:Nat,s=n:=⟨s.toNat,by omega⟩
  obtain⟨tn,rfl⟩:∃ n:Nat,t=n:=⟨t.toNat,by omega⟩
  obtain⟨un,rfl⟩:∃ n:Nat,u=n:=⟨u.toNat,by omega⟩
  obtain⟨an,rfl⟩:∃ n:Nat,a=n:=⟨a.toNat,by omega⟩
  obtain⟨kn,rfl⟩:∃ n:Nat,k=n:=⟨k.toNat,by omega⟩
  obtain rfl:un=0:=by omega
  obtain rfl:an=0:=by omega
  obtain rfl:kn=0:=by omega
  obtain rfl:pl=0:=by omega
  exact yO dn sn tn (by omega) (by omega) (by omega)
 ·skip
  have hr:=lF d s t u a k pl 1073741824 hd hs ht hu ha k0 k1
  rw[h] at hr
  simp[df] at hr
  obtain⟨dn,rfl⟩:∃ n:Nat,d=n:=⟨d.toNat,by omega⟩
  obtain⟨sn,rfl⟩:∃ n:Nat,s=n:=⟨s.toNat,by omega⟩
  obtain⟨tn,rfl⟩:∃ n:Nat,t=n:=⟨t.toNat,by omega⟩
  obtain⟨un,rfl⟩:∃ n:Nat,u=n:=⟨u.toNat,by omega⟩
  obtain⟨an,rfl⟩:∃ n:Nat,a=n:=⟨a.toNat,by omega⟩
  obtain⟨kn,rfl⟩:∃ n:Nat,k=n:=⟨k.toNat,by omega⟩
  obtain rfl:dn=0:=by omega
  obtain rfl:un=0:=by omega
  obtain rfl:an=0:=by omega
  obtain rfl:kn=0:=by omega
  obtain⟨pn,rfl⟩:∃ n:Nat,pl=n:=⟨pl.toNat,by omega⟩
  exact yN sn tn pn (by omega) (by omega) (by omega)
 ·skip
  have hr:=lE d s t u a k pl 1073741824 hd hs ht hu ha k0 k1
  rw[h] at hr
  simp[df] at hr
  obtain⟨dn,rfl⟩:∃ n:Nat,d=n:=⟨d.toNat,by omega⟩
  obtain⟨sn,rfl⟩:∃ n:Nat,s=n:=⟨s.toNat,by omega⟩
  obtain⟨tn,rfl⟩:∃ n:Nat,t=n:=⟨t.toNat,by omega⟩
  obtain⟨un,rfl⟩:∃ n:Nat,u=n:=⟨u.toNat,by omega⟩
  obtain⟨an,rfl⟩:∃ n:Nat,a=n:=⟨a.toNat,by omega⟩
  obtain⟨kn,rfl⟩:∃ n:Nat,k=n:=⟨k.toNat,by omega⟩
  obtain rfl:dn=0:=by omega
  obtain rfl:un=0:=by omega
  obtain rfl:an=0:=by omega
  obtain rfl:kn=0:=by omega
  obtain⟨pn,rfl⟩:∃ n:Nat,pl=n:=⟨pl.toNat,by omega⟩
  exact yM sn tn pn (by omega) (by omega) (by omega)
 ·skip
  have hr:=jG d s t u a k pl 1073741824 hd hs ht hu ha k0 k1
  rw[h] at hr
  simp[df] at hr
  obtain⟨dn,rfl⟩:∃ n:Nat,d=n:=⟨d.toNat,by omega⟩
  obtain⟨sn,rfl⟩:∃ n:Nat,s=n:=⟨s.toNat,by omega⟩
  obtain⟨tn,rfl⟩:∃ n:Nat,t=n:=⟨t.toNat,by omega⟩
  obtain⟨un,rfl⟩:∃ n:Nat,u=n:=⟨u.toNat,by omega⟩
  obtain⟨an,rfl⟩:∃ n:Nat,a=n:=⟨a.toNat,by omega⟩
  obtain⟨kn,rfl⟩:∃ n:Nat,k=n:=⟨k.toNat,by omega⟩
  obtain rfl:dn=0:=by omega
  obtain rfl:sn=0:=by omega
  obtain rfl:tn=0:=by omega
  obtain rfl:un=0:=by omega
  obtain rfl:an=0:=by omega
  obtain rfl:kn=0:=by omega
  obtain⟨pn,rfl⟩:∃ n:Nat,pl=n:=⟨pl.toNat,by omega⟩
  exact wv pn (by omega)
 ·skip
  have hr:=jF d s t u a k pl 1073741824 hd hs ht hu ha k0 k1
  rw[h] at hr
  simp[df] at hr
  obtain⟨dn,rfl⟩:∃ n:Nat,d=n:=⟨d.toNat,by omega⟩
  obtain⟨sn,rfl⟩:∃ n:Nat,s=n:=⟨s.toNat,by omega⟩
  obtain⟨tn,rfl⟩:∃ n:Nat,t=n:=⟨t.toNat,by omega⟩
  obtain⟨un,rfl⟩:∃ n:Nat,u=n:=⟨u.toNat,by omega⟩
  obtain⟨an,rfl⟩:∃ n:Nat,a=n:=⟨a.toNat,by omega⟩
  obtain⟨kn,rfl⟩:∃ n:Nat,k=n:=⟨k.toNat,by omega⟩
  obtain rfl:sn=0:=by omega
  obtain rfl:tn=0:=by omega
  obtain rfl:un=0:=by omega
  obtain rfl:an=0:=by omega
  obtain rfl:kn=0:=by omega
  obtain rfl:pl=0:=by omega
  exact wq dn (by omega)
 ·skip
  have hr:=ir d s t u a k pl 1073741824 hd hs ht hu ha k0 k1
  rw[h] at hr
  simp[df] at hr
  obtain⟨dn,rfl⟩:∃ n:Nat,d=n:=⟨d.toNat,by omega⟩
  obtain⟨sn,rfl⟩:∃ n:Nat,s=n:=⟨s.toNat,by omega⟩
  obtain⟨tn,rfl⟩:∃ n:Nat,t=n:=⟨t.toNat,by omega⟩
  obtain⟨un,rfl⟩:∃ n:Nat,u=n:=⟨u.toNat,by omega⟩
  obtain⟨an,rfl⟩:∃ n:Nat,a=n:=⟨a.toNat,by omega⟩
  obtain⟨kn,rfl⟩:∃ n:Nat,k=n:=⟨k.toNat,by omega⟩
  obtain rfl:dn=0:=by omega
  obtain rfl:sn=0:=by omega
  obtain rfl:tn=0:=by omega
  obtain rfl:un=0:=by omega
  obtain rfl:an=0:=by omega
  obtain rfl:pl=0:=by omega
  exact wo kn (by omega) (by omega)
 ·skip
  have hr:=iq d s t u a k pl 1073741824 hd hs ht hu ha k0 k1
  rw[h] at hr
  simp[df] at hr
  obtain⟨dn,rfl⟩:∃ n:Nat,d=n:=⟨d.toNat,by omega⟩
  obtain⟨sn,rfl⟩:∃ n:Nat,s=n:=⟨s.toNat,by omega⟩
  obtain⟨tn,rfl⟩:∃ n:Nat,t=n:=⟨t.toNat,by omega⟩
  obtain⟨un,rfl⟩:∃ n:Nat,u=n:=⟨u.toNat,by omega⟩
  obtain⟨an,rfl⟩:∃ n:Nat,a=n:=⟨a.toNat,by omega⟩
  obtain⟨kn,rfl⟩:∃ n:Nat,k=n:=⟨k.toNat,by omega⟩
  obtain rfl:dn=0:=by omega
  obtain rfl:sn=0:=by omega
  obtain rfl:tn=0:=by omega
  obtain rfl:un=0:=by omega
  obtain rfl:an=0:=by omega
  obtain rfl:pl=0:=by omega
  exact wn kn (by omega) (by omega)
 ·skip
  have hr:=jE d s t u a k pl 1073741824 hd hs ht hu ha k0 k1
  rw[h] at hr
  simp[df] at hr
  obtain⟨dn,rfl⟩:∃ n:Nat,d=n:=⟨d.toNat,by omega⟩
  obtain⟨sn,rfl⟩:∃ n:Nat,s=n:=⟨s.toNat,by omega⟩
  obtain⟨tn,rfl⟩:∃ n:Nat,t=n:=⟨t.toNat,by omega⟩
  obtain⟨un,rfl⟩:∃ n:Nat,u=n:=⟨u.toNat,by omega⟩
  obtain⟨an,rfl⟩:∃ n:Nat,a=n:=⟨a.toNat,by omega⟩
  obtain⟨kn,rfl⟩:∃ n:Nat,k=n:=⟨k.toNat,by omega⟩
  obtain rfl:tn=0:=by omega
  obtain rfl:un=0:=by omega
  obtain rfl:kn=0:=by omega
  obtain rfl:pl=0:=by omega
  exact wm dn sn an (by omega) (by omega) (by omega)
 ·skip
  have hr:=jD d s t u a k pl 1073741824 hd hs ht hu ha k0 k1
  rw[h] at hr
  simp[df] at hr
  obtain⟨dn,rfl⟩:∃ n:Nat,d=n:=⟨d.toNat,by omega⟩
  obtain⟨sn,rfl⟩:∃ n:Nat,s=n:=⟨s.toNat,by omega⟩
  obtain⟨tn,rfl⟩:∃ n:Nat,t=n:=⟨t.toNat,by omega⟩
  obtain⟨un,rfl⟩:∃ n:Nat,u=n:=⟨u.toNat,by omega⟩
  obtain⟨an,rfl⟩:∃ n:Nat,a=n:=⟨a.toNat,by omega⟩
  obtain⟨kn,rfl⟩:∃ n:Nat,k=n:=⟨k.toNat,by omega⟩
  obtain rfl:dn=0:=by omega
  obtain rfl:un=0:=by omega
  obtain rfl:kn=0:=by omega
  obtain rfl:pl=0:=by omega
  exact wk sn tn an (by omega) (by omega) (by omega)
 ·skip
  have hr:=jC d s t u a k pl 1073741824 hd hs ht hu ha k0 k1
  rw[h] at hr
  simp[df] at hr
  obtain⟨dn,rfl⟩:∃ n:Nat,d=n:=⟨d.toNat,by omega⟩
  obtain⟨sn,rfl⟩:∃ n:Nat,s=n:=⟨s.toNat,by omega⟩
  obtain⟨tn,rfl⟩:∃ n:Nat,t=n:=⟨t.toNat,by omega⟩
  obtain⟨un,rfl⟩:∃ n:Nat,u=n:=⟨u.toNat,by omega⟩
  obtain⟨an,rfl⟩:∃ n:Nat,a=n:=⟨a.toNat,by omega⟩
  obtain⟨kn,rfl⟩:∃ n:Nat,k=n:=⟨k.toNat,by omega⟩
  obtain rfl:un=0:=by omega
  obtain rfl:kn=0:=by omega
  obtain rfl:pl=0:=by omega
  exact wj dn sn tn an (by omega) (by omega) (by omega) (by omega)
 ·skip
  have hr:=jB d s t u a k pl 1073741824 hd hs ht hu ha k0 k1
  rw[h] at hr
  simp[df] at hr
  obtain⟨dn,rfl⟩:∃ n:Nat,d=n:=⟨d.toNat,by omega⟩
  obtain⟨sn,rfl⟩:∃ n:Nat,s=n:=⟨s.toNat,by omega⟩
  obtain⟨tn,rfl⟩:∃ n:Nat,t=n:=⟨t.toNat,by omega⟩
  obtain⟨un,rfl⟩:∃ n:Nat,u=n:=⟨u.toNat,by omega⟩
  obtain⟨an,rfl⟩:∃ n:Nat,a=n:=⟨a.toNat,by omega⟩
  obtain⟨kn,rfl⟩:∃ n:Nat,k=n:=⟨k.toNat,by omega⟩
  obtain rfl:kn=0:=by omega
  obtain rfl:pl=0:=by omega
  exact wi dn sn tn un an (by omega) (by omega) (by omega) (by omega) (by omega)
 ·skip
  have hr:=jA d s t u a k pl 1073741824 hd hs ht hu ha k0 k1
  rw[h] at hr
  simp[df] at hr
  obtain⟨dn,rfl⟩:∃ n:Nat,d=n:=⟨d.toNat,by omega⟩
  obtain⟨sn,rfl⟩:∃ n:Nat,s=n:=⟨s.toNat,by omega⟩
  obtain⟨tn,rfl⟩:∃ n:Nat,t=n:=⟨t.toNat,by omega⟩
  obtain⟨un,rfl⟩:∃ n:Nat,u=n:=⟨u.toNat,by omega⟩
  obtain⟨an,rfl⟩:∃ n:Nat,a=n:=⟨a.toNat,by omega⟩
  obtain⟨kn,rfl⟩:∃ n:Nat,k=n:=⟨k.toNat,by omega⟩
  obtain rfl:tn=0:=by omega
  obtain rfl:un=0:=by omega
  obtain rfl:pl=0:=by omega
  exact wh dn sn an kn (by omega) (by omega) (by omega) (by omega) (by omega)
 ·skip
  have hr:=gG d s t u a k pl 1073741824 hd hs ht hu ha k0 k1
  rw[h] at hr
  simp[df] at hr
  obtain⟨dn,rfl⟩:∃ n:Nat,d=n:=⟨d.toNat,by omega⟩
  obtain⟨sn,rfl⟩:∃ n:Nat,s=n:=⟨s.toNat,by omega⟩
  obtain⟨tn,rfl⟩:∃ n:Nat,t=n:=⟨t.toNat,by omega⟩
  obtain⟨un,rfl⟩:∃ n:Nat,u=n:=⟨u.toNat,by omega⟩
  obtain⟨an,rfl⟩:∃ n:Nat,a=n:=⟨a.toNat,by omega⟩
  obtain⟨kn,rfl⟩:∃ n:Nat,k=n:=⟨k.toNat,by omega⟩
  obtain rfl:un=0:=by omega
  by_cases hm:pl=-1
  ·subst hm
   by_cases hk:kn=0
   ·subst hk;exact pi dn sn tn an 0 (by omega) (by omega) (by omega) (by omega) (by omega)
   ·obtain rfl:kn=1:=by omega
    exact pg dn sn tn an 0 (by omega) (by omega) (by omega) (by omega) (by omega)
  ·obtain⟨pn,rfl⟩:∃ n:Nat,pl=n:=⟨pl.toNat,by omega⟩
   by_cases hk:kn=0
   ·subst hk;exact ph dn sn tn an pn (by omega) (by omega) (by omega) (by omega) (by omega)
   ·obtain rfl:kn=1:=by omega
    exact pf dn sn tn an pn (by omega) (by omega) (by omega) (by omega) (by omega)
 ·skip
  have hr:=jz d s t u a k pl 1073741824 hd hs ht hu ha k0 k1
  rw[h] at hr
  simp[df] at hr
  obtain⟨dn,rfl⟩:∃ n:Nat,d=n:=⟨d.toNat,by omega⟩
  obtain⟨sn,rfl⟩:∃ n:Nat,s=n:=⟨s.toNat,by omega⟩
  obtain⟨tn,rfl⟩:∃ n:Nat,t=n:=⟨t.toNat,by omega⟩
  obtain⟨un,rfl⟩:∃ n:Nat,u=n:=⟨u.toNat,by omega⟩
  obtain⟨an,rfl⟩:∃ n:Nat,a=n:=⟨a.toNat,by omega⟩
  obtain⟨kn,rfl⟩:∃ n:Nat,k=n:=⟨k.toNat,by omega⟩
  obtain rfl:sn=0:=by omega
  obtain rfl:tn=0:=by omega
  obtain rfl:un=0:=by omega
  obtain rfl:an=0:=by omega
  obtain rfl:kn=0:=by omega
  obtain rfl:pl=0:=by omega
  exact wg dn (by omega)
 ·skip
  have hr:=jy d s t u a k pl 1073741824 hd hs ht hu ha k0 k1
  rw[h] at hr
  simp[df] at hr
  obtain⟨dn,rfl⟩:∃ n:Nat,d=n:=⟨d.toNat,by omega⟩
  obtain⟨sn,rfl⟩:∃ n:Nat,s=n:=⟨s.toNat,by omega⟩
  obtain⟨tn,rfl⟩:∃ n:Nat,t=n:=⟨t.toNat,by omega⟩
  obtain⟨un,rfl⟩:∃ n:Nat,u=n:=⟨u.toNat,by omega⟩
  obtain⟨an,rfl⟩:∃ n:Nat,a=n:=⟨a.toNat,by omega⟩
  obtain⟨kn,rfl⟩:∃ n:Nat,k=n:=⟨k.toNat,by omega⟩
  obtain rfl:dn=0:=by omega
  obtain rfl:tn=0:=by omega
  obtain rfl:un=0:=by omega
  obtain rfl:an=0:=by omega
  obtain rfl:kn=0:=by omega
  obtain rfl:pl=0:=by omega
  exact we sn (by omega)
 ·exfalso
  unfold au at h
  simp only[(dr hn).1] at h
  cases h
theorem sO (i:aK)(h:au i 1073741824=O)(k0:0<=i.k)(k1:i.k<4294967296):jj (aj i)=O/\ay (aj i)=i:=by
 have e:=qx i h k0 k1
 refine⟨?_,e⟩
 unfold jj
 rw[e,h]
 simp
end
section
open Go.ChangeShapes Go.WideShapes Go.ChangeAt Go.RowKit
def iT (s:List UInt8):Int:=
 if s.length=2/\(s.getD 0 0).toNat=114/\48<=(s.getD 1 0).toNat/\(s.getD 1 0).toNat<=55 then ((s.getD 1 0).toNat:Int)-48 else -1
theorem vu (s:List UInt8)(hl:s.length<100000)(w:World):
 Calls Tryz.prog 142 #[bs s] w fun e w'=>e=.returned (I Q (iT s))/\w=w':=by
 have E:iT s=if s.length=2/\(s.getD 0 0).toNat=114/\48<=(s.getD 1 0).toNat/\(s.getD 1 0).toNat<=55 then ((s.getD 1 0).toNat:Int)-48 else -1:=rfl
 generalize iT s=r at *
 unfold bs
 by_cases h2:s.length=2
 ·have i0:∀ w,(Instr.index 9 (.string ⟨s.toArray⟩) (I Q 0)).run Tryz.prog w=.ok (I .u8 ((s.getD 0 0).toNat:Int)) w:=eA s 0 (by omega)
  have i1:∀ w,(Instr.index 9 (.string ⟨s.toArray⟩) (I Q 1)).run Tryz.prog w=.ok (I .u8 ((s.getD 1 0).toNat:Int)) w:=eA s 1 (by omega)
  generalize (s.getD 0 0).toNat=x at *
  generalize (s.getD 1 0).toNat=y at *
  have dl:((s.length:Int) != 2)=N:=by simp;omega
  by_cases h1:x=114
  ·subst h1
   by_cases h3:y<48
   ·have HE:=Z (E.trans (if_neg (by omega)))
    clear E h2
    have d:(y:Int)<48:=by omega
    have d0:((114:Nat):Int)=114:=rfl
    rw[d0] at i0
    clear d0
    go_enter Tryz.func142,Tryz.ntmps142
    go_wp2
    go_ret
    exact⟨ci HE.out.symm,rfl⟩
   have d0:((114:Nat):Int)=114:=rfl
   rw[d0] at i0
   clear d0
   by_cases h4:55<y
   ·have HE:=Z (E.trans (if_neg (by omega)))
    clear E h2
    have d:decide ((y:Int)<48)=N:=by simp;omega
    have d2:(y:Int) > 55:=by omega
    go_enter Tryz.func142,Tryz.ntmps142
    go_wp2
    go_ret
    exact⟨ci HE.out.symm,rfl⟩
   ·have HE:=Z (E.trans (if_pos (by omega)))
    clear E h2
    have d:decide ((y:Int)<48)=N:=by simp;omega
    have d2:decide ((y:Int) > 55)=N:=by simp;omega
    have d3:48<=(y:Int):=by omega
    have d4:(y:Int)<=55:=by omega
    go_enter Tryz.func142,Tryz.ntmps142
    go_wp2
    go_ret
    exact⟨ci HE.out.symm,rfl⟩
  ·have HE:=Z (E.trans (if_neg (by omega)))
   clear E h2
   have d:((x:Int) != 114)=O:=by simp;omega
   go_enter Tryz.func142,Tryz.ntmps142
   go_wp2
   go_ret
   exact⟨ci HE.out.symm,rfl⟩
 ·have HE:=Z (E.trans (if_neg (by omega)))
  have d:((s.length:Int) != 2)=O:=by simp;omega
  clear E
  go_enter Tryz.func142,Tryz.ntmps142
  go_wp2
  go_ret
  exact⟨ci HE.out.symm,rfl⟩
def dq (acc:Int):List UInt8->Option Int
 | []=>some acc
 | c :: r=>if 48<=c.toNat/\c.toNat<=57 then dq (acc*10+((c.toNat:Int)-48)) r else none
def pW:Option Int->Int
 | none=>-1
 | some n=>if 4294967295<n then -1 else n
def kN (s:List UInt8):Int:=
 if s=[]\/10<s.length\/(1<s.length/\(s.getD 0 0).toNat=48) then -1 else pW (dq 0 s)
theorem pa (acc:Int)(s:List UInt8)(k:Nat)(h:k<s.length):
 dq acc (s.drop k)=if 48<=(s.getD k 0).toNat/\(s.getD k 0).toNat<=57 then dq (acc*10+(((s.getD k 0).toNat:Int)-48)) (s.drop (k+1)) else none:=by
 rw[List.drop_eq_getElem_cons h]
 simp[dq,h]
def xC:Nat->Int
 | 0=>1
 | n+1=>xC n*10
theorem Aw:∀ k,k<=10->1<=xC k/\xC k<=10000000000:=by
 intro k hk
 have:k=0\/k=1\/k=2\/k=3\/k=4\/k=5\/k=6\/k=7\/k=8\/k=9\/k=10:=by omega
 rcases this with rfl|rfl|rfl|rfl|rfl|rfl|rfl|rfl|rfl|rfl|rfl <;> decide
theorem AK (s:List UInt8)(hl:s.length<100000)(w:World):
 Calls Tryz.prog 143 #[bs s] w fun e w'=>e=.returned (I Q (kN s))/\w=w':=by
 have E:kN s=if s=[]\/10<s.length\/(1<s.length/\(s.getD 0 0).toNat=48) then -1 else pW (dq 0 s):=rfl
 generalize kN s=r at *
 by_cases h0:s=[]
 ·subst h0
  have HE:=Z (E.trans (if_pos (.inl rfl)))
  clear E
  unfold bs
  go_enter Tryz.func143,Tryz.ntmps143
  go_wp2
  go_ret
  exact⟨ci HE.out.symm,rfl⟩
 have he:s.isEmpty=N:=by simpa using h0
 have hpos:0<s.length:=List.length_pos_iff.2 h0
 by_cases h10:10<s.length
 ·have HE:=Z (E.trans (if_pos (.inr (.inl h10))))
  have d:(s.length:Int) > 10:=by omega
  clear E h0
  unfold bs
  go_enter Tryz.func143,Tryz.ntmps143
  go_wp2
  go_ret
  exact⟨ci HE.out.symm,rfl⟩
 have d10:decide ((s.length:Int) > 10)=N:=by simp;omega
 have i0:∀ w,(Instr.index 9 (.string ⟨s.toArray⟩) (I Q 0)).run Tryz.prog w=.ok (I .u8 ((s.getD 0 0).toNat:Int)) w:=eA s 0 hpos
 by_cases h1:1<s.length/\(s.getD 0 0).toNat=48
 ·have HE:=Z (E.trans (if_pos (.inr (.inr h1))))
  obtain⟨h1,h48⟩:=h1
  rw[h48] at i0
  have d0:((48:Nat):Int)=48:=rfl
  rw[d0] at i0
  clear d0
  have d:(s.length:Int) > 1:=by omega
  clear E h0 h48
  unfold bs
  go_enter Tryz.func143,Tryz.ntmps143
  go_wp2
  go_ret
  exact⟨ci HE.out.symm,rfl⟩
 have E2:r=pW (dq 0 s):=E.trans (if_neg (by
  rintro(h | h | h)
  ·exact h0 h
  ·exact h10 h
  ·exact h1 h))
 have HE:=Z E2
 clear E E2
 have HK:=Z (Aw)
 generalize (s.getD 0 0).toNat=c0 at *
 unfold bs
 have hgo:∀ (K:Prop),((decide ((s.length:Int) > 1)=N->K)/\(decide ((s.length:Int) > 1)=O->((c0:Int)==48)=N->K))->K:=by
  intro K hK
  by_cases h:s.length=1
  ·exact hK.1 (by simp;omega)
  ·have:c0≠48:=fun e=>h1 ⟨by omega,e⟩
   exact hK.2 (by simp;omega) (by simp;omega)
 refine hgo _ ⟨fun hd1=>?_,fun hd1 hd2=>?_⟩
 all_goals
  clear hgo h0 h1
  go_enter Tryz.func143,Tryz.ntmps143
  go_wp2
  go_loop [3,4] (fun n i=>∃ (k:Nat) (v:Int),k<=s.length/\i=I Q k/\n=I Q v/\0<=v/\v<xC k/\r=pW (dq v (s.drop k))) (fun _ i=>s.length-(intOf i).toNat)
  case atStart=>exact⟨0,0,Nat.zero_le _,rfl,rfl,by omega,by decide,HE.out⟩
  case round=>
   obtain⟨k,v,hk,rfl,rfl,v0,v1,hr⟩:=hrel
   obtain⟨q0,q1⟩:=HK.out k (by omega)
   by_cases hlt:k<s.length
   ·have ix:=eA s k hlt
    rw[pa v s k hlt] at hr
    have hrf:xC (k+1)=xC k*10:=rfl
    have hu:=(s.getD k 0).toNat_lt
    generalize (s.getD k 0).toNat=c at *
    have HR:=Z hr
    have HF:=Z hrf
    clear hr hrf
    by_cases c1:c<48
    ·rw[if_neg (by omega)] at HR
     have d1:(c:Int)<48:=by omega
     go_wp2
     go_ret
     exact⟨ci HR.out.symm,rfl⟩
    by_cases c2:57<c
    ·rw[if_neg (by omega)] at HR
     have d1:decide ((c:Int)<48)=N:=by simp;omega
     have d2:(c:Int) > 57:=by omega
     go_wp2
     go_ret
     exact⟨ci HR.out.symm,rfl⟩
    ·rw[if_pos (by omega)] at HR
     have d1:decide ((c:Int)<48)=N:=by simp;omega
     have d2:decide ((c:Int) > 57)=N:=by simp;omega
     have d3:48<=(c:Int):=by omega
     have d4:(c:Int)<=57:=by omega
     have hv9:v<10000000000:=by omega
     have hk10:(k:Int)<=10:=by omega
     go_wp2
     go_round
     case rel=>exact⟨k+1,v*10+((c:Int)-48),by omega,by go_num,rfl,by omega,by rw[HF.out];omega,HR.out⟩
     case measure=>simp[intOf];omega
   ·obtain rfl:k=s.length:=by omega
    rw[List.drop_length] at hr
    have HR:=Z (show r=if 4294967295<v then -1 else v from hr)
    clear hr
    by_cases hv:4294967295<v
    ·rw[if_pos hv] at HR
     go_wp2
     go_ret
     exact⟨ci HR.out.symm,rfl⟩
    ·rw[if_neg hv] at HR
     go_wp2
     go_ret
     exact⟨ci HR.out.symm,rfl⟩
end
section
def eP (w:List UInt8):Nat->Int
 | 0=>0
 | n+1=>if (bF ((n:Int)+1)).isEmpty=N/\bF ((n:Int)+1)=w then (n:Int)+1 else eP w n
def j4 (w:List UInt8):Bool:=decide (0<=iT w) || (decide (0<=kN w) || (decide (w=[110,101]) || (decide (w=[101,113]) || decide (w=[101,108,115,101]))))
def ii (w:List UInt8):List Int:=if 0<=iT w then [iT w] else []
def ij (w:List UInt8):List Int:=if 0<=iT w then [] else if 0<=kN w then [kN w] else []
def kP (w:List UInt8):Bool:=!decide (0<=iT w) && (!decide (0<=kN w) && decide (w=[110,101]))
def bt (l:List (List UInt8)):List Int:=l.flatMap ii
def bQ (l:List (List UInt8)):List Int:=l.flatMap ij
def lr (l:List (List UInt8)):Int:=if l.any kP=O then 1 else 0
def cq (n:Nat)(v:Int)(l:List Int):List Int:=l++List.replicate (n-l.length) v
def cQ (op:Int)(rs ns:List Int)(k:Int):aK:=
 if op=1\/op=3\/op=4\/op=5\/op=6 then ⟨op,aG rs 0,aG rs 1,aG rs 2,0,0,aG ns 0 % 4294967296,0⟩
 else if op=2\/op=7\/op=11\/op=22 then ⟨op,aG rs 0,aG rs 1,aG rs 2,0,0,k,0⟩
 else if op=8\/op=9\/op=10 then ⟨op,0,aG rs 0,aG rs 1,0,0,k,aG ns 0⟩
 else if op=12\/op=13 then ⟨op,0,0,0,0,0,aG ns 0 % 4294967296,0⟩
 else if op=16\/op=18\/op=19 then ⟨op,aG rs 0,aG rs 1,aG rs 2,aG rs 3,aG ns 0,k,0⟩
 else if op=20 then ⟨op,aG rs 0,aG rs 1,aG rs 2,aG rs 3,aG ns 0,aG ns 1 % 4294967296,0⟩
 else if op=21 then ⟨op,aG rs 0,aG rs 1,aG rs 2,aG rs 3,aG ns 0,k,aG ns 1⟩
 else if op=17 then ⟨op,0,aG rs 0,aG rs 1,0,aG ns 0,k,0⟩
 else if op=23 then ⟨op,0,aG rs 0,0,0,0,k,0⟩
 else ⟨op,0,0,0,0,0,k,0⟩
def aE (ws:List (List UInt8)):aK:=cQ (eP (ws.getD 0 []) 23) (cq 4 0 (bt ws.tail)) (cq 2 (-1) (bQ ws.tail)) (lr ws.tail)
def jR (s:List UInt8):Bool:=(aq s).tail.all j4 && (au (aE (aq s)) 1073741824 && decide (aj (aE (aq s))=s))
theorem kF:∀ (a b:List UInt8) (acc u:Int),dq acc a=some u->dq acc (a++b)=dq u b
 | [],b,acc,u,h=>by simp[dq] at h;subst h;rfl
 | c :: a,b,acc,u,h=>by
  simp only[dq,List.cons_append] at h ⊢
  split at h
  ·rename_i h1
   rw[if_pos h1]
   exact kF a b _ u h
  ·cases h
theorem ig:∀ (n:Nat),dq 0 (Lib.decDigits n)=some (n:Int):=by
 intro n
 induction n using Nat.strongRecOn with
 | _ n ih=>
  rw[Lib.decDigits]
  by_cases h:n<10
  ·rw[dif_pos h]
   have e:(UInt8.ofNat (48+n)).toNat=48+n:=by rw[UInt8.toNat_ofNat',Nat.mod_eq_of_lt (by omega)]
   simp only[dq,e]
   rw[if_pos (by omega)]
   congr 1
   omega
  ·rw[dif_neg h,kF _ _ _ _ (ih (n / 10) (by omega))]
   have e:(UInt8.ofNat (48+n % 10)).toNat=48+n % 10:=by rw[UInt8.toNat_ofNat',Nat.mod_eq_of_lt (by omega)]
   simp only[dq,e]
   rw[if_pos (by omega)]
   congr 1
   omega
theorem oK:∀ (m n:Nat),n<10 ^ (m+1)->(Lib.decDigits n).length<=m+1:=by
 intro m
 induction m with
 | zero=>intro n h;rw[Lib.decDigits,dif_pos (by simpa using h)];simp
 | succ m ih=>
  intro n h
  rw[Lib.decDigits]
  by_cases h9:n<10
  ·rw[dif_pos h9];simp
  ·rw[dif_neg h9]
   have h2:n / 10<10 ^ (m+1):=by
    rw[Nat.div_lt_iff_lt_mul (by decide)]
    rw[Nat.pow_succ] at h
    exact h
   have:=ih _ h2
   simp
   omega
theorem AV (n:Nat)(h:n<4294967296):kN (Lib.decDigits n)=n:=by
 have hf:=ig n
 have hl:=oK 9 n (by
  have:(10:Nat) ^ (9+1)=10000000000:=by decide
  omega)
 obtain⟨c,r,e,h1,h2,h3⟩:=iy n
 have h10:1<(Lib.decDigits n).length->10<=n:=by
  intro hh
  by_cases hn:n<10
  ·rw[Lib.decDigits,dif_pos hn] at hh;simp at hh
  ·omega
 unfold kN
 rw[if_neg,hf]
 ·show (if 4294967295<(n:Int) then -1 else (n:Int))=n
  rw[if_neg (by omega)]
 ·rintro(hh | hh | ⟨hh,hz⟩)
  ·rw[e] at hh;cases hh
  ·omega
  ·have:=h3 (h10 hh)
   rw[e] at hz
   simp at hz
   omega
theorem Ay (n:Nat):iT (Lib.decDigits n)=-1:=by
 obtain⟨c,r,e,h1,h2,-⟩:=iy n
 unfold iT
 rw[if_neg]
 rintro⟨-,hh,-⟩
 rw[e] at hh
 simp at hh
 omega
theorem Ax (n:Nat)(h:n<=7):iT (dA n)=n:=by
 unfold dA
 rw[Lib.decDigits,dif_pos (by omega)]
 have e:(UInt8.ofNat (48+n)).toNat=48+n:=by rw[UInt8.toNat_ofNat',Nat.mod_eq_of_lt (by omega)]
 unfold iT
 rw[if_pos]
 ·simp only[List.getD_cons_succ,List.getD_cons_zero,e];omega
 ·refine⟨rfl,rfl,?_⟩
  simp only[List.getD_cons_succ,List.getD_cons_zero,e]
  omega
theorem bw (n:Nat)(h:n<=7):j4 (dA n)=O/\ii (dA n)=[(n:Int)]/\ij (dA n)=[]/\kP (dA n)=N:=by
 have e:=Ax n h
 unfold j4 ii ij kP
 rw[e]
 have h0:(0:Int)<=(n:Int):=by omega
 simp[h0]
theorem dO (n:Nat)(h:n<4294967296):j4 (Lib.decDigits n)=O/\ii (Lib.decDigits n)=[]/\ij (Lib.decDigits n)=[(n:Int)]/\kP (Lib.decDigits n)=N:=by
 have e:=AV n h
 have e2:=Ay n
 unfold j4 ii ij kP
 rw[e,e2]
 have h0:(0:Int)<=(n:Int):=by omega
 simp[h0]
theorem Ee:j4 [101,113]=O/\ii [101,113]=[]/\ij [101,113]=[]/\kP [101,113]=N:=by decide
theorem Ed:j4 [110,101]=O/\ii [110,101]=[]/\ij [110,101]=[]/\kP [110,101]=O:=by decide
theorem pS:j4 [101,108,115,101]=O/\ii [101,108,115,101]=[]/\ij [101,108,115,101]=[]/\kP [101,108,115,101]=N:=by decide
theorem wG (dn kn:Nat)(hdn:dn<=7)(hkn:kn<4294967296):(aq (aj ⟨1,(dn:Nat),0,0,0,0,(kn:Nat),0⟩)).tail.all j4=O/\aE (aq (aj ⟨1,(dn:Nat),0,0,0,0,(kn:Nat),0⟩))=⟨1,(dn:Nat),0,0,0,0,(kn:Nat),0⟩:=by
 obtain⟨adn,bdn,cdn,ddn⟩:=bw dn hdn
 obtain⟨akn,bkn,ckn,dkn⟩:=dO kn hkn
 rw[px]
 have e:eP (bF 1) 23=1:=by decide
 refine⟨by simp[adn,akn],?_⟩
 simp[aE,e,bt,bQ,bdn,cdn,bkn,ckn,cq,cQ,aG]
 omega
theorem wF (dn sn:Nat)(hdn:dn<=7)(hsn:sn<=7):(aq (aj ⟨2,(dn:Nat),(sn:Nat),0,0,0,0,0⟩)).tail.all j4=O/\aE (aq (aj ⟨2,(dn:Nat),(sn:Nat),0,0,0,0,0⟩))=⟨2,(dn:Nat),(sn:Nat),0,0,0,0,0⟩:=by
 obtain⟨adn,bdn,cdn,ddn⟩:=bw dn hdn
 obtain⟨asn,bsn,csn,dsn⟩:=bw sn hsn
 rw[pw]
 have e:eP (bF 2) 23=2:=by decide
 refine⟨by simp[adn,asn],?_⟩
 simp[aE,e,bt,lr,bdn,ddn,bsn,dsn,cq,cQ,aG]
theorem wE (dn sn kn:Nat)(hdn:dn<=7)(hsn:sn<=7)(hkn:kn<4294967296):(aq (aj ⟨3,(dn:Nat),(sn:Nat),0,0,0,(kn:Nat),0⟩)).tail.all j4=O/\aE (aq (aj ⟨3,(dn:Nat),(sn:Nat),0,0,0,(kn:Nat),0⟩))=⟨3,(dn:Nat),(sn:Nat),0,0,0,(kn:Nat),0⟩:=by
 obtain⟨adn,bdn,cdn,ddn⟩:=bw dn hdn
 obtain⟨asn,bsn,csn,dsn⟩:=bw sn hsn
 obtain⟨akn,bkn,ckn,dkn⟩:=dO kn hkn
 rw[pu]
 have e:eP (bF 3) 23=3:=by decide
 refine⟨by simp[adn,asn,akn],?_⟩
 simp[aE,e,bt,bQ,bdn,cdn,bsn,csn,bkn,ckn,cq,cQ,aG]
 omega
theorem wD (dn sn kn:Nat)(hdn:dn<=7)(hsn:sn<=7)(hkn:kn<4294967296):(aq (aj ⟨4,(dn:Nat),(sn:Nat),0,0,0,(kn:Nat),0⟩)).tail.all j4=O/\aE (aq (aj ⟨4,(dn:Nat),(sn:Nat),0,0,0,(kn:Nat),0⟩))=⟨4,(dn:Nat),(sn:Nat),0,0,0,(kn:Nat),0⟩:=by
 obtain⟨adn,bdn,cdn,ddn⟩:=bw dn hdn
 obtain⟨asn,bsn,csn,dsn⟩:=bw sn hsn
 obtain⟨akn,bkn,ckn,dkn⟩:=dO kn hkn
 rw[pt]
 have e:eP (bF 4) 23=4:=by decide
 refine⟨by simp[adn,asn,akn],?_⟩
 simp[aE,e,bt,bQ,bdn,cdn,bsn,csn,bkn,ckn,cq,cQ,aG]
 omega
theorem wC (dn sn kn:Nat)(hdn:dn<=7)(hsn:sn<=7)(hkn:kn<4294967296):(aq (aj ⟨5,(dn:Nat),(sn:Nat),0,0,0,(kn:Nat),0⟩)).tail.all j4=O/\aE (aq (aj ⟨5,(dn:Nat),(sn:Nat),0,0,0,(kn:Nat),0⟩))=⟨5,(dn:Nat),(sn:Nat),0,0,0,(kn:Nat),0⟩:=by
 obtain⟨adn,bdn,cdn,ddn⟩:=bw dn hdn
 obtain⟨asn,bsn,csn,dsn⟩:=bw sn hsn
 obtain⟨akn,bkn,ckn,dkn⟩:=dO kn hkn
 rw[pr]
 have e:eP (bF 5) 23=5:=by decide
 refine⟨by simp[adn,asn,akn],?_⟩
 simp[aE,e,bt,bQ,bdn,cdn,bsn,csn,bkn,ckn,cq,cQ,aG]
 omega
theorem wB (dn sn kn:Nat)(hdn:dn<=7)(hsn:sn<=7)(hkn:kn<4294967296):(aq (aj ⟨6,(dn:Nat),(sn:Nat),0,0,0,(kn:Nat),0⟩)).tail.all j4=O/\aE (aq (aj ⟨6,(dn:Nat),(sn:Nat),0,0,0,(kn:Nat),0⟩))=⟨6,(dn:Nat),(sn:Nat),0,0,0,(kn:Nat),0⟩:=by
 obtain⟨adn,bdn,cdn,ddn⟩:=bw dn hdn
 obtain⟨asn,bsn,csn,dsn⟩:=bw sn hsn
 obtain⟨akn,bkn,ckn,dkn⟩:=dO kn hkn
 rw[pq]
 have e:eP (bF 6) 23=6:=by decide
 refine⟨by simp[adn,asn,akn],?_⟩
 simp[aE,e,bt,bQ,bdn,cdn,bsn,csn,bkn,ckn,cq,cQ,aG]
 omega
theorem wz (dn sn tn:Nat)(hdn:dn<=7)(hsn:sn<=7)(htn:tn<=7):(aq (aj ⟨7,(dn:Nat),(sn:Nat),(tn:Nat),0,0,0,0⟩)).tail.all j4=O/\aE (aq (aj ⟨7,(dn:Nat),(sn:Nat),(tn:Nat),0,0,0,0⟩))=⟨7,(dn:Nat),(sn:Nat),(tn:Nat),0,0,0,0⟩:=by
 obtain⟨adn,bdn,cdn,ddn⟩:=bw dn hdn
 obtain⟨asn,bsn,csn,dsn⟩:=bw sn hsn
 obtain⟨atn,btn,ctn,dtn⟩:=bw tn htn
 rw[po]
 have e:eP (bF 7) 23=7:=by decide
 refine⟨by simp[adn,asn,atn],?_⟩
 simp[aE,e,bt,lr,bdn,ddn,bsn,dsn,btn,dtn,cq,cQ,aG]
theorem wy (sn tn pn:Nat)(hsn:sn<=7)(htn:tn<=7)(hpn:pn<4294967296):(aq (aj ⟨8,0,(sn:Nat),(tn:Nat),0,0,0,(pn:Nat)⟩)).tail.all j4=O/\aE (aq (aj ⟨8,0,(sn:Nat),(tn:Nat),0,0,0,(pn:Nat)⟩))=⟨8,0,(sn:Nat),(tn:Nat),0,0,0,(pn:Nat)⟩:=by
 obtain⟨asn,bsn,csn,dsn⟩:=bw sn hsn
 obtain⟨atn,btn,ctn,dtn⟩:=bw tn htn
 obtain⟨apn,bpn,cpn,dpn⟩:=dO pn hpn
 rw[pm]
 have e:eP (bF 8) 23=8:=by decide
 refine⟨by simp[asn,atn,apn],?_⟩
 simp[aE,e,bt,bQ,lr,bsn,csn,dsn,btn,ctn,dtn,bpn,cpn,dpn,cq,cQ,aG]
theorem ww (sn tn pn:Nat)(hsn:sn<=7)(htn:tn<=7)(hpn:pn<4294967296):(aq (aj ⟨9,0,(sn:Nat),(tn:Nat),0,0,0,(pn:Nat)⟩)).tail.all j4=O/\aE (aq (aj ⟨9,0,(sn:Nat),(tn:Nat),0,0,0,(pn:Nat)⟩))=⟨9,0,(sn:Nat),(tn:Nat),0,0,0,(pn:Nat)⟩:=by
 obtain⟨asn,bsn,csn,dsn⟩:=bw sn hsn
 obtain⟨atn,btn,ctn,dtn⟩:=bw tn htn
 obtain⟨apn,bpn,cpn,dpn⟩:=dO pn hpn
 rw[pk]
 have e:eP (bF 9) 23=9:=by decide
 refine⟨by simp[asn,atn,apn],?_⟩
 simp[aE,e,bt,bQ,lr,bsn,csn,dsn,btn,ctn,dtn,bpn,cpn,dpn,cq,cQ,aG]
theorem tE (pn:Nat)(hpn:pn<4294967296):(aq (aj ⟨10,0,0,0,0,0,0,(pn:Nat)⟩)).tail.all j4=O/\aE (aq (aj ⟨10,0,0,0,0,0,0,(pn:Nat)⟩))=⟨10,0,0,0,0,0,0,(pn:Nat)⟩:=by
 obtain⟨apn,bpn,cpn,dpn⟩:=dO pn hpn
 rw[mJ]
 have e:eP (bF 10) 23=10:=by decide
 refine⟨by simp[apn],?_⟩
 simp[aE,e,bt,bQ,lr,bpn,cpn,dpn,cq,cQ,aG]
theorem tD (dn:Nat)(hdn:dn<=7):(aq (aj ⟨11,(dn:Nat),0,0,0,0,0,0⟩)).tail.all j4=O/\aE (aq (aj ⟨11,(dn:Nat),0,0,0,0,0,0⟩))=⟨11,(dn:Nat),0,0,0,0,0,0⟩:=by
 obtain⟨adn,bdn,cdn,ddn⟩:=bw dn hdn
 rw[mI]
 have e:eP (bF 11) 23=11:=by decide
 refine⟨by simp[adn],?_⟩
 simp[aE,e,bt,lr,bdn,ddn,cq,cQ,aG]
theorem tk (dn:Nat)(hdn:dn<=7):(aq (aj ⟨22,(dn:Nat),0,0,0,0,0,0⟩)).tail.all j4=O/\aE (aq (aj ⟨22,(dn:Nat),0,0,0,0,0,0⟩))=⟨22,(dn:Nat),0,0,0,0,0,0⟩:=by
 obtain⟨adn,bdn,cdn,ddn⟩:=bw dn hdn
 rw[mA]
 have e:eP (bF 22) 23=22:=by decide
 refine⟨by simp[adn],?_⟩
 simp[aE,e,bt,lr,bdn,ddn,cq,cQ,aG]
theorem tC (kn:Nat)(hkn:kn<4294967296):(aq (aj ⟨12,0,0,0,0,0,(kn:Nat),0⟩)).tail.all j4=O/\aE (aq (aj ⟨12,0,0,0,0,0,(kn:Nat),0⟩))=⟨12,0,0,0,0,0,(kn:Nat),0⟩:=by
 obtain⟨akn,bkn,ckn,dkn⟩:=dO kn hkn
 rw[mH]
 have e:eP (bF 12) 23=12:=by decide
 refine⟨by simp[akn],?_⟩
 simp[aE,e,bQ,ckn,cq,cQ,aG]
 omega
theorem tB (kn:Nat)(hkn:kn<4294967296):(aq (aj ⟨13,0,0,0,0,0,(kn:Nat),0⟩)).tail.all j4=O/\aE (aq (aj ⟨13,0,0,0,0,0,(kn:Nat),0⟩))=⟨13,0,0,0,0,0,(kn:Nat),0⟩:=by
 obtain⟨akn,bkn,ckn,dkn⟩:=dO kn hkn
 rw[mG]
 have e:eP (bF 13) 23=13:=by decide
 refine⟨by simp[akn],?_⟩
 simp[aE,e,bQ,ckn,cq,cQ,aG]
 omega
theorem tA (dn sn an:Nat)(hdn:dn<=7)(hsn:sn<=7)(han:an<4294967296):(aq (aj ⟨16,(dn:Nat),(sn:Nat),0,0,(an:Nat),0,0⟩)).tail.all j4=O/\aE (aq (aj ⟨16,(dn:Nat),(sn:Nat),0,0,(an:Nat),0,0⟩))=⟨16,(dn:Nat),(sn:Nat),0,0,(an:Nat),0,0⟩:=by
 obtain⟨adn,bdn,cdn,ddn⟩:=bw dn hdn
 obtain⟨asn,bsn,csn,dsn⟩:=bw sn hsn
 obtain⟨aan,ban,can,dan⟩:=dO an han
 rw[mF]
 have e:eP (bF 16) 23=16:=by decide
 refine⟨by simp[adn,asn,aan],?_⟩
 simp[aE,e,bt,bQ,lr,bdn,cdn,ddn,bsn,csn,dsn,ban,can,dan,cq,cQ,aG]
theorem tz (sn tn an:Nat)(hsn:sn<=7)(htn:tn<=7)(han:an<4294967296):(aq (aj ⟨17,0,(sn:Nat),(tn:Nat),0,(an:Nat),0,0⟩)).tail.all j4=O/\aE (aq (aj ⟨17,0,(sn:Nat),(tn:Nat),0,(an:Nat),0,0⟩))=⟨17,0,(sn:Nat),(tn:Nat),0,(an:Nat),0,0⟩:=by
 obtain⟨asn,bsn,csn,dsn⟩:=bw sn hsn
 obtain⟨atn,btn,ctn,dtn⟩:=bw tn htn
 obtain⟨aan,ban,can,dan⟩:=dO an han
 rw[mE]
 have e:eP (bF 17) 23=17:=by decide
 refine⟨by simp[asn,atn,aan],?_⟩
 simp[aE,e,bt,bQ,lr,bsn,csn,dsn,btn,ctn,dtn,ban,can,dan,cq,cQ,aG]
theorem tu (dn sn tn an:Nat)(hdn:dn<=7)(hsn:sn<=7)(htn:tn<=7)(han:an<4294967296):(aq (aj ⟨18,(dn:Nat),(sn:Nat),(tn:Nat),0,(an:Nat),0,0⟩)).tail.all j4=O/\aE (aq (aj ⟨18,(dn:Nat),(sn:Nat),(tn:Nat),0,(an:Nat),0,0⟩))=⟨18,(dn:Nat),(sn:Nat),(tn:Nat),0,(an:Nat),0,0⟩:=by
 obtain⟨adn,bdn,cdn,ddn⟩:=bw dn hdn
 obtain⟨asn,bsn,csn,dsn⟩:=bw sn hsn
 obtain⟨atn,btn,ctn,dtn⟩:=bw tn htn
 obtain⟨aan,ban,can,dan⟩:=dO an han
 rw[mD]
 have e:eP (bF 18) 23=18:=by decide
 refine⟨by simp[adn,asn,atn,aan],?_⟩
 simp[aE,e,bt,bQ,lr,bdn,cdn,ddn,bsn,csn,dsn,btn,ctn,dtn,ban,can,dan,cq,cQ,aG]
theorem tq (dn sn tn un an:Nat)(hdn:dn<=7)(hsn:sn<=7)(htn:tn<=7)(hun:un<=7)(han:an<4294967296):(aq (aj ⟨19,(dn:Nat),(sn:Nat),(tn:Nat),(un:Nat),(an:Nat),0,0⟩)).tail.all j4=O/\aE (aq (aj ⟨19,(dn:Nat),(sn:Nat),(tn:Nat),(un:Nat),(an:Nat),0,0⟩))=⟨19,(dn:Nat),(sn:Nat),(tn:Nat),(un:Nat),(an:Nat),0,0⟩:=by
 obtain⟨adn,bdn,cdn,ddn⟩:=bw dn hdn
 obtain⟨asn,bsn,csn,dsn⟩:=bw sn hsn
 obtain⟨atn,btn,ctn,dtn⟩:=bw tn htn
 obtain⟨aun,bun,cun,dun⟩:=bw un hun
 obtain⟨aan,ban,can,dan⟩:=dO an han
 rw[mC]
 have e:eP (bF 19) 23=19:=by decide
 refine⟨by simp[adn,asn,atn,aun,aan],?_⟩
 simp[aE,e,bt,bQ,lr,bdn,cdn,ddn,bsn,csn,dsn,btn,ctn,dtn,bun,cun,dun,ban,can,dan,cq,cQ,aG]
theorem tm (dn sn an kn:Nat)(hdn:dn<=7)(hsn:sn<=7)(han:an<4294967296)(hkn:kn<4294967296):(aq (aj ⟨20,(dn:Nat),(sn:Nat),0,0,(an:Nat),(kn:Nat),0⟩)).tail.all j4=O/\aE (aq (aj ⟨20,(dn:Nat),(sn:Nat),0,0,(an:Nat),(kn:Nat),0⟩))=⟨20,(dn:Nat),(sn:Nat),0,0,(an:Nat),(kn:Nat),0⟩:=by
 obtain⟨adn,bdn,cdn,ddn⟩:=bw dn hdn
 obtain⟨asn,bsn,csn,dsn⟩:=bw sn hsn
 obtain⟨aan,ban,can,dan⟩:=dO an han
 obtain⟨akn,bkn,ckn,dkn⟩:=dO kn hkn
 rw[mB]
 have e:eP (bF 20) 23=20:=by decide
 refine⟨by simp[adn,asn,aan,akn],?_⟩
 simp[aE,e,bt,bQ,bdn,cdn,bsn,csn,ban,can,bkn,ckn,cq,cQ,aG]
 omega
theorem tj (sn:Nat)(hsn:sn<=7):(aq (aj ⟨23,0,(sn:Nat),0,0,0,0,0⟩)).tail.all j4=O/\aE (aq (aj ⟨23,0,(sn:Nat),0,0,0,0,0⟩))=⟨23,0,(sn:Nat),0,0,0,0,0⟩:=by
 obtain⟨asn,bsn,csn,dsn⟩:=bw sn hsn
 rw[mz]
 have e:eP (bF 23) 23=23:=by decide
 refine⟨by simp[asn],?_⟩
 simp[aE,e,bt,lr,bsn,dsn,cq,cQ,aG]
theorem nz (dn sn tn an pn:Nat)(hdn:dn<=7)(hsn:sn<=7)(htn:tn<=7)(han:an<4294967296)(hpn:pn<4294967296):(aq (aj ⟨21,(dn:Nat),(sn:Nat),(tn:Nat),0,(an:Nat),0,(pn:Nat)⟩)).tail.all j4=O/\aE (aq (aj ⟨21,(dn:Nat),(sn:Nat),(tn:Nat),0,(an:Nat),0,(pn:Nat)⟩))=⟨21,(dn:Nat),(sn:Nat),(tn:Nat),0,(an:Nat),0,(pn:Nat)⟩:=by
 obtain⟨adn,bdn,cdn,ddn⟩:=bw dn hdn
 obtain⟨asn,bsn,csn,dsn⟩:=bw sn hsn
 obtain⟨atn,btn,ctn,dtn⟩:=bw tn htn
 obtain⟨aan,ban,can,dan⟩:=dO an han
 obtain⟨apn,bpn,cpn,dpn⟩:=dO pn hpn
 obtain⟨ae,be,ce,de⟩:=Ee
 obtain⟨al,bl,cl,dl⟩:=pS
 rw[fY dn sn tn an pn]
 have e:eP (bF 21) 23=21:=by decide
 refine⟨by simp[adn,asn,atn,aan,ae,apn,al],?_⟩
 simp[aE,e,bt,bQ,lr,bdn,cdn,ddn,bsn,csn,dsn,btn,ctn,dtn,ban,can,dan,be,ce,de,bpn,cpn,dpn,bl,cl,dl,cq,cQ,aG]
theorem nA (dn sn tn an pn:Nat)(hdn:dn<=7)(hsn:sn<=7)(htn:tn<=7)(han:an<4294967296)(hpn:pn<4294967296):(aq (aj ⟨21,(dn:Nat),(sn:Nat),(tn:Nat),0,(an:Nat),0,-1⟩)).tail.all j4=O/\aE (aq (aj ⟨21,(dn:Nat),(sn:Nat),(tn:Nat),0,(an:Nat),0,-1⟩))=⟨21,(dn:Nat),(sn:Nat),(tn:Nat),0,(an:Nat),0,-1⟩:=by
 obtain⟨adn,bdn,cdn,ddn⟩:=bw dn hdn
 obtain⟨asn,bsn,csn,dsn⟩:=bw sn hsn
 obtain⟨atn,btn,ctn,dtn⟩:=bw tn htn
 obtain⟨aan,ban,can,dan⟩:=dO an han
 obtain⟨apn,bpn,cpn,dpn⟩:=dO pn hpn
 obtain⟨ae,be,ce,de⟩:=Ee
 obtain⟨al,bl,cl,dl⟩:=pS
 rw[fZ dn sn tn an pn]
 have e:eP (bF 21) 23=21:=by decide
 refine⟨by simp[adn,asn,atn,aan,ae],?_⟩
 simp[aE,e,bt,bQ,lr,bdn,cdn,ddn,bsn,csn,dsn,btn,ctn,dtn,ban,can,dan,be,ce,de,cq,cQ,aG]
theorem nw (dn sn tn an pn:Nat)(hdn:dn<=7)(hsn:sn<=7)(htn:tn<=7)(han:an<4294967296)(hpn:pn<4294967296):(aq (aj ⟨21,(dn:Nat),(sn:Nat),(tn:Nat),0,(an:Nat),1,(pn:Nat)⟩)).tail.all j4=O/\aE (aq (aj ⟨21,(dn:Nat),(sn:Nat),(tn:Nat),0,(an:Nat),1,(pn:Nat)⟩))=⟨21,(dn:Nat),(sn:Nat),(tn:Nat),0,(an:Nat),1,(pn:Nat)⟩:=by
 obtain⟨adn,bdn,cdn,ddn⟩:=bw dn hdn
 obtain⟨asn,bsn,csn,dsn⟩:=bw sn hsn
 obtain⟨atn,btn,ctn,dtn⟩:=bw tn htn
 obtain⟨aan,ban,can,dan⟩:=dO an han
 obtain⟨apn,bpn,cpn,dpn⟩:=dO pn hpn
 obtain⟨ae,be,ce,de⟩:=Ed
 obtain⟨al,bl,cl,dl⟩:=pS
 rw[fW dn sn tn an pn]
 have e:eP (bF 21) 23=21:=by decide
 refine⟨by simp[adn,asn,atn,aan,ae,apn,al],?_⟩
 simp[aE,e,bt,bQ,lr,bdn,cdn,ddn,bsn,csn,dsn,btn,ctn,dtn,ban,can,dan,be,ce,de,bpn,cpn,dpn,bl,cl,dl,cq,cQ,aG]
theorem ny (dn sn tn an pn:Nat)(hdn:dn<=7)(hsn:sn<=7)(htn:tn<=7)(han:an<4294967296)(hpn:pn<4294967296):(aq (aj ⟨21,(dn:Nat),(sn:Nat),(tn:Nat),0,(an:Nat),1,-1⟩)).tail.all j4=O/\aE (aq (aj ⟨21,(dn:Nat),(sn:Nat),(tn:Nat),0,(an:Nat),1,-1⟩))=⟨21,(dn:Nat),(sn:Nat),(tn:Nat),0,(an:Nat),1,-1⟩:=by
 obtain⟨adn,bdn,cdn,ddn⟩:=bw dn hdn
 obtain⟨asn,bsn,csn,dsn⟩:=bw sn hsn
 obtain⟨atn,btn,ctn,dtn⟩:=bw tn htn
 obtain⟨aan,ban,can,dan⟩:=dO an han
 obtain⟨apn,bpn,cpn,dpn⟩:=dO pn hpn
 obtain⟨ae,be,ce,de⟩:=Ed
 obtain⟨al,bl,cl,dl⟩:=pS
 rw[fX dn sn tn an pn]
 have e:eP (bF 21) 23=21:=by decide
 refine⟨by simp[adn,asn,atn,aan,ae],?_⟩
 simp[aE,e,bt,bQ,lr,bdn,cdn,ddn,bsn,csn,dsn,btn,ctn,dtn,ban,can,dan,be,ce,de,cq,cQ,aG]
theorem kM (i:aK)(h:au i 1073741824=O)(k0:0<=i.k)(k1:i.k<4294967296):(aq (aj i)).tail.all j4=O/\aE (aq (aj i))=i:=by
 obtain⟨hd,hs,ht,hu,ha⟩:=ee i _ h
 obtain⟨op,d,s,t,u,a,k,pl⟩:=i
 simp only at hd hs ht hu ha k0 k1
 rcases cj op with rfl|rfl|rfl|rfl|rfl|rfl|rfl|rfl|rfl|rfl|rfl|rfl|rfl|rfl|rfl|rfl|rfl|rfl|rfl|rfl|rfl | hn
 ·skip
  have hr:=lK d s t u a k pl 1073741824 hd hs ht hu ha k0 k1
  rw[h] at hr
  simp[df] at hr
  obtain⟨dn,rfl⟩:∃ n:Nat,d=n:=⟨d.toNat,by omega⟩
  obtain⟨sn,rfl⟩:∃ n:Nat,s=n:=⟨s.toNat,by omega⟩
  obtain⟨tn,rfl⟩:∃ n:Nat,t=n:=⟨t.toNat,by omega⟩
  obtain⟨un,rfl⟩:∃ n:Nat,u=n:=⟨u.toNat,by omega⟩
  obtain⟨an,rfl⟩:∃ n:Nat,a=n:=⟨a.toNat,by omega⟩
  obtain⟨kn,rfl⟩:∃ n:Nat,k=n:=⟨k.toNat,by omega⟩
  obtain rfl:sn=0:=by omega
  obtain rfl:tn=0:=by omega
  obtain rfl:un=0:=by omega
  obtain rfl:an=0:=by omega
  obtain rfl:pl=0:=by omega
  exact wG dn kn (by omega) (by omega)
 ·skip
  have hr:=lJ d s t u a k pl 1073741824 hd hs ht hu ha k0 k1
  rw[h] at hr
  simp[df] at hr
  obtain⟨dn,rfl⟩:∃ n:Nat,d=n:=⟨d.toNat,by omega⟩
  obtain⟨sn,rfl⟩:∃ n:Nat,s=n:=⟨s.toNat,by omega⟩
  obtain⟨tn,rfl⟩:∃ n:Nat,t=n:=⟨t.toNat,by omega⟩
  obtain⟨un,rfl⟩:∃ n:Nat,u=n:=⟨u.toNat,by omega⟩
  obtain⟨an,rfl⟩:∃ n:Nat,a=n:=⟨a.toNat,by omega⟩
  obtain⟨kn,rfl⟩:∃ n:Nat,k=n:=⟨k.toNat,by omega⟩
  obtain rfl:tn=0:=by omega
  obtain rfl:un=0:=by omega
  obtain rfl:an=0:=by omega
  obtain rfl:kn=0:=by omega
  obtain rfl:pl=0:=by omega
  exact wF dn sn (by omega) (by omega)
 ·skip
  have hr:=lI d s t u a k pl 1073741824 hd hs ht hu ha k0 k1
  rw[h] at hr
  simp[df] at hr
  obtain⟨dn,rfl⟩:∃ n:Nat,d=n:=⟨d.toNat,by omega⟩
  obtain⟨sn,rfl⟩:∃ n:Nat,s=n:=⟨s.toNat,by omega⟩
  obtain⟨tn,rfl⟩:∃ n:Nat,t=n:=⟨t.toNat,by omega⟩
  obtain⟨un,rfl⟩:∃ n:Nat,u=n:=⟨u.toNat,by omega⟩
  obtain⟨an,rfl⟩:∃ n:Nat,a=n:=⟨a.toNat,by omega⟩
  obtain⟨kn,rfl⟩:∃ n:Nat,k=n:=⟨k.toNat,by omega⟩
  obtain rfl:tn=0:=by omega
  obtain rfl:un=0:=by omega
  obtain rfl:an=0:=by omega
  obtain rfl:pl=0:=by omega
  exact wE dn sn kn (by omega) (by omega) (by omega)
 ·skip
  have hr:=lH d s t u a k pl 1073741824 hd hs ht hu ha k0 k1
  rw[h] at hr
  simp[df] at hr
  obtain⟨dn,rfl⟩:∃ n:Nat,d=n:=⟨d.toNat,by omega⟩
  obtain⟨sn,rfl⟩:∃ n:Nat,s=n:=⟨s.toNat,by omega⟩
  obtain⟨tn,rfl⟩:∃ n:Nat,t=n:=⟨t.toNat,by omega⟩
  obtain⟨un,rfl⟩:∃ n:Nat,u=n:=⟨u.toNat,by omega⟩
  obtain⟨an,rfl⟩:∃ n:Nat,a=n:=⟨a.toNat,by omega⟩
  obtain⟨kn,rfl⟩:∃ n:Nat,k=n:=⟨k.toNat,by omega⟩
  obtain rfl:tn=0:=by omega
  obtain rfl:un=0:=by omega
  obtain rfl:an=0:=by omega
  obtain rfl:pl=0:=by omega
  exact wD dn sn kn (by omega) (by omega) (by omega)
 ·skip
  have hr:=jO d s t u a k pl 1073741824 hd hs ht hu ha k0 k1
  rw[h] at hr
  simp[df] at hr
  obtain⟨dn,rfl⟩:∃ n:Nat,d=n:=⟨d.toNat,by omega⟩
  obtain⟨sn,rfl⟩:∃ n:Nat,s=n:=⟨s.toNat,by omega⟩
  obtain⟨tn,rfl⟩:∃ n:Nat,t=n:=⟨t.toNat,by omega⟩
  obtain⟨un,rfl⟩:∃ n:Nat,u=n:=⟨u.toNat,by omega⟩
  obtain⟨an,rfl⟩:∃ n:Nat,a=n:=⟨a.toNat,by omega⟩
  obtain⟨kn,rfl⟩:∃ n:Nat,k=n:=⟨k.toNat,by omega⟩
  obtain rfl:tn=0:=by omega
  obtain rfl:un=0:=by omega
  obtain rfl:an=0:=by omega
  obtain rfl:pl=0:=by omega
  exact wC dn sn kn (by omega) (by omega) (by omega)
 ·skip
  have hr:=jN d s t u a k pl 1073741824 hd hs ht hu ha k0 k1
  rw[h] at hr
  simp[df] at hr
  obtain⟨dn,rfl⟩:∃ n:Nat,d=n:=⟨d.toNat,by omega⟩
  obtain⟨sn,rfl⟩:∃ n:Nat,s=n:=⟨s.toNat,by omega⟩
  obtain⟨tn,rfl⟩:∃ n:Nat,t=n:=⟨t.toNat,by omega⟩
  obtain⟨un,rfl⟩:∃ n:Nat,u=n:=⟨u.toNat,by omega⟩
  obtain⟨an,rfl⟩:∃ n:Nat,a=n:=⟨a.toNat,by omega⟩
  obtain⟨kn,rfl⟩:∃ n:Nat,k=n:=⟨k.toNat,by omega⟩
  obtain rfl:tn=0:=by omega
  obtain rfl:un=0:=by omega
  obtain rfl:an=0:=by omega
  obtain rfl:pl=0:=by omega
  exact wB dn sn kn (by omega) (by omega) (by omega)
 ·skip
  have hr:=lG d s t u a k pl 1073741824 hd hs ht hu ha k0 k1
  rw[h] at hr
  simp[df] at hr
  obtain⟨dn,rfl⟩:∃ n:Nat,d=n:=⟨d.toNat,by omega⟩
  obtain⟨sn,rfl⟩:∃ n:Nat,s=n:=⟨s.toNat,by omega⟩
  obtain⟨tn,rfl⟩:∃ n:Nat,t=n:=⟨t.toNat,by omega⟩
  obtain⟨un,rfl⟩:∃ n:Nat,u=n:=⟨u.toNat,by omega⟩
  obtain⟨an,rfl⟩:∃ n:Nat,a=n:=⟨a.toNat,by omega⟩
  obtain⟨kn,rfl⟩:∃ n:Nat,k=n:=⟨k.toNat,by omega⟩
  obtain rfl:un=0:=by omega
  obtain rfl:an=0:=by omega
  obtain rfl:kn=0:=by omega
  obtain rfl:pl=0:=by omega
  exact wz dn sn tn (by omega) (by omega) (by omega)
 ·skip
  have hr:=lF d s t u a k pl 1073741824 hd hs ht hu ha k0 k1
  rw[h] at hr
  simp[df] at hr
  obtain⟨dn,rfl⟩:∃ n:Nat,d=n:=⟨d.toNat,by omega⟩
  obtain⟨sn,rfl⟩:∃ n:Nat,s=n:=⟨s.toNat,by omega⟩
  obtain⟨tn,rfl⟩:∃ n:Nat,t=n:=⟨t.toNat,by omega⟩
  obtain⟨un,rfl⟩:∃ n:Nat,u=n:=⟨u.toNat,by omega⟩
  obtain⟨an,rfl⟩:∃ n:Nat,a=n:=⟨a.toNat,by omega⟩
  obtain⟨kn,rfl⟩:∃ n:Nat,k=n:=⟨k.toNat,by omega⟩
  obtain rfl:dn=0:=by omega
  obtain rfl:un=0:=by omega
  obtain rfl:an=0:=by omega
  obtain rfl:kn=0:=by omega
  obtain⟨pn,rfl⟩:∃ n:Nat,pl=n:=⟨pl.toNat,by omega⟩
  exact wy sn tn pn (by omega) (by omega) (by omega)
 ·skip
  have hr:=lE d s t u a k pl 1073741824 hd hs ht hu ha k0 k1
  rw[h] at hr
  simp[df] at hr
  obtain⟨dn,rfl⟩:∃ n:Nat,d=n:=⟨d.toNat,by omega⟩
  obtain⟨sn,rfl⟩:∃ n:Nat,s=n:=⟨s.toNat,by omega⟩
  obtain⟨tn,rfl⟩:∃ n:Nat,t=n:=⟨t.toNat,by omega⟩
  obtain⟨un,rfl⟩:∃ n:Nat,u=n:=⟨u.toNat,by omega⟩
  obtain⟨an,rfl⟩:∃ n:Nat,a=n:=⟨a.toNat,by omega⟩
  obtain⟨kn,rfl⟩:∃ n:Nat,k=n:=⟨k.toNat,by omega⟩
  obtain rfl:dn=0:=by omega
  obtain rfl:un=0:=by omega
  obtain rfl:an=0:=by omega
  obtain rfl:kn=0:=by omega
  obtain⟨pn,rfl⟩:∃ n:Nat,pl=n:=⟨pl.toNat,by omega⟩
  exact ww sn tn pn (by omega) (by omega) (by omega)
 ·skip
  have hr:=jG d s t u a k pl 1073741824 hd hs ht hu ha k0 k1
  rw[h] at hr
  simp[df] at hr
  obtain⟨dn,rfl⟩:∃ n:Nat,d=n:=⟨d.toNat,by omega⟩
  obtain⟨sn,rfl⟩:∃ n:Nat,s=n:=⟨s.toNat,by omega⟩
  obtain⟨tn,rfl⟩:∃ n:Nat,t=n:=⟨t.toNat,by omega⟩
  obtain⟨un,rfl⟩:∃ n:Nat,u=n:=⟨u.toNat,by omega⟩
  obtain⟨an,rfl⟩:∃ n:Nat,a=n:=⟨a.toNat,by omega⟩
  obtain⟨kn,rfl⟩:∃ n:Nat,k=n:=⟨k.toNat,by omega⟩
  obtain rfl:dn=0:=by omega
  obtain rfl:sn=0:=by omega
  obtain rfl:tn=0:=by omega
  obtain rfl:un=0:=by omega
  obtain rfl:an=0:=by omega
  obtain rfl:kn=0:=by omega
  obtain⟨pn,rfl⟩:∃ n:Nat,pl=n:=⟨pl.toNat,by omega⟩
  exact tE pn (by omega)
 ·skip
  have hr:=jF d s t u a k pl 1073741824 hd hs ht hu ha k0 k1
  rw[h] at hr
  simp[df] at hr
  obtain⟨dn,rfl⟩:∃ n:Nat,d=n:=⟨d.toNat,by omega⟩
  obtain⟨sn,rfl⟩:∃ n:Nat,s=n:=⟨s.toNat,by omega⟩
  obtain⟨tn,rfl⟩:∃ n:Nat,t=n:=⟨t.toNat,by omega⟩
  obtain⟨un,rfl⟩:∃ n:Nat,u=n:=⟨u.toNat,by omega⟩
  obtain⟨an,rfl⟩:∃ n:Nat,a=n:=⟨a.toNat,by omega⟩
  obtain⟨kn,rfl⟩:∃ n:Nat,k=n:=⟨k.toNat,by omega⟩
  obtain rfl:sn=0:=by omega
  obtain rfl:tn=0:=by omega
  obtain rfl:un=0:=by omega
  obtain rfl:an=0:=by omega
  obtain rfl:kn=0:=by omega
  obtain rfl:pl=0:=by omega
  exact tD dn (by omega)
 ·skip
  have hr:=ir d s t u a k pl 1073741824 hd hs ht hu ha k0 k1
  rw[h] at hr
  simp[df] at hr
  obtain⟨dn,rfl⟩:∃ n:Nat,d=n:=⟨d.toNat,by omega⟩
  obtain⟨sn,rfl⟩:∃ n:Nat,s=n:=⟨s.toNat,by omega⟩
  obtain⟨tn,rfl⟩:∃ n:Nat,t=n:=⟨t.toNat,by omega⟩
  obtain⟨un,rfl⟩:∃ n:Nat,u=n:=⟨u.toNat,by omega⟩
  obtain⟨an,rfl⟩:∃ n:Nat,a=n:=⟨a.toNat,by omega⟩
  obtain⟨kn,rfl⟩:∃ n:Nat,k=n:=⟨k.toNat,by omega⟩
  obtain rfl:dn=0:=by omega
  obtain rfl:sn=0:=by omega
  obtain rfl:tn=0:=by omega
  obtain rfl:un=0:=by omega
  obtain rfl:an=0:=by omega
  obtain rfl:pl=0:=by omega
  exact tC kn (by omega)
 ·skip
  have hr:=iq d s t u a k pl 1073741824 hd hs ht hu ha k0 k1
  rw[h] at hr
  simp[df] at hr
  obtain⟨dn,rfl⟩:∃ n:Nat,d=n:=⟨d.toNat,by omega⟩
  obtain⟨sn,rfl⟩:∃ n:Nat,s=n:=⟨s.toNat,by omega⟩
  obtain⟨tn,rfl⟩:∃ n:Nat,t=n:=⟨t.toNat,by omega⟩
  obtain⟨un,rfl⟩:∃ n:Nat,u=n:=⟨u.toNat,by omega⟩
  obtain⟨an,rfl⟩:∃ n:Nat,a=n:=⟨a.toNat,by omega⟩
  obtain⟨kn,rfl⟩:∃ n:Nat,k=n:=⟨k.toNat,by omega⟩
  obtain rfl:dn=0:=by omega
  obtain rfl:sn=0:=by omega
  obtain rfl:tn=0:=by omega
  obtain rfl:un=0:=by omega
  obtain rfl:an=0:=by omega
  obtain rfl:pl=0:=by omega
  exact tB kn (by omega)
 ·skip
  have hr:=jE d s t u a k pl 1073741824 hd hs ht hu ha k0 k1
  rw[h] at hr
  simp[df] at hr
  obtain⟨dn,rfl⟩:∃ n:Nat,d=n:=⟨d.toNat,by omega⟩
  obtain⟨sn,rfl⟩:∃ n:Nat,s=n:=⟨s.toNat,by omega⟩
  obtain⟨tn,rfl⟩:∃ n:Nat,t=n:=⟨t.toNat,by omega⟩
  obtain⟨un,rfl⟩:∃ n:Nat,u=n:=⟨u.toNat,by omega⟩
  obtain⟨an,rfl⟩:∃ n:Nat,a=n:=⟨a.toNat,by omega⟩
  obtain⟨kn,rfl⟩:∃ n:Nat,k=n:=⟨k.toNat,by omega⟩
  obtain rfl:tn=0:=by omega
  obtain rfl:un=0:=by omega
  obtain rfl:kn=0:=by omega
  obtain rfl:pl=0:=by omega
  exact tA dn sn an (by omega) (by omega) (by omega)
 ·skip
  have hr:=jD d s t u a k pl 1073741824 hd hs ht hu ha k0 k1
  rw[h] at hr
  simp[df] at hr
  obtain⟨dn,rfl⟩:∃ n:Nat,d=n:=⟨d.toNat,by omega⟩
  obtain⟨sn,rfl⟩:∃ n:Nat,s=n:=⟨s.toNat,by omega⟩
  obtain⟨tn,rfl⟩:∃ n:Nat,t=n:=⟨t.toNat,by omega⟩
  obtain⟨un,rfl⟩:∃ n:Nat,u=n:=⟨u.toNat,by omega⟩
  obtain⟨an,rfl⟩:∃ n:Nat,a=n:=⟨a.toNat,by omega⟩
  obtain⟨kn,rfl⟩:∃ n:Nat,k=n:=⟨k.toNat,by omega⟩
  obtain rfl:dn=0:=by omega
  obtain rfl:un=0:=by omega
  obtain rfl:kn=0:=by omega
  obtain rfl:pl=0:=by omega
  exact tz sn tn an (by omega) (by omega) (by omega)
 ·skip
  have hr:=jC d s t u a k pl 1073741824 hd hs ht hu ha k0 k1
  rw[h] at hr
  simp[df] at hr
  obtain⟨dn,rfl⟩:∃ n:Nat,d=n:=⟨d.toNat,by omega⟩
  obtain⟨sn,rfl⟩:∃ n:Nat,s=n:=⟨s.toNat,by omega⟩
  obtain⟨tn,rfl⟩:∃ n:Nat,t=n:=⟨t.toNat,by omega⟩
  obtain⟨un,rfl⟩:∃ n:Nat,u=n:=⟨u.toNat,by omega⟩
  obtain⟨an,rfl⟩:∃ n:Nat,a=n:=⟨a.toNat,by omega⟩
  obtain⟨kn,rfl⟩:∃ n:Nat,k=n:=⟨k.toNat,by omega⟩
  obtain rfl:un=0:=by omega
  obtain rfl:kn=0:=by omega
  obtain rfl:pl=0:=by omega
  exact tu dn sn tn an (by omega) (by omega) (by omega) (by omega)
 ·skip
  have hr:=jB d s t u a k pl 1073741824 hd hs ht hu ha k0 k1
  rw[h] at hr
  simp[df] at hr
  obtain⟨dn,rfl⟩:∃ n:Nat,d=n:=⟨d.toNat,by omega⟩
  obtain⟨sn,rfl⟩:∃ n:Nat,s=n:=⟨s.toNat,by omega⟩
  obtain⟨tn,rfl⟩:∃ n:Nat,t=n:=⟨t.toNat,by omega⟩
  obtain⟨un,rfl⟩:∃ n:Nat,u=n:=⟨u.toNat,by omega⟩
  obtain⟨an,rfl⟩:∃ n:Nat,a=n:=⟨a.toNat,by omega⟩
  obtain⟨kn,rfl⟩:∃ n:Nat,k=n:=⟨k.toNat,by omega⟩
  obtain rfl:kn=0:=by omega
  obtain rfl:pl=0:=by omega
  exact tq dn sn tn un an (by omega) (by omega) (by omega) (by omega) (by omega)
 ·skip
  have hr:=jA d s t u a k pl 1073741824 hd hs ht hu ha k0 k1
  rw[h] at hr
  simp[df] at hr
  obtain⟨dn,rfl⟩:∃ n:Nat,d=n:=⟨d.toNat,by omega⟩
  obtain⟨sn,rfl⟩:∃ n:Nat,s=n:=⟨s.toNat,by omega⟩
  obtain⟨tn,rfl⟩:∃ n:Nat,t=n:=⟨t.toNat,by omega⟩
  obtain⟨un,rfl⟩:∃ n:Nat,u=n:=⟨u.toNat,by omega⟩
  obtain⟨an,rfl⟩:∃ n:Nat,a=n:=⟨a.toNat,by omega⟩
  obtain⟨kn,rfl⟩:∃ n:Nat,k=n:=⟨k.toNat,by omega⟩
  obtain rfl:tn=0:=by omega
  obtain rfl:un=0:=by omega
  obtain rfl:pl=0:=by omega
  exact tm dn sn an kn (by omega) (by omega) (by omega) (by omega)
 ·skip
  have hr:=gG d s t u a k pl 1073741824 hd hs ht hu ha k0 k1
  rw[h] at hr
  simp[df] at hr
  obtain⟨dn,rfl⟩:∃ n:Nat,d=n:=⟨d.toNat,by omega⟩
  obtain⟨sn,rfl⟩:∃ n:Nat,s=n:=⟨s.toNat,by omega⟩
  obtain⟨tn,rfl⟩:∃ n:Nat,t=n:=⟨t.toNat,by omega⟩
  obtain⟨un,rfl⟩:∃ n:Nat,u=n:=⟨u.toNat,by omega⟩
  obtain⟨an,rfl⟩:∃ n:Nat,a=n:=⟨a.toNat,by omega⟩
  obtain⟨kn,rfl⟩:∃ n:Nat,k=n:=⟨k.toNat,by omega⟩
  obtain rfl:un=0:=by omega
  by_cases hm:pl=-1
  ·subst hm
   by_cases hk:kn=0
   ·subst hk;exact nA dn sn tn an 0 (by omega) (by omega) (by omega) (by omega) (by omega)
   ·obtain rfl:kn=1:=by omega
    exact ny dn sn tn an 0 (by omega) (by omega) (by omega) (by omega) (by omega)
  ·obtain⟨pn,rfl⟩:∃ n:Nat,pl=n:=⟨pl.toNat,by omega⟩
   by_cases hk:kn=0
   ·subst hk;exact nz dn sn tn an pn (by omega) (by omega) (by omega) (by omega) (by omega)
   ·obtain rfl:kn=1:=by omega
    exact nw dn sn tn an pn (by omega) (by omega) (by omega) (by omega) (by omega)
 ·skip
  have hr:=jz d s t u a k pl 1073741824 hd hs ht hu ha k0 k1
  rw[h] at hr
  simp[df] at hr
  obtain⟨dn,rfl⟩:∃ n:Nat,d=n:=⟨d.toNat,by omega⟩
  obtain⟨sn,rfl⟩:∃ n:Nat,s=n:=⟨s.toNat,by omega⟩
  obtain⟨tn,rfl⟩:∃ n:Nat,t=n:=⟨t.toNat,by omega⟩
  obtain⟨un,rfl⟩:∃ n:Nat,u=n:=⟨u.toNat,by omega⟩
  obtain⟨an,rfl⟩:∃ n:Nat,a=n:=⟨a.toNat,by omega⟩
  obtain⟨kn,rfl⟩:∃ n:Nat,k=n:=⟨k.toNat,by omega⟩
  obtain rfl:sn=0:=by omega
  obtain rfl:tn=0:=by omega
  obtain rfl:un=0:=by omega
  obtain rfl:an=0:=by omega
  obtain rfl:kn=0:=by omega
  obtain rfl:pl=0:=by omega
  exact tk dn (by omega)
 ·skip
  have hr:=jy d s t u a k pl 1073741824 hd hs ht hu ha k0 k1
  rw[h] at hr
  simp[df] at hr
  obtain⟨dn,rfl⟩:∃ n:Nat,d=n:=⟨d.toNat,by omega⟩
  obtain⟨sn,rfl⟩:∃ n:Nat,s=n:=⟨s.toNat,by omega⟩
  obtain⟨tn,rfl⟩:∃ n:Nat,t=n:=⟨t.toNat,by omega⟩
  obtain⟨un,rfl⟩:∃ n:Nat,u=n:=⟨u.toNat,by omega⟩
  obtain⟨an,rfl⟩:∃ n:Nat,a=n:=⟨a.toNat,by omega⟩
  obtain⟨kn,rfl⟩:∃ n:Nat,k=n:=⟨k.toNat,by omega⟩
  obtain rfl:dn=0:=by omega
  obtain rfl:tn=0:=by omega
  obtain rfl:un=0:=by omega
  obtain rfl:an=0:=by omega
  obtain rfl:kn=0:=by omega
  obtain rfl:pl=0:=by omega
  exact tj sn (by omega)
 ·exfalso
  unfold au at h
  simp only[(dr hn).1] at h
  cases h
theorem qy (i:aK)(h:au i 1073741824=O)(k0:0<=i.k)(k1:i.k<4294967296):jR (aj i)=O:=by
 obtain⟨h1,h2⟩:=kM i h k0 k1
 unfold jR
 rw[h1,h2,h]
 simp
end
section
open Go.ChangeShapes Go.WideShapes Go.ChangeAt Go.RowKit
theorem AD (c:fy)(v:Value)(w:World)(hv:Pv w v c)(hw:∀ i∈c.l,i.Wf):
 Calls Tryz.prog 33 #[v] w fun e w'=>e=.returned (.bool (iZ c))/\Below w.heap.size w w':=by
 obtain⟨a,ca,rfl,hc1,hc2,_,ha⟩:=hv
 have k1:=Bk.made w 35 #[.slice a c.l.length ca,I Q c.lo,I Q c.un]
 have b0:Below w.heap.size w (w.alloc (.cells #[.slice a c.l.length ca,I Q c.lo,I Q c.un] 35)):=(Below.refl _ _).alloc (Nat.le_refl _) _
 replace ha:=ha.below b0
 go_enter Tryz.func33,Tryz.ntmps33
 go_upto_region 1 with fail
 generalize w.alloc (.cells #[.slice a c.l.length ca,I Q c.lo,I Q c.un] 35)=x at *
 obtain⟨x0,x1,x2⟩:=k1.iL
 by_cases h1:1<=c.l.length
 case neg=>
  have HF:=Z (q9 (c:=c) (by omega))
  have i1:(c.l.length:Int)<1:=by omega
  go_wp2
  go_ret
  exact⟨by rw[HF.out];rfl,b0⟩
 case pos=>
  have i1:¬ (c.l.length:Int)<1:=by omega
  by_cases h2:c.l.length<=64
  case neg=>
   have HF:=Z (q9 (c:=c) (by omega))
   have i2:(64:Int)<c.l.length:=by omega
   go_wp2
   go_ret
   exact⟨by rw[HF.out];rfl,b0⟩
  case pos=>
   have i2:¬ (64:Int)<c.l.length:=by omega
   have HP:=Z (AO c h1 h2)
   by_cases hb1:c.lo<0\/c.un<0\/(c.l.length:Int)<=c.lo\/(c.l.length:Int)<=c.un
   case pos=>
    have HF:Hid (iZ c=N):=Z (by
     rw[HP.out]
     have:((decide (0<=c.lo) && decide (c.lo<c.l.length)) && (decide (0<=c.un) && decide (c.un<c.l.length)))=N:=by
      simp only[Bool.and_eq_false_iff,decide_eq_false_iff_not]
      omega
     rw[this];simp)
    generalize c.lo=lo at *
    generalize c.un=un at *
    clear HP
    by_cases z1:lo<0
    ·clear hb1;go_wp2;go_ret;exact⟨by rw[HF.out];rfl,b0⟩
    by_cases z2:un<0
    ·clear hb1;go_wp2;go_ret;exact⟨by rw[HF.out];rfl,b0⟩
    by_cases z3:(c.l.length:Int)<=lo
    ·clear hb1;go_wp2;go_ret;exact⟨by rw[HF.out];rfl,b0⟩
    have z4:(c.l.length:Int)<=un:=by omega
    clear hb1;go_wp2;go_ret;exact⟨by rw[HF.out];rfl,b0⟩
   have z1:¬ c.lo<0:=by omega
   have z2:¬ c.un<0:=by omega
   have z3:¬ (c.l.length:Int)<=c.lo:=by omega
   have z4:¬ (c.l.length:Int)<=c.un:=by omega
   have HP2:Hid (iZ c=(c.l.all fun i=>au i c.l.length)):=Z (by
    rw[HP.out]
    have:((decide (0<=c.lo) && decide (c.lo<c.l.length)) && (decide (0<=c.un) && decide (c.un<c.l.length)))=O:=by
     simp only[Bool.and_eq_true,decide_eq_true_eq]
     omega
    rw[this];simp)
   clear HP hb1
   go_wp2
   go_loopw [2,40] (fun q i wr=>∃ k:Nat,q=.bool N/\i=I Q k/\k<=c.l.length/\Below x.heap.size x wr/\Hid (∀ j i,c.l[j]?=some i->j<k->au i c.l.length=O)) (fun _ i _=>c.l.length-(intOf i).toNat)
   case atStart=>exact⟨0,rfl,rfl,Nat.zero_le _,Below.refl _ _,Z (fun _ _ _ h=>by omega)⟩
   case round=>
    obtain⟨k,rfl,rfl,hk,hb,HA⟩:=hrel
    have hbw:=b0.trans (hb.mono b0.size)
    by_cases hlt:k<c.l.length
    ·have hki:(k:Int)<c.l.length:=by omega
     have hge:=List.getElem?_eq_getElem hlt
     obtain⟨g,off,rfl,hgl,e0,e1,e2,e3,e4,e5,e6,e7⟩:=(ha.below hb).at_ hge
     have hWf:=hw _ (List.getElem_mem hlt)
     have HG:=Z hge
     clear hge
     generalize c.l[k]=i at *
     have HR:=Z (fun W=>zv i (c.l.length:Int) hWf.k0 hWf.k1 W)
     obtain⟨op,d,s,t,u,a',k',pl⟩:=i
     simp only at e0 e1 e2 e3 e4 e5 e6 e7
     go_upto_region 7 with fail
     have m2:=Jb.made wr op d s t u a' k' pl
     replace hb:=hb.alloc (o:=.cells #[I Q op,I Q d,I Q s,I Q t,I Q u,I Q a',I .u32 k',I Q pl] 125) hb.size
     clear e0 e1 e2 e3 e4 e5 e6 e7 hbw
     generalize wr.heap.size=q at *
     generalize wr.alloc (.cells #[I Q op,I Q d,I Q s,I Q t,I Q u,I Q a',I .u32 k',I Q pl] 125)=y at *
     have hbw:=b0.trans (hb.mono b0.size)
     obtain⟨e0,e1,e2,e3,e4,e5,e6,e7⟩:=m2.cells
     simp only at e0 e1 e2 e3 e4 e5 e6 e7
     go_wp2_with fail
     refine(HR.out y).mono ?_
     rintro e z ⟨rfl,hz⟩
     replace hb:=hb.trans (hz.mono hb.size)
     replace hbw:=hbw.trans (hz.mono hbw.size)
     cases hq:au ⟨op,d,s,t,u,a',k',pl⟩ c.l.length with
     | true=>
      have HA2:Hid (∀ j i,c.l[j]?=some i->j<k+1->au i c.l.length=O):=Z fun j i hj hjk=>by
       by_cases e:j=k
       ·subst e
        rw[HG.out] at hj
        injection hj with hj
        subst hj
        exact hq
       ·exact HA.out j i hj (by omega)
      clear hq HA HR HG
      go_wp2
      go_roundw
      case rel=>exact⟨k+1,rfl,by go_num,by omega,hb,HA2⟩
      case measure=>
       show c.l.length-((k:Int)+1).toNat<c.l.length-(k:Int).toNat
       omega
     | false=>
      have HQ:Hid (iZ c=N):=Z (by
       rw[HP2.out]
       have:(c.l.all fun i=>au i c.l.length)=N:=by
        rw[List.all_eq_false]
        exact⟨_,List.mem_of_getElem? HG.out,by rw[hq];simp⟩
       rw[this])
      clear hq HA HR HG
      go_wp2
      go_ret
      exact⟨by rw[HQ.out];rfl,hbw⟩
    ·have hki:¬ (k:Int)<c.l.length:=by omega
     have hall:(c.l.all fun i=>au i c.l.length)=O:=by
      rw[List.all_eq_true]
      intro i hi
      obtain⟨j,hj,rfl⟩:=List.getElem_of_mem hi
      exact HA.out j _ (List.getElem?_eq_getElem hj) (by omega)
     have HQ:Hid (iZ c=O):=Z (by rw[HP2.out,hall])
     clear HA hall
     go_wp2
     go_ret
     exact⟨by rw[HQ.out];rfl,hbw⟩
end
