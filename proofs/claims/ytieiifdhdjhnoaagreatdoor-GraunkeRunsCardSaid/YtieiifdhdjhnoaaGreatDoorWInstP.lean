import Derived.Test.YtieiifdhdjhnoaaGreatDoorWInstV
import Derived.Test.YtieiifdhdjhnoaaGreatDoorWMem
import Derived.Test.YtieiifdhdjhnoaaGreatDoorWCell
import Derived.Test.YtieiifdhdjhnoaaGreatDoorWWdB
import Derived.Test.YtieiifdhdjhnoaaGreatDoorWInstC
set_option linter.unusedVariables false
set_option maxHeartbeats 1000000
open Bool renaming false->I,true->Q
open Go.Lib renaming hid->N
namespace Go.Proofs.YtieiifdhdjhnoaaGreatDoor
section
theorem ld:∀ (m:Nat) (s:List UInt8),(ah s).length<=m+1->Lib.splitK [32] 0 m s=ah s
 | 0,s,h=>by
  rcases nu s with h1 | ⟨t,r,h1,rfl⟩
  ·rw[cN s h1];rfl
  ·rw[fe t r h1] at h
   have:=fT r
   rw[List.length_cons] at h
   omega
 | m+1,s,h=>by
  rcases nu s with h1 | ⟨t,r,h1,rfl⟩
  ·rw[cN s h1];unfold Lib.splitK;rw[qX s h1];rfl
  ·rw[fe t r h1] at h ⊢
   unfold Lib.splitK
   rw[qY t r h1,if_neg (by simp <;> omega)]
   have e1:(t++32 :: r).take (((t.length:Int)).toNat+0)=t:=by simp
   have e2:(t++32 :: r).drop (((t.length:Int)).toNat+[(32:UInt8)].length)=r:=by simp[List.drop_append]
   rw[e1,e2,ld m r (by simp at h;omega)]
theorem aJ (s:List UInt8)(h:(ah s).length<=9):fp s=ah s:=by
 unfold fp Lib.splitN
 have:=gW s
 exact ld _ s (by omega)
def dG (n:Nat):List UInt8:=114 :: Lib.decDigits n
theorem dw (n:Nat):Bf (dG n):=by
 intro c hc
 rcases List.mem_cons.1 hc with rfl | hc
 ·decide
 ·exact dF n c hc
theorem bZ (n:Nat)(h:n<9223372036854775808):ki (Lib.decDigits n)=n:=by
 have ha:=rA n h
 obtain⟨c,r,e,h1,h2,-⟩:=iL n
 rw[e] at ha ⊢
 have n1:c≠101:=fun e=>by rw[e] at h2;exact absurd h2 (by decide)
 have n2:c≠110:=fun e=>by rw[e] at h2;exact absurd h2 (by decide)
 have n3:c≠114:=fun e=>by rw[e] at h2;exact absurd h2 (by decide)
 unfold ki
 rw[if_neg (by intro e;injection e with e _;exact n1 e),if_neg (by intro e;injection e with e _;exact n2 e)]
 have et:Lib.trimPrefix (c :: r) [114]=c :: r:=by
  unfold Lib.trimPrefix Lib.hasPrefix
  rw[if_neg (by simp[List.isPrefixOf];exact fun e=>n3 e.symm)]
 rw[et,ha]
theorem aP (n:Nat)(h:n<9223372036854775808):ki (dG n)=n:=by
 have ha:=rA n h
 unfold ki dG
 rw[if_neg (by intro e;injection e with e _;exact absurd e (by decide)),if_neg (by intro e;injection e with e _;exact absurd e (by decide))]
 have et:Lib.trimPrefix (114 :: Lib.decDigits n) [114]=Lib.decDigits n:=by
  unfold Lib.trimPrefix Lib.hasPrefix
  rw[if_pos (by simp[List.isPrefixOf])]
  rfl
 rw[et,ha]
theorem Dg (dn kn:Nat):af ⟨1,(dn:Nat),0,0,0,0,(kn:Nat),0⟩=bx (bD 1) [dG dn,Lib.decDigits kn]:=by
 simp[af,cM,av,aQ,aZ,aE,bx,dG]
theorem py (dn kn:Nat):ah (af ⟨1,(dn:Nat),0,0,0,0,(kn:Nat),0⟩)=bD 1 :: [dG dn,Lib.decDigits kn]:=by
 rw[Dg]
 exact aX _ _ (by unfold Bf;decide) (by simp[dw,dF])
theorem yv (dn kn:Nat)(hdn:dn<9223372036854775808)(hkn:kn<9223372036854775808)(k1:kn<4294967296):aD (af ⟨1,(dn:Nat),0,0,0,0,(kn:Nat),0⟩)=⟨1,(dn:Nat),0,0,0,0,(kn:Nat),0⟩:=by
 unfold aD
 rw[aJ _ (by rw[py];simp),py]
 have e:nA (bD 1)=1:=by decide
 simp[bU,e,cM,bW,dm,cH,bV,aP dn hdn,bZ kn hkn,aN.zero]
 omega
theorem Df (dn sn:Nat):af ⟨2,(dn:Nat),(sn:Nat),0,0,0,0,0⟩=bx (bD 2) [dG dn,dG sn]:=by
 simp[af,cM,av,aQ,aZ,aE,bx,dG]
theorem px (dn sn:Nat):ah (af ⟨2,(dn:Nat),(sn:Nat),0,0,0,0,0⟩)=bD 2 :: [dG dn,dG sn]:=by
 rw[Df]
 exact aX _ _ (by unfold Bf;decide) (by simp[dw])
theorem yr (dn sn:Nat)(hdn:dn<9223372036854775808)(hsn:sn<9223372036854775808):aD (af ⟨2,(dn:Nat),(sn:Nat),0,0,0,0,0⟩)=⟨2,(dn:Nat),(sn:Nat),0,0,0,0,0⟩:=by
 unfold aD
 rw[aJ _ (by rw[px];simp),px]
 have e:nA (bD 2)=2:=by decide
 simp[bU,e,cM,bW,dm,cH,bV,aP dn hdn,aP sn hsn,aN.zero]
theorem De (dn sn kn:Nat):af ⟨3,(dn:Nat),(sn:Nat),0,0,0,(kn:Nat),0⟩=bx (bD 3) [dG dn,dG sn,Lib.decDigits kn]:=by
 simp[af,cM,av,aQ,aZ,aE,bx,dG]
theorem pw (dn sn kn:Nat):ah (af ⟨3,(dn:Nat),(sn:Nat),0,0,0,(kn:Nat),0⟩)=bD 3 :: [dG dn,dG sn,Lib.decDigits kn]:=by
 rw[De]
 exact aX _ _ (by unfold Bf;decide) (by simp[dw,dF])
theorem yq (dn sn kn:Nat)(hdn:dn<9223372036854775808)(hsn:sn<9223372036854775808)(hkn:kn<9223372036854775808)(k1:kn<4294967296):aD (af ⟨3,(dn:Nat),(sn:Nat),0,0,0,(kn:Nat),0⟩)=⟨3,(dn:Nat),(sn:Nat),0,0,0,(kn:Nat),0⟩:=by
 unfold aD
 rw[aJ _ (by rw[pw];simp),pw]
 have e:nA (bD 3)=3:=by decide
 simp[bU,e,cM,bW,dm,cH,bV,aP dn hdn,aP sn hsn,bZ kn hkn,aN.zero]
 omega
theorem Dd (dn sn kn:Nat):af ⟨4,(dn:Nat),(sn:Nat),0,0,0,(kn:Nat),0⟩=bx (bD 4) [dG dn,dG sn,Lib.decDigits kn]:=by
 simp[af,cM,av,aQ,aZ,aE,bx,dG]
theorem pu (dn sn kn:Nat):ah (af ⟨4,(dn:Nat),(sn:Nat),0,0,0,(kn:Nat),0⟩)=bD 4 :: [dG dn,dG sn,Lib.decDigits kn]:=by
 rw[Dd]
 exact aX _ _ (by unfold Bf;decide) (by simp[dw,dF])
theorem yp (dn sn kn:Nat)(hdn:dn<9223372036854775808)(hsn:sn<9223372036854775808)(hkn:kn<9223372036854775808)(k1:kn<4294967296):aD (af ⟨4,(dn:Nat),(sn:Nat),0,0,0,(kn:Nat),0⟩)=⟨4,(dn:Nat),(sn:Nat),0,0,0,(kn:Nat),0⟩:=by
 unfold aD
 rw[aJ _ (by rw[pu];simp),pu]
 have e:nA (bD 4)=4:=by decide
 simp[bU,e,cM,bW,dm,cH,bV,aP dn hdn,aP sn hsn,bZ kn hkn,aN.zero]
 omega
theorem Dc (dn sn kn:Nat):af ⟨5,(dn:Nat),(sn:Nat),0,0,0,(kn:Nat),0⟩=bx (bD 5) [dG dn,dG sn,Lib.decDigits kn]:=by
 simp[af,cM,av,aQ,aZ,aE,bx,dG]
theorem pt (dn sn kn:Nat):ah (af ⟨5,(dn:Nat),(sn:Nat),0,0,0,(kn:Nat),0⟩)=bD 5 :: [dG dn,dG sn,Lib.decDigits kn]:=by
 rw[Dc]
 exact aX _ _ (by unfold Bf;decide) (by simp[dw,dF])
theorem yo (dn sn kn:Nat)(hdn:dn<9223372036854775808)(hsn:sn<9223372036854775808)(hkn:kn<9223372036854775808)(k1:kn<4294967296):aD (af ⟨5,(dn:Nat),(sn:Nat),0,0,0,(kn:Nat),0⟩)=⟨5,(dn:Nat),(sn:Nat),0,0,0,(kn:Nat),0⟩:=by
 unfold aD
 rw[aJ _ (by rw[pt];simp),pt]
 have e:nA (bD 5)=5:=by decide
 simp[bU,e,cM,bW,dm,cH,bV,aP dn hdn,aP sn hsn,bZ kn hkn,aN.zero]
 omega
theorem Db (dn sn kn:Nat):af ⟨6,(dn:Nat),(sn:Nat),0,0,0,(kn:Nat),0⟩=bx (bD 6) [dG dn,dG sn,Lib.decDigits kn]:=by
 simp[af,cM,av,aQ,aZ,aE,bx,dG]
theorem pr (dn sn kn:Nat):ah (af ⟨6,(dn:Nat),(sn:Nat),0,0,0,(kn:Nat),0⟩)=bD 6 :: [dG dn,dG sn,Lib.decDigits kn]:=by
 rw[Db]
 exact aX _ _ (by unfold Bf;decide) (by simp[dw,dF])
theorem yn (dn sn kn:Nat)(hdn:dn<9223372036854775808)(hsn:sn<9223372036854775808)(hkn:kn<9223372036854775808)(k1:kn<4294967296):aD (af ⟨6,(dn:Nat),(sn:Nat),0,0,0,(kn:Nat),0⟩)=⟨6,(dn:Nat),(sn:Nat),0,0,0,(kn:Nat),0⟩:=by
 unfold aD
 rw[aJ _ (by rw[pr];simp),pr]
 have e:nA (bD 6)=6:=by decide
 simp[bU,e,cM,bW,dm,cH,bV,aP dn hdn,aP sn hsn,bZ kn hkn,aN.zero]
 omega
theorem Da (dn sn tn:Nat):af ⟨7,(dn:Nat),(sn:Nat),(tn:Nat),0,0,0,0⟩=bx (bD 7) [dG dn,dG sn,dG tn]:=by
 simp[af,cM,av,aQ,aZ,aE,bx,dG]
theorem pq (dn sn tn:Nat):ah (af ⟨7,(dn:Nat),(sn:Nat),(tn:Nat),0,0,0,0⟩)=bD 7 :: [dG dn,dG sn,dG tn]:=by
 rw[Da]
 exact aX _ _ (by unfold Bf;decide) (by simp[dw])
theorem ym (dn sn tn:Nat)(hdn:dn<9223372036854775808)(hsn:sn<9223372036854775808)(htn:tn<9223372036854775808):aD (af ⟨7,(dn:Nat),(sn:Nat),(tn:Nat),0,0,0,0⟩)=⟨7,(dn:Nat),(sn:Nat),(tn:Nat),0,0,0,0⟩:=by
 unfold aD
 rw[aJ _ (by rw[pq];simp),pq]
 have e:nA (bD 7)=7:=by decide
 simp[bU,e,cM,bW,dm,cH,bV,aP dn hdn,aP sn hsn,aP tn htn,aN.zero]
theorem C9 (sn tn pn:Nat):af ⟨8,0,(sn:Nat),(tn:Nat),0,0,0,(pn:Nat)⟩=bx (bD 8) [dG sn,dG tn,Lib.decDigits pn]:=by
 simp[af,cM,av,aQ,aZ,aE,bx,dG]
theorem po (sn tn pn:Nat):ah (af ⟨8,0,(sn:Nat),(tn:Nat),0,0,0,(pn:Nat)⟩)=bD 8 :: [dG sn,dG tn,Lib.decDigits pn]:=by
 rw[C9]
 exact aX _ _ (by unfold Bf;decide) (by simp[dw,dF])
theorem yl (sn tn pn:Nat)(hsn:sn<9223372036854775808)(htn:tn<9223372036854775808)(hpn:pn<9223372036854775808):aD (af ⟨8,0,(sn:Nat),(tn:Nat),0,0,0,(pn:Nat)⟩)=⟨8,0,(sn:Nat),(tn:Nat),0,0,0,(pn:Nat)⟩:=by
 unfold aD
 rw[aJ _ (by rw[po];simp),po]
 have e:nA (bD 8)=8:=by decide
 simp[bU,e,cM,bW,dm,cH,bV,aP sn hsn,aP tn htn,bZ pn hpn,aN.zero]
theorem C8 (sn tn pn:Nat):af ⟨9,0,(sn:Nat),(tn:Nat),0,0,0,(pn:Nat)⟩=bx (bD 9) [dG sn,dG tn,Lib.decDigits pn]:=by
 simp[af,cM,av,aQ,aZ,aE,bx,dG]
theorem pm (sn tn pn:Nat):ah (af ⟨9,0,(sn:Nat),(tn:Nat),0,0,0,(pn:Nat)⟩)=bD 9 :: [dG sn,dG tn,Lib.decDigits pn]:=by
 rw[C8]
 exact aX _ _ (by unfold Bf;decide) (by simp[dw,dF])
theorem yj (sn tn pn:Nat)(hsn:sn<9223372036854775808)(htn:tn<9223372036854775808)(hpn:pn<9223372036854775808):aD (af ⟨9,0,(sn:Nat),(tn:Nat),0,0,0,(pn:Nat)⟩)=⟨9,0,(sn:Nat),(tn:Nat),0,0,0,(pn:Nat)⟩:=by
 unfold aD
 rw[aJ _ (by rw[pm];simp),pm]
 have e:nA (bD 9)=9:=by decide
 simp[bU,e,cM,bW,dm,cH,bV,aP sn hsn,aP tn htn,bZ pn hpn,aN.zero]
theorem Bc (pn:Nat):af ⟨10,0,0,0,0,0,0,(pn:Nat)⟩=bx (bD 10) [Lib.decDigits pn]:=by
 simp[af,cM,av,aQ,aZ,aE,bx]
theorem mQ (pn:Nat):ah (af ⟨10,0,0,0,0,0,0,(pn:Nat)⟩)=bD 10 :: [Lib.decDigits pn]:=by
 rw[Bc]
 exact aX _ _ (by unfold Bf;decide) (by simp[dF])
theorem vL (pn:Nat)(hpn:pn<9223372036854775808):aD (af ⟨10,0,0,0,0,0,0,(pn:Nat)⟩)=⟨10,0,0,0,0,0,0,(pn:Nat)⟩:=by
 unfold aD
 rw[aJ _ (by rw[mQ];simp),mQ]
 have e:nA (bD 10)=10:=by decide
 simp[bU,e,cM,bW,dm,cH,bV,bZ pn hpn,aN.zero]
theorem Bb (dn:Nat):af ⟨11,(dn:Nat),0,0,0,0,0,0⟩=bx (bD 11) [dG dn]:=by
 simp[af,cM,av,aQ,aZ,aE,bx,dG]
theorem mP (dn:Nat):ah (af ⟨11,(dn:Nat),0,0,0,0,0,0⟩)=bD 11 :: [dG dn]:=by
 rw[Bb]
 exact aX _ _ (by unfold Bf;decide) (by simp[dw])
theorem vK (dn:Nat)(hdn:dn<9223372036854775808):aD (af ⟨11,(dn:Nat),0,0,0,0,0,0⟩)=⟨11,(dn:Nat),0,0,0,0,0,0⟩:=by
 unfold aD
 rw[aJ _ (by rw[mP];simp),mP]
 have e:nA (bD 11)=11:=by decide
 simp[bU,e,cM,bW,dm,cH,bV,aP dn hdn,aN.zero]
theorem A3 (dn:Nat):af ⟨22,(dn:Nat),0,0,0,0,0,0⟩=bx (bD 22) [dG dn]:=by
 simp[af,cM,av,aQ,aZ,aE,bx,dG]
theorem mH (dn:Nat):ah (af ⟨22,(dn:Nat),0,0,0,0,0,0⟩)=bD 22 :: [dG dn]:=by
 rw[A3]
 exact aX _ _ (by unfold Bf;decide) (by simp[dw])
theorem vC (dn:Nat)(hdn:dn<9223372036854775808):aD (af ⟨22,(dn:Nat),0,0,0,0,0,0⟩)=⟨22,(dn:Nat),0,0,0,0,0,0⟩:=by
 unfold aD
 rw[aJ _ (by rw[mH];simp),mH]
 have e:nA (bD 22)=22:=by decide
 simp[bU,e,cM,bW,dm,cH,bV,aP dn hdn,aN.zero]
theorem Ba (kn:Nat):af ⟨12,0,0,0,0,0,(kn:Nat),0⟩=bx (bD 12) [Lib.decDigits kn]:=by
 simp[af,cM,av,aQ,aZ,aE,bx]
theorem mO (kn:Nat):ah (af ⟨12,0,0,0,0,0,(kn:Nat),0⟩)=bD 12 :: [Lib.decDigits kn]:=by
 rw[Ba]
 exact aX _ _ (by unfold Bf;decide) (by simp[dF])
theorem vJ (kn:Nat)(hkn:kn<9223372036854775808)(k1:kn<4294967296):aD (af ⟨12,0,0,0,0,0,(kn:Nat),0⟩)=⟨12,0,0,0,0,0,(kn:Nat),0⟩:=by
 unfold aD
 rw[aJ _ (by rw[mO];simp),mO]
 have e:nA (bD 12)=12:=by decide
 simp[bU,e,cM,bW,dm,cH,bV,bZ kn hkn,aN.zero]
 omega
theorem A9 (kn:Nat):af ⟨13,0,0,0,0,0,(kn:Nat),0⟩=bx (bD 13) [Lib.decDigits kn]:=by
 simp[af,cM,av,aQ,aZ,aE,bx]
theorem mN (kn:Nat):ah (af ⟨13,0,0,0,0,0,(kn:Nat),0⟩)=bD 13 :: [Lib.decDigits kn]:=by
 rw[A9]
 exact aX _ _ (by unfold Bf;decide) (by simp[dF])
theorem vI (kn:Nat)(hkn:kn<9223372036854775808)(k1:kn<4294967296):aD (af ⟨13,0,0,0,0,0,(kn:Nat),0⟩)=⟨13,0,0,0,0,0,(kn:Nat),0⟩:=by
 unfold aD
 rw[aJ _ (by rw[mN];simp),mN]
 have e:nA (bD 13)=13:=by decide
 simp[bU,e,cM,bW,dm,cH,bV,bZ kn hkn,aN.zero]
 omega
theorem A8 (dn sn an:Nat):af ⟨16,(dn:Nat),(sn:Nat),0,0,(an:Nat),0,0⟩=bx (bD 16) [dG dn,Lib.decDigits an,dG sn]:=by
 simp[af,cM,av,aQ,aZ,aE,bx,dG]
theorem mM (dn sn an:Nat):ah (af ⟨16,(dn:Nat),(sn:Nat),0,0,(an:Nat),0,0⟩)=bD 16 :: [dG dn,Lib.decDigits an,dG sn]:=by
 rw[A8]
 exact aX _ _ (by unfold Bf;decide) (by simp[dw,dF])
theorem vH (dn sn an:Nat)(hdn:dn<9223372036854775808)(hsn:sn<9223372036854775808)(han:an<9223372036854775808):aD (af ⟨16,(dn:Nat),(sn:Nat),0,0,(an:Nat),0,0⟩)=⟨16,(dn:Nat),(sn:Nat),0,0,(an:Nat),0,0⟩:=by
 unfold aD
 rw[aJ _ (by rw[mM];simp),mM]
 have e:nA (bD 16)=16:=by decide
 simp[bU,e,cM,bW,dm,cH,bV,aP dn hdn,aP sn hsn,bZ an han,aN.zero]
theorem A7 (sn tn an:Nat):af ⟨17,0,(sn:Nat),(tn:Nat),0,(an:Nat),0,0⟩=bx (bD 17) [Lib.decDigits an,dG sn,dG tn]:=by
 simp[af,cM,av,aQ,aZ,aE,bx,dG]
theorem mL (sn tn an:Nat):ah (af ⟨17,0,(sn:Nat),(tn:Nat),0,(an:Nat),0,0⟩)=bD 17 :: [Lib.decDigits an,dG sn,dG tn]:=by
 rw[A7]
 exact aX _ _ (by unfold Bf;decide) (by simp[dw,dF])
theorem vG (sn tn an:Nat)(hsn:sn<9223372036854775808)(htn:tn<9223372036854775808)(han:an<9223372036854775808):aD (af ⟨17,0,(sn:Nat),(tn:Nat),0,(an:Nat),0,0⟩)=⟨17,0,(sn:Nat),(tn:Nat),0,(an:Nat),0,0⟩:=by
 unfold aD
 rw[aJ _ (by rw[mL];simp),mL]
 have e:nA (bD 17)=17:=by decide
 simp[bU,e,cM,bW,dm,cH,bV,aP sn hsn,aP tn htn,bZ an han,aN.zero]
theorem A6 (dn sn tn an:Nat):af ⟨18,(dn:Nat),(sn:Nat),(tn:Nat),0,(an:Nat),0,0⟩=bx (bD 18) [dG dn,Lib.decDigits an,dG sn,dG tn]:=by
 simp[af,cM,av,aQ,aZ,aE,bx,dG]
theorem mK (dn sn tn an:Nat):ah (af ⟨18,(dn:Nat),(sn:Nat),(tn:Nat),0,(an:Nat),0,0⟩)=bD 18 :: [dG dn,Lib.decDigits an,dG sn,dG tn]:=by
 rw[A6]
 exact aX _ _ (by unfold Bf;decide) (by simp[dw,dF])
theorem vF (dn sn tn an:Nat)(hdn:dn<9223372036854775808)(hsn:sn<9223372036854775808)(htn:tn<9223372036854775808)(han:an<9223372036854775808):aD (af ⟨18,(dn:Nat),(sn:Nat),(tn:Nat),0,(an:Nat),0,0⟩)=⟨18,(dn:Nat),(sn:Nat),(tn:Nat),0,(an:Nat),0,0⟩:=by
 unfold aD
 rw[aJ _ (by rw[mK];simp),mK]
 have e:nA (bD 18)=18:=by decide
 simp[bU,e,cM,bW,dm,cH,bV,aP dn hdn,aP sn hsn,aP tn htn,bZ an han,aN.zero]
theorem A5 (dn sn tn un an:Nat):af ⟨19,(dn:Nat),(sn:Nat),(tn:Nat),(un:Nat),(an:Nat),0,0⟩=bx (bD 19) [dG dn,Lib.decDigits an,dG sn,dG tn,dG un]:=by
 simp[af,cM,av,aQ,aZ,aE,bx,dG]
theorem mJ (dn sn tn un an:Nat):ah (af ⟨19,(dn:Nat),(sn:Nat),(tn:Nat),(un:Nat),(an:Nat),0,0⟩)=bD 19 :: [dG dn,Lib.decDigits an,dG sn,dG tn,dG un]:=by
 rw[A5]
 exact aX _ _ (by unfold Bf;decide) (by simp[dw,dF])
theorem vE (dn sn tn un an:Nat)(hdn:dn<9223372036854775808)(hsn:sn<9223372036854775808)(htn:tn<9223372036854775808)(hun:un<9223372036854775808)(han:an<9223372036854775808):aD (af ⟨19,(dn:Nat),(sn:Nat),(tn:Nat),(un:Nat),(an:Nat),0,0⟩)=⟨19,(dn:Nat),(sn:Nat),(tn:Nat),(un:Nat),(an:Nat),0,0⟩:=by
 unfold aD
 rw[aJ _ (by rw[mJ];simp),mJ]
 have e:nA (bD 19)=19:=by decide
 simp[bU,e,cM,bW,dm,cH,bV,aP dn hdn,aP sn hsn,aP tn htn,aP un hun,bZ an han,aN.zero]
theorem A4 (dn sn an kn:Nat):af ⟨20,(dn:Nat),(sn:Nat),0,0,(an:Nat),(kn:Nat),0⟩=bx (bD 20) [dG dn,Lib.decDigits an,dG sn,Lib.decDigits kn]:=by
 simp[af,cM,av,aQ,aZ,aE,bx,dG]
theorem mI (dn sn an kn:Nat):ah (af ⟨20,(dn:Nat),(sn:Nat),0,0,(an:Nat),(kn:Nat),0⟩)=bD 20 :: [dG dn,Lib.decDigits an,dG sn,Lib.decDigits kn]:=by
 rw[A4]
 exact aX _ _ (by unfold Bf;decide) (by simp[dw,dF])
theorem vD (dn sn an kn:Nat)(hdn:dn<9223372036854775808)(hsn:sn<9223372036854775808)(han:an<9223372036854775808)(hkn:kn<9223372036854775808)(k1:kn<4294967296):aD (af ⟨20,(dn:Nat),(sn:Nat),0,0,(an:Nat),(kn:Nat),0⟩)=⟨20,(dn:Nat),(sn:Nat),0,0,(an:Nat),(kn:Nat),0⟩:=by
 unfold aD
 rw[aJ _ (by rw[mI];simp),mI]
 have e:nA (bD 20)=20:=by decide
 simp[bU,e,cM,bW,dm,cH,bV,aP dn hdn,aP sn hsn,bZ an han,bZ kn hkn,aN.zero]
 omega
theorem A2 (sn:Nat):af ⟨23,0,(sn:Nat),0,0,0,0,0⟩=bx (bD 23) [dG sn]:=by
 simp[af,cM,av,aQ,aZ,aE,bx,dG]
theorem mG (sn:Nat):ah (af ⟨23,0,(sn:Nat),0,0,0,0,0⟩)=bD 23 :: [dG sn]:=by
 rw[A2]
 exact aX _ _ (by unfold Bf;decide) (by simp[dw])
theorem vB (sn:Nat)(hsn:sn<9223372036854775808):aD (af ⟨23,0,(sn:Nat),0,0,0,0,0⟩)=⟨23,0,(sn:Nat),0,0,0,0,0⟩:=by
 unfold aD
 rw[aJ _ (by rw[mG];simp),mG]
 have e:nA (bD 23)=23:=by decide
 simp[bU,e,cM,bW,dm,cH,bV,aP sn hsn,aN.zero]
theorem sM (dn sn tn an pn:Nat):af ⟨21,(dn:Nat),(sn:Nat),(tn:Nat),0,(an:Nat),0,(pn:Nat)⟩=bx (bD 21) [dG dn,Lib.decDigits an,dG sn,[101,113],dG tn,[101,108,115,101],Lib.decDigits pn]:=by
 have e:¬ ((pn:Int)=-1):=by omega
 simp[af,cM,av,aQ,aZ,aE,bx,dG,e]
theorem gj (dn sn tn an pn:Nat):ah (af ⟨21,(dn:Nat),(sn:Nat),(tn:Nat),0,(an:Nat),0,(pn:Nat)⟩)=bD 21 :: [dG dn,Lib.decDigits an,dG sn,[101,113],dG tn,[101,108,115,101],Lib.decDigits pn]:=by
 rw[sM dn sn tn an pn]
 refine aX _ _ (by unfold Bf;decide) ?_
 have b1:Bf [101,113]:=by unfold Bf;decide
 have b2:Bf [101,108,115,101]:=by unfold Bf;decide
 simp[dw,dF,b1,b2]
theorem ph (dn sn tn an pn:Nat)(hdn:dn<9223372036854775808)(hsn:sn<9223372036854775808)(htn:tn<9223372036854775808)(han:an<9223372036854775808)(hpn:pn<9223372036854775808):aD (af ⟨21,(dn:Nat),(sn:Nat),(tn:Nat),0,(an:Nat),0,(pn:Nat)⟩)=⟨21,(dn:Nat),(sn:Nat),(tn:Nat),0,(an:Nat),0,(pn:Nat)⟩:=by
 unfold aD
 rw[aJ _ (by rw[gj dn sn tn an pn];simp),gj dn sn tn an pn]
 have e:nA (bD 21)=21:=by decide
 have v:ki [101,113]=0:=by decide
 simp[bU,e,cM,bW,dm,cH,bV,aP dn hdn,aP sn hsn,aP tn htn,bZ an han,bZ pn hpn,v,aN.zero]
theorem sN (dn sn tn an pn:Nat):af ⟨21,(dn:Nat),(sn:Nat),(tn:Nat),0,(an:Nat),0,-1⟩=bx (bD 21) [dG dn,Lib.decDigits an,dG sn,[101,113],dG tn]:=by
 simp[af,cM,av,aQ,aZ,aE,bx,dG]
theorem gm (dn sn tn an pn:Nat):ah (af ⟨21,(dn:Nat),(sn:Nat),(tn:Nat),0,(an:Nat),0,-1⟩)=bD 21 :: [dG dn,Lib.decDigits an,dG sn,[101,113],dG tn]:=by
 rw[sN dn sn tn an pn]
 refine aX _ _ (by unfold Bf;decide) ?_
 have b1:Bf [101,113]:=by unfold Bf;decide
 simp[dw,dF,b1]
theorem pi (dn sn tn an pn:Nat)(hdn:dn<9223372036854775808)(hsn:sn<9223372036854775808)(htn:tn<9223372036854775808)(han:an<9223372036854775808)(hpn:pn<9223372036854775808):aD (af ⟨21,(dn:Nat),(sn:Nat),(tn:Nat),0,(an:Nat),0,-1⟩)=⟨21,(dn:Nat),(sn:Nat),(tn:Nat),0,(an:Nat),0,-1⟩:=by
 unfold aD
 rw[aJ _ (by rw[gm dn sn tn an pn];simp),gm dn sn tn an pn]
 have e:nA (bD 21)=21:=by decide
 have v:ki [101,113]=0:=by decide
 simp[bU,e,cM,bW,dm,cH,bV,aP dn hdn,aP sn hsn,aP tn htn,bZ an han,v,aN.zero]
theorem sK (dn sn tn an pn:Nat):af ⟨21,(dn:Nat),(sn:Nat),(tn:Nat),0,(an:Nat),1,(pn:Nat)⟩=bx (bD 21) [dG dn,Lib.decDigits an,dG sn,[110,101],dG tn,[101,108,115,101],Lib.decDigits pn]:=by
 have e:¬ ((pn:Int)=-1):=by omega
 simp[af,cM,av,aQ,aZ,aE,bx,dG,e]
theorem gg (dn sn tn an pn:Nat):ah (af ⟨21,(dn:Nat),(sn:Nat),(tn:Nat),0,(an:Nat),1,(pn:Nat)⟩)=bD 21 :: [dG dn,Lib.decDigits an,dG sn,[110,101],dG tn,[101,108,115,101],Lib.decDigits pn]:=by
 rw[sK dn sn tn an pn]
 refine aX _ _ (by unfold Bf;decide) ?_
 have b1:Bf [110,101]:=by unfold Bf;decide
 have b2:Bf [101,108,115,101]:=by unfold Bf;decide
 simp[dw,dF,b1,b2]
theorem pf (dn sn tn an pn:Nat)(hdn:dn<9223372036854775808)(hsn:sn<9223372036854775808)(htn:tn<9223372036854775808)(han:an<9223372036854775808)(hpn:pn<9223372036854775808):aD (af ⟨21,(dn:Nat),(sn:Nat),(tn:Nat),0,(an:Nat),1,(pn:Nat)⟩)=⟨21,(dn:Nat),(sn:Nat),(tn:Nat),0,(an:Nat),1,(pn:Nat)⟩:=by
 unfold aD
 rw[aJ _ (by rw[gg dn sn tn an pn];simp),gg dn sn tn an pn]
 have e:nA (bD 21)=21:=by decide
 have v:ki [110,101]=1:=by decide
 simp[bU,e,cM,bW,dm,cH,bV,aP dn hdn,aP sn hsn,aP tn htn,bZ an han,bZ pn hpn,v,aN.zero]
theorem sL (dn sn tn an pn:Nat):af ⟨21,(dn:Nat),(sn:Nat),(tn:Nat),0,(an:Nat),1,-1⟩=bx (bD 21) [dG dn,Lib.decDigits an,dG sn,[110,101],dG tn]:=by
 simp[af,cM,av,aQ,aZ,aE,bx,dG]
theorem gh (dn sn tn an pn:Nat):ah (af ⟨21,(dn:Nat),(sn:Nat),(tn:Nat),0,(an:Nat),1,-1⟩)=bD 21 :: [dG dn,Lib.decDigits an,dG sn,[110,101],dG tn]:=by
 rw[sL dn sn tn an pn]
 refine aX _ _ (by unfold Bf;decide) ?_
 have b1:Bf [110,101]:=by unfold Bf;decide
 simp[dw,dF,b1]
theorem pg (dn sn tn an pn:Nat)(hdn:dn<9223372036854775808)(hsn:sn<9223372036854775808)(htn:tn<9223372036854775808)(han:an<9223372036854775808)(hpn:pn<9223372036854775808):aD (af ⟨21,(dn:Nat),(sn:Nat),(tn:Nat),0,(an:Nat),1,-1⟩)=⟨21,(dn:Nat),(sn:Nat),(tn:Nat),0,(an:Nat),1,-1⟩:=by
 unfold aD
 rw[aJ _ (by rw[gh dn sn tn an pn];simp),gh dn sn tn an pn]
 have e:nA (bD 21)=21:=by decide
 have v:ki [110,101]=1:=by decide
 simp[bU,e,cM,bW,dm,cH,bV,aP dn hdn,aP sn hsn,aP tn htn,bZ an han,v,aN.zero]
theorem qo (i:aN)(h:au i 1073741824=Q)(k0:0<=i.k)(k1:i.k<4294967296):aD (af i)=i:=by
 obtain⟨hd,hs,ht,hu,ha⟩:=eB i _ h
 obtain⟨op,d,s,t,u,a,k,pl⟩:=i
 simp only at hd hs ht hu ha k0 k1
 rcases cq op with rfl|rfl|rfl|rfl|rfl|rfl|rfl|rfl|rfl|rfl|rfl|rfl|rfl|rfl|rfl|rfl|rfl|rfl|rfl|rfl|rfl | hn
 ·skip
  have hr:=lX d s t u a k pl 1073741824 hd hs ht hu ha k0 k1
  rw[h] at hr
  simp[du] at hr
  obtain⟨dn,rfl⟩:∃ n:Nat,d=n:=⟨d.toNat,by omega⟩
  obtain⟨sn,rfl⟩:∃ n:Nat,s=n:=⟨s.toNat,by omega⟩
  obtain⟨tn,rfl⟩:∃ n:Nat,t=n:=⟨t.toNat,by omega⟩
  obtain⟨un,rfl⟩:∃ n:Nat,u=n:=⟨u.toNat,by omega⟩
  obtain⟨an,rfl⟩:∃ n:Nat,a=n:=⟨a.toNat,by omega⟩
  obtain⟨kn,rfl⟩:∃ n:Nat,k=n:=⟨k.toNat,by omega⟩
  obtain rfl:sn=0:=by omega
  obtain rfl:tn=0:=by omega
  obtain rfl:un=0:=by omega
  obtain rfl:an=0:=by omega
  obtain rfl:pl=0:=by omega
  exact yv dn kn (by omega) (by omega) (by omega)
 ·skip
  have hr:=lW d s t u a k pl 1073741824 hd hs ht hu ha k0 k1
  rw[h] at hr
  simp[du] at hr
  obtain⟨dn,rfl⟩:∃ n:Nat,d=n:=⟨d.toNat,by omega⟩
  obtain⟨sn,rfl⟩:∃ n:Nat,s=n:=⟨s.toNat,by omega⟩
  obtain⟨tn,rfl⟩:∃ n:Nat,t=n:=⟨t.toNat,by omega⟩
  obtain⟨un,rfl⟩:∃ n:Nat,u=n:=⟨u.toNat,by omega⟩
  obtain⟨an,rfl⟩:∃ n:Nat,a=n:=⟨a.toNat,by omega⟩
  obtain⟨kn,rfl⟩:∃ n:Nat,k=n:=⟨k.toNat,by omega⟩
  obtain rfl:tn=0:=by omega
  obtain rfl:un=0:=by omega
  obtain rfl:an=0:=by omega
  obtain rfl:kn=0:=by omega
  obtain rfl:pl=0:=by omega
  exact yr dn sn (by omega) (by omega)
 ·skip
  have hr:=lV d s t u a k pl 1073741824 hd hs ht hu ha k0 k1
  rw[h] at hr
  simp[du] at hr
  obtain⟨dn,rfl⟩:∃ n:Nat,d=n:=⟨d.toNat,by omega⟩
  obtain⟨sn,rfl⟩:∃ n:Nat,s=n:=⟨s.toNat,by omega⟩
  obtain⟨tn,rfl⟩:∃ n:Nat,t=n:=⟨t.toNat,by omega⟩
  obtain⟨un,rfl⟩:∃ n:Nat,u=n:=⟨u.toNat,by omega⟩
  obtain⟨an,rfl⟩:∃ n:Nat,a=n:=⟨a.toNat,by omega⟩
  obtain⟨kn,rfl⟩:∃ n:Nat,k=n:=⟨k.toNat,by omega⟩
  obtain rfl:tn=0:=by omega
  obtain rfl:un=0:=by omega
  obtain rfl:an=0:=by omega
  obtain rfl:pl=0:=by omega
  exact yq dn sn kn (by omega) (by omega) (by omega) (by omega)
 ·skip
  have hr:=lU d s t u a k pl 1073741824 hd hs ht hu ha k0 k1
  rw[h] at hr
  simp[du] at hr
  obtain⟨dn,rfl⟩:∃ n:Nat,d=n:=⟨d.toNat,by omega⟩
  obtain⟨sn,rfl⟩:∃ n:Nat,s=n:=⟨s.toNat,by omega⟩
  obtain⟨tn,rfl⟩:∃ n:Nat,t=n:=⟨t.toNat,by omega⟩
  obtain⟨un,rfl⟩:∃ n:Nat,u=n:=⟨u.toNat,by omega⟩
  obtain⟨an,rfl⟩:∃ n:Nat,a=n:=⟨a.toNat,by omega⟩
  obtain⟨kn,rfl⟩:∃ n:Nat,k=n:=⟨k.toNat,by omega⟩
  obtain rfl:tn=0:=by omega
  obtain rfl:un=0:=by omega
  obtain rfl:an=0:=by omega
  obtain rfl:pl=0:=by omega
  exact yp dn sn kn (by omega) (by omega) (by omega) (by omega)
 ·skip
  have hr:=j6 d s t u a k pl 1073741824 hd hs ht hu ha k0 k1
  rw[h] at hr
  simp[du] at hr
  obtain⟨dn,rfl⟩:∃ n:Nat,d=n:=⟨d.toNat,by omega⟩
  obtain⟨sn,rfl⟩:∃ n:Nat,s=n:=⟨s.toNat,by omega⟩
  obtain⟨tn,rfl⟩:∃ n:Nat,t=n:=⟨t.toNat,by omega⟩
  obtain⟨un,rfl⟩:∃ n:Nat,u=n:=⟨u.toNat,by omega⟩
  obtain⟨an,rfl⟩:∃ n:Nat,a=n:=⟨a.toNat,by omega⟩
  obtain⟨kn,rfl⟩:∃ n:Nat,k=n:=⟨k.toNat,by omega⟩
  obtain rfl:tn=0:=by omega
  obtain rfl:un=0:=by omega
  obtain rfl:an=0:=by omega
  obtain rfl:pl=0:=by omega
  exact yo dn sn kn (by omega) (by omega) (by omega) (by omega)
 ·skip
  have hr:=jZ d s t u a k pl 1073741824 hd hs ht hu ha k0 k1
  rw[h] at hr
  simp[du] at hr
  obtain⟨dn,rfl⟩:∃ n:Nat,d=n:=⟨d.toNat,by omega⟩
  obtain⟨sn,rfl⟩:∃ n:Nat,s=n:=⟨s.toNat,by omega⟩
  obtain⟨tn,rfl⟩:∃ n:Nat,t=n:=⟨t.toNat,by omega⟩
  obtain⟨un,rfl⟩:∃ n:Nat,u=n:=⟨u.toNat,by omega⟩
  obtain⟨an,rfl⟩:∃ n:Nat,a=n:=⟨a.toNat,by omega⟩
  obtain⟨kn,rfl⟩:∃ n:Nat,k=n:=⟨k.toNat,by omega⟩
  obtain rfl:tn=0:=by omega
  obtain rfl:un=0:=by omega
  obtain rfl:an=0:=by omega
  obtain rfl:pl=0:=by omega
  exact yn dn sn kn (by omega) (by omega) (by omega) (by omega)
 ·skip
  have hr:=lT d s t u a k pl 1073741824 hd hs ht hu ha k0 k1
  rw[h] at hr
  simp[du] at hr
  obtain⟨dn,rfl⟩:∃ n:Nat,d=n:=⟨d.toNat,by omega⟩
  obtain⟨sn,rfl⟩:∃ n:Nat,s=n:=⟨s.toNat,by omega⟩
  obtain⟨tn,rfl⟩:∃ n:Nat,t=n:=⟨t.toNat,by omega⟩
  obtain⟨un,rfl⟩:∃ n:Nat,u=n:=⟨u.toNat,by omega⟩
  obtain⟨an,rfl⟩:∃ n:Nat,a=n:=⟨a.toNat,by omega⟩
  obtain⟨kn,rfl⟩:∃ n:Nat,k=n:=⟨k.toNat,by omega⟩
  obtain rfl:un=0:=by omega
  obtain rfl:an=0:=by omega
  obtain rfl:kn=0:=by omega
  obtain rfl:pl=0:=by omega
  exact ym dn sn tn (by omega) (by omega) (by omega)
 ·skip
  have hr:=lS d s t u a k pl 1073741824 hd hs ht hu ha k0 k1
  rw[h] at hr
  simp[du] at hr
  obtain⟨dn,rfl⟩:∃ n:Nat,d=n:=⟨d.toNat,by omega⟩
  obtain⟨sn,rfl⟩:∃ n:Nat,s=n:=⟨s.toNat,by omega⟩
  obtain⟨tn,rfl⟩:∃ n:Nat,t=n:=⟨t.toNat,by omega⟩
  obtain⟨un,rfl⟩:∃ n:Nat,u=n:=⟨u.toNat,by omega⟩
  obtain⟨an,rfl⟩:∃ n:Nat,a=n:=⟨a.toNat,by omega⟩
  obtain⟨kn,rfl⟩:∃ n:Nat,k=n:=⟨k.toNat,by omega⟩
  obtain rfl:dn=0:=by omega
  obtain rfl:un=0:=by omega
  obtain rfl:an=0:=by omega
  obtain rfl:kn=0:=by omega
  obtain⟨pn,rfl⟩:∃ n:Nat,pl=n:=⟨pl.toNat,by omega⟩
  exact yl sn tn pn (by omega) (by omega) (by omega)
 ·skip
  have hr:=lR d s t u a k pl 1073741824 hd hs ht hu ha k0 k1
  rw[h] at hr
  simp[du] at hr
  obtain⟨dn,rfl⟩:∃ n:Nat,d=n:=⟨d.toNat,by omega⟩
  obtain⟨sn,rfl⟩:∃ n:Nat,s=n:=⟨s.toNat,by omega⟩
  obtain⟨tn,rfl⟩:∃ n:Nat,t=n:=⟨t.toNat,by omega⟩
  obtain⟨un,rfl⟩:∃ n:Nat,u=n:=⟨u.toNat,by omega⟩
  obtain⟨an,rfl⟩:∃ n:Nat,a=n:=⟨a.toNat,by omega⟩
  obtain⟨kn,rfl⟩:∃ n:Nat,k=n:=⟨k.toNat,by omega⟩
  obtain rfl:dn=0:=by omega
  obtain rfl:un=0:=by omega
  obtain rfl:an=0:=by omega
  obtain rfl:kn=0:=by omega
  obtain⟨pn,rfl⟩:∃ n:Nat,pl=n:=⟨pl.toNat,by omega⟩
  exact yj sn tn pn (by omega) (by omega) (by omega)
 ·skip
  have hr:=jR d s t u a k pl 1073741824 hd hs ht hu ha k0 k1
  rw[h] at hr
  simp[du] at hr
  obtain⟨dn,rfl⟩:∃ n:Nat,d=n:=⟨d.toNat,by omega⟩
  obtain⟨sn,rfl⟩:∃ n:Nat,s=n:=⟨s.toNat,by omega⟩
  obtain⟨tn,rfl⟩:∃ n:Nat,t=n:=⟨t.toNat,by omega⟩
  obtain⟨un,rfl⟩:∃ n:Nat,u=n:=⟨u.toNat,by omega⟩
  obtain⟨an,rfl⟩:∃ n:Nat,a=n:=⟨a.toNat,by omega⟩
  obtain⟨kn,rfl⟩:∃ n:Nat,k=n:=⟨k.toNat,by omega⟩
  obtain rfl:dn=0:=by omega
  obtain rfl:sn=0:=by omega
  obtain rfl:tn=0:=by omega
  obtain rfl:un=0:=by omega
  obtain rfl:an=0:=by omega
  obtain rfl:kn=0:=by omega
  obtain⟨pn,rfl⟩:∃ n:Nat,pl=n:=⟨pl.toNat,by omega⟩
  exact vL pn (by omega)
 ·skip
  have hr:=jQ d s t u a k pl 1073741824 hd hs ht hu ha k0 k1
  rw[h] at hr
  simp[du] at hr
  obtain⟨dn,rfl⟩:∃ n:Nat,d=n:=⟨d.toNat,by omega⟩
  obtain⟨sn,rfl⟩:∃ n:Nat,s=n:=⟨s.toNat,by omega⟩
  obtain⟨tn,rfl⟩:∃ n:Nat,t=n:=⟨t.toNat,by omega⟩
  obtain⟨un,rfl⟩:∃ n:Nat,u=n:=⟨u.toNat,by omega⟩
  obtain⟨an,rfl⟩:∃ n:Nat,a=n:=⟨a.toNat,by omega⟩
  obtain⟨kn,rfl⟩:∃ n:Nat,k=n:=⟨k.toNat,by omega⟩
  obtain rfl:sn=0:=by omega
  obtain rfl:tn=0:=by omega
  obtain rfl:un=0:=by omega
  obtain rfl:an=0:=by omega
  obtain rfl:kn=0:=by omega
  obtain rfl:pl=0:=by omega
  exact vK dn (by omega)
 ·skip
  have hr:=iJ d s t u a k pl 1073741824 hd hs ht hu ha k0 k1
  rw[h] at hr
  simp[du] at hr
  obtain⟨dn,rfl⟩:∃ n:Nat,d=n:=⟨d.toNat,by omega⟩
  obtain⟨sn,rfl⟩:∃ n:Nat,s=n:=⟨s.toNat,by omega⟩
  obtain⟨tn,rfl⟩:∃ n:Nat,t=n:=⟨t.toNat,by omega⟩
  obtain⟨un,rfl⟩:∃ n:Nat,u=n:=⟨u.toNat,by omega⟩
  obtain⟨an,rfl⟩:∃ n:Nat,a=n:=⟨a.toNat,by omega⟩
  obtain⟨kn,rfl⟩:∃ n:Nat,k=n:=⟨k.toNat,by omega⟩
  obtain rfl:dn=0:=by omega
  obtain rfl:sn=0:=by omega
  obtain rfl:tn=0:=by omega
  obtain rfl:un=0:=by omega
  obtain rfl:an=0:=by omega
  obtain rfl:pl=0:=by omega
  exact vJ kn (by omega) (by omega)
 ·skip
  have hr:=iI d s t u a k pl 1073741824 hd hs ht hu ha k0 k1
  rw[h] at hr
  simp[du] at hr
  obtain⟨dn,rfl⟩:∃ n:Nat,d=n:=⟨d.toNat,by omega⟩
  obtain⟨sn,rfl⟩:∃ n:Nat,s=n:=⟨s.toNat,by omega⟩
  obtain⟨tn,rfl⟩:∃ n:Nat,t=n:=⟨t.toNat,by omega⟩
  obtain⟨un,rfl⟩:∃ n:Nat,u=n:=⟨u.toNat,by omega⟩
  obtain⟨an,rfl⟩:∃ n:Nat,a=n:=⟨a.toNat,by omega⟩
  obtain⟨kn,rfl⟩:∃ n:Nat,k=n:=⟨k.toNat,by omega⟩
  obtain rfl:dn=0:=by omega
  obtain rfl:sn=0:=by omega
  obtain rfl:tn=0:=by omega
  obtain rfl:un=0:=by omega
  obtain rfl:an=0:=by omega
  obtain rfl:pl=0:=by omega
  exact vI kn (by omega) (by omega)
 ·skip
  have hr:=jP d s t u a k pl 1073741824 hd hs ht hu ha k0 k1
  rw[h] at hr
  simp[du] at hr
  obtain⟨dn,rfl⟩:∃ n:Nat,d=n:=⟨d.toNat,by omega⟩
  obtain⟨sn,rfl⟩:∃ n:Nat,s=n:=⟨s.toNat,by omega⟩
  obtain⟨tn,rfl⟩:∃ n:Nat,t=n:=⟨t.toNat,by omega⟩
  obtain⟨un,rfl⟩:∃ n:Nat,u=n:=⟨u.toNat,by omega⟩
  obtain⟨an,rfl⟩:∃ n:Nat,a=n:=⟨a.toNat,by omega⟩
  obtain⟨kn,rfl⟩:∃ n:Nat,k=n:=⟨k.toNat,by omega⟩
  obtain rfl:tn=0:=by omega
  obtain rfl:un=0:=by omega
  obtain rfl:kn=0:=by omega
  obtain rfl:pl=0:=by omega
  exact vH dn sn an (by omega) (by omega) (by omega)
 ·skip
  have hr:=jO d s t u a k pl 1073741824 hd hs ht hu ha k0 k1
  rw[h] at hr
  simp[du] at hr
  obtain⟨dn,rfl⟩:∃ n:Nat,d=n:=⟨d.toNat,by omega⟩
  obtain⟨sn,rfl⟩:∃ n:Nat,s=n:=⟨s.toNat,by omega⟩
  obtain⟨tn,rfl⟩:∃ n:Nat,t=n:=⟨t.toNat,by omega⟩
  obtain⟨un,rfl⟩:∃ n:Nat,u=n:=⟨u.toNat,by omega⟩
  obtain⟨an,rfl⟩:∃ n:Nat,a=n:=⟨a.toNat,by omega⟩
  obtain⟨kn,rfl⟩:∃ n:Nat,k=n:=⟨k.toNat,by omega⟩
  obtain rfl:dn=0:=by omega
  obtain rfl:un=0:=by omega
  obtain rfl:kn=0:=by omega
  obtain rfl:pl=0:=by omega
  exact vG sn tn an (by omega) (by omega) (by omega)
 ·skip
  have hr:=jN d s t u a k pl 1073741824 hd hs ht hu ha k0 k1
  rw[h] at hr
  simp[du] at hr
  obtain⟨dn,rfl⟩:∃ n:Nat,d=n:=⟨d.toNat,by omega⟩
  obtain⟨sn,rfl⟩:∃ n:Nat,s=n:=⟨s.toNat,by omega⟩
  obtain⟨tn,rfl⟩:∃ n:Nat,t=n:=⟨t.toNat,by omega⟩
  obtain⟨un,rfl⟩:∃ n:Nat,u=n:=⟨u.toNat,by omega⟩
  obtain⟨an,rfl⟩:∃ n:Nat,a=n:=⟨a.toNat,by omega⟩
  obtain⟨kn,rfl⟩:∃ n:Nat,k=n:=⟨k.toNat,by omega⟩
  obtain rfl:un=0:=by omega
  obtain rfl:kn=0:=by omega
  obtain rfl:pl=0:=by omega
  exact vF dn sn tn an (by omega) (by omega) (by omega) (by omega)
 ·skip
  have hr:=jM d s t u a k pl 1073741824 hd hs ht hu ha k0 k1
  rw[h] at hr
  simp[du] at hr
  obtain⟨dn,rfl⟩:∃ n:Nat,d=n:=⟨d.toNat,by omega⟩
  obtain⟨sn,rfl⟩:∃ n:Nat,s=n:=⟨s.toNat,by omega⟩
  obtain⟨tn,rfl⟩:∃ n:Nat,t=n:=⟨t.toNat,by omega⟩
  obtain⟨un,rfl⟩:∃ n:Nat,u=n:=⟨u.toNat,by omega⟩
  obtain⟨an,rfl⟩:∃ n:Nat,a=n:=⟨a.toNat,by omega⟩
  obtain⟨kn,rfl⟩:∃ n:Nat,k=n:=⟨k.toNat,by omega⟩
  obtain rfl:kn=0:=by omega
  obtain rfl:pl=0:=by omega
  exact vE dn sn tn un an (by omega) (by omega) (by omega) (by omega) (by omega)
 ·skip
  have hr:=jL d s t u a k pl 1073741824 hd hs ht hu ha k0 k1
  rw[h] at hr
  simp[du] at hr
  obtain⟨dn,rfl⟩:∃ n:Nat,d=n:=⟨d.toNat,by omega⟩
  obtain⟨sn,rfl⟩:∃ n:Nat,s=n:=⟨s.toNat,by omega⟩
  obtain⟨tn,rfl⟩:∃ n:Nat,t=n:=⟨t.toNat,by omega⟩
  obtain⟨un,rfl⟩:∃ n:Nat,u=n:=⟨u.toNat,by omega⟩
  obtain⟨an,rfl⟩:∃ n:Nat,a=n:=⟨a.toNat,by omega⟩
  obtain⟨kn,rfl⟩:∃ n:Nat,k=n:=⟨k.toNat,by omega⟩
  obtain rfl:tn=0:=by omega
  obtain rfl:un=0:=by omega
  obtain rfl:pl=0:=by omega
  exact vD dn sn an kn (by omega) (by omega) (by omega) (by omega) (by omega)
 ·skip
  have hr:=gR d s t u a k pl 1073741824 hd hs ht hu ha k0 k1
  rw[h] at hr
  simp[du] at hr
  obtain⟨dn,rfl⟩:∃ n:Nat,d=n:=⟨d.toNat,by omega⟩
  obtain⟨sn,rfl⟩:∃ n:Nat,s=n:=⟨s.toNat,by omega⟩
  obtain⟨tn,rfl⟩:∃ n:Nat,t=n:=⟨t.toNat,by omega⟩
  obtain⟨un,rfl⟩:∃ n:Nat,u=n:=⟨u.toNat,by omega⟩
  obtain⟨an,rfl⟩:∃ n:Nat,a=n:=⟨a.toNat,by omega⟩
  obtain⟨kn,rfl⟩:∃ n:Nat,k=n:=⟨k.toNat,by omega⟩
  obtain rfl:un=0:=by omega
  by_cases hm:pl=-1
  ·subst hm
   by_cases hk:kn=0
   ·subst hk;exact pi dn sn tn an 0 (by omega) (by omega) (by omega) (by omega) (by omega)
   ·obtain rfl:kn=1:=by omega
    exact pg dn sn tn an 0 (by omega) (by omega) (by omega) (by omega) (by omega)
  ·obtain⟨pn,rfl⟩:∃ n:Nat,pl=n:=⟨pl.toNat,by omega⟩
   by_cases hk:kn=0
   ·subst hk;exact ph dn sn tn an pn (by omega) (by omega) (by omega) (by omega) (by omega)
   ·obtain rfl:kn=1:=by omega
    exact pf dn sn tn an pn (by omega) (by omega) (by omega) (by omega) (by omega)
 ·skip
  have hr:=jK d s t u a k pl 1073741824 hd hs ht hu ha k0 k1
  rw[h] at hr
  simp[du] at hr
  obtain⟨dn,rfl⟩:∃ n:Nat,d=n:=⟨d.toNat,by omega⟩
  obtain⟨sn,rfl⟩:∃ n:Nat,s=n:=⟨s.toNat,by omega⟩
  obtain⟨tn,rfl⟩:∃ n:Nat,t=n:=⟨t.toNat,by omega⟩
  obtain⟨un,rfl⟩:∃ n:Nat,u=n:=⟨u.toNat,by omega⟩
  obtain⟨an,rfl⟩:∃ n:Nat,a=n:=⟨a.toNat,by omega⟩
  obtain⟨kn,rfl⟩:∃ n:Nat,k=n:=⟨k.toNat,by omega⟩
  obtain rfl:sn=0:=by omega
  obtain rfl:tn=0:=by omega
  obtain rfl:un=0:=by omega
  obtain rfl:an=0:=by omega
  obtain rfl:kn=0:=by omega
  obtain rfl:pl=0:=by omega
  exact vC dn (by omega)
 ·skip
  have hr:=jJ d s t u a k pl 1073741824 hd hs ht hu ha k0 k1
  rw[h] at hr
  simp[du] at hr
  obtain⟨dn,rfl⟩:∃ n:Nat,d=n:=⟨d.toNat,by omega⟩
  obtain⟨sn,rfl⟩:∃ n:Nat,s=n:=⟨s.toNat,by omega⟩
  obtain⟨tn,rfl⟩:∃ n:Nat,t=n:=⟨t.toNat,by omega⟩
  obtain⟨un,rfl⟩:∃ n:Nat,u=n:=⟨u.toNat,by omega⟩
  obtain⟨an,rfl⟩:∃ n:Nat,a=n:=⟨a.toNat,by omega⟩
  obtain⟨kn,rfl⟩:∃ n:Nat,k=n:=⟨k.toNat,by omega⟩
  obtain rfl:dn=0:=by omega
  obtain rfl:tn=0:=by omega
  obtain rfl:un=0:=by omega
  obtain rfl:an=0:=by omega
  obtain rfl:kn=0:=by omega
  obtain rfl:pl=0:=by omega
  exact vB sn (by omega)
 ·exfalso
  unfold au at h
  simp only[(dA hn).1] at h
  cases h
theorem sD (i:aN)(h:au i 1073741824=Q)(k0:0<=i.k)(k1:i.k<4294967296):jp (af i)=Q/\aD (af i)=i:=by
 have e:=qo i h k0 k1
 refine⟨?_,e⟩
 unfold jp
 rw[e,h]
 simp
end
section
open Go.ChangeShapes Go.WideShapes Go.ChangeAt Go.RowKit
def i6 (s:List UInt8):Int:=
 if s.length=2/\(s.getD 0 0).toNat=114/\48<=(s.getD 1 0).toNat/\(s.getD 1 0).toNat<=55 then ((s.getD 1 0).toNat:Int)-48 else -1
theorem uR (s:List UInt8)(hl:s.length<100000)(w:World):
 Calls Tryz.prog 143 #[bs s] w fun e w'=>e=.returned (.int .i64 (i6 s))/\w=w':=by
 have E:i6 s=if s.length=2/\(s.getD 0 0).toNat=114/\48<=(s.getD 1 0).toNat/\(s.getD 1 0).toNat<=55 then ((s.getD 1 0).toNat:Int)-48 else -1:=rfl
 generalize i6 s=r at *
 unfold bs
 by_cases h2:s.length=2
 ·have i0:∀ w,(Instr.index 9 (.string ⟨s.toArray⟩) (.int .i64 0)).run Tryz.prog w=.ok (.int .u8 ((s.getD 0 0).toNat:Int)) w:=eE s 0 (by omega)
  have i1:∀ w,(Instr.index 9 (.string ⟨s.toArray⟩) (.int .i64 1)).run Tryz.prog w=.ok (.int .u8 ((s.getD 1 0).toNat:Int)) w:=eE s 1 (by omega)
  generalize (s.getD 0 0).toNat=x at *
  generalize (s.getD 1 0).toNat=y at *
  have dl:((s.length:Int) != 2)=I:=by simp;omega
  by_cases h1:x=114
  ·subst h1
   by_cases h3:y<48
   ·have HE:=N (E.trans (if_neg (by omega)))
    clear E h2
    have d:(y:Int)<48:=by omega
    have d0:((114:Nat):Int)=114:=rfl
    rw[d0] at i0
    clear d0
    go_enter Tryz.func143,Tryz.ntmps143
    go_wp2
    go_ret
    exact⟨bu HE.out.symm,rfl⟩
   have d0:((114:Nat):Int)=114:=rfl
   rw[d0] at i0
   clear d0
   by_cases h4:55<y
   ·have HE:=N (E.trans (if_neg (by omega)))
    clear E h2
    have d:decide ((y:Int)<48)=I:=by simp;omega
    have d2:(y:Int) > 55:=by omega
    go_enter Tryz.func143,Tryz.ntmps143
    go_wp2
    go_ret
    exact⟨bu HE.out.symm,rfl⟩
   ·have HE:=N (E.trans (if_pos (by omega)))
    clear E h2
    have d:decide ((y:Int)<48)=I:=by simp;omega
    have d2:decide ((y:Int) > 55)=I:=by simp;omega
    have d3:48<=(y:Int):=by omega
    have d4:(y:Int)<=55:=by omega
    go_enter Tryz.func143,Tryz.ntmps143
    go_wp2
    go_ret
    exact⟨bu HE.out.symm,rfl⟩
  ·have HE:=N (E.trans (if_neg (by omega)))
   clear E h2
   have d:((x:Int) != 114)=Q:=by simp;omega
   go_enter Tryz.func143,Tryz.ntmps143
   go_wp2
   go_ret
   exact⟨bu HE.out.symm,rfl⟩
 ·have HE:=N (E.trans (if_neg (by omega)))
  have d:((s.length:Int) != 2)=Q:=by simp;omega
  clear E
  go_enter Tryz.func143,Tryz.ntmps143
  go_wp2
  go_ret
  exact⟨bu HE.out.symm,rfl⟩
def dy (acc:Int):List UInt8->Option Int
 | []=>some acc
 | c :: r=>if 48<=c.toNat/\c.toNat<=57 then dy (acc*10+((c.toNat:Int)-48)) r else none
def p8:Option Int->Int
 | none=>-1
 | some n=>if 4294967295<n then -1 else n
def ll (s:List UInt8):Int:=
 if s=[]\/10<s.length\/(1<s.length/\(s.getD 0 0).toNat=48) then -1 else p8 (dy 0 s)
theorem pd (acc:Int)(s:List UInt8)(k:Nat)(h:k<s.length):
 dy acc (s.drop k)=if 48<=(s.getD k 0).toNat/\(s.getD k 0).toNat<=57 then dy (acc*10+(((s.getD k 0).toNat:Int)-48)) (s.drop (k+1)) else none:=by
 rw[List.drop_eq_getElem_cons h]
 simp[dy,h]
def wW:Nat->Int
 | 0=>1
 | n+1=>wW n*10
theorem Av:∀ k,k<=10->1<=wW k/\wW k<=10000000000:=by
 intro k hk
 have:k=0\/k=1\/k=2\/k=3\/k=4\/k=5\/k=6\/k=7\/k=8\/k=9\/k=10:=by omega
 rcases this with rfl|rfl|rfl|rfl|rfl|rfl|rfl|rfl|rfl|rfl|rfl <;> decide
theorem AI (s:List UInt8)(hl:s.length<100000)(w:World):
 Calls Tryz.prog 144 #[bs s] w fun e w'=>e=.returned (.int .i64 (ll s))/\w=w':=by
 have E:ll s=if s=[]\/10<s.length\/(1<s.length/\(s.getD 0 0).toNat=48) then -1 else p8 (dy 0 s):=rfl
 generalize ll s=r at *
 by_cases h0:s=[]
 ·subst h0
  have HE:=N (E.trans (if_pos (.inl rfl)))
  clear E
  unfold bs
  go_enter Tryz.func144,Tryz.ntmps144
  go_wp2
  go_ret
  exact⟨bu HE.out.symm,rfl⟩
 have he:s.isEmpty=I:=by simpa using h0
 have hpos:0<s.length:=List.length_pos_iff.2 h0
 by_cases h10:10<s.length
 ·have HE:=N (E.trans (if_pos (.inr (.inl h10))))
  have d:(s.length:Int) > 10:=by omega
  clear E h0
  unfold bs
  go_enter Tryz.func144,Tryz.ntmps144
  go_wp2
  go_ret
  exact⟨bu HE.out.symm,rfl⟩
 have d10:decide ((s.length:Int) > 10)=I:=by simp;omega
 have i0:∀ w,(Instr.index 9 (.string ⟨s.toArray⟩) (.int .i64 0)).run Tryz.prog w=.ok (.int .u8 ((s.getD 0 0).toNat:Int)) w:=eE s 0 hpos
 by_cases h1:1<s.length/\(s.getD 0 0).toNat=48
 ·have HE:=N (E.trans (if_pos (.inr (.inr h1))))
  obtain⟨h1,h48⟩:=h1
  rw[h48] at i0
  have d0:((48:Nat):Int)=48:=rfl
  rw[d0] at i0
  clear d0
  have d:(s.length:Int) > 1:=by omega
  clear E h0 h48
  unfold bs
  go_enter Tryz.func144,Tryz.ntmps144
  go_wp2
  go_ret
  exact⟨bu HE.out.symm,rfl⟩
 have E2:r=p8 (dy 0 s):=E.trans (if_neg (by
  rintro(h | h | h)
  ·exact h0 h
  ·exact h10 h
  ·exact h1 h))
 have HE:=N E2
 clear E E2
 have HK:=N (Av)
 generalize (s.getD 0 0).toNat=c0 at *
 unfold bs
 have hgo:∀ (K:Prop),((decide ((s.length:Int) > 1)=I->K)/\(decide ((s.length:Int) > 1)=Q->((c0:Int)==48)=I->K))->K:=by
  intro K hK
  by_cases h:s.length=1
  ·exact hK.1 (by simp;omega)
  ·have:c0≠48:=fun e=>h1 ⟨by omega,e⟩
   exact hK.2 (by simp;omega) (by simp;omega)
 refine hgo _ ⟨fun hd1=>?_,fun hd1 hd2=>?_⟩
 all_goals
  clear hgo h0 h1
  go_enter Tryz.func144,Tryz.ntmps144
  go_wp2
  go_loop [3,4] (fun n i=>∃ (k:Nat) (v:Int),k<=s.length/\i=.int .i64 k/\n=.int .i64 v/\0<=v/\v<wW k/\r=p8 (dy v (s.drop k))) (fun _ i=>s.length-(intOf i).toNat)
  case atStart=>exact⟨0,0,Nat.zero_le _,rfl,rfl,by omega,by decide,HE.out⟩
  case round=>
   obtain⟨k,v,hk,rfl,rfl,v0,v1,hr⟩:=hrel
   obtain⟨q0,q1⟩:=HK.out k (by omega)
   by_cases hlt:k<s.length
   ·have ix:=eE s k hlt
    rw[pd v s k hlt] at hr
    have hrf:wW (k+1)=wW k*10:=rfl
    have hu:=(s.getD k 0).toNat_lt
    generalize (s.getD k 0).toNat=c at *
    have HR:=N hr
    have HF:=N hrf
    clear hr hrf
    by_cases c1:c<48
    ·rw[if_neg (by omega)] at HR
     have d1:(c:Int)<48:=by omega
     go_wp2
     go_ret
     exact⟨bu HR.out.symm,rfl⟩
    by_cases c2:57<c
    ·rw[if_neg (by omega)] at HR
     have d1:decide ((c:Int)<48)=I:=by simp;omega
     have d2:(c:Int) > 57:=by omega
     go_wp2
     go_ret
     exact⟨bu HR.out.symm,rfl⟩
    ·rw[if_pos (by omega)] at HR
     have d1:decide ((c:Int)<48)=I:=by simp;omega
     have d2:decide ((c:Int) > 57)=I:=by simp;omega
     have d3:48<=(c:Int):=by omega
     have d4:(c:Int)<=57:=by omega
     have hv9:v<10000000000:=by omega
     have hk10:(k:Int)<=10:=by omega
     go_wp2
     go_round
     case rel=>exact⟨k+1,v*10+((c:Int)-48),by omega,by go_num,rfl,by omega,by rw[HF.out];omega,HR.out⟩
     case measure=>simp[intOf];omega
   ·obtain rfl:k=s.length:=by omega
    rw[List.drop_length] at hr
    have HR:=N (show r=if 4294967295<v then -1 else v from hr)
    clear hr
    by_cases hv:4294967295<v
    ·rw[if_pos hv] at HR
     go_wp2
     go_ret
     exact⟨bu HR.out.symm,rfl⟩
    ·rw[if_neg hv] at HR
     go_wp2
     go_ret
     exact⟨bu HR.out.symm,rfl⟩
end
section
def eQ (w:List UInt8):Nat->Int
 | 0=>0
 | n+1=>if (bD ((n:Int)+1)).isEmpty=I/\bD ((n:Int)+1)=w then (n:Int)+1 else eQ w n
def kr (w:List UInt8):Bool:=decide (0<=i6 w) || (decide (0<=ll w) || (decide (w=[110,101]) || (decide (w=[101,113]) || decide (w=[101,108,115,101]))))
def iB (w:List UInt8):List Int:=if 0<=i6 w then [i6 w] else []
def iC (w:List UInt8):List Int:=if 0<=i6 w then [] else if 0<=ll w then [ll w] else []
def lm (w:List UInt8):Bool:=!decide (0<=i6 w) && (!decide (0<=ll w) && decide (w=[110,101]))
def bF (l:List (List UInt8)):List Int:=l.flatMap iB
def bT (l:List (List UInt8)):List Int:=l.flatMap iC
def lJ (l:List (List UInt8)):Int:=if l.any lm=Q then 1 else 0
def cx (n:Nat)(v:Int)(l:List Int):List Int:=l++List.replicate (n-l.length) v
def da (op:Int)(rs ns:List Int)(k:Int):aN:=
 if op=1\/op=3\/op=4\/op=5\/op=6 then ⟨op,aF rs 0,aF rs 1,aF rs 2,0,0,aF ns 0 % 4294967296,0⟩
 else if op=2\/op=7\/op=11\/op=22 then ⟨op,aF rs 0,aF rs 1,aF rs 2,0,0,k,0⟩
 else if op=8\/op=9\/op=10 then ⟨op,0,aF rs 0,aF rs 1,0,0,k,aF ns 0⟩
 else if op=12\/op=13 then ⟨op,0,0,0,0,0,aF ns 0 % 4294967296,0⟩
 else if op=16\/op=18\/op=19 then ⟨op,aF rs 0,aF rs 1,aF rs 2,aF rs 3,aF ns 0,k,0⟩
 else if op=20 then ⟨op,aF rs 0,aF rs 1,aF rs 2,aF rs 3,aF ns 0,aF ns 1 % 4294967296,0⟩
 else if op=21 then ⟨op,aF rs 0,aF rs 1,aF rs 2,aF rs 3,aF ns 0,k,aF ns 1⟩
 else if op=17 then ⟨op,0,aF rs 0,aF rs 1,0,aF ns 0,k,0⟩
 else if op=23 then ⟨op,0,aF rs 0,0,0,0,k,0⟩
 else ⟨op,0,0,0,0,0,k,0⟩
def aK (ws:List (List UInt8)):aN:=da (eQ (ws.getD 0 []) 23) (cx 4 0 (bF ws.tail)) (cx 2 (-1) (bT ws.tail)) (lJ ws.tail)
def j8 (s:List UInt8):Bool:=(ah s).tail.all kr && (au (aK (ah s)) 1073741824 && decide (af (aK (ah s))=s))
theorem lg:∀ (a b:List UInt8) (acc u:Int),dy acc a=some u->dy acc (a++b)=dy u b
 | [],b,acc,u,h=>by simp[dy] at h;subst h;rfl
 | c :: a,b,acc,u,h=>by
  simp only[dy,List.cons_append] at h ⊢
  split at h
  ·rename_i h1
   rw[if_pos h1]
   exact lg a b _ u h
  ·cases h
theorem qt:∀ (n:Nat),dy 0 (Lib.decDigits n)=some (n:Int):=by
 intro n
 induction n using Nat.strongRecOn with
 | _ n ih=>
  rw[Lib.decDigits]
  by_cases h:n<10
  ·rw[dif_pos h]
   have e:(UInt8.ofNat (48+n)).toNat=48+n:=by rw[UInt8.toNat_ofNat',Nat.mod_eq_of_lt (by omega)]
   simp only[dy,e]
   rw[if_pos (by omega)]
   congr 1
   omega
  ·rw[dif_neg h,lg _ _ _ _ (ih (n / 10) (by omega))]
   have e:(UInt8.ofNat (48+n % 10)).toNat=48+n % 10:=by rw[UInt8.toNat_ofNat',Nat.mod_eq_of_lt (by omega)]
   simp only[dy,e]
   rw[if_pos (by omega)]
   congr 1
   omega
theorem vV:∀ (m n:Nat),n<10 ^ (m+1)->(Lib.decDigits n).length<=m+1:=by
 intro m
 induction m with
 | zero=>intro n h;rw[Lib.decDigits,dif_pos (by simpa using h)];simp
 | succ m ih=>
  intro n h
  rw[Lib.decDigits]
  by_cases h9:n<10
  ·rw[dif_pos h9];simp
  ·rw[dif_neg h9]
   have h2:n / 10<10 ^ (m+1):=by
    rw[Nat.div_lt_iff_lt_mul (by decide)]
    rw[Nat.pow_succ] at h
    exact h
   have:=ih _ h2
   simp
   omega
theorem AR (n:Nat)(h:n<4294967296):ll (Lib.decDigits n)=n:=by
 have hf:=qt n
 have hl:=vV 9 n (by
  have:(10:Nat) ^ (9+1)=10000000000:=by decide
  omega)
 obtain⟨c,r,e,h1,h2,h3⟩:=iL n
 have h10:1<(Lib.decDigits n).length->10<=n:=by
  intro hh
  by_cases hn:n<10
  ·rw[Lib.decDigits,dif_pos hn] at hh;simp at hh
  ·omega
 unfold ll
 rw[if_neg,hf]
 ·show (if 4294967295<(n:Int) then -1 else (n:Int))=n
  rw[if_neg (by omega)]
 ·rintro(hh | hh | ⟨hh,hz⟩)
  ·rw[e] at hh;cases hh
  ·omega
  ·have:=h3 (h10 hh)
   rw[e] at hz
   simp at hz
   omega
theorem Ax (n:Nat):i6 (Lib.decDigits n)=-1:=by
 obtain⟨c,r,e,h1,h2,-⟩:=iL n
 unfold i6
 rw[if_neg]
 rintro⟨-,hh,-⟩
 rw[e] at hh
 simp at hh
 omega
theorem Aw (n:Nat)(h:n<=7):i6 (dG n)=n:=by
 unfold dG
 rw[Lib.decDigits,dif_pos (by omega)]
 have e:(UInt8.ofNat (48+n)).toNat=48+n:=by rw[UInt8.toNat_ofNat',Nat.mod_eq_of_lt (by omega)]
 unfold i6
 rw[if_pos]
 ·simp only[List.getD_cons_succ,List.getD_cons_zero,e];omega
 ·refine⟨rfl,rfl,?_⟩
  simp only[List.getD_cons_succ,List.getD_cons_zero,e]
  omega
theorem bH (n:Nat)(h:n<=7):kr (dG n)=Q/\iB (dG n)=[(n:Int)]/\iC (dG n)=[]/\lm (dG n)=I:=by
 have e:=Aw n h
 unfold kr iB iC lm
 rw[e]
 have h0:(0:Int)<=(n:Int):=by omega
 simp[h0]
theorem dZ (n:Nat)(h:n<4294967296):kr (Lib.decDigits n)=Q/\iB (Lib.decDigits n)=[]/\iC (Lib.decDigits n)=[(n:Int)]/\lm (Lib.decDigits n)=I:=by
 have e:=AR n h
 have e2:=Ax n
 unfold kr iB iC lm
 rw[e,e2]
 have h0:(0:Int)<=(n:Int):=by omega
 simp[h0]
theorem E3:kr [101,113]=Q/\iB [101,113]=[]/\iC [101,113]=[]/\lm [101,113]=I:=by decide
theorem E1:kr [110,101]=Q/\iB [110,101]=[]/\iC [110,101]=[]/\lm [110,101]=Q:=by decide
theorem pZ:kr [101,108,115,101]=Q/\iB [101,108,115,101]=[]/\iC [101,108,115,101]=[]/\lm [101,108,115,101]=I:=by decide
theorem vU (dn kn:Nat)(hdn:dn<=7)(hkn:kn<4294967296):(ah (af ⟨1,(dn:Nat),0,0,0,0,(kn:Nat),0⟩)).tail.all kr=Q/\aK (ah (af ⟨1,(dn:Nat),0,0,0,0,(kn:Nat),0⟩))=⟨1,(dn:Nat),0,0,0,0,(kn:Nat),0⟩:=by
 obtain⟨adn,bdn,cdn,ddn⟩:=bH dn hdn
 obtain⟨akn,bkn,ckn,dkn⟩:=dZ kn hkn
 rw[py]
 have e:eQ (bD 1) 23=1:=by decide
 refine⟨by simp[adn,akn],?_⟩
 simp[aK,e,bF,bT,bdn,cdn,bkn,ckn,cx,da,aF]
 omega
theorem vT (dn sn:Nat)(hdn:dn<=7)(hsn:sn<=7):(ah (af ⟨2,(dn:Nat),(sn:Nat),0,0,0,0,0⟩)).tail.all kr=Q/\aK (ah (af ⟨2,(dn:Nat),(sn:Nat),0,0,0,0,0⟩))=⟨2,(dn:Nat),(sn:Nat),0,0,0,0,0⟩:=by
 obtain⟨adn,bdn,cdn,ddn⟩:=bH dn hdn
 obtain⟨asn,bsn,csn,dsn⟩:=bH sn hsn
 rw[px]
 have e:eQ (bD 2) 23=2:=by decide
 refine⟨by simp[adn,asn],?_⟩
 simp[aK,e,bF,lJ,bdn,ddn,bsn,dsn,cx,da,aF]
theorem vS (dn sn kn:Nat)(hdn:dn<=7)(hsn:sn<=7)(hkn:kn<4294967296):(ah (af ⟨3,(dn:Nat),(sn:Nat),0,0,0,(kn:Nat),0⟩)).tail.all kr=Q/\aK (ah (af ⟨3,(dn:Nat),(sn:Nat),0,0,0,(kn:Nat),0⟩))=⟨3,(dn:Nat),(sn:Nat),0,0,0,(kn:Nat),0⟩:=by
 obtain⟨adn,bdn,cdn,ddn⟩:=bH dn hdn
 obtain⟨asn,bsn,csn,dsn⟩:=bH sn hsn
 obtain⟨akn,bkn,ckn,dkn⟩:=dZ kn hkn
 rw[pw]
 have e:eQ (bD 3) 23=3:=by decide
 refine⟨by simp[adn,asn,akn],?_⟩
 simp[aK,e,bF,bT,bdn,cdn,bsn,csn,bkn,ckn,cx,da,aF]
 omega
theorem vR (dn sn kn:Nat)(hdn:dn<=7)(hsn:sn<=7)(hkn:kn<4294967296):(ah (af ⟨4,(dn:Nat),(sn:Nat),0,0,0,(kn:Nat),0⟩)).tail.all kr=Q/\aK (ah (af ⟨4,(dn:Nat),(sn:Nat),0,0,0,(kn:Nat),0⟩))=⟨4,(dn:Nat),(sn:Nat),0,0,0,(kn:Nat),0⟩:=by
 obtain⟨adn,bdn,cdn,ddn⟩:=bH dn hdn
 obtain⟨asn,bsn,csn,dsn⟩:=bH sn hsn
 obtain⟨akn,bkn,ckn,dkn⟩:=dZ kn hkn
 rw[pu]
 have e:eQ (bD 4) 23=4:=by decide
 refine⟨by simp[adn,asn,akn],?_⟩
 simp[aK,e,bF,bT,bdn,cdn,bsn,csn,bkn,ckn,cx,da,aF]
 omega
theorem vQ (dn sn kn:Nat)(hdn:dn<=7)(hsn:sn<=7)(hkn:kn<4294967296):(ah (af ⟨5,(dn:Nat),(sn:Nat),0,0,0,(kn:Nat),0⟩)).tail.all kr=Q/\aK (ah (af ⟨5,(dn:Nat),(sn:Nat),0,0,0,(kn:Nat),0⟩))=⟨5,(dn:Nat),(sn:Nat),0,0,0,(kn:Nat),0⟩:=by
 obtain⟨adn,bdn,cdn,ddn⟩:=bH dn hdn
 obtain⟨asn,bsn,csn,dsn⟩:=bH sn hsn
 obtain⟨akn,bkn,ckn,dkn⟩:=dZ kn hkn
 rw[pt]
 have e:eQ (bD 5) 23=5:=by decide
 refine⟨by simp[adn,asn,akn],?_⟩
 simp[aK,e,bF,bT,bdn,cdn,bsn,csn,bkn,ckn,cx,da,aF]
 omega
theorem vP (dn sn kn:Nat)(hdn:dn<=7)(hsn:sn<=7)(hkn:kn<4294967296):(ah (af ⟨6,(dn:Nat),(sn:Nat),0,0,0,(kn:Nat),0⟩)).tail.all kr=Q/\aK (ah (af ⟨6,(dn:Nat),(sn:Nat),0,0,0,(kn:Nat),0⟩))=⟨6,(dn:Nat),(sn:Nat),0,0,0,(kn:Nat),0⟩:=by
 obtain⟨adn,bdn,cdn,ddn⟩:=bH dn hdn
 obtain⟨asn,bsn,csn,dsn⟩:=bH sn hsn
 obtain⟨akn,bkn,ckn,dkn⟩:=dZ kn hkn
 rw[pr]
 have e:eQ (bD 6) 23=6:=by decide
 refine⟨by simp[adn,asn,akn],?_⟩
 simp[aK,e,bF,bT,bdn,cdn,bsn,csn,bkn,ckn,cx,da,aF]
 omega
theorem vO (dn sn tn:Nat)(hdn:dn<=7)(hsn:sn<=7)(htn:tn<=7):(ah (af ⟨7,(dn:Nat),(sn:Nat),(tn:Nat),0,0,0,0⟩)).tail.all kr=Q/\aK (ah (af ⟨7,(dn:Nat),(sn:Nat),(tn:Nat),0,0,0,0⟩))=⟨7,(dn:Nat),(sn:Nat),(tn:Nat),0,0,0,0⟩:=by
 obtain⟨adn,bdn,cdn,ddn⟩:=bH dn hdn
 obtain⟨asn,bsn,csn,dsn⟩:=bH sn hsn
 obtain⟨atn,btn,ctn,dtn⟩:=bH tn htn
 rw[pq]
 have e:eQ (bD 7) 23=7:=by decide
 refine⟨by simp[adn,asn,atn],?_⟩
 simp[aK,e,bF,lJ,bdn,ddn,bsn,dsn,btn,dtn,cx,da,aF]
theorem vN (sn tn pn:Nat)(hsn:sn<=7)(htn:tn<=7)(hpn:pn<4294967296):(ah (af ⟨8,0,(sn:Nat),(tn:Nat),0,0,0,(pn:Nat)⟩)).tail.all kr=Q/\aK (ah (af ⟨8,0,(sn:Nat),(tn:Nat),0,0,0,(pn:Nat)⟩))=⟨8,0,(sn:Nat),(tn:Nat),0,0,0,(pn:Nat)⟩:=by
 obtain⟨asn,bsn,csn,dsn⟩:=bH sn hsn
 obtain⟨atn,btn,ctn,dtn⟩:=bH tn htn
 obtain⟨apn,bpn,cpn,dpn⟩:=dZ pn hpn
 rw[po]
 have e:eQ (bD 8) 23=8:=by decide
 refine⟨by simp[asn,atn,apn],?_⟩
 simp[aK,e,bF,bT,lJ,bsn,csn,dsn,btn,ctn,dtn,bpn,cpn,dpn,cx,da,aF]
theorem vM (sn tn pn:Nat)(hsn:sn<=7)(htn:tn<=7)(hpn:pn<4294967296):(ah (af ⟨9,0,(sn:Nat),(tn:Nat),0,0,0,(pn:Nat)⟩)).tail.all kr=Q/\aK (ah (af ⟨9,0,(sn:Nat),(tn:Nat),0,0,0,(pn:Nat)⟩))=⟨9,0,(sn:Nat),(tn:Nat),0,0,0,(pn:Nat)⟩:=by
 obtain⟨asn,bsn,csn,dsn⟩:=bH sn hsn
 obtain⟨atn,btn,ctn,dtn⟩:=bH tn htn
 obtain⟨apn,bpn,cpn,dpn⟩:=dZ pn hpn
 rw[pm]
 have e:eQ (bD 9) 23=9:=by decide
 refine⟨by simp[asn,atn,apn],?_⟩
 simp[aK,e,bF,bT,lJ,bsn,csn,dsn,btn,ctn,dtn,bpn,cpn,dpn,cx,da,aF]
theorem tj (pn:Nat)(hpn:pn<4294967296):(ah (af ⟨10,0,0,0,0,0,0,(pn:Nat)⟩)).tail.all kr=Q/\aK (ah (af ⟨10,0,0,0,0,0,0,(pn:Nat)⟩))=⟨10,0,0,0,0,0,0,(pn:Nat)⟩:=by
 obtain⟨apn,bpn,cpn,dpn⟩:=dZ pn hpn
 rw[mQ]
 have e:eQ (bD 10) 23=10:=by decide
 refine⟨by simp[apn],?_⟩
 simp[aK,e,bF,bT,lJ,bpn,cpn,dpn,cx,da,aF]
theorem tf (dn:Nat)(hdn:dn<=7):(ah (af ⟨11,(dn:Nat),0,0,0,0,0,0⟩)).tail.all kr=Q/\aK (ah (af ⟨11,(dn:Nat),0,0,0,0,0,0⟩))=⟨11,(dn:Nat),0,0,0,0,0,0⟩:=by
 obtain⟨adn,bdn,cdn,ddn⟩:=bH dn hdn
 rw[mP]
 have e:eQ (bD 11) 23=11:=by decide
 refine⟨by simp[adn],?_⟩
 simp[aK,e,bF,lJ,bdn,ddn,cx,da,aF]
theorem sU (dn:Nat)(hdn:dn<=7):(ah (af ⟨22,(dn:Nat),0,0,0,0,0,0⟩)).tail.all kr=Q/\aK (ah (af ⟨22,(dn:Nat),0,0,0,0,0,0⟩))=⟨22,(dn:Nat),0,0,0,0,0,0⟩:=by
 obtain⟨adn,bdn,cdn,ddn⟩:=bH dn hdn
 rw[mH]
 have e:eQ (bD 22) 23=22:=by decide
 refine⟨by simp[adn],?_⟩
 simp[aK,e,bF,lJ,bdn,ddn,cx,da,aF]
theorem s9 (kn:Nat)(hkn:kn<4294967296):(ah (af ⟨12,0,0,0,0,0,(kn:Nat),0⟩)).tail.all kr=Q/\aK (ah (af ⟨12,0,0,0,0,0,(kn:Nat),0⟩))=⟨12,0,0,0,0,0,(kn:Nat),0⟩:=by
 obtain⟨akn,bkn,ckn,dkn⟩:=dZ kn hkn
 rw[mO]
 have e:eQ (bD 12) 23=12:=by decide
 refine⟨by simp[akn],?_⟩
 simp[aK,e,bT,ckn,cx,da,aF]
 omega
theorem s8 (kn:Nat)(hkn:kn<4294967296):(ah (af ⟨13,0,0,0,0,0,(kn:Nat),0⟩)).tail.all kr=Q/\aK (ah (af ⟨13,0,0,0,0,0,(kn:Nat),0⟩))=⟨13,0,0,0,0,0,(kn:Nat),0⟩:=by
 obtain⟨akn,bkn,ckn,dkn⟩:=dZ kn hkn
 rw[mN]
 have e:eQ (bD 13) 23=13:=by decide
 refine⟨by simp[akn],?_⟩
 simp[aK,e,bT,ckn,cx,da,aF]
 omega
theorem sZ (dn sn an:Nat)(hdn:dn<=7)(hsn:sn<=7)(han:an<4294967296):(ah (af ⟨16,(dn:Nat),(sn:Nat),0,0,(an:Nat),0,0⟩)).tail.all kr=Q/\aK (ah (af ⟨16,(dn:Nat),(sn:Nat),0,0,(an:Nat),0,0⟩))=⟨16,(dn:Nat),(sn:Nat),0,0,(an:Nat),0,0⟩:=by
 obtain⟨adn,bdn,cdn,ddn⟩:=bH dn hdn
 obtain⟨asn,bsn,csn,dsn⟩:=bH sn hsn
 obtain⟨aan,ban,can,dan⟩:=dZ an han
 rw[mM]
 have e:eQ (bD 16) 23=16:=by decide
 refine⟨by simp[adn,asn,aan],?_⟩
 simp[aK,e,bF,bT,lJ,bdn,cdn,ddn,bsn,csn,dsn,ban,can,dan,cx,da,aF]
theorem sY (sn tn an:Nat)(hsn:sn<=7)(htn:tn<=7)(han:an<4294967296):(ah (af ⟨17,0,(sn:Nat),(tn:Nat),0,(an:Nat),0,0⟩)).tail.all kr=Q/\aK (ah (af ⟨17,0,(sn:Nat),(tn:Nat),0,(an:Nat),0,0⟩))=⟨17,0,(sn:Nat),(tn:Nat),0,(an:Nat),0,0⟩:=by
 obtain⟨asn,bsn,csn,dsn⟩:=bH sn hsn
 obtain⟨atn,btn,ctn,dtn⟩:=bH tn htn
 obtain⟨aan,ban,can,dan⟩:=dZ an han
 rw[mL]
 have e:eQ (bD 17) 23=17:=by decide
 refine⟨by simp[asn,atn,aan],?_⟩
 simp[aK,e,bF,bT,lJ,bsn,csn,dsn,btn,ctn,dtn,ban,can,dan,cx,da,aF]
theorem sX (dn sn tn an:Nat)(hdn:dn<=7)(hsn:sn<=7)(htn:tn<=7)(han:an<4294967296):(ah (af ⟨18,(dn:Nat),(sn:Nat),(tn:Nat),0,(an:Nat),0,0⟩)).tail.all kr=Q/\aK (ah (af ⟨18,(dn:Nat),(sn:Nat),(tn:Nat),0,(an:Nat),0,0⟩))=⟨18,(dn:Nat),(sn:Nat),(tn:Nat),0,(an:Nat),0,0⟩:=by
 obtain⟨adn,bdn,cdn,ddn⟩:=bH dn hdn
 obtain⟨asn,bsn,csn,dsn⟩:=bH sn hsn
 obtain⟨atn,btn,ctn,dtn⟩:=bH tn htn
 obtain⟨aan,ban,can,dan⟩:=dZ an han
 rw[mK]
 have e:eQ (bD 18) 23=18:=by decide
 refine⟨by simp[adn,asn,atn,aan],?_⟩
 simp[aK,e,bF,bT,lJ,bdn,cdn,ddn,bsn,csn,dsn,btn,ctn,dtn,ban,can,dan,cx,da,aF]
theorem sW (dn sn tn un an:Nat)(hdn:dn<=7)(hsn:sn<=7)(htn:tn<=7)(hun:un<=7)(han:an<4294967296):(ah (af ⟨19,(dn:Nat),(sn:Nat),(tn:Nat),(un:Nat),(an:Nat),0,0⟩)).tail.all kr=Q/\aK (ah (af ⟨19,(dn:Nat),(sn:Nat),(tn:Nat),(un:Nat),(an:Nat),0,0⟩))=⟨19,(dn:Nat),(sn:Nat),(tn:Nat),(un:Nat),(an:Nat),0,0⟩:=by
 obtain⟨adn,bdn,cdn,ddn⟩:=bH dn hdn
 obtain⟨asn,bsn,csn,dsn⟩:=bH sn hsn
 obtain⟨atn,btn,ctn,dtn⟩:=bH tn htn
 obtain⟨aun,bun,cun,dun⟩:=bH un hun
 obtain⟨aan,ban,can,dan⟩:=dZ an han
 rw[mJ]
 have e:eQ (bD 19) 23=19:=by decide
 refine⟨by simp[adn,asn,atn,aun,aan],?_⟩
 simp[aK,e,bF,bT,lJ,bdn,cdn,ddn,bsn,csn,dsn,btn,ctn,dtn,bun,cun,dun,ban,can,dan,cx,da,aF]
theorem sV (dn sn an kn:Nat)(hdn:dn<=7)(hsn:sn<=7)(han:an<4294967296)(hkn:kn<4294967296):(ah (af ⟨20,(dn:Nat),(sn:Nat),0,0,(an:Nat),(kn:Nat),0⟩)).tail.all kr=Q/\aK (ah (af ⟨20,(dn:Nat),(sn:Nat),0,0,(an:Nat),(kn:Nat),0⟩))=⟨20,(dn:Nat),(sn:Nat),0,0,(an:Nat),(kn:Nat),0⟩:=by
 obtain⟨adn,bdn,cdn,ddn⟩:=bH dn hdn
 obtain⟨asn,bsn,csn,dsn⟩:=bH sn hsn
 obtain⟨aan,ban,can,dan⟩:=dZ an han
 obtain⟨akn,bkn,ckn,dkn⟩:=dZ kn hkn
 rw[mI]
 have e:eQ (bD 20) 23=20:=by decide
 refine⟨by simp[adn,asn,aan,akn],?_⟩
 simp[aK,e,bF,bT,bdn,cdn,bsn,csn,ban,can,bkn,ckn,cx,da,aF]
 omega
theorem sS (sn:Nat)(hsn:sn<=7):(ah (af ⟨23,0,(sn:Nat),0,0,0,0,0⟩)).tail.all kr=Q/\aK (ah (af ⟨23,0,(sn:Nat),0,0,0,0,0⟩))=⟨23,0,(sn:Nat),0,0,0,0,0⟩:=by
 obtain⟨asn,bsn,csn,dsn⟩:=bH sn hsn
 rw[mG]
 have e:eQ (bD 23) 23=23:=by decide
 refine⟨by simp[asn],?_⟩
 simp[aK,e,bF,lJ,bsn,dsn,cx,da,aF]
theorem nJ (dn sn tn an pn:Nat)(hdn:dn<=7)(hsn:sn<=7)(htn:tn<=7)(han:an<4294967296)(hpn:pn<4294967296):(ah (af ⟨21,(dn:Nat),(sn:Nat),(tn:Nat),0,(an:Nat),0,(pn:Nat)⟩)).tail.all kr=Q/\aK (ah (af ⟨21,(dn:Nat),(sn:Nat),(tn:Nat),0,(an:Nat),0,(pn:Nat)⟩))=⟨21,(dn:Nat),(sn:Nat),(tn:Nat),0,(an:Nat),0,(pn:Nat)⟩:=by
 obtain⟨adn,bdn,cdn,ddn⟩:=bH dn hdn
 obtain⟨asn,bsn,csn,dsn⟩:=bH sn hsn
 obtain⟨atn,btn,ctn,dtn⟩:=bH tn htn
 obtain⟨aan,ban,can,dan⟩:=dZ an han
 obtain⟨apn,bpn,cpn,dpn⟩:=dZ pn hpn
 obtain⟨ae,be,ce,de⟩:=E3
 obtain⟨al,bl,cl,dl⟩:=pZ
 rw[gj dn sn tn an pn]
 have e:eQ (bD 21) 23=21:=by decide
 refine⟨by simp[adn,asn,atn,aan,ae,apn,al],?_⟩
 simp[aK,e,bF,bT,lJ,bdn,cdn,ddn,bsn,csn,dsn,btn,ctn,dtn,ban,can,dan,be,ce,de,bpn,cpn,dpn,bl,cl,dl,cx,da,aF]
theorem nK (dn sn tn an pn:Nat)(hdn:dn<=7)(hsn:sn<=7)(htn:tn<=7)(han:an<4294967296)(hpn:pn<4294967296):(ah (af ⟨21,(dn:Nat),(sn:Nat),(tn:Nat),0,(an:Nat),0,-1⟩)).tail.all kr=Q/\aK (ah (af ⟨21,(dn:Nat),(sn:Nat),(tn:Nat),0,(an:Nat),0,-1⟩))=⟨21,(dn:Nat),(sn:Nat),(tn:Nat),0,(an:Nat),0,-1⟩:=by
 obtain⟨adn,bdn,cdn,ddn⟩:=bH dn hdn
 obtain⟨asn,bsn,csn,dsn⟩:=bH sn hsn
 obtain⟨atn,btn,ctn,dtn⟩:=bH tn htn
 obtain⟨aan,ban,can,dan⟩:=dZ an han
 obtain⟨apn,bpn,cpn,dpn⟩:=dZ pn hpn
 obtain⟨ae,be,ce,de⟩:=E3
 obtain⟨al,bl,cl,dl⟩:=pZ
 rw[gm dn sn tn an pn]
 have e:eQ (bD 21) 23=21:=by decide
 refine⟨by simp[adn,asn,atn,aan,ae],?_⟩
 simp[aK,e,bF,bT,lJ,bdn,cdn,ddn,bsn,csn,dsn,btn,ctn,dtn,ban,can,dan,be,ce,de,cx,da,aF]
theorem nH (dn sn tn an pn:Nat)(hdn:dn<=7)(hsn:sn<=7)(htn:tn<=7)(han:an<4294967296)(hpn:pn<4294967296):(ah (af ⟨21,(dn:Nat),(sn:Nat),(tn:Nat),0,(an:Nat),1,(pn:Nat)⟩)).tail.all kr=Q/\aK (ah (af ⟨21,(dn:Nat),(sn:Nat),(tn:Nat),0,(an:Nat),1,(pn:Nat)⟩))=⟨21,(dn:Nat),(sn:Nat),(tn:Nat),0,(an:Nat),1,(pn:Nat)⟩:=by
 obtain⟨adn,bdn,cdn,ddn⟩:=bH dn hdn
 obtain⟨asn,bsn,csn,dsn⟩:=bH sn hsn
 obtain⟨atn,btn,ctn,dtn⟩:=bH tn htn
 obtain⟨aan,ban,can,dan⟩:=dZ an han
 obtain⟨apn,bpn,cpn,dpn⟩:=dZ pn hpn
 obtain⟨ae,be,ce,de⟩:=E1
 obtain⟨al,bl,cl,dl⟩:=pZ
 rw[gg dn sn tn an pn]
 have e:eQ (bD 21) 23=21:=by decide
 refine⟨by simp[adn,asn,atn,aan,ae,apn,al],?_⟩
 simp[aK,e,bF,bT,lJ,bdn,cdn,ddn,bsn,csn,dsn,btn,ctn,dtn,ban,can,dan,be,ce,de,bpn,cpn,dpn,bl,cl,dl,cx,da,aF]
theorem nI (dn sn tn an pn:Nat)(hdn:dn<=7)(hsn:sn<=7)(htn:tn<=7)(han:an<4294967296)(hpn:pn<4294967296):(ah (af ⟨21,(dn:Nat),(sn:Nat),(tn:Nat),0,(an:Nat),1,-1⟩)).tail.all kr=Q/\aK (ah (af ⟨21,(dn:Nat),(sn:Nat),(tn:Nat),0,(an:Nat),1,-1⟩))=⟨21,(dn:Nat),(sn:Nat),(tn:Nat),0,(an:Nat),1,-1⟩:=by
 obtain⟨adn,bdn,cdn,ddn⟩:=bH dn hdn
 obtain⟨asn,bsn,csn,dsn⟩:=bH sn hsn
 obtain⟨atn,btn,ctn,dtn⟩:=bH tn htn
 obtain⟨aan,ban,can,dan⟩:=dZ an han
 obtain⟨apn,bpn,cpn,dpn⟩:=dZ pn hpn
 obtain⟨ae,be,ce,de⟩:=E1
 obtain⟨al,bl,cl,dl⟩:=pZ
 rw[gh dn sn tn an pn]
 have e:eQ (bD 21) 23=21:=by decide
 refine⟨by simp[adn,asn,atn,aan,ae],?_⟩
 simp[aK,e,bF,bT,lJ,bdn,cdn,ddn,bsn,csn,dsn,btn,ctn,dtn,ban,can,dan,be,ce,de,cx,da,aF]
theorem lj (i:aN)(h:au i 1073741824=Q)(k0:0<=i.k)(k1:i.k<4294967296):(ah (af i)).tail.all kr=Q/\aK (ah (af i))=i:=by
 obtain⟨hd,hs,ht,hu,ha⟩:=eB i _ h
 obtain⟨op,d,s,t,u,a,k,pl⟩:=i
 simp only at hd hs ht hu ha k0 k1
 rcases cq op with rfl|rfl|rfl|rfl|rfl|rfl|rfl|rfl|rfl|rfl|rfl|rfl|rfl|rfl|rfl|rfl|rfl|rfl|rfl|rfl|rfl | hn
 ·skip
  have hr:=lX d s t u a k pl 1073741824 hd hs ht hu ha k0 k1
  rw[h] at hr
  simp[du] at hr
  obtain⟨dn,rfl⟩:∃ n:Nat,d=n:=⟨d.toNat,by omega⟩
  obtain⟨sn,rfl⟩:∃ n:Nat,s=n:=⟨s.toNat,by omega⟩
  obtain⟨tn,rfl⟩:∃ n:Nat,t=n:=⟨t.toNat,by omega⟩
  obtain⟨un,rfl⟩:∃ n:Nat,u=n:=⟨u.toNat,by omega⟩
  obtain⟨an,rfl⟩:∃ n:Nat,a=n:=⟨a.toNat,by omega⟩
  obtain⟨kn,rfl⟩:∃ n:Nat,k=n:=⟨k.toNat,by omega⟩
  obtain rfl:sn=0:=by omega
  obtain rfl:tn=0:=by omega
  obtain rfl:un=0:=by omega
  obtain rfl:an=0:=by omega
  obtain rfl:pl=0:=by omega
  exact vU dn kn (by omega) (by omega)
 ·skip
  have hr:=lW d s t u a k pl 1073741824 hd hs ht hu ha k0 k1
  rw[h] at hr
  simp[du] at hr
  obtain⟨dn,rfl⟩:∃ n:Nat,d=n:=⟨d.toNat,by omega⟩
  obtain⟨sn,rfl⟩:∃ n:Nat,s=n:=⟨s.toNat,by omega⟩
  obtain⟨tn,rfl⟩:∃ n:Nat,t=n:=⟨t.toNat,by omega⟩
  obtain⟨un,rfl⟩:∃ n:Nat,u=n:=⟨u.toNat,by omega⟩
  obtain⟨an,rfl⟩:∃ n:Nat,a=n:=⟨a.toNat,by omega⟩
  obtain⟨kn,rfl⟩:∃ n:Nat,k=n:=⟨k.toNat,by omega⟩
  obtain rfl:tn=0:=by omega
  obtain rfl:un=0:=by omega
  obtain rfl:an=0:=by omega
  obtain rfl:kn=0:=by omega
  obtain rfl:pl=0:=by omega
  exact vT dn sn (by omega) (by omega)
 ·skip
  have hr:=lV d s t u a k pl 1073741824 hd hs ht hu ha k0 k1
  rw[h] at hr
  simp[du] at hr
  obtain⟨dn,rfl⟩:∃ n:Nat,d=n:=⟨d.toNat,by omega⟩
  obtain⟨sn,rfl⟩:∃ n:Nat,s=n:=⟨s.toNat,by omega⟩
  obtain⟨tn,rfl⟩:∃ n:Nat,t=n:=⟨t.toNat,by omega⟩
  obtain⟨un,rfl⟩:∃ n:Nat,u=n:=⟨u.toNat,by omega⟩
  obtain⟨an,rfl⟩:∃ n:Nat,a=n:=⟨a.toNat,by omega⟩
  obtain⟨kn,rfl⟩:∃ n:Nat,k=n:=⟨k.toNat,by omega⟩
  obtain rfl:tn=0:=by omega
  obtain rfl:un=0:=by omega
  obtain rfl:an=0:=by omega
  obtain rfl:pl=0:=by omega
  exact vS dn sn kn (by omega) (by omega) (by omega)
 ·skip
  have hr:=lU d s t u a k pl 1073741824 hd hs ht hu ha k0 k1
  rw[h] at hr
  simp[du] at hr
  obtain⟨dn,rfl⟩:∃ n:Nat,d=n:=⟨d.toNat,by omega⟩
  obtain⟨sn,rfl⟩:∃ n:Nat,s=n:=⟨s.toNat,by omega⟩
  obtain⟨tn,rfl⟩:∃ n:Nat,t=n:=⟨t.toNat,by omega⟩
  obtain⟨un,rfl⟩:∃ n:Nat,u=n:=⟨u.toNat,by omega⟩
  obtain⟨an,rfl⟩:∃ n:Nat,a=n:=⟨a.toNat,by omega⟩
  obtain⟨kn,rfl⟩:∃ n:Nat,k=n:=⟨k.toNat,by omega⟩
  obtain rfl:tn=0:=by omega
  obtain rfl:un=0:=by omega
  obtain rfl:an=0:=by omega
  obtain rfl:pl=0:=by omega
  exact vR dn sn kn (by omega) (by omega) (by omega)
 ·skip
  have hr:=j6 d s t u a k pl 1073741824 hd hs ht hu ha k0 k1
  rw[h] at hr
  simp[du] at hr
  obtain⟨dn,rfl⟩:∃ n:Nat,d=n:=⟨d.toNat,by omega⟩
  obtain⟨sn,rfl⟩:∃ n:Nat,s=n:=⟨s.toNat,by omega⟩
  obtain⟨tn,rfl⟩:∃ n:Nat,t=n:=⟨t.toNat,by omega⟩
  obtain⟨un,rfl⟩:∃ n:Nat,u=n:=⟨u.toNat,by omega⟩
  obtain⟨an,rfl⟩:∃ n:Nat,a=n:=⟨a.toNat,by omega⟩
  obtain⟨kn,rfl⟩:∃ n:Nat,k=n:=⟨k.toNat,by omega⟩
  obtain rfl:tn=0:=by omega
  obtain rfl:un=0:=by omega
  obtain rfl:an=0:=by omega
  obtain rfl:pl=0:=by omega
  exact vQ dn sn kn (by omega) (by omega) (by omega)
 ·skip
  have hr:=jZ d s t u a k pl 1073741824 hd hs ht hu ha k0 k1
  rw[h] at hr
  simp[du] at hr
  obtain⟨dn,rfl⟩:∃ n:Nat,d=n:=⟨d.toNat,by omega⟩
  obtain⟨sn,rfl⟩:∃ n:Nat,s=n:=⟨s.toNat,by omega⟩
  obtain⟨tn,rfl⟩:∃ n:Nat,t=n:=⟨t.toNat,by omega⟩
  obtain⟨un,rfl⟩:∃ n:Nat,u=n:=⟨u.toNat,by omega⟩
  obtain⟨an,rfl⟩:∃ n:Nat,a=n:=⟨a.toNat,by omega⟩
  obtain⟨kn,rfl⟩:∃ n:Nat,k=n:=⟨k.toNat,by omega⟩
  obtain rfl:tn=0:=by omega
  obtain rfl:un=0:=by omega
  obtain rfl:an=0:=by omega
  obtain rfl:pl=0:=by omega
  exact vP dn sn kn (by omega) (by omega) (by omega)
 ·skip
  have hr:=lT d s t u a k pl 1073741824 hd hs ht hu ha k0 k1
  rw[h] at hr
  simp[du] at hr
  obtain⟨dn,rfl⟩:∃ n:Nat,d=n:=⟨d.toNat,by omega⟩
  obtain⟨sn,rfl⟩:∃ n:Nat,s=n:=⟨s.toNat,by omega⟩
  obtain⟨tn,rfl⟩:∃ n:Nat,t=n:=⟨t.toNat,by omega⟩
  obtain⟨un,rfl⟩:∃ n:Nat,u=n:=⟨u.toNat,by omega⟩
  obtain⟨an,rfl⟩:∃ n:Nat,a=n:=⟨a.toNat,by omega⟩
  obtain⟨kn,rfl⟩:∃ n:Nat,k=n:=⟨k.toNat,by omega⟩
  obtain rfl:un=0:=by omega
  obtain rfl:an=0:=by omega
  obtain rfl:kn=0:=by omega
  obtain rfl:pl=0:=by omega
  exact vO dn sn tn (by omega) (by omega) (by omega)
 ·skip
  have hr:=lS d s t u a k pl 1073741824 hd hs ht hu ha k0 k1
  rw[h] at hr
  simp[du] at hr
  obtain⟨dn,rfl⟩:∃ n:Nat,d=n:=⟨d.toNat,by omega⟩
  obtain⟨sn,rfl⟩:∃ n:Nat,s=n:=⟨s.toNat,by omega⟩
  obtain⟨tn,rfl⟩:∃ n:Nat,t=n:=⟨t.toNat,by omega⟩
  obtain⟨un,rfl⟩:∃ n:Nat,u=n:=⟨u.toNat,by omega⟩
  obtain⟨an,rfl⟩:∃ n:Nat,a=n:=⟨a.toNat,by omega⟩
  obtain⟨kn,rfl⟩:∃ n:Nat,k=n:=⟨k.toNat,by omega⟩
  obtain rfl:dn=0:=by omega
  obtain rfl:un=0:=by omega
  obtain rfl:an=0:=by omega
  obtain rfl:kn=0:=by omega
  obtain⟨pn,rfl⟩:∃ n:Nat,pl=n:=⟨pl.toNat,by omega⟩
  exact vN sn tn pn (by omega) (by omega) (by omega)
 ·skip
  have hr:=lR d s t u a k pl 1073741824 hd hs ht hu ha k0 k1
  rw[h] at hr
  simp[du] at hr
  obtain⟨dn,rfl⟩:∃ n:Nat,d=n:=⟨d.toNat,by omega⟩
  obtain⟨sn,rfl⟩:∃ n:Nat,s=n:=⟨s.toNat,by omega⟩
  obtain⟨tn,rfl⟩:∃ n:Nat,t=n:=⟨t.toNat,by omega⟩
  obtain⟨un,rfl⟩:∃ n:Nat,u=n:=⟨u.toNat,by omega⟩
  obtain⟨an,rfl⟩:∃ n:Nat,a=n:=⟨a.toNat,by omega⟩
  obtain⟨kn,rfl⟩:∃ n:Nat,k=n:=⟨k.toNat,by omega⟩
  obtain rfl:dn=0:=by omega
  obtain rfl:un=0:=by omega
  obtain rfl:an=0:=by omega
  obtain rfl:kn=0:=by omega
  obtain⟨pn,rfl⟩:∃ n:Nat,pl=n:=⟨pl.toNat,by omega⟩
  exact vM sn tn pn (by omega) (by omega) (by omega)
 ·skip
  have hr:=jR d s t u a k pl 1073741824 hd hs ht hu ha k0 k1
  rw[h] at hr
  simp[du] at hr
  obtain⟨dn,rfl⟩:∃ n:Nat,d=n:=⟨d.toNat,by omega⟩
  obtain⟨sn,rfl⟩:∃ n:Nat,s=n:=⟨s.toNat,by omega⟩
  obtain⟨tn,rfl⟩:∃ n:Nat,t=n:=⟨t.toNat,by omega⟩
  obtain⟨un,rfl⟩:∃ n:Nat,u=n:=⟨u.toNat,by omega⟩
  obtain⟨an,rfl⟩:∃ n:Nat,a=n:=⟨a.toNat,by omega⟩
  obtain⟨kn,rfl⟩:∃ n:Nat,k=n:=⟨k.toNat,by omega⟩
  obtain rfl:dn=0:=by omega
  obtain rfl:sn=0:=by omega
  obtain rfl:tn=0:=by omega
  obtain rfl:un=0:=by omega
  obtain rfl:an=0:=by omega
  obtain rfl:kn=0:=by omega
  obtain⟨pn,rfl⟩:∃ n:Nat,pl=n:=⟨pl.toNat,by omega⟩
  exact tj pn (by omega)
 ·skip
  have hr:=jQ d s t u a k pl 1073741824 hd hs ht hu ha k0 k1
  rw[h] at hr
  simp[du] at hr
  obtain⟨dn,rfl⟩:∃ n:Nat,d=n:=⟨d.toNat,by omega⟩
  obtain⟨sn,rfl⟩:∃ n:Nat,s=n:=⟨s.toNat,by omega⟩
  obtain⟨tn,rfl⟩:∃ n:Nat,t=n:=⟨t.toNat,by omega⟩
  obtain⟨un,rfl⟩:∃ n:Nat,u=n:=⟨u.toNat,by omega⟩
  obtain⟨an,rfl⟩:∃ n:Nat,a=n:=⟨a.toNat,by omega⟩
  obtain⟨kn,rfl⟩:∃ n:Nat,k=n:=⟨k.toNat,by omega⟩
  obtain rfl:sn=0:=by omega
  obtain rfl:tn=0:=by omega
  obtain rfl:un=0:=by omega
  obtain rfl:an=0:=by omega
  obtain rfl:kn=0:=by omega
  obtain rfl:pl=0:=by omega
  exact tf dn (by omega)
 ·skip
  have hr:=iJ d s t u a k pl 1073741824 hd hs ht hu ha k0 k1
  rw[h] at hr
  simp[du] at hr
  obtain⟨dn,rfl⟩:∃ n:Nat,d=n:=⟨d.toNat,by omega⟩
  obtain⟨sn,rfl⟩:∃ n:Nat,s=n:=⟨s.toNat,by omega⟩
  obtain⟨tn,rfl⟩:∃ n:Nat,t=n:=⟨t.toNat,by omega⟩
  obtain⟨un,rfl⟩:∃ n:Nat,u=n:=⟨u.toNat,by omega⟩
  obtain⟨an,rfl⟩:∃ n:Nat,a=n:=⟨a.toNat,by omega⟩
  obtain⟨kn,rfl⟩:∃ n:Nat,k=n:=⟨k.toNat,by omega⟩
  obtain rfl:dn=0:=by omega
  obtain rfl:sn=0:=by omega
  obtain rfl:tn=0:=by omega
  obtain rfl:un=0:=by omega
  obtain rfl:an=0:=by omega
  obtain rfl:pl=0:=by omega
  exact s9 kn (by omega)
 ·skip
  have hr:=iI d s t u a k pl 1073741824 hd hs ht hu ha k0 k1
  rw[h] at hr
  simp[du] at hr
  obtain⟨dn,rfl⟩:∃ n:Nat,d=n:=⟨d.toNat,by omega⟩
  obtain⟨sn,rfl⟩:∃ n:Nat,s=n:=⟨s.toNat,by omega⟩
  obtain⟨tn,rfl⟩:∃ n:Nat,t=n:=⟨t.toNat,by omega⟩
  obtain⟨un,rfl⟩:∃ n:Nat,u=n:=⟨u.toNat,by omega⟩
  obtain⟨an,rfl⟩:∃ n:Nat,a=n:=⟨a.toNat,by omega⟩
  obtain⟨kn,rfl⟩:∃ n:Nat,k=n:=⟨k.toNat,by omega⟩
  obtain rfl:dn=0:=by omega
  obtain rfl:sn=0:=by omega
  obtain rfl:tn=0:=by omega
  obtain rfl:un=0:=by omega
  obtain rfl:an=0:=by omega
  obtain rfl:pl=0:=by omega
  exact s8 kn (by omega)
 ·skip
  have hr:=jP d s t u a k pl 1073741824 hd hs ht hu ha k0 k1
  rw[h] at hr
  simp[du] at hr
  obtain⟨dn,rfl⟩:∃ n:Nat,d=n:=⟨d.toNat,by omega⟩
  obtain⟨sn,rfl⟩:∃ n:Nat,s=n:=⟨s.toNat,by omega⟩
  obtain⟨tn,rfl⟩:∃ n:Nat,t=n:=⟨t.toNat,by omega⟩
  obtain⟨un,rfl⟩:∃ n:Nat,u=n:=⟨u.toNat,by omega⟩
  obtain⟨an,rfl⟩:∃ n:Nat,a=n:=⟨a.toNat,by omega⟩
  obtain⟨kn,rfl⟩:∃ n:Nat,k=n:=⟨k.toNat,by omega⟩
  obtain rfl:tn=0:=by omega
  obtain rfl:un=0:=by omega
  obtain rfl:kn=0:=by omega
  obtain rfl:pl=0:=by omega
  exact sZ dn sn an (by omega) (by omega) (by omega)
 ·skip
  have hr:=jO d s t u a k pl 1073741824 hd hs ht hu ha k0 k1
  rw[h] at hr
  simp[du] at hr
  obtain⟨dn,rfl⟩:∃ n:Nat,d=n:=⟨d.toNat,by omega⟩
  obtain⟨sn,rfl⟩:∃ n:Nat,s=n:=⟨s.toNat,by omega⟩
  obtain⟨tn,rfl⟩:∃ n:Nat,t=n:=⟨t.toNat,by omega⟩
  obtain⟨un,rfl⟩:∃ n:Nat,u=n:=⟨u.toNat,by omega⟩
  obtain⟨an,rfl⟩:∃ n:Nat,a=n:=⟨a.toNat,by omega⟩
  obtain⟨kn,rfl⟩:∃ n:Nat,k=n:=⟨k.toNat,by omega⟩
  obtain rfl:dn=0:=by omega
  obtain rfl:un=0:=by omega
  obtain rfl:kn=0:=by omega
  obtain rfl:pl=0:=by omega
  exact sY sn tn an (by omega) (by omega) (by omega)
 ·skip
  have hr:=jN d s t u a k pl 1073741824 hd hs ht hu ha k0 k1
  rw[h] at hr
  simp[du] at hr
  obtain⟨dn,rfl⟩:∃ n:Nat,d=n:=⟨d.toNat,by omega⟩
  obtain⟨sn,rfl⟩:∃ n:Nat,s=n:=⟨s.toNat,by omega⟩
  obtain⟨tn,rfl⟩:∃ n:Nat,t=n:=⟨t.toNat,by omega⟩
  obtain⟨un,rfl⟩:∃ n:Nat,u=n:=⟨u.toNat,by omega⟩
  obtain⟨an,rfl⟩:∃ n:Nat,a=n:=⟨a.toNat,by omega⟩
  obtain⟨kn,rfl⟩:∃ n:Nat,k=n:=⟨k.toNat,by omega⟩
  obtain rfl:un=0:=by omega
  obtain rfl:kn=0:=by omega
  obtain rfl:pl=0:=by omega
  exact sX dn sn tn an (by omega) (by omega) (by omega) (by omega)
 ·skip
  have hr:=jM d s t u a k pl 1073741824 hd hs ht hu ha k0 k1
  rw[h] at hr
  simp[du] at hr
  obtain⟨dn,rfl⟩:∃ n:Nat,d=n:=⟨d.toNat,by omega⟩
  obtain⟨sn,rfl⟩:∃ n:Nat,s=n:=⟨s.toNat,by omega⟩
  obtain⟨tn,rfl⟩:∃ n:Nat,t=n:=⟨t.toNat,by omega⟩
  obtain⟨un,rfl⟩:∃ n:Nat,u=n:=⟨u.toNat,by omega⟩
  obtain⟨an,rfl⟩:∃ n:Nat,a=n:=⟨a.toNat,by omega⟩
  obtain⟨kn,rfl⟩:∃ n:Nat,k=n:=⟨k.toNat,by omega⟩
  obtain rfl:kn=0:=by omega
  obtain rfl:pl=0:=by omega
  exact sW dn sn tn un an (by omega) (by omega) (by omega) (by omega) (by omega)
 ·skip
  have hr:=jL d s t u a k pl 1073741824 hd hs ht hu ha k0 k1
  rw[h] at hr
  simp[du] at hr
  obtain⟨dn,rfl⟩:∃ n:Nat,d=n:=⟨d.toNat,by omega⟩
  obtain⟨sn,rfl⟩:∃ n:Nat,s=n:=⟨s.toNat,by omega⟩
  obtain⟨tn,rfl⟩:∃ n:Nat,t=n:=⟨t.toNat,by omega⟩
  obtain⟨un,rfl⟩:∃ n:Nat,u=n:=⟨u.toNat,by omega⟩
  obtain⟨an,rfl⟩:∃ n:Nat,a=n:=⟨a.toNat,by omega⟩
  obtain⟨kn,rfl⟩:∃ n:Nat,k=n:=⟨k.toNat,by omega⟩
  obtain rfl:tn=0:=by omega
  obtain rfl:un=0:=by omega
  obtain rfl:pl=0:=by omega
  exact sV dn sn an kn (by omega) (by omega) (by omega) (by omega)
 ·skip
  have hr:=gR d s t u a k pl 1073741824 hd hs ht hu ha k0 k1
  rw[h] at hr
  simp[du] at hr
  obtain⟨dn,rfl⟩:∃ n:Nat,d=n:=⟨d.toNat,by omega⟩
  obtain⟨sn,rfl⟩:∃ n:Nat,s=n:=⟨s.toNat,by omega⟩
  obtain⟨tn,rfl⟩:∃ n:Nat,t=n:=⟨t.toNat,by omega⟩
  obtain⟨un,rfl⟩:∃ n:Nat,u=n:=⟨u.toNat,by omega⟩
  obtain⟨an,rfl⟩:∃ n:Nat,a=n:=⟨a.toNat,by omega⟩
  obtain⟨kn,rfl⟩:∃ n:Nat,k=n:=⟨k.toNat,by omega⟩
  obtain rfl:un=0:=by omega
  by_cases hm:pl=-1
  ·subst hm
   by_cases hk:kn=0
   ·subst hk;exact nK dn sn tn an 0 (by omega) (by omega) (by omega) (by omega) (by omega)
   ·obtain rfl:kn=1:=by omega
    exact nI dn sn tn an 0 (by omega) (by omega) (by omega) (by omega) (by omega)
  ·obtain⟨pn,rfl⟩:∃ n:Nat,pl=n:=⟨pl.toNat,by omega⟩
   by_cases hk:kn=0
   ·subst hk;exact nJ dn sn tn an pn (by omega) (by omega) (by omega) (by omega) (by omega)
   ·obtain rfl:kn=1:=by omega
    exact nH dn sn tn an pn (by omega) (by omega) (by omega) (by omega) (by omega)
 ·skip
  have hr:=jK d s t u a k pl 1073741824 hd hs ht hu ha k0 k1
  rw[h] at hr
  simp[du] at hr
  obtain⟨dn,rfl⟩:∃ n:Nat,d=n:=⟨d.toNat,by omega⟩
  obtain⟨sn,rfl⟩:∃ n:Nat,s=n:=⟨s.toNat,by omega⟩
  obtain⟨tn,rfl⟩:∃ n:Nat,t=n:=⟨t.toNat,by omega⟩
  obtain⟨un,rfl⟩:∃ n:Nat,u=n:=⟨u.toNat,by omega⟩
  obtain⟨an,rfl⟩:∃ n:Nat,a=n:=⟨a.toNat,by omega⟩
  obtain⟨kn,rfl⟩:∃ n:Nat,k=n:=⟨k.toNat,by omega⟩
  obtain rfl:sn=0:=by omega
  obtain rfl:tn=0:=by omega
  obtain rfl:un=0:=by omega
  obtain rfl:an=0:=by omega
  obtain rfl:kn=0:=by omega
  obtain rfl:pl=0:=by omega
  exact sU dn (by omega)
 ·skip
  have hr:=jJ d s t u a k pl 1073741824 hd hs ht hu ha k0 k1
  rw[h] at hr
  simp[du] at hr
  obtain⟨dn,rfl⟩:∃ n:Nat,d=n:=⟨d.toNat,by omega⟩
  obtain⟨sn,rfl⟩:∃ n:Nat,s=n:=⟨s.toNat,by omega⟩
  obtain⟨tn,rfl⟩:∃ n:Nat,t=n:=⟨t.toNat,by omega⟩
  obtain⟨un,rfl⟩:∃ n:Nat,u=n:=⟨u.toNat,by omega⟩
  obtain⟨an,rfl⟩:∃ n:Nat,a=n:=⟨a.toNat,by omega⟩
  obtain⟨kn,rfl⟩:∃ n:Nat,k=n:=⟨k.toNat,by omega⟩
  obtain rfl:dn=0:=by omega
  obtain rfl:tn=0:=by omega
  obtain rfl:un=0:=by omega
  obtain rfl:an=0:=by omega
  obtain rfl:kn=0:=by omega
  obtain rfl:pl=0:=by omega
  exact sS sn (by omega)
 ·exfalso
  unfold au at h
  simp only[(dA hn).1] at h
  cases h
theorem qp (i:aN)(h:au i 1073741824=Q)(k0:0<=i.k)(k1:i.k<4294967296):j8 (af i)=Q:=by
 obtain⟨h1,h2⟩:=lj i h k0 k1
 unfold j8
 rw[h1,h2,h]
 simp
end
