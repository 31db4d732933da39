import Derived.Test.YtbgaaclplgghcaaGreatDoorQInstV
import Derived.Test.YtbgaaclplgghcaaGreatDoorQMem
import Derived.Test.YtbgaaclplgghcaaGreatDoorQWdA
import Derived.Test.YtbgaaclplgghcaaGreatDoorQInstB
import Derived.Test.YtbgaaclplgghcaaGreatDoorQInstC
import Derived.Test.YtbgaaclplgghcaaGreatDoorQRunM
set_option linter.unusedVariables false
set_option maxHeartbeats 2000000
open Go.Value renaming int->I
open Go.IntKind renaming i64->Q
open Bool renaming false->N,true->O
open Go.Lib renaming hid->Z
namespace Go.Proofs.YtbgaaclplgghcaaGreatDoor
section
theorem mi:∀ (m:Nat) (s:List UInt8),(aq s).length<=m+1->Lib.splitK [32] 0 m s=aq s
 | 0,s,h=>by
  rcases oJ s with h1 | ⟨t,r,h1,rfl⟩
  ·rw[cQ s h1];rfl
  ·rw[fz t r h1] at h
   have:=gb r
   rw[List.length_cons] at h
   omega
 | m+1,s,h=>by
  rcases oJ s with h1 | ⟨t,r,h1,rfl⟩
  ·rw[cQ s h1];unfold Lib.splitK;rw[tD s h1];rfl
  ·rw[fz t r h1] at h ⊢
   unfold Lib.splitK
   rw[tE t r h1,if_neg (by simp <;> omega)]
   have e1:(t++32 :: r).take (((t.length:Int)).toNat+0)=t:=by simp
   have e2:(t++32 :: r).drop (((t.length:Int)).toNat+[(32:UInt8)].length)=r:=by simp[List.drop_append]
   rw[e1,e2,mi m r (by simp at h;omega)]
theorem aE (s:List UInt8)(h:(aq s).length<=9):fG s=aq s:=by
 unfold fG Lib.splitN
 have:=im s
 exact mi _ s (by omega)
def dN (n:Nat):List UInt8:=114 :: Lib.decDigits n
theorem dz (n:Nat):Bf (dN n):=by
 intro c hc
 rcases List.mem_cons.1 hc with rfl | hc
 ·decide
 ·exact dH n c hc
theorem cj (n:Nat)(h:n<9223372036854775808):ly (Lib.decDigits n)=n:=by
 have ha:=tS n h
 obtain⟨c,r,e,h1,h2,-⟩:=ji n
 rw[e] at ha ⊢
 have n1:c≠101:=fun e=>by rw[e] at h2;exact absurd h2 (by decide)
 have n2:c≠110:=fun e=>by rw[e] at h2;exact absurd h2 (by decide)
 have n3:c≠114:=fun e=>by rw[e] at h2;exact absurd h2 (by decide)
 unfold ly
 rw[if_neg (by intro e;injection e with e _;exact n1 e),if_neg (by intro e;injection e with e _;exact n2 e)]
 have et:Lib.trimPrefix (c :: r) [114]=c :: r:=by
  unfold Lib.trimPrefix Lib.hasPrefix
  rw[if_neg (by simp[List.isPrefixOf];exact fun e=>n3 e.symm)]
 rw[et,ha]
theorem aJ (n:Nat)(h:n<9223372036854775808):ly (dN n)=n:=by
 have ha:=tS n h
 unfold ly dN
 rw[if_neg (by intro e;injection e with e _;exact absurd e (by decide)),if_neg (by intro e;injection e with e _;exact absurd e (by decide))]
 have et:Lib.trimPrefix (114 :: Lib.decDigits n) [114]=Lib.decDigits n:=by
  unfold Lib.trimPrefix Lib.hasPrefix
  rw[if_pos (by simp[List.isPrefixOf])]
  rfl
 rw[et,ha]
theorem Fb (dn kn:Nat):aj ⟨1,(dn:Nat),0,0,0,0,(kn:Nat),0⟩=bw (bG 1) [dN dn,Lib.decDigits kn]:=by
 simp[aj,dj,ay,aN,aZ,aA,bw,dN]
theorem qS (dn kn:Nat):aq (aj ⟨1,(dn:Nat),0,0,0,0,(kn:Nat),0⟩)=bG 1 :: [dN dn,Lib.decDigits kn]:=by
 rw[Fb]
 exact aM _ _ (by unfold Bf;decide) (by simp[dz,dH])
theorem A3 (dn kn:Nat)(hdn:dn<9223372036854775808)(hkn:kn<9223372036854775808)(k1:kn<4294967296):az (aj ⟨1,(dn:Nat),0,0,0,0,(kn:Nat),0⟩)=⟨1,(dn:Nat),0,0,0,0,(kn:Nat),0⟩:=by
 unfold az
 rw[aE _ (by rw[qS];simp),qS]
 have e:oQ (bG 1)=1:=by decide
 simp[bZ,e,dj,cg,dr,cP,cf,aJ dn hdn,cj kn hkn,aP.zero]
 omega
theorem E9 (dn sn:Nat):aj ⟨2,(dn:Nat),(sn:Nat),0,0,0,0,0⟩=bw (bG 2) [dN dn,dN sn]:=by
 simp[aj,dj,ay,aN,aZ,aA,bw,dN]
theorem qR (dn sn:Nat):aq (aj ⟨2,(dn:Nat),(sn:Nat),0,0,0,0,0⟩)=bG 2 :: [dN dn,dN sn]:=by
 rw[E9]
 exact aM _ _ (by unfold Bf;decide) (by simp[dz])
theorem A2 (dn sn:Nat)(hdn:dn<9223372036854775808)(hsn:sn<9223372036854775808):az (aj ⟨2,(dn:Nat),(sn:Nat),0,0,0,0,0⟩)=⟨2,(dn:Nat),(sn:Nat),0,0,0,0,0⟩:=by
 unfold az
 rw[aE _ (by rw[qR];simp),qR]
 have e:oQ (bG 2)=2:=by decide
 simp[bZ,e,dj,cg,dr,cP,cf,aJ dn hdn,aJ sn hsn,aP.zero]
theorem E8 (dn sn kn:Nat):aj ⟨3,(dn:Nat),(sn:Nat),0,0,0,(kn:Nat),0⟩=bw (bG 3) [dN dn,dN sn,Lib.decDigits kn]:=by
 simp[aj,dj,ay,aN,aZ,aA,bw,dN]
theorem qQ (dn sn kn:Nat):aq (aj ⟨3,(dn:Nat),(sn:Nat),0,0,0,(kn:Nat),0⟩)=bG 3 :: [dN dn,dN sn,Lib.decDigits kn]:=by
 rw[E8]
 exact aM _ _ (by unfold Bf;decide) (by simp[dz,dH])
theorem A1 (dn sn kn:Nat)(hdn:dn<9223372036854775808)(hsn:sn<9223372036854775808)(hkn:kn<9223372036854775808)(k1:kn<4294967296):az (aj ⟨3,(dn:Nat),(sn:Nat),0,0,0,(kn:Nat),0⟩)=⟨3,(dn:Nat),(sn:Nat),0,0,0,(kn:Nat),0⟩:=by
 unfold az
 rw[aE _ (by rw[qQ];simp),qQ]
 have e:oQ (bG 3)=3:=by decide
 simp[bZ,e,dj,cg,dr,cP,cf,aJ dn hdn,aJ sn hsn,cj kn hkn,aP.zero]
 omega
theorem E7 (dn sn kn:Nat):aj ⟨4,(dn:Nat),(sn:Nat),0,0,0,(kn:Nat),0⟩=bw (bG 4) [dN dn,dN sn,Lib.decDigits kn]:=by
 simp[aj,dj,ay,aN,aZ,aA,bw,dN]
theorem qP (dn sn kn:Nat):aq (aj ⟨4,(dn:Nat),(sn:Nat),0,0,0,(kn:Nat),0⟩)=bG 4 :: [dN dn,dN sn,Lib.decDigits kn]:=by
 rw[E7]
 exact aM _ _ (by unfold Bf;decide) (by simp[dz,dH])
theorem A0 (dn sn kn:Nat)(hdn:dn<9223372036854775808)(hsn:sn<9223372036854775808)(hkn:kn<9223372036854775808)(k1:kn<4294967296):az (aj ⟨4,(dn:Nat),(sn:Nat),0,0,0,(kn:Nat),0⟩)=⟨4,(dn:Nat),(sn:Nat),0,0,0,(kn:Nat),0⟩:=by
 unfold az
 rw[aE _ (by rw[qP];simp),qP]
 have e:oQ (bG 4)=4:=by decide
 simp[bZ,e,dj,cg,dr,cP,cf,aJ dn hdn,aJ sn hsn,cj kn hkn,aP.zero]
 omega
theorem E6 (dn sn kn:Nat):aj ⟨5,(dn:Nat),(sn:Nat),0,0,0,(kn:Nat),0⟩=bw (bG 5) [dN dn,dN sn,Lib.decDigits kn]:=by
 simp[aj,dj,ay,aN,aZ,aA,bw,dN]
theorem qO (dn sn kn:Nat):aq (aj ⟨5,(dn:Nat),(sn:Nat),0,0,0,(kn:Nat),0⟩)=bG 5 :: [dN dn,dN sn,Lib.decDigits kn]:=by
 rw[E6]
 exact aM _ _ (by unfold Bf;decide) (by simp[dz,dH])
theorem AZ (dn sn kn:Nat)(hdn:dn<9223372036854775808)(hsn:sn<9223372036854775808)(hkn:kn<9223372036854775808)(k1:kn<4294967296):az (aj ⟨5,(dn:Nat),(sn:Nat),0,0,0,(kn:Nat),0⟩)=⟨5,(dn:Nat),(sn:Nat),0,0,0,(kn:Nat),0⟩:=by
 unfold az
 rw[aE _ (by rw[qO];simp),qO]
 have e:oQ (bG 5)=5:=by decide
 simp[bZ,e,dj,cg,dr,cP,cf,aJ dn hdn,aJ sn hsn,cj kn hkn,aP.zero]
 omega
theorem E3 (dn sn kn:Nat):aj ⟨6,(dn:Nat),(sn:Nat),0,0,0,(kn:Nat),0⟩=bw (bG 6) [dN dn,dN sn,Lib.decDigits kn]:=by
 simp[aj,dj,ay,aN,aZ,aA,bw,dN]
theorem qN (dn sn kn:Nat):aq (aj ⟨6,(dn:Nat),(sn:Nat),0,0,0,(kn:Nat),0⟩)=bG 6 :: [dN dn,dN sn,Lib.decDigits kn]:=by
 rw[E3]
 exact aM _ _ (by unfold Bf;decide) (by simp[dz,dH])
theorem AY (dn sn kn:Nat)(hdn:dn<9223372036854775808)(hsn:sn<9223372036854775808)(hkn:kn<9223372036854775808)(k1:kn<4294967296):az (aj ⟨6,(dn:Nat),(sn:Nat),0,0,0,(kn:Nat),0⟩)=⟨6,(dn:Nat),(sn:Nat),0,0,0,(kn:Nat),0⟩:=by
 unfold az
 rw[aE _ (by rw[qN];simp),qN]
 have e:oQ (bG 6)=6:=by decide
 simp[bZ,e,dj,cg,dr,cP,cf,aJ dn hdn,aJ sn hsn,cj kn hkn,aP.zero]
 omega
theorem E1 (dn sn tn:Nat):aj ⟨7,(dn:Nat),(sn:Nat),(tn:Nat),0,0,0,0⟩=bw (bG 7) [dN dn,dN sn,dN tn]:=by
 simp[aj,dj,ay,aN,aZ,aA,bw,dN]
theorem qM (dn sn tn:Nat):aq (aj ⟨7,(dn:Nat),(sn:Nat),(tn:Nat),0,0,0,0⟩)=bG 7 :: [dN dn,dN sn,dN tn]:=by
 rw[E1]
 exact aM _ _ (by unfold Bf;decide) (by simp[dz])
theorem AX (dn sn tn:Nat)(hdn:dn<9223372036854775808)(hsn:sn<9223372036854775808)(htn:tn<9223372036854775808):az (aj ⟨7,(dn:Nat),(sn:Nat),(tn:Nat),0,0,0,0⟩)=⟨7,(dn:Nat),(sn:Nat),(tn:Nat),0,0,0,0⟩:=by
 unfold az
 rw[aE _ (by rw[qM];simp),qM]
 have e:oQ (bG 7)=7:=by decide
 simp[bZ,e,dj,cg,dr,cP,cf,aJ dn hdn,aJ sn hsn,aJ tn htn,aP.zero]
theorem E0 (sn tn pn:Nat):aj ⟨8,0,(sn:Nat),(tn:Nat),0,0,0,(pn:Nat)⟩=bw (bG 8) [dN sn,dN tn,Lib.decDigits pn]:=by
 simp[aj,dj,ay,aN,aZ,aA,bw,dN]
theorem qL (sn tn pn:Nat):aq (aj ⟨8,0,(sn:Nat),(tn:Nat),0,0,0,(pn:Nat)⟩)=bG 8 :: [dN sn,dN tn,Lib.decDigits pn]:=by
 rw[E0]
 exact aM _ _ (by unfold Bf;decide) (by simp[dz,dH])
theorem AW (sn tn pn:Nat)(hsn:sn<9223372036854775808)(htn:tn<9223372036854775808)(hpn:pn<9223372036854775808):az (aj ⟨8,0,(sn:Nat),(tn:Nat),0,0,0,(pn:Nat)⟩)=⟨8,0,(sn:Nat),(tn:Nat),0,0,0,(pn:Nat)⟩:=by
 unfold az
 rw[aE _ (by rw[qL];simp),qL]
 have e:oQ (bG 8)=8:=by decide
 simp[bZ,e,dj,cg,dr,cP,cf,aJ sn hsn,aJ tn htn,cj pn hpn,aP.zero]
theorem EZ (sn tn pn:Nat):aj ⟨9,0,(sn:Nat),(tn:Nat),0,0,0,(pn:Nat)⟩=bw (bG 9) [dN sn,dN tn,Lib.decDigits pn]:=by
 simp[aj,dj,ay,aN,aZ,aA,bw,dN]
theorem qK (sn tn pn:Nat):aq (aj ⟨9,0,(sn:Nat),(tn:Nat),0,0,0,(pn:Nat)⟩)=bG 9 :: [dN sn,dN tn,Lib.decDigits pn]:=by
 rw[EZ]
 exact aM _ _ (by unfold Bf;decide) (by simp[dz,dH])
theorem AV (sn tn pn:Nat)(hsn:sn<9223372036854775808)(htn:tn<9223372036854775808)(hpn:pn<9223372036854775808):az (aj ⟨9,0,(sn:Nat),(tn:Nat),0,0,0,(pn:Nat)⟩)=⟨9,0,(sn:Nat),(tn:Nat),0,0,0,(pn:Nat)⟩:=by
 unfold az
 rw[aE _ (by rw[qK];simp),qK]
 have e:oQ (bG 9)=9:=by decide
 simp[bZ,e,dj,cg,dr,cP,cf,aJ sn hsn,aJ tn htn,cj pn hpn,aP.zero]
theorem Do (pn:Nat):aj ⟨10,0,0,0,0,0,0,(pn:Nat)⟩=bw (bG 10) [Lib.decDigits pn]:=by
 simp[aj,dj,ay,aN,aZ,aA,bw]
theorem ol (pn:Nat):aq (aj ⟨10,0,0,0,0,0,0,(pn:Nat)⟩)=bG 10 :: [Lib.decDigits pn]:=by
 rw[Do]
 exact aM _ _ (by unfold Bf;decide) (by simp[dH])
theorem yG (pn:Nat)(hpn:pn<9223372036854775808):az (aj ⟨10,0,0,0,0,0,0,(pn:Nat)⟩)=⟨10,0,0,0,0,0,0,(pn:Nat)⟩:=by
 unfold az
 rw[aE _ (by rw[ol];simp),ol]
 have e:oQ (bG 10)=10:=by decide
 simp[bZ,e,dj,cg,dr,cP,cf,cj pn hpn,aP.zero]
theorem Dn (dn:Nat):aj ⟨11,(dn:Nat),0,0,0,0,0,0⟩=bw (bG 11) [dN dn]:=by
 simp[aj,dj,ay,aN,aZ,aA,bw,dN]
theorem oi (dn:Nat):aq (aj ⟨11,(dn:Nat),0,0,0,0,0,0⟩)=bG 11 :: [dN dn]:=by
 rw[Dn]
 exact aM _ _ (by unfold Bf;decide) (by simp[dz])
theorem yF (dn:Nat)(hdn:dn<9223372036854775808):az (aj ⟨11,(dn:Nat),0,0,0,0,0,0⟩)=⟨11,(dn:Nat),0,0,0,0,0,0⟩:=by
 unfold az
 rw[aE _ (by rw[oi];simp),oi]
 have e:oQ (bG 11)=11:=by decide
 simp[bZ,e,dj,cg,dr,cP,cf,aJ dn hdn,aP.zero]
theorem Df (dn:Nat):aj ⟨22,(dn:Nat),0,0,0,0,0,0⟩=bw (bG 22) [dN dn]:=by
 simp[aj,dj,ay,aN,aZ,aA,bw,dN]
theorem nT (dn:Nat):aq (aj ⟨22,(dn:Nat),0,0,0,0,0,0⟩)=bG 22 :: [dN dn]:=by
 rw[Df]
 exact aM _ _ (by unfold Bf;decide) (by simp[dz])
theorem yx (dn:Nat)(hdn:dn<9223372036854775808):az (aj ⟨22,(dn:Nat),0,0,0,0,0,0⟩)=⟨22,(dn:Nat),0,0,0,0,0,0⟩:=by
 unfold az
 rw[aE _ (by rw[nT];simp),nT]
 have e:oQ (bG 22)=22:=by decide
 simp[bZ,e,dj,cg,dr,cP,cf,aJ dn hdn,aP.zero]
theorem Dm (kn:Nat):aj ⟨12,0,0,0,0,0,(kn:Nat),0⟩=bw (bG 12) [Lib.decDigits kn]:=by
 simp[aj,dj,ay,aN,aZ,aA,bw]
theorem oh (kn:Nat):aq (aj ⟨12,0,0,0,0,0,(kn:Nat),0⟩)=bG 12 :: [Lib.decDigits kn]:=by
 rw[Dm]
 exact aM _ _ (by unfold Bf;decide) (by simp[dH])
theorem yE (kn:Nat)(hkn:kn<9223372036854775808)(k1:kn<4294967296):az (aj ⟨12,0,0,0,0,0,(kn:Nat),0⟩)=⟨12,0,0,0,0,0,(kn:Nat),0⟩:=by
 unfold az
 rw[aE _ (by rw[oh];simp),oh]
 have e:oQ (bG 12)=12:=by decide
 simp[bZ,e,dj,cg,dr,cP,cf,cj kn hkn,aP.zero]
 omega
theorem Dl (kn:Nat):aj ⟨13,0,0,0,0,0,(kn:Nat),0⟩=bw (bG 13) [Lib.decDigits kn]:=by
 simp[aj,dj,ay,aN,aZ,aA,bw]
theorem nZ (kn:Nat):aq (aj ⟨13,0,0,0,0,0,(kn:Nat),0⟩)=bG 13 :: [Lib.decDigits kn]:=by
 rw[Dl]
 exact aM _ _ (by unfold Bf;decide) (by simp[dH])
theorem yD (kn:Nat)(hkn:kn<9223372036854775808)(k1:kn<4294967296):az (aj ⟨13,0,0,0,0,0,(kn:Nat),0⟩)=⟨13,0,0,0,0,0,(kn:Nat),0⟩:=by
 unfold az
 rw[aE _ (by rw[nZ];simp),nZ]
 have e:oQ (bG 13)=13:=by decide
 simp[bZ,e,dj,cg,dr,cP,cf,cj kn hkn,aP.zero]
 omega
theorem Dk (dn sn an:Nat):aj ⟨16,(dn:Nat),(sn:Nat),0,0,(an:Nat),0,0⟩=bw (bG 16) [dN dn,Lib.decDigits an,dN sn]:=by
 simp[aj,dj,ay,aN,aZ,aA,bw,dN]
theorem nY (dn sn an:Nat):aq (aj ⟨16,(dn:Nat),(sn:Nat),0,0,(an:Nat),0,0⟩)=bG 16 :: [dN dn,Lib.decDigits an,dN sn]:=by
 rw[Dk]
 exact aM _ _ (by unfold Bf;decide) (by simp[dz,dH])
theorem yC (dn sn an:Nat)(hdn:dn<9223372036854775808)(hsn:sn<9223372036854775808)(han:an<9223372036854775808):az (aj ⟨16,(dn:Nat),(sn:Nat),0,0,(an:Nat),0,0⟩)=⟨16,(dn:Nat),(sn:Nat),0,0,(an:Nat),0,0⟩:=by
 unfold az
 rw[aE _ (by rw[nY];simp),nY]
 have e:oQ (bG 16)=16:=by decide
 simp[bZ,e,dj,cg,dr,cP,cf,aJ dn hdn,aJ sn hsn,cj an han,aP.zero]
theorem Dj (sn tn an:Nat):aj ⟨17,0,(sn:Nat),(tn:Nat),0,(an:Nat),0,0⟩=bw (bG 17) [Lib.decDigits an,dN sn,dN tn]:=by
 simp[aj,dj,ay,aN,aZ,aA,bw,dN]
theorem nX (sn tn an:Nat):aq (aj ⟨17,0,(sn:Nat),(tn:Nat),0,(an:Nat),0,0⟩)=bG 17 :: [Lib.decDigits an,dN sn,dN tn]:=by
 rw[Dj]
 exact aM _ _ (by unfold Bf;decide) (by simp[dz,dH])
theorem yB (sn tn an:Nat)(hsn:sn<9223372036854775808)(htn:tn<9223372036854775808)(han:an<9223372036854775808):az (aj ⟨17,0,(sn:Nat),(tn:Nat),0,(an:Nat),0,0⟩)=⟨17,0,(sn:Nat),(tn:Nat),0,(an:Nat),0,0⟩:=by
 unfold az
 rw[aE _ (by rw[nX];simp),nX]
 have e:oQ (bG 17)=17:=by decide
 simp[bZ,e,dj,cg,dr,cP,cf,aJ sn hsn,aJ tn htn,cj an han,aP.zero]
theorem Di (dn sn tn an:Nat):aj ⟨18,(dn:Nat),(sn:Nat),(tn:Nat),0,(an:Nat),0,0⟩=bw (bG 18) [dN dn,Lib.decDigits an,dN sn,dN tn]:=by
 simp[aj,dj,ay,aN,aZ,aA,bw,dN]
theorem nW (dn sn tn an:Nat):aq (aj ⟨18,(dn:Nat),(sn:Nat),(tn:Nat),0,(an:Nat),0,0⟩)=bG 18 :: [dN dn,Lib.decDigits an,dN sn,dN tn]:=by
 rw[Di]
 exact aM _ _ (by unfold Bf;decide) (by simp[dz,dH])
theorem yA (dn sn tn an:Nat)(hdn:dn<9223372036854775808)(hsn:sn<9223372036854775808)(htn:tn<9223372036854775808)(han:an<9223372036854775808):az (aj ⟨18,(dn:Nat),(sn:Nat),(tn:Nat),0,(an:Nat),0,0⟩)=⟨18,(dn:Nat),(sn:Nat),(tn:Nat),0,(an:Nat),0,0⟩:=by
 unfold az
 rw[aE _ (by rw[nW];simp),nW]
 have e:oQ (bG 18)=18:=by decide
 simp[bZ,e,dj,cg,dr,cP,cf,aJ dn hdn,aJ sn hsn,aJ tn htn,cj an han,aP.zero]
theorem Dh (dn sn tn un an:Nat):aj ⟨19,(dn:Nat),(sn:Nat),(tn:Nat),(un:Nat),(an:Nat),0,0⟩=bw (bG 19) [dN dn,Lib.decDigits an,dN sn,dN tn,dN un]:=by
 simp[aj,dj,ay,aN,aZ,aA,bw,dN]
theorem nV (dn sn tn un an:Nat):aq (aj ⟨19,(dn:Nat),(sn:Nat),(tn:Nat),(un:Nat),(an:Nat),0,0⟩)=bG 19 :: [dN dn,Lib.decDigits an,dN sn,dN tn,dN un]:=by
 rw[Dh]
 exact aM _ _ (by unfold Bf;decide) (by simp[dz,dH])
theorem yz (dn sn tn un an:Nat)(hdn:dn<9223372036854775808)(hsn:sn<9223372036854775808)(htn:tn<9223372036854775808)(hun:un<9223372036854775808)(han:an<9223372036854775808):az (aj ⟨19,(dn:Nat),(sn:Nat),(tn:Nat),(un:Nat),(an:Nat),0,0⟩)=⟨19,(dn:Nat),(sn:Nat),(tn:Nat),(un:Nat),(an:Nat),0,0⟩:=by
 unfold az
 rw[aE _ (by rw[nV];simp),nV]
 have e:oQ (bG 19)=19:=by decide
 simp[bZ,e,dj,cg,dr,cP,cf,aJ dn hdn,aJ sn hsn,aJ tn htn,aJ un hun,cj an han,aP.zero]
theorem Dg (dn sn an kn:Nat):aj ⟨20,(dn:Nat),(sn:Nat),0,0,(an:Nat),(kn:Nat),0⟩=bw (bG 20) [dN dn,Lib.decDigits an,dN sn,Lib.decDigits kn]:=by
 simp[aj,dj,ay,aN,aZ,aA,bw,dN]
theorem nU (dn sn an kn:Nat):aq (aj ⟨20,(dn:Nat),(sn:Nat),0,0,(an:Nat),(kn:Nat),0⟩)=bG 20 :: [dN dn,Lib.decDigits an,dN sn,Lib.decDigits kn]:=by
 rw[Dg]
 exact aM _ _ (by unfold Bf;decide) (by simp[dz,dH])
theorem yy (dn sn an kn:Nat)(hdn:dn<9223372036854775808)(hsn:sn<9223372036854775808)(han:an<9223372036854775808)(hkn:kn<9223372036854775808)(k1:kn<4294967296):az (aj ⟨20,(dn:Nat),(sn:Nat),0,0,(an:Nat),(kn:Nat),0⟩)=⟨20,(dn:Nat),(sn:Nat),0,0,(an:Nat),(kn:Nat),0⟩:=by
 unfold az
 rw[aE _ (by rw[nU];simp),nU]
 have e:oQ (bG 20)=20:=by decide
 simp[bZ,e,dj,cg,dr,cP,cf,aJ dn hdn,aJ sn hsn,cj an han,cj kn hkn,aP.zero]
 omega
theorem De (sn:Nat):aj ⟨23,0,(sn:Nat),0,0,0,0,0⟩=bw (bG 23) [dN sn]:=by
 simp[aj,dj,ay,aN,aZ,aA,bw,dN]
theorem nS (sn:Nat):aq (aj ⟨23,0,(sn:Nat),0,0,0,0,0⟩)=bG 23 :: [dN sn]:=by
 rw[De]
 exact aM _ _ (by unfold Bf;decide) (by simp[dz])
theorem yw (sn:Nat)(hsn:sn<9223372036854775808):az (aj ⟨23,0,(sn:Nat),0,0,0,0,0⟩)=⟨23,0,(sn:Nat),0,0,0,0,0⟩:=by
 unfold az
 rw[aE _ (by rw[nS];simp),nS]
 have e:oQ (bG 23)=23:=by decide
 simp[bZ,e,dj,cg,dr,cP,cf,aJ sn hsn,aP.zero]
theorem uZ (dn sn tn an pn:Nat):aj ⟨21,(dn:Nat),(sn:Nat),(tn:Nat),0,(an:Nat),0,(pn:Nat)⟩=bw (bG 21) [dN dn,Lib.decDigits an,dN sn,[101,113],dN tn,[101,108,115,101],Lib.decDigits pn]:=by
 have e:¬ ((pn:Int)=-1):=by omega
 simp[aj,dj,ay,aN,aZ,aA,bw,dN,e]
theorem gJ (dn sn tn an pn:Nat):aq (aj ⟨21,(dn:Nat),(sn:Nat),(tn:Nat),0,(an:Nat),0,(pn:Nat)⟩)=bG 21 :: [dN dn,Lib.decDigits an,dN sn,[101,113],dN tn,[101,108,115,101],Lib.decDigits pn]:=by
 rw[uZ dn sn tn an pn]
 refine aM _ _ (by unfold Bf;decide) ?_
 have b1:Bf [101,113]:=by unfold Bf;decide
 have b2:Bf [101,108,115,101]:=by unfold Bf;decide
 simp[dz,dH,b1,b2]
theorem qF (dn sn tn an pn:Nat)(hdn:dn<9223372036854775808)(hsn:sn<9223372036854775808)(htn:tn<9223372036854775808)(han:an<9223372036854775808)(hpn:pn<9223372036854775808):az (aj ⟨21,(dn:Nat),(sn:Nat),(tn:Nat),0,(an:Nat),0,(pn:Nat)⟩)=⟨21,(dn:Nat),(sn:Nat),(tn:Nat),0,(an:Nat),0,(pn:Nat)⟩:=by
 unfold az
 rw[aE _ (by rw[gJ dn sn tn an pn];simp),gJ dn sn tn an pn]
 have e:oQ (bG 21)=21:=by decide
 have v:ly [101,113]=0:=by decide
 simp[bZ,e,dj,cg,dr,cP,cf,aJ dn hdn,aJ sn hsn,aJ tn htn,cj an han,cj pn hpn,v,aP.zero]
theorem vb (dn sn tn an pn:Nat):aj ⟨21,(dn:Nat),(sn:Nat),(tn:Nat),0,(an:Nat),0,-1⟩=bw (bG 21) [dN dn,Lib.decDigits an,dN sn,[101,113],dN tn]:=by
 simp[aj,dj,ay,aN,aZ,aA,bw,dN]
theorem gK (dn sn tn an pn:Nat):aq (aj ⟨21,(dn:Nat),(sn:Nat),(tn:Nat),0,(an:Nat),0,-1⟩)=bG 21 :: [dN dn,Lib.decDigits an,dN sn,[101,113],dN tn]:=by
 rw[vb dn sn tn an pn]
 refine aM _ _ (by unfold Bf;decide) ?_
 have b1:Bf [101,113]:=by unfold Bf;decide
 simp[dz,dH,b1]
theorem qG (dn sn tn an pn:Nat)(hdn:dn<9223372036854775808)(hsn:sn<9223372036854775808)(htn:tn<9223372036854775808)(han:an<9223372036854775808)(hpn:pn<9223372036854775808):az (aj ⟨21,(dn:Nat),(sn:Nat),(tn:Nat),0,(an:Nat),0,-1⟩)=⟨21,(dn:Nat),(sn:Nat),(tn:Nat),0,(an:Nat),0,-1⟩:=by
 unfold az
 rw[aE _ (by rw[gK dn sn tn an pn];simp),gK dn sn tn an pn]
 have e:oQ (bG 21)=21:=by decide
 have v:ly [101,113]=0:=by decide
 simp[bZ,e,dj,cg,dr,cP,cf,aJ dn hdn,aJ sn hsn,aJ tn htn,cj an han,v,aP.zero]
theorem uX (dn sn tn an pn:Nat):aj ⟨21,(dn:Nat),(sn:Nat),(tn:Nat),0,(an:Nat),1,(pn:Nat)⟩=bw (bG 21) [dN dn,Lib.decDigits an,dN sn,[110,101],dN tn,[101,108,115,101],Lib.decDigits pn]:=by
 have e:¬ ((pn:Int)=-1):=by omega
 simp[aj,dj,ay,aN,aZ,aA,bw,dN,e]
theorem gH (dn sn tn an pn:Nat):aq (aj ⟨21,(dn:Nat),(sn:Nat),(tn:Nat),0,(an:Nat),1,(pn:Nat)⟩)=bG 21 :: [dN dn,Lib.decDigits an,dN sn,[110,101],dN tn,[101,108,115,101],Lib.decDigits pn]:=by
 rw[uX dn sn tn an pn]
 refine aM _ _ (by unfold Bf;decide) ?_
 have b1:Bf [110,101]:=by unfold Bf;decide
 have b2:Bf [101,108,115,101]:=by unfold Bf;decide
 simp[dz,dH,b1,b2]
theorem qD (dn sn tn an pn:Nat)(hdn:dn<9223372036854775808)(hsn:sn<9223372036854775808)(htn:tn<9223372036854775808)(han:an<9223372036854775808)(hpn:pn<9223372036854775808):az (aj ⟨21,(dn:Nat),(sn:Nat),(tn:Nat),0,(an:Nat),1,(pn:Nat)⟩)=⟨21,(dn:Nat),(sn:Nat),(tn:Nat),0,(an:Nat),1,(pn:Nat)⟩:=by
 unfold az
 rw[aE _ (by rw[gH dn sn tn an pn];simp),gH dn sn tn an pn]
 have e:oQ (bG 21)=21:=by decide
 have v:ly [110,101]=1:=by decide
 simp[bZ,e,dj,cg,dr,cP,cf,aJ dn hdn,aJ sn hsn,aJ tn htn,cj an han,cj pn hpn,v,aP.zero]
theorem uY (dn sn tn an pn:Nat):aj ⟨21,(dn:Nat),(sn:Nat),(tn:Nat),0,(an:Nat),1,-1⟩=bw (bG 21) [dN dn,Lib.decDigits an,dN sn,[110,101],dN tn]:=by
 simp[aj,dj,ay,aN,aZ,aA,bw,dN]
theorem gI (dn sn tn an pn:Nat):aq (aj ⟨21,(dn:Nat),(sn:Nat),(tn:Nat),0,(an:Nat),1,-1⟩)=bG 21 :: [dN dn,Lib.decDigits an,dN sn,[110,101],dN tn]:=by
 rw[uY dn sn tn an pn]
 refine aM _ _ (by unfold Bf;decide) ?_
 have b1:Bf [110,101]:=by unfold Bf;decide
 simp[dz,dH,b1]
theorem qE (dn sn tn an pn:Nat)(hdn:dn<9223372036854775808)(hsn:sn<9223372036854775808)(htn:tn<9223372036854775808)(han:an<9223372036854775808)(hpn:pn<9223372036854775808):az (aj ⟨21,(dn:Nat),(sn:Nat),(tn:Nat),0,(an:Nat),1,-1⟩)=⟨21,(dn:Nat),(sn:Nat),(tn:Nat),0,(an:Nat),1,-1⟩:=by
 unfold az
 rw[aE _ (by rw[gI dn sn tn an pn];simp),gI dn sn tn an pn]
 have e:oQ (bG 21)=21:=by decide
 have v:ly [110,101]=1:=by decide
 simp[bZ,e,dj,cg,dr,cP,cf,aJ dn hdn,aJ sn hsn,aJ tn htn,cj an han,v,aP.zero]
theorem sq (i:aP)(h:au i 1073741824=O)(k0:0<=i.k)(k1:i.k<4294967296):az (aj i)=i:=by
 obtain⟨hd,hs,ht,hu,ha⟩:=eJ i _ h
 obtain⟨op,d,s,t,u,a,k,pl⟩:=i
 simp only at hd hs ht hu ha k0 k1
 rcases cE op with rfl|rfl|rfl|rfl|rfl|rfl|rfl|rfl|rfl|rfl|rfl|rfl|rfl|rfl|rfl|rfl|rfl|rfl|rfl|rfl|rfl | hn
 ·skip
  have hr:=nd d s t u a k pl 1073741824 hd hs ht hu ha k0 k1
  rw[h] at hr
  simp[dd] at hr
  obtain⟨dn,rfl⟩:∃ n:Nat,d=n:=⟨d.toNat,by omega⟩
  obtain⟨sn,rfl⟩:∃ n:Nat,s=n:=⟨s.toNat,by omega⟩
  obtain⟨tn,rfl⟩:∃ n:Nat,t=n:=⟨t.toNat,by omega⟩
  obtain⟨un,rfl⟩:∃ n:Nat,u=n:=⟨u.toNat,by omega⟩
  obtain⟨an,rfl⟩:∃ n:Nat,a=n:=⟨a.toNat,by omega⟩
  obtain⟨kn,rfl⟩:∃ n:Nat,k=n:=⟨k.toNat,by omega⟩
  obtain rfl:sn=0:=by omega
  obtain rfl:tn=0:=by omega
  obtain rfl:un=0:=by omega
  obtain rfl:an=0:=by omega
  obtain rfl:pl=0:=by omega
  exact A3 dn kn (by omega) (by omega) (by omega)
 ·skip
  have hr:=m9 d s t u a k pl 1073741824 hd hs ht hu ha k0 k1
  rw[h] at hr
  simp[dd] at hr
  obtain⟨dn,rfl⟩:∃ n:Nat,d=n:=⟨d.toNat,by omega⟩
  obtain⟨sn,rfl⟩:∃ n:Nat,s=n:=⟨s.toNat,by omega⟩
  obtain⟨tn,rfl⟩:∃ n:Nat,t=n:=⟨t.toNat,by omega⟩
  obtain⟨un,rfl⟩:∃ n:Nat,u=n:=⟨u.toNat,by omega⟩
  obtain⟨an,rfl⟩:∃ n:Nat,a=n:=⟨a.toNat,by omega⟩
  obtain⟨kn,rfl⟩:∃ n:Nat,k=n:=⟨k.toNat,by omega⟩
  obtain rfl:tn=0:=by omega
  obtain rfl:un=0:=by omega
  obtain rfl:an=0:=by omega
  obtain rfl:kn=0:=by omega
  obtain rfl:pl=0:=by omega
  exact A2 dn sn (by omega) (by omega)
 ·skip
  have hr:=m8 d s t u a k pl 1073741824 hd hs ht hu ha k0 k1
  rw[h] at hr
  simp[dd] at hr
  obtain⟨dn,rfl⟩:∃ n:Nat,d=n:=⟨d.toNat,by omega⟩
  obtain⟨sn,rfl⟩:∃ n:Nat,s=n:=⟨s.toNat,by omega⟩
  obtain⟨tn,rfl⟩:∃ n:Nat,t=n:=⟨t.toNat,by omega⟩
  obtain⟨un,rfl⟩:∃ n:Nat,u=n:=⟨u.toNat,by omega⟩
  obtain⟨an,rfl⟩:∃ n:Nat,a=n:=⟨a.toNat,by omega⟩
  obtain⟨kn,rfl⟩:∃ n:Nat,k=n:=⟨k.toNat,by omega⟩
  obtain rfl:tn=0:=by omega
  obtain rfl:un=0:=by omega
  obtain rfl:an=0:=by omega
  obtain rfl:pl=0:=by omega
  exact A1 dn sn kn (by omega) (by omega) (by omega) (by omega)
 ·skip
  have hr:=m7 d s t u a k pl 1073741824 hd hs ht hu ha k0 k1
  rw[h] at hr
  simp[dd] at hr
  obtain⟨dn,rfl⟩:∃ n:Nat,d=n:=⟨d.toNat,by omega⟩
  obtain⟨sn,rfl⟩:∃ n:Nat,s=n:=⟨s.toNat,by omega⟩
  obtain⟨tn,rfl⟩:∃ n:Nat,t=n:=⟨t.toNat,by omega⟩
  obtain⟨un,rfl⟩:∃ n:Nat,u=n:=⟨u.toNat,by omega⟩
  obtain⟨an,rfl⟩:∃ n:Nat,a=n:=⟨a.toNat,by omega⟩
  obtain⟨kn,rfl⟩:∃ n:Nat,k=n:=⟨k.toNat,by omega⟩
  obtain rfl:tn=0:=by omega
  obtain rfl:un=0:=by omega
  obtain rfl:an=0:=by omega
  obtain rfl:pl=0:=by omega
  exact A0 dn sn kn (by omega) (by omega) (by omega) (by omega)
 ·skip
  have hr:=lf d s t u a k pl 1073741824 hd hs ht hu ha k0 k1
  rw[h] at hr
  simp[dd] at hr
  obtain⟨dn,rfl⟩:∃ n:Nat,d=n:=⟨d.toNat,by omega⟩
  obtain⟨sn,rfl⟩:∃ n:Nat,s=n:=⟨s.toNat,by omega⟩
  obtain⟨tn,rfl⟩:∃ n:Nat,t=n:=⟨t.toNat,by omega⟩
  obtain⟨un,rfl⟩:∃ n:Nat,u=n:=⟨u.toNat,by omega⟩
  obtain⟨an,rfl⟩:∃ n:Nat,a=n:=⟨a.toNat,by omega⟩
  obtain⟨kn,rfl⟩:∃ n:Nat,k=n:=⟨k.toNat,by omega⟩
  obtain rfl:tn=0:=by omega
  obtain rfl:un=0:=by omega
  obtain rfl:an=0:=by omega
  obtain rfl:pl=0:=by omega
  exact AZ dn sn kn (by omega) (by omega) (by omega) (by omega)
 ·skip
  have hr:=kZ d s t u a k pl 1073741824 hd hs ht hu ha k0 k1
  rw[h] at hr
  simp[dd] at hr
  obtain⟨dn,rfl⟩:∃ n:Nat,d=n:=⟨d.toNat,by omega⟩
  obtain⟨sn,rfl⟩:∃ n:Nat,s=n:=⟨s.toNat,by omega⟩
  obtain⟨tn,rfl⟩:∃ n:Nat,t=n:=⟨t.toNat,by omega⟩
  obtain⟨un,rfl⟩:∃ n:Nat,u=n:=⟨u.toNat,by omega⟩
  obtain⟨an,rfl⟩:∃ n:Nat,a=n:=⟨a.toNat,by omega⟩
  obtain⟨kn,rfl⟩:∃ n:Nat,k=n:=⟨k.toNat,by omega⟩
  obtain rfl:tn=0:=by omega
  obtain rfl:un=0:=by omega
  obtain rfl:an=0:=by omega
  obtain rfl:pl=0:=by omega
  exact AY dn sn kn (by omega) (by omega) (by omega) (by omega)
 ·skip
  have hr:=m6 d s t u a k pl 1073741824 hd hs ht hu ha k0 k1
  rw[h] at hr
  simp[dd] at hr
  obtain⟨dn,rfl⟩:∃ n:Nat,d=n:=⟨d.toNat,by omega⟩
  obtain⟨sn,rfl⟩:∃ n:Nat,s=n:=⟨s.toNat,by omega⟩
  obtain⟨tn,rfl⟩:∃ n:Nat,t=n:=⟨t.toNat,by omega⟩
  obtain⟨un,rfl⟩:∃ n:Nat,u=n:=⟨u.toNat,by omega⟩
  obtain⟨an,rfl⟩:∃ n:Nat,a=n:=⟨a.toNat,by omega⟩
  obtain⟨kn,rfl⟩:∃ n:Nat,k=n:=⟨k.toNat,by omega⟩
  obtain rfl:un=0:=by omega
  obtain rfl:an=0:=by omega
  obtain rfl:kn=0:=by omega
  obtain rfl:pl=0:=by omega
  exact AX dn sn tn (by omega) (by omega) (by omega)
 ·skip
  have hr:=mZ d s t u a k pl 1073741824 hd hs ht hu ha k0 k1
  rw[h] at hr
  simp[dd] at hr
  obtain⟨dn,rfl⟩:∃ n:Nat,d=n:=⟨d.toNat,by omega⟩
  obtain⟨sn,rfl⟩:∃ n:Nat,s=n:=⟨s.toNat,by omega⟩
  obtain⟨tn,rfl⟩:∃ n:Nat,t=n:=⟨t.toNat,by omega⟩
  obtain⟨un,rfl⟩:∃ n:Nat,u=n:=⟨u.toNat,by omega⟩
  obtain⟨an,rfl⟩:∃ n:Nat,a=n:=⟨a.toNat,by omega⟩
  obtain⟨kn,rfl⟩:∃ n:Nat,k=n:=⟨k.toNat,by omega⟩
  obtain rfl:dn=0:=by omega
  obtain rfl:un=0:=by omega
  obtain rfl:an=0:=by omega
  obtain rfl:kn=0:=by omega
  obtain⟨pn,rfl⟩:∃ n:Nat,pl=n:=⟨pl.toNat,by omega⟩
  exact AW sn tn pn (by omega) (by omega) (by omega)
 ·skip
  have hr:=mY d s t u a k pl 1073741824 hd hs ht hu ha k0 k1
  rw[h] at hr
  simp[dd] at hr
  obtain⟨dn,rfl⟩:∃ n:Nat,d=n:=⟨d.toNat,by omega⟩
  obtain⟨sn,rfl⟩:∃ n:Nat,s=n:=⟨s.toNat,by omega⟩
  obtain⟨tn,rfl⟩:∃ n:Nat,t=n:=⟨t.toNat,by omega⟩
  obtain⟨un,rfl⟩:∃ n:Nat,u=n:=⟨u.toNat,by omega⟩
  obtain⟨an,rfl⟩:∃ n:Nat,a=n:=⟨a.toNat,by omega⟩
  obtain⟨kn,rfl⟩:∃ n:Nat,k=n:=⟨k.toNat,by omega⟩
  obtain rfl:dn=0:=by omega
  obtain rfl:un=0:=by omega
  obtain rfl:an=0:=by omega
  obtain rfl:kn=0:=by omega
  obtain⟨pn,rfl⟩:∃ n:Nat,pl=n:=⟨pl.toNat,by omega⟩
  exact AV sn tn pn (by omega) (by omega) (by omega)
 ·skip
  have hr:=kN d s t u a k pl 1073741824 hd hs ht hu ha k0 k1
  rw[h] at hr
  simp[dd] at hr
  obtain⟨dn,rfl⟩:∃ n:Nat,d=n:=⟨d.toNat,by omega⟩
  obtain⟨sn,rfl⟩:∃ n:Nat,s=n:=⟨s.toNat,by omega⟩
  obtain⟨tn,rfl⟩:∃ n:Nat,t=n:=⟨t.toNat,by omega⟩
  obtain⟨un,rfl⟩:∃ n:Nat,u=n:=⟨u.toNat,by omega⟩
  obtain⟨an,rfl⟩:∃ n:Nat,a=n:=⟨a.toNat,by omega⟩
  obtain⟨kn,rfl⟩:∃ n:Nat,k=n:=⟨k.toNat,by omega⟩
  obtain rfl:dn=0:=by omega
  obtain rfl:sn=0:=by omega
  obtain rfl:tn=0:=by omega
  obtain rfl:un=0:=by omega
  obtain rfl:an=0:=by omega
  obtain rfl:kn=0:=by omega
  obtain⟨pn,rfl⟩:∃ n:Nat,pl=n:=⟨pl.toNat,by omega⟩
  exact yG pn (by omega)
 ·skip
  have hr:=kM d s t u a k pl 1073741824 hd hs ht hu ha k0 k1
  rw[h] at hr
  simp[dd] at hr
  obtain⟨dn,rfl⟩:∃ n:Nat,d=n:=⟨d.toNat,by omega⟩
  obtain⟨sn,rfl⟩:∃ n:Nat,s=n:=⟨s.toNat,by omega⟩
  obtain⟨tn,rfl⟩:∃ n:Nat,t=n:=⟨t.toNat,by omega⟩
  obtain⟨un,rfl⟩:∃ n:Nat,u=n:=⟨u.toNat,by omega⟩
  obtain⟨an,rfl⟩:∃ n:Nat,a=n:=⟨a.toNat,by omega⟩
  obtain⟨kn,rfl⟩:∃ n:Nat,k=n:=⟨k.toNat,by omega⟩
  obtain rfl:sn=0:=by omega
  obtain rfl:tn=0:=by omega
  obtain rfl:un=0:=by omega
  obtain rfl:an=0:=by omega
  obtain rfl:kn=0:=by omega
  obtain rfl:pl=0:=by omega
  exact yF dn (by omega)
 ·skip
  have hr:=jg d s t u a k pl 1073741824 hd hs ht hu ha k0 k1
  rw[h] at hr
  simp[dd] at hr
  obtain⟨dn,rfl⟩:∃ n:Nat,d=n:=⟨d.toNat,by omega⟩
  obtain⟨sn,rfl⟩:∃ n:Nat,s=n:=⟨s.toNat,by omega⟩
  obtain⟨tn,rfl⟩:∃ n:Nat,t=n:=⟨t.toNat,by omega⟩
  obtain⟨un,rfl⟩:∃ n:Nat,u=n:=⟨u.toNat,by omega⟩
  obtain⟨an,rfl⟩:∃ n:Nat,a=n:=⟨a.toNat,by omega⟩
  obtain⟨kn,rfl⟩:∃ n:Nat,k=n:=⟨k.toNat,by omega⟩
  obtain rfl:dn=0:=by omega
  obtain rfl:sn=0:=by omega
  obtain rfl:tn=0:=by omega
  obtain rfl:un=0:=by omega
  obtain rfl:an=0:=by omega
  obtain rfl:pl=0:=by omega
  exact yE kn (by omega) (by omega)
 ·skip
  have hr:=jf d s t u a k pl 1073741824 hd hs ht hu ha k0 k1
  rw[h] at hr
  simp[dd] at hr
  obtain⟨dn,rfl⟩:∃ n:Nat,d=n:=⟨d.toNat,by omega⟩
  obtain⟨sn,rfl⟩:∃ n:Nat,s=n:=⟨s.toNat,by omega⟩
  obtain⟨tn,rfl⟩:∃ n:Nat,t=n:=⟨t.toNat,by omega⟩
  obtain⟨un,rfl⟩:∃ n:Nat,u=n:=⟨u.toNat,by omega⟩
  obtain⟨an,rfl⟩:∃ n:Nat,a=n:=⟨a.toNat,by omega⟩
  obtain⟨kn,rfl⟩:∃ n:Nat,k=n:=⟨k.toNat,by omega⟩
  obtain rfl:dn=0:=by omega
  obtain rfl:sn=0:=by omega
  obtain rfl:tn=0:=by omega
  obtain rfl:un=0:=by omega
  obtain rfl:an=0:=by omega
  obtain rfl:pl=0:=by omega
  exact yD kn (by omega) (by omega)
 ·skip
  have hr:=kK d s t u a k pl 1073741824 hd hs ht hu ha k0 k1
  rw[h] at hr
  simp[dd] at hr
  obtain⟨dn,rfl⟩:∃ n:Nat,d=n:=⟨d.toNat,by omega⟩
  obtain⟨sn,rfl⟩:∃ n:Nat,s=n:=⟨s.toNat,by omega⟩
  obtain⟨tn,rfl⟩:∃ n:Nat,t=n:=⟨t.toNat,by omega⟩
  obtain⟨un,rfl⟩:∃ n:Nat,u=n:=⟨u.toNat,by omega⟩
  obtain⟨an,rfl⟩:∃ n:Nat,a=n:=⟨a.toNat,by omega⟩
  obtain⟨kn,rfl⟩:∃ n:Nat,k=n:=⟨k.toNat,by omega⟩
  obtain rfl:tn=0:=by omega
  obtain rfl:un=0:=by omega
  obtain rfl:kn=0:=by omega
  obtain rfl:pl=0:=by omega
  exact yC dn sn an (by omega) (by omega) (by omega)
 ·skip
  have hr:=kJ d s t u a k pl 1073741824 hd hs ht hu ha k0 k1
  rw[h] at hr
  simp[dd] at hr
  obtain⟨dn,rfl⟩:∃ n:Nat,d=n:=⟨d.toNat,by omega⟩
  obtain⟨sn,rfl⟩:∃ n:Nat,s=n:=⟨s.toNat,by omega⟩
  obtain⟨tn,rfl⟩:∃ n:Nat,t=n:=⟨t.toNat,by omega⟩
  obtain⟨un,rfl⟩:∃ n:Nat,u=n:=⟨u.toNat,by omega⟩
  obtain⟨an,rfl⟩:∃ n:Nat,a=n:=⟨a.toNat,by omega⟩
  obtain⟨kn,rfl⟩:∃ n:Nat,k=n:=⟨k.toNat,by omega⟩
  obtain rfl:dn=0:=by omega
  obtain rfl:un=0:=by omega
  obtain rfl:kn=0:=by omega
  obtain rfl:pl=0:=by omega
  exact yB sn tn an (by omega) (by omega) (by omega)
 ·skip
  have hr:=kI d s t u a k pl 1073741824 hd hs ht hu ha k0 k1
  rw[h] at hr
  simp[dd] at hr
  obtain⟨dn,rfl⟩:∃ n:Nat,d=n:=⟨d.toNat,by omega⟩
  obtain⟨sn,rfl⟩:∃ n:Nat,s=n:=⟨s.toNat,by omega⟩
  obtain⟨tn,rfl⟩:∃ n:Nat,t=n:=⟨t.toNat,by omega⟩
  obtain⟨un,rfl⟩:∃ n:Nat,u=n:=⟨u.toNat,by omega⟩
  obtain⟨an,rfl⟩:∃ n:Nat,a=n:=⟨a.toNat,by omega⟩
  obtain⟨kn,rfl⟩:∃ n:Nat,k=n:=⟨k.toNat,by omega⟩
  obtain rfl:un=0:=by omega
  obtain rfl:kn=0:=by omega
  obtain rfl:pl=0:=by omega
  exact yA dn sn tn an (by omega) (by omega) (by omega) (by omega)
 ·skip
  have hr:=kH d s t u a k pl 1073741824 hd hs ht hu ha k0 k1
  rw[h] at hr
  simp[dd] at hr
  obtain⟨dn,rfl⟩:∃ n:Nat,d=n:=⟨d.toNat,by omega⟩
  obtain⟨sn,rfl⟩:∃ n:Nat,s=n:=⟨s.toNat,by omega⟩
  obtain⟨tn,rfl⟩:∃ n:Nat,t=n:=⟨t.toNat,by omega⟩
  obtain⟨un,rfl⟩:∃ n:Nat,u=n:=⟨u.toNat,by omega⟩
  obtain⟨an,rfl⟩:∃ n:Nat,a=n:=⟨a.toNat,by omega⟩
  obtain⟨kn,rfl⟩:∃ n:Nat,k=n:=⟨k.toNat,by omega⟩
  obtain rfl:kn=0:=by omega
  obtain rfl:pl=0:=by omega
  exact yz dn sn tn un an (by omega) (by omega) (by omega) (by omega) (by omega)
 ·skip
  have hr:=kG d s t u a k pl 1073741824 hd hs ht hu ha k0 k1
  rw[h] at hr
  simp[dd] at hr
  obtain⟨dn,rfl⟩:∃ n:Nat,d=n:=⟨d.toNat,by omega⟩
  obtain⟨sn,rfl⟩:∃ n:Nat,s=n:=⟨s.toNat,by omega⟩
  obtain⟨tn,rfl⟩:∃ n:Nat,t=n:=⟨t.toNat,by omega⟩
  obtain⟨un,rfl⟩:∃ n:Nat,u=n:=⟨u.toNat,by omega⟩
  obtain⟨an,rfl⟩:∃ n:Nat,a=n:=⟨a.toNat,by omega⟩
  obtain⟨kn,rfl⟩:∃ n:Nat,k=n:=⟨k.toNat,by omega⟩
  obtain rfl:tn=0:=by omega
  obtain rfl:un=0:=by omega
  obtain rfl:pl=0:=by omega
  exact yy dn sn an kn (by omega) (by omega) (by omega) (by omega) (by omega)
 ·skip
  have hr:=ic d s t u a k pl 1073741824 hd hs ht hu ha k0 k1
  rw[h] at hr
  simp[dd] at hr
  obtain⟨dn,rfl⟩:∃ n:Nat,d=n:=⟨d.toNat,by omega⟩
  obtain⟨sn,rfl⟩:∃ n:Nat,s=n:=⟨s.toNat,by omega⟩
  obtain⟨tn,rfl⟩:∃ n:Nat,t=n:=⟨t.toNat,by omega⟩
  obtain⟨un,rfl⟩:∃ n:Nat,u=n:=⟨u.toNat,by omega⟩
  obtain⟨an,rfl⟩:∃ n:Nat,a=n:=⟨a.toNat,by omega⟩
  obtain⟨kn,rfl⟩:∃ n:Nat,k=n:=⟨k.toNat,by omega⟩
  obtain rfl:un=0:=by omega
  by_cases hm:pl=-1
  ·subst hm
   by_cases hk:kn=0
   ·subst hk;exact qG dn sn tn an 0 (by omega) (by omega) (by omega) (by omega) (by omega)
   ·obtain rfl:kn=1:=by omega
    exact qE dn sn tn an 0 (by omega) (by omega) (by omega) (by omega) (by omega)
  ·obtain⟨pn,rfl⟩:∃ n:Nat,pl=n:=⟨pl.toNat,by omega⟩
   by_cases hk:kn=0
   ·subst hk;exact qF dn sn tn an pn (by omega) (by omega) (by omega) (by omega) (by omega)
   ·obtain rfl:kn=1:=by omega
    exact qD dn sn tn an pn (by omega) (by omega) (by omega) (by omega) (by omega)
 ·skip
  have hr:=kF d s t u a k pl 1073741824 hd hs ht hu ha k0 k1
  rw[h] at hr
  simp[dd] at hr
  obtain⟨dn,rfl⟩:∃ n:Nat,d=n:=⟨d.toNat,by omega⟩
  obtain⟨sn,rfl⟩:∃ n:Nat,s=n:=⟨s.toNat,by omega⟩
  obtain⟨tn,rfl⟩:∃ n:Nat,t=n:=⟨t.toNat,by omega⟩
  obtain⟨un,rfl⟩:∃ n:Nat,u=n:=⟨u.toNat,by omega⟩
  obtain⟨an,rfl⟩:∃ n:Nat,a=n:=⟨a.toNat,by omega⟩
  obtain⟨kn,rfl⟩:∃ n:Nat,k=n:=⟨k.toNat,by omega⟩
  obtain rfl:sn=0:=by omega
  obtain rfl:tn=0:=by omega
  obtain rfl:un=0:=by omega
  obtain rfl:an=0:=by omega
  obtain rfl:kn=0:=by omega
  obtain rfl:pl=0:=by omega
  exact yx dn (by omega)
 ·skip
  have hr:=kE d s t u a k pl 1073741824 hd hs ht hu ha k0 k1
  rw[h] at hr
  simp[dd] at hr
  obtain⟨dn,rfl⟩:∃ n:Nat,d=n:=⟨d.toNat,by omega⟩
  obtain⟨sn,rfl⟩:∃ n:Nat,s=n:=⟨s.toNat,by omega⟩
  obtain⟨tn,rfl⟩:∃ n:Nat,t=n:=⟨t.toNat,by omega⟩
  obtain⟨un,rfl⟩:∃ n:Nat,u=n:=⟨u.toNat,by omega⟩
  obtain⟨an,rfl⟩:∃ n:Nat,a=n:=⟨a.toNat,by omega⟩
  obtain⟨kn,rfl⟩:∃ n:Nat,k=n:=⟨k.toNat,by omega⟩
  obtain rfl:dn=0:=by omega
  obtain rfl:tn=0:=by omega
  obtain rfl:un=0:=by omega
  obtain rfl:an=0:=by omega
  obtain rfl:kn=0:=by omega
  obtain rfl:pl=0:=by omega
  exact yw sn (by omega)
 ·exfalso
  unfold au at h
  simp only[(dE hn).1] at h
  cases h
theorem uN (i:aP)(h:au i 1073741824=O)(k0:0<=i.k)(k1:i.k<4294967296):ke (aj i)=O/\az (aj i)=i:=by
 have e:=sq i h k0 k1
 refine⟨?_,e⟩
 unfold ke
 rw[e,h]
 simp
end
section
open Go.ChangeShapes Go.WideShapes Go.ChangeAt Go.RowKit
def jL (s:List UInt8):Int:=
 if s.length=2/\(s.getD 0 0).toNat=114/\48<=(s.getD 1 0).toNat/\(s.getD 1 0).toNat<=55 then ((s.getD 1 0).toNat:Int)-48 else -1
theorem xF (s:List UInt8)(hl:s.length<100000)(w:World):
 Calls Tryz.prog 156 #[bs s] w fun e w'=>e=.returned (I Q (jL s))/\w=w':=by
 have E:jL s=if s.length=2/\(s.getD 0 0).toNat=114/\48<=(s.getD 1 0).toNat/\(s.getD 1 0).toNat<=55 then ((s.getD 1 0).toNat:Int)-48 else -1:=rfl
 generalize jL s=r at *
 unfold bs
 by_cases h2:s.length=2
 ·have i0:∀ w,(Instr.index 9 (.string ⟨s.toArray⟩) (I Q 0)).run Tryz.prog w=.ok (I .u8 ((s.getD 0 0).toNat:Int)) w:=eQ s 0 (by omega)
  have i1:∀ w,(Instr.index 9 (.string ⟨s.toArray⟩) (I Q 1)).run Tryz.prog w=.ok (I .u8 ((s.getD 1 0).toNat:Int)) w:=eQ s 1 (by omega)
  generalize (s.getD 0 0).toNat=x at *
  generalize (s.getD 1 0).toNat=y at *
  have dl:((s.length:Int) != 2)=N:=by simp;omega
  by_cases h1:x=114
  ·subst h1
   by_cases h3:y<48
   ·have HE:=Z (E.trans (if_neg (by omega)))
    clear E h2
    have d:(y:Int)<48:=by omega
    have d0:((114:Nat):Int)=114:=rfl
    rw[d0] at i0
    clear d0
    go_enter Tryz.func156,Tryz.ntmps156
    go_wp2
    go_ret
    exact⟨cz HE.out.symm,rfl⟩
   have d0:((114:Nat):Int)=114:=rfl
   rw[d0] at i0
   clear d0
   by_cases h4:55<y
   ·have HE:=Z (E.trans (if_neg (by omega)))
    clear E h2
    have d:decide ((y:Int)<48)=N:=by simp;omega
    have d2:(y:Int) > 55:=by omega
    go_enter Tryz.func156,Tryz.ntmps156
    go_wp2
    go_ret
    exact⟨cz HE.out.symm,rfl⟩
   ·have HE:=Z (E.trans (if_pos (by omega)))
    clear E h2
    have d:decide ((y:Int)<48)=N:=by simp;omega
    have d2:decide ((y:Int) > 55)=N:=by simp;omega
    have d3:48<=(y:Int):=by omega
    have d4:(y:Int)<=55:=by omega
    go_enter Tryz.func156,Tryz.ntmps156
    go_wp2
    go_ret
    exact⟨cz HE.out.symm,rfl⟩
  ·have HE:=Z (E.trans (if_neg (by omega)))
   clear E h2
   have d:((x:Int) != 114)=O:=by simp;omega
   go_enter Tryz.func156,Tryz.ntmps156
   go_wp2
   go_ret
   exact⟨cz HE.out.symm,rfl⟩
 ·have HE:=Z (E.trans (if_neg (by omega)))
  have d:((s.length:Int) != 2)=O:=by simp;omega
  clear E
  go_enter Tryz.func156,Tryz.ntmps156
  go_wp2
  go_ret
  exact⟨cz HE.out.symm,rfl⟩
def dD (acc:Int):List UInt8->Option Int
 | []=>some acc
 | c :: r=>if 48<=c.toNat/\c.toNat<=57 then dD (acc*10+((c.toNat:Int)-48)) r else none
def rI:Option Int->Int
 | none=>-1
 | some n=>if 4294967295<n then -1 else n
def mp (s:List UInt8):Int:=
 if s=[]\/10<s.length\/(1<s.length/\(s.getD 0 0).toNat=48) then -1 else rI (dD 0 s)
theorem qC (acc:Int)(s:List UInt8)(k:Nat)(h:k<s.length):
 dD acc (s.drop k)=if 48<=(s.getD k 0).toNat/\(s.getD k 0).toNat<=57 then dD (acc*10+(((s.getD k 0).toNat:Int)-48)) (s.drop (k+1)) else none:=by
 rw[List.drop_eq_getElem_cons h]
 simp[dD,h]
def zY:Nat->Int
 | 0=>1
 | n+1=>zY n*10
theorem Cy:∀ k,k<=10->1<=zY k/\zY k<=10000000000:=by
 intro k hk
 have:k=0\/k=1\/k=2\/k=3\/k=4\/k=5\/k=6\/k=7\/k=8\/k=9\/k=10:=by omega
 rcases this with rfl|rfl|rfl|rfl|rfl|rfl|rfl|rfl|rfl|rfl|rfl <;> decide
theorem CL (s:List UInt8)(hl:s.length<100000)(w:World):
 Calls Tryz.prog 157 #[bs s] w fun e w'=>e=.returned (I Q (mp s))/\w=w':=by
 have E:mp s=if s=[]\/10<s.length\/(1<s.length/\(s.getD 0 0).toNat=48) then -1 else rI (dD 0 s):=rfl
 generalize mp s=r at *
 by_cases h0:s=[]
 ·subst h0
  have HE:=Z (E.trans (if_pos (.inl rfl)))
  clear E
  unfold bs
  go_enter Tryz.func157,Tryz.ntmps157
  go_wp2
  go_ret
  exact⟨cz HE.out.symm,rfl⟩
 have he:s.isEmpty=N:=by simpa using h0
 have hpos:0<s.length:=List.length_pos_iff.2 h0
 by_cases h10:10<s.length
 ·have HE:=Z (E.trans (if_pos (.inr (.inl h10))))
  have d:(s.length:Int) > 10:=by omega
  clear E h0
  unfold bs
  go_enter Tryz.func157,Tryz.ntmps157
  go_wp2
  go_ret
  exact⟨cz HE.out.symm,rfl⟩
 have d10:decide ((s.length:Int) > 10)=N:=by simp;omega
 have i0:∀ w,(Instr.index 9 (.string ⟨s.toArray⟩) (I Q 0)).run Tryz.prog w=.ok (I .u8 ((s.getD 0 0).toNat:Int)) w:=eQ s 0 hpos
 by_cases h1:1<s.length/\(s.getD 0 0).toNat=48
 ·have HE:=Z (E.trans (if_pos (.inr (.inr h1))))
  obtain⟨h1,h48⟩:=h1
  rw[h48] at i0
  have d0:((48:Nat):Int)=48:=rfl
  rw[d0] at i0
  clear d0
  have d:(s.length:Int) > 1:=by omega
  clear E h0 h48
  unfold bs
  go_enter Tryz.func157,Tryz.ntmps157
  go_wp2
  go_ret
  exact⟨cz HE.out.symm,rfl⟩
 have E2:r=rI (dD 0 s):=E.trans (if_neg (by
  rintro(h | h | h)
  ·exact h0 h
  ·exact h10 h
  ·exact h1 h))
 have HE:=Z E2
 clear E E2
 have HK:=Z (Cy)
 generalize (s.getD 0 0).toNat=c0 at *
 unfold bs
 have hgo:∀ (K:Prop),((decide ((s.length:Int) > 1)=N->K)/\(decide ((s.length:Int) > 1)=O->((c0:Int)==48)=N->K))->K:=by
  intro K hK
  by_cases h:s.length=1
  ·exact hK.1 (by simp;omega)
  ·have:c0≠48:=fun e=>h1 ⟨by omega,e⟩
   exact hK.2 (by simp;omega) (by simp;omega)
 refine hgo _ ⟨fun hd1=>?_,fun hd1 hd2=>?_⟩
 all_goals
  clear hgo h0 h1
  go_enter Tryz.func157,Tryz.ntmps157
  go_wp2
  go_loop [3,4] (fun n i=>∃ (k:Nat) (v:Int),k<=s.length/\i=I Q k/\n=I Q v/\0<=v/\v<zY k/\r=rI (dD v (s.drop k))) (fun _ i=>s.length-(intOf i).toNat)
  case atStart=>exact⟨0,0,Nat.zero_le _,rfl,rfl,by omega,by decide,HE.out⟩
  case round=>
   obtain⟨k,v,hk,rfl,rfl,v0,v1,hr⟩:=hrel
   obtain⟨q0,q1⟩:=HK.out k (by omega)
   by_cases hlt:k<s.length
   ·have ix:=eQ s k hlt
    rw[qC v s k hlt] at hr
    have hrf:zY (k+1)=zY k*10:=rfl
    have hu:=(s.getD k 0).toNat_lt
    generalize (s.getD k 0).toNat=c at *
    have HR:=Z hr
    have HF:=Z hrf
    clear hr hrf
    by_cases c1:c<48
    ·rw[if_neg (by omega)] at HR
     have d1:(c:Int)<48:=by omega
     go_wp2
     go_ret
     exact⟨cz HR.out.symm,rfl⟩
    by_cases c2:57<c
    ·rw[if_neg (by omega)] at HR
     have d1:decide ((c:Int)<48)=N:=by simp;omega
     have d2:(c:Int) > 57:=by omega
     go_wp2
     go_ret
     exact⟨cz HR.out.symm,rfl⟩
    ·rw[if_pos (by omega)] at HR
     have d1:decide ((c:Int)<48)=N:=by simp;omega
     have d2:decide ((c:Int) > 57)=N:=by simp;omega
     have d3:48<=(c:Int):=by omega
     have d4:(c:Int)<=57:=by omega
     have hv9:v<10000000000:=by omega
     have hk10:(k:Int)<=10:=by omega
     go_wp2
     go_round
     case rel=>exact⟨k+1,v*10+((c:Int)-48),by omega,by go_num,rfl,by omega,by rw[HF.out];omega,HR.out⟩
     case measure=>simp[intOf];omega
   ·obtain rfl:k=s.length:=by omega
    rw[List.drop_length] at hr
    have HR:=Z (show r=if 4294967295<v then -1 else v from hr)
    clear hr
    by_cases hv:4294967295<v
    ·rw[if_pos hv] at HR
     go_wp2
     go_ret
     exact⟨cz HR.out.symm,rfl⟩
    ·rw[if_neg hv] at HR
     go_wp2
     go_ret
     exact⟨cz HR.out.symm,rfl⟩
end
section
def fe (w:List UInt8):Nat->Int
 | 0=>0
 | n+1=>if (bG ((n:Int)+1)).isEmpty=N/\bG ((n:Int)+1)=w then (n:Int)+1 else fe w n
def lD (w:List UInt8):Bool:=decide (0<=jL w) || (decide (0<=mp w) || (decide (w=[110,101]) || (decide (w=[101,113]) || decide (w=[101,108,115,101]))))
def iZ (w:List UInt8):List Int:=if 0<=jL w then [jL w] else []
def i8 (w:List UInt8):List Int:=if 0<=jL w then [] else if 0<=mp w then [mp w] else []
def mq (w:List UInt8):Bool:=!decide (0<=jL w) && (!decide (0<=mp w) && decide (w=[110,101]))
def bH (l:List (List UInt8)):List Int:=l.flatMap iZ
def bY (l:List (List UInt8)):List Int:=l.flatMap i8
def mN (l:List (List UInt8)):Int:=if l.any mq=O then 1 else 0
def cG (n:Nat)(v:Int)(l:List Int):List Int:=l++List.replicate (n-l.length) v
def da (op:Int)(rs ns:List Int)(k:Int):aP:=
 if op=1\/op=3\/op=4\/op=5\/op=6 then ⟨op,aG rs 0,aG rs 1,aG rs 2,0,0,aG ns 0 % 4294967296,0⟩
 else if op=2\/op=7\/op=11\/op=22 then ⟨op,aG rs 0,aG rs 1,aG rs 2,0,0,k,0⟩
 else if op=8\/op=9\/op=10 then ⟨op,0,aG rs 0,aG rs 1,0,0,k,aG ns 0⟩
 else if op=12\/op=13 then ⟨op,0,0,0,0,0,aG ns 0 % 4294967296,0⟩
 else if op=16\/op=18\/op=19 then ⟨op,aG rs 0,aG rs 1,aG rs 2,aG rs 3,aG ns 0,k,0⟩
 else if op=20 then ⟨op,aG rs 0,aG rs 1,aG rs 2,aG rs 3,aG ns 0,aG ns 1 % 4294967296,0⟩
 else if op=21 then ⟨op,aG rs 0,aG rs 1,aG rs 2,aG rs 3,aG ns 0,k,aG ns 1⟩
 else if op=17 then ⟨op,0,aG rs 0,aG rs 1,0,aG ns 0,k,0⟩
 else if op=23 then ⟨op,0,aG rs 0,0,0,0,k,0⟩
 else ⟨op,0,0,0,0,0,k,0⟩
def aF (ws:List (List UInt8)):aP:=da (fe (ws.getD 0 []) 23) (cG 4 0 (bH ws.tail)) (cG 2 (-1) (bY ws.tail)) (mN ws.tail)
def lp (s:List UInt8):Bool:=(aq s).tail.all lD && (au (aF (aq s)) 1073741824 && decide (aj (aF (aq s))=s))
theorem ml:∀ (a b:List UInt8) (acc u:Int),dD acc a=some u->dD acc (a++b)=dD u b
 | [],b,acc,u,h=>by simp[dD] at h;subst h;rfl
 | c :: a,b,acc,u,h=>by
  simp only[dD,List.cons_append] at h ⊢
  split at h
  ·rename_i h1
   rw[if_pos h1]
   exact ml a b _ u h
  ·cases h
theorem sA:∀ (n:Nat),dD 0 (Lib.decDigits n)=some (n:Int):=by
 intro n
 induction n using Nat.strongRecOn with
 | _ n ih=>
  rw[Lib.decDigits]
  by_cases h:n<10
  ·rw[dif_pos h]
   have e:(UInt8.ofNat (48+n)).toNat=48+n:=by rw[UInt8.toNat_ofNat',Nat.mod_eq_of_lt (by omega)]
   simp only[dD,e]
   rw[if_pos (by omega)]
   congr 1
   omega
  ·rw[dif_neg h,ml _ _ _ _ (ih (n / 10) (by omega))]
   have e:(UInt8.ofNat (48+n % 10)).toNat=48+n % 10:=by rw[UInt8.toNat_ofNat',Nat.mod_eq_of_lt (by omega)]
   simp only[dD,e]
   rw[if_pos (by omega)]
   congr 1
   omega
theorem yQ:∀ (m n:Nat),n<10 ^ (m+1)->(Lib.decDigits n).length<=m+1:=by
 intro m
 induction m with
 | zero=>intro n h;rw[Lib.decDigits,dif_pos (by simpa using h)];simp
 | succ m ih=>
  intro n h
  rw[Lib.decDigits]
  by_cases h9:n<10
  ·rw[dif_pos h9];simp
  ·rw[dif_neg h9]
   have h2:n / 10<10 ^ (m+1):=by
    rw[Nat.div_lt_iff_lt_mul (by decide)]
    rw[Nat.pow_succ] at h
    exact h
   have:=ih _ h2
   simp
   omega
theorem CW (n:Nat)(h:n<4294967296):mp (Lib.decDigits n)=n:=by
 have hf:=sA n
 have hl:=yQ 9 n (by
  have:(10:Nat) ^ (9+1)=10000000000:=by decide
  omega)
 obtain⟨c,r,e,h1,h2,h3⟩:=ji n
 have h10:1<(Lib.decDigits n).length->10<=n:=by
  intro hh
  by_cases hn:n<10
  ·rw[Lib.decDigits,dif_pos hn] at hh;simp at hh
  ·omega
 unfold mp
 rw[if_neg,hf]
 ·show (if 4294967295<(n:Int) then -1 else (n:Int))=n
  rw[if_neg (by omega)]
 ·rintro(hh | hh | ⟨hh,hz⟩)
  ·rw[e] at hh;cases hh
  ·omega
  ·have:=h3 (h10 hh)
   rw[e] at hz
   simp at hz
   omega
theorem CA (n:Nat):jL (Lib.decDigits n)=-1:=by
 obtain⟨c,r,e,h1,h2,-⟩:=ji n
 unfold jL
 rw[if_neg]
 rintro⟨-,hh,-⟩
 rw[e] at hh
 simp at hh
 omega
theorem Cz (n:Nat)(h:n<=7):jL (dN n)=n:=by
 unfold dN
 rw[Lib.decDigits,dif_pos (by omega)]
 have e:(UInt8.ofNat (48+n)).toNat=48+n:=by rw[UInt8.toNat_ofNat',Nat.mod_eq_of_lt (by omega)]
 unfold jL
 rw[if_pos]
 ·simp only[List.getD_cons_succ,List.getD_cons_zero,e];omega
 ·refine⟨rfl,rfl,?_⟩
  simp only[List.getD_cons_succ,List.getD_cons_zero,e]
  omega
theorem bK (n:Nat)(h:n<=7):lD (dN n)=O/\iZ (dN n)=[(n:Int)]/\i8 (dN n)=[]/\mq (dN n)=N:=by
 have e:=Cz n h
 unfold lD iZ i8 mq
 rw[e]
 have h0:(0:Int)<=(n:Int):=by omega
 simp[h0]
theorem em (n:Nat)(h:n<4294967296):lD (Lib.decDigits n)=O/\iZ (Lib.decDigits n)=[]/\i8 (Lib.decDigits n)=[(n:Int)]/\mq (Lib.decDigits n)=N:=by
 have e:=CW n h
 have e2:=CA n
 unfold lD iZ i8 mq
 rw[e,e2]
 have h0:(0:Int)<=(n:Int):=by omega
 simp[h0]
theorem Gy:lD [101,113]=O/\iZ [101,113]=[]/\i8 [101,113]=[]/\mq [101,113]=N:=by decide
theorem Gx:lD [110,101]=O/\iZ [110,101]=[]/\i8 [110,101]=[]/\mq [110,101]=O:=by decide
theorem rD:lD [101,108,115,101]=O/\iZ [101,108,115,101]=[]/\i8 [101,108,115,101]=[]/\mq [101,108,115,101]=N:=by decide
theorem yP (dn kn:Nat)(hdn:dn<=7)(hkn:kn<4294967296):(aq (aj ⟨1,(dn:Nat),0,0,0,0,(kn:Nat),0⟩)).tail.all lD=O/\aF (aq (aj ⟨1,(dn:Nat),0,0,0,0,(kn:Nat),0⟩))=⟨1,(dn:Nat),0,0,0,0,(kn:Nat),0⟩:=by
 obtain⟨adn,bdn,cdn,ddn⟩:=bK dn hdn
 obtain⟨akn,bkn,ckn,dkn⟩:=em kn hkn
 rw[qS]
 have e:fe (bG 1) 23=1:=by decide
 refine⟨by simp[adn,akn],?_⟩
 simp[aF,e,bH,bY,bdn,cdn,bkn,ckn,cG,da,aG]
 omega
theorem yO (dn sn:Nat)(hdn:dn<=7)(hsn:sn<=7):(aq (aj ⟨2,(dn:Nat),(sn:Nat),0,0,0,0,0⟩)).tail.all lD=O/\aF (aq (aj ⟨2,(dn:Nat),(sn:Nat),0,0,0,0,0⟩))=⟨2,(dn:Nat),(sn:Nat),0,0,0,0,0⟩:=by
 obtain⟨adn,bdn,cdn,ddn⟩:=bK dn hdn
 obtain⟨asn,bsn,csn,dsn⟩:=bK sn hsn
 rw[qR]
 have e:fe (bG 2) 23=2:=by decide
 refine⟨by simp[adn,asn],?_⟩
 simp[aF,e,bH,mN,bdn,ddn,bsn,dsn,cG,da,aG]
theorem yN (dn sn kn:Nat)(hdn:dn<=7)(hsn:sn<=7)(hkn:kn<4294967296):(aq (aj ⟨3,(dn:Nat),(sn:Nat),0,0,0,(kn:Nat),0⟩)).tail.all lD=O/\aF (aq (aj ⟨3,(dn:Nat),(sn:Nat),0,0,0,(kn:Nat),0⟩))=⟨3,(dn:Nat),(sn:Nat),0,0,0,(kn:Nat),0⟩:=by
 obtain⟨adn,bdn,cdn,ddn⟩:=bK dn hdn
 obtain⟨asn,bsn,csn,dsn⟩:=bK sn hsn
 obtain⟨akn,bkn,ckn,dkn⟩:=em kn hkn
 rw[qQ]
 have e:fe (bG 3) 23=3:=by decide
 refine⟨by simp[adn,asn,akn],?_⟩
 simp[aF,e,bH,bY,bdn,cdn,bsn,csn,bkn,ckn,cG,da,aG]
 omega
theorem yM (dn sn kn:Nat)(hdn:dn<=7)(hsn:sn<=7)(hkn:kn<4294967296):(aq (aj ⟨4,(dn:Nat),(sn:Nat),0,0,0,(kn:Nat),0⟩)).tail.all lD=O/\aF (aq (aj ⟨4,(dn:Nat),(sn:Nat),0,0,0,(kn:Nat),0⟩))=⟨4,(dn:Nat),(sn:Nat),0,0,0,(kn:Nat),0⟩:=by
 obtain⟨adn,bdn,cdn,ddn⟩:=bK dn hdn
 obtain⟨asn,bsn,csn,dsn⟩:=bK sn hsn
 obtain⟨akn,bkn,ckn,dkn⟩:=em kn hkn
 rw[qP]
 have e:fe (bG 4) 23=4:=by decide
 refine⟨by simp[adn,asn,akn],?_⟩
 simp[aF,e,bH,bY,bdn,cdn,bsn,csn,bkn,ckn,cG,da,aG]
 omega
theorem yL (dn sn kn:Nat)(hdn:dn<=7)(hsn:sn<=7)(hkn:kn<4294967296):(aq (aj ⟨5,(dn:Nat),(sn:Nat),0,0,0,(kn:Nat),0⟩)).tail.all lD=O/\aF (aq (aj ⟨5,(dn:Nat),(sn:Nat),0,0,0,(kn:Nat),0⟩))=⟨5,(dn:Nat),(sn:Nat),0,0,0,(kn:Nat),0⟩:=by
 obtain⟨adn,bdn,cdn,ddn⟩:=bK dn hdn
 obtain⟨asn,bsn,csn,dsn⟩:=bK sn hsn
 obtain⟨akn,bkn,ckn,dkn⟩:=em kn hkn
 rw[qO]
 have e:fe (bG 5) 23=5:=by decide
 refine⟨by simp[adn,asn,akn],?_⟩
 simp[aF,e,bH,bY,bdn,cdn,bsn,csn,bkn,ckn,cG,da,aG]
 omega
theorem yK (dn sn kn:Nat)(hdn:dn<=7)(hsn:sn<=7)(hkn:kn<4294967296):(aq (aj ⟨6,(dn:Nat),(sn:Nat),0,0,0,(kn:Nat),0⟩)).tail.all lD=O/\aF (aq (aj ⟨6,(dn:Nat),(sn:Nat),0,0,0,(kn:Nat),0⟩))=⟨6,(dn:Nat),(sn:Nat),0,0,0,(kn:Nat),0⟩:=by
 obtain⟨adn,bdn,cdn,ddn⟩:=bK dn hdn
 obtain⟨asn,bsn,csn,dsn⟩:=bK sn hsn
 obtain⟨akn,bkn,ckn,dkn⟩:=em kn hkn
 rw[qN]
 have e:fe (bG 6) 23=6:=by decide
 refine⟨by simp[adn,asn,akn],?_⟩
 simp[aF,e,bH,bY,bdn,cdn,bsn,csn,bkn,ckn,cG,da,aG]
 omega
theorem yJ (dn sn tn:Nat)(hdn:dn<=7)(hsn:sn<=7)(htn:tn<=7):(aq (aj ⟨7,(dn:Nat),(sn:Nat),(tn:Nat),0,0,0,0⟩)).tail.all lD=O/\aF (aq (aj ⟨7,(dn:Nat),(sn:Nat),(tn:Nat),0,0,0,0⟩))=⟨7,(dn:Nat),(sn:Nat),(tn:Nat),0,0,0,0⟩:=by
 obtain⟨adn,bdn,cdn,ddn⟩:=bK dn hdn
 obtain⟨asn,bsn,csn,dsn⟩:=bK sn hsn
 obtain⟨atn,btn,ctn,dtn⟩:=bK tn htn
 rw[qM]
 have e:fe (bG 7) 23=7:=by decide
 refine⟨by simp[adn,asn,atn],?_⟩
 simp[aF,e,bH,mN,bdn,ddn,bsn,dsn,btn,dtn,cG,da,aG]
theorem yI (sn tn pn:Nat)(hsn:sn<=7)(htn:tn<=7)(hpn:pn<4294967296):(aq (aj ⟨8,0,(sn:Nat),(tn:Nat),0,0,0,(pn:Nat)⟩)).tail.all lD=O/\aF (aq (aj ⟨8,0,(sn:Nat),(tn:Nat),0,0,0,(pn:Nat)⟩))=⟨8,0,(sn:Nat),(tn:Nat),0,0,0,(pn:Nat)⟩:=by
 obtain⟨asn,bsn,csn,dsn⟩:=bK sn hsn
 obtain⟨atn,btn,ctn,dtn⟩:=bK tn htn
 obtain⟨apn,bpn,cpn,dpn⟩:=em pn hpn
 rw[qL]
 have e:fe (bG 8) 23=8:=by decide
 refine⟨by simp[asn,atn,apn],?_⟩
 simp[aF,e,bH,bY,mN,bsn,csn,dsn,btn,ctn,dtn,bpn,cpn,dpn,cG,da,aG]
theorem yH (sn tn pn:Nat)(hsn:sn<=7)(htn:tn<=7)(hpn:pn<4294967296):(aq (aj ⟨9,0,(sn:Nat),(tn:Nat),0,0,0,(pn:Nat)⟩)).tail.all lD=O/\aF (aq (aj ⟨9,0,(sn:Nat),(tn:Nat),0,0,0,(pn:Nat)⟩))=⟨9,0,(sn:Nat),(tn:Nat),0,0,0,(pn:Nat)⟩:=by
 obtain⟨asn,bsn,csn,dsn⟩:=bK sn hsn
 obtain⟨atn,btn,ctn,dtn⟩:=bK tn htn
 obtain⟨apn,bpn,cpn,dpn⟩:=em pn hpn
 rw[qK]
 have e:fe (bG 9) 23=9:=by decide
 refine⟨by simp[asn,atn,apn],?_⟩
 simp[aF,e,bH,bY,mN,bsn,csn,dsn,btn,ctn,dtn,bpn,cpn,dpn,cG,da,aG]
theorem vx (pn:Nat)(hpn:pn<4294967296):(aq (aj ⟨10,0,0,0,0,0,0,(pn:Nat)⟩)).tail.all lD=O/\aF (aq (aj ⟨10,0,0,0,0,0,0,(pn:Nat)⟩))=⟨10,0,0,0,0,0,0,(pn:Nat)⟩:=by
 obtain⟨apn,bpn,cpn,dpn⟩:=em pn hpn
 rw[ol]
 have e:fe (bG 10) 23=10:=by decide
 refine⟨by simp[apn],?_⟩
 simp[aF,e,bH,bY,mN,bpn,cpn,dpn,cG,da,aG]
theorem vw (dn:Nat)(hdn:dn<=7):(aq (aj ⟨11,(dn:Nat),0,0,0,0,0,0⟩)).tail.all lD=O/\aF (aq (aj ⟨11,(dn:Nat),0,0,0,0,0,0⟩))=⟨11,(dn:Nat),0,0,0,0,0,0⟩:=by
 obtain⟨adn,bdn,cdn,ddn⟩:=bK dn hdn
 rw[oi]
 have e:fe (bG 11) 23=11:=by decide
 refine⟨by simp[adn],?_⟩
 simp[aF,e,bH,mN,bdn,ddn,cG,da,aG]
theorem vh (dn:Nat)(hdn:dn<=7):(aq (aj ⟨22,(dn:Nat),0,0,0,0,0,0⟩)).tail.all lD=O/\aF (aq (aj ⟨22,(dn:Nat),0,0,0,0,0,0⟩))=⟨22,(dn:Nat),0,0,0,0,0,0⟩:=by
 obtain⟨adn,bdn,cdn,ddn⟩:=bK dn hdn
 rw[nT]
 have e:fe (bG 22) 23=22:=by decide
 refine⟨by simp[adn],?_⟩
 simp[aF,e,bH,mN,bdn,ddn,cG,da,aG]
theorem vu (kn:Nat)(hkn:kn<4294967296):(aq (aj ⟨12,0,0,0,0,0,(kn:Nat),0⟩)).tail.all lD=O/\aF (aq (aj ⟨12,0,0,0,0,0,(kn:Nat),0⟩))=⟨12,0,0,0,0,0,(kn:Nat),0⟩:=by
 obtain⟨akn,bkn,ckn,dkn⟩:=em kn hkn
 rw[oh]
 have e:fe (bG 12) 23=12:=by decide
 refine⟨by simp[akn],?_⟩
 simp[aF,e,bY,ckn,cG,da,aG]
 omega
theorem vt (kn:Nat)(hkn:kn<4294967296):(aq (aj ⟨13,0,0,0,0,0,(kn:Nat),0⟩)).tail.all lD=O/\aF (aq (aj ⟨13,0,0,0,0,0,(kn:Nat),0⟩))=⟨13,0,0,0,0,0,(kn:Nat),0⟩:=by
 obtain⟨akn,bkn,ckn,dkn⟩:=em kn hkn
 rw[nZ]
 have e:fe (bG 13) 23=13:=by decide
 refine⟨by simp[akn],?_⟩
 simp[aF,e,bY,ckn,cG,da,aG]
 omega
theorem vr (dn sn an:Nat)(hdn:dn<=7)(hsn:sn<=7)(han:an<4294967296):(aq (aj ⟨16,(dn:Nat),(sn:Nat),0,0,(an:Nat),0,0⟩)).tail.all lD=O/\aF (aq (aj ⟨16,(dn:Nat),(sn:Nat),0,0,(an:Nat),0,0⟩))=⟨16,(dn:Nat),(sn:Nat),0,0,(an:Nat),0,0⟩:=by
 obtain⟨adn,bdn,cdn,ddn⟩:=bK dn hdn
 obtain⟨asn,bsn,csn,dsn⟩:=bK sn hsn
 obtain⟨aan,ban,can,dan⟩:=em an han
 rw[nY]
 have e:fe (bG 16) 23=16:=by decide
 refine⟨by simp[adn,asn,aan],?_⟩
 simp[aF,e,bH,bY,mN,bdn,cdn,ddn,bsn,csn,dsn,ban,can,dan,cG,da,aG]
theorem vq (sn tn an:Nat)(hsn:sn<=7)(htn:tn<=7)(han:an<4294967296):(aq (aj ⟨17,0,(sn:Nat),(tn:Nat),0,(an:Nat),0,0⟩)).tail.all lD=O/\aF (aq (aj ⟨17,0,(sn:Nat),(tn:Nat),0,(an:Nat),0,0⟩))=⟨17,0,(sn:Nat),(tn:Nat),0,(an:Nat),0,0⟩:=by
 obtain⟨asn,bsn,csn,dsn⟩:=bK sn hsn
 obtain⟨atn,btn,ctn,dtn⟩:=bK tn htn
 obtain⟨aan,ban,can,dan⟩:=em an han
 rw[nX]
 have e:fe (bG 17) 23=17:=by decide
 refine⟨by simp[asn,atn,aan],?_⟩
 simp[aF,e,bH,bY,mN,bsn,csn,dsn,btn,ctn,dtn,ban,can,dan,cG,da,aG]
theorem vp (dn sn tn an:Nat)(hdn:dn<=7)(hsn:sn<=7)(htn:tn<=7)(han:an<4294967296):(aq (aj ⟨18,(dn:Nat),(sn:Nat),(tn:Nat),0,(an:Nat),0,0⟩)).tail.all lD=O/\aF (aq (aj ⟨18,(dn:Nat),(sn:Nat),(tn:Nat),0,(an:Nat),0,0⟩))=⟨18,(dn:Nat),(sn:Nat),(tn:Nat),0,(an:Nat),0,0⟩:=by
 obtain⟨adn,bdn,cdn,ddn⟩:=bK dn hdn
 obtain⟨asn,bsn,csn,dsn⟩:=bK sn hsn
 obtain⟨atn,btn,ctn,dtn⟩:=bK tn htn
 obtain⟨aan,ban,can,dan⟩:=em an han
 rw[nW]
 have e:fe (bG 18) 23=18:=by decide
 refine⟨by simp[adn,asn,atn,aan],?_⟩
 simp[aF,e,bH,bY,mN,bdn,cdn,ddn,bsn,csn,dsn,btn,ctn,dtn,ban,can,dan,cG,da,aG]
theorem vm (dn sn tn un an:Nat)(hdn:dn<=7)(hsn:sn<=7)(htn:tn<=7)(hun:un<=7)(han:an<4294967296):(aq (aj ⟨19,(dn:Nat),(sn:Nat),(tn:Nat),(un:Nat),(an:Nat),0,0⟩)).tail.all lD=O/\aF (aq (aj ⟨19,(dn:Nat),(sn:Nat),(tn:Nat),(un:Nat),(an:Nat),0,0⟩))=⟨19,(dn:Nat),(sn:Nat),(tn:Nat),(un:Nat),(an:Nat),0,0⟩:=by
 obtain⟨adn,bdn,cdn,ddn⟩:=bK dn hdn
 obtain⟨asn,bsn,csn,dsn⟩:=bK sn hsn
 obtain⟨atn,btn,ctn,dtn⟩:=bK tn htn
 obtain⟨aun,bun,cun,dun⟩:=bK un hun
 obtain⟨aan,ban,can,dan⟩:=em an han
 rw[nV]
 have e:fe (bG 19) 23=19:=by decide
 refine⟨by simp[adn,asn,atn,aun,aan],?_⟩
 simp[aF,e,bH,bY,mN,bdn,cdn,ddn,bsn,csn,dsn,btn,ctn,dtn,bun,cun,dun,ban,can,dan,cG,da,aG]
theorem vj (dn sn an kn:Nat)(hdn:dn<=7)(hsn:sn<=7)(han:an<4294967296)(hkn:kn<4294967296):(aq (aj ⟨20,(dn:Nat),(sn:Nat),0,0,(an:Nat),(kn:Nat),0⟩)).tail.all lD=O/\aF (aq (aj ⟨20,(dn:Nat),(sn:Nat),0,0,(an:Nat),(kn:Nat),0⟩))=⟨20,(dn:Nat),(sn:Nat),0,0,(an:Nat),(kn:Nat),0⟩:=by
 obtain⟨adn,bdn,cdn,ddn⟩:=bK dn hdn
 obtain⟨asn,bsn,csn,dsn⟩:=bK sn hsn
 obtain⟨aan,ban,can,dan⟩:=em an han
 obtain⟨akn,bkn,ckn,dkn⟩:=em kn hkn
 rw[nU]
 have e:fe (bG 20) 23=20:=by decide
 refine⟨by simp[adn,asn,aan,akn],?_⟩
 simp[aF,e,bH,bY,bdn,cdn,bsn,csn,ban,can,bkn,ckn,cG,da,aG]
 omega
theorem vf (sn:Nat)(hsn:sn<=7):(aq (aj ⟨23,0,(sn:Nat),0,0,0,0,0⟩)).tail.all lD=O/\aF (aq (aj ⟨23,0,(sn:Nat),0,0,0,0,0⟩))=⟨23,0,(sn:Nat),0,0,0,0,0⟩:=by
 obtain⟨asn,bsn,csn,dsn⟩:=bK sn hsn
 rw[nS]
 have e:fe (bG 23) 23=23:=by decide
 refine⟨by simp[asn],?_⟩
 simp[aF,e,bH,mN,bsn,dsn,cG,da,aG]
theorem pd (dn sn tn an pn:Nat)(hdn:dn<=7)(hsn:sn<=7)(htn:tn<=7)(han:an<4294967296)(hpn:pn<4294967296):(aq (aj ⟨21,(dn:Nat),(sn:Nat),(tn:Nat),0,(an:Nat),0,(pn:Nat)⟩)).tail.all lD=O/\aF (aq (aj ⟨21,(dn:Nat),(sn:Nat),(tn:Nat),0,(an:Nat),0,(pn:Nat)⟩))=⟨21,(dn:Nat),(sn:Nat),(tn:Nat),0,(an:Nat),0,(pn:Nat)⟩:=by
 obtain⟨adn,bdn,cdn,ddn⟩:=bK dn hdn
 obtain⟨asn,bsn,csn,dsn⟩:=bK sn hsn
 obtain⟨atn,btn,ctn,dtn⟩:=bK tn htn
 obtain⟨aan,ban,can,dan⟩:=em an han
 obtain⟨apn,bpn,cpn,dpn⟩:=em pn hpn
 obtain⟨ae,be,ce,de⟩:=Gy
 obtain⟨al,bl,cl,dl⟩:=rD
 rw[gJ dn sn tn an pn]
 have e:fe (bG 21) 23=21:=by decide
 refine⟨by simp[adn,asn,atn,aan,ae,apn,al],?_⟩
 simp[aF,e,bH,bY,mN,bdn,cdn,ddn,bsn,csn,dsn,btn,ctn,dtn,ban,can,dan,be,ce,de,bpn,cpn,dpn,bl,cl,dl,cG,da,aG]
theorem pf (dn sn tn an pn:Nat)(hdn:dn<=7)(hsn:sn<=7)(htn:tn<=7)(han:an<4294967296)(hpn:pn<4294967296):(aq (aj ⟨21,(dn:Nat),(sn:Nat),(tn:Nat),0,(an:Nat),0,-1⟩)).tail.all lD=O/\aF (aq (aj ⟨21,(dn:Nat),(sn:Nat),(tn:Nat),0,(an:Nat),0,-1⟩))=⟨21,(dn:Nat),(sn:Nat),(tn:Nat),0,(an:Nat),0,-1⟩:=by
 obtain⟨adn,bdn,cdn,ddn⟩:=bK dn hdn
 obtain⟨asn,bsn,csn,dsn⟩:=bK sn hsn
 obtain⟨atn,btn,ctn,dtn⟩:=bK tn htn
 obtain⟨aan,ban,can,dan⟩:=em an han
 obtain⟨apn,bpn,cpn,dpn⟩:=em pn hpn
 obtain⟨ae,be,ce,de⟩:=Gy
 obtain⟨al,bl,cl,dl⟩:=rD
 rw[gK dn sn tn an pn]
 have e:fe (bG 21) 23=21:=by decide
 refine⟨by simp[adn,asn,atn,aan,ae],?_⟩
 simp[aF,e,bH,bY,mN,bdn,cdn,ddn,bsn,csn,dsn,btn,ctn,dtn,ban,can,dan,be,ce,de,cG,da,aG]
theorem oZ (dn sn tn an pn:Nat)(hdn:dn<=7)(hsn:sn<=7)(htn:tn<=7)(han:an<4294967296)(hpn:pn<4294967296):(aq (aj ⟨21,(dn:Nat),(sn:Nat),(tn:Nat),0,(an:Nat),1,(pn:Nat)⟩)).tail.all lD=O/\aF (aq (aj ⟨21,(dn:Nat),(sn:Nat),(tn:Nat),0,(an:Nat),1,(pn:Nat)⟩))=⟨21,(dn:Nat),(sn:Nat),(tn:Nat),0,(an:Nat),1,(pn:Nat)⟩:=by
 obtain⟨adn,bdn,cdn,ddn⟩:=bK dn hdn
 obtain⟨asn,bsn,csn,dsn⟩:=bK sn hsn
 obtain⟨atn,btn,ctn,dtn⟩:=bK tn htn
 obtain⟨aan,ban,can,dan⟩:=em an han
 obtain⟨apn,bpn,cpn,dpn⟩:=em pn hpn
 obtain⟨ae,be,ce,de⟩:=Gx
 obtain⟨al,bl,cl,dl⟩:=rD
 rw[gH dn sn tn an pn]
 have e:fe (bG 21) 23=21:=by decide
 refine⟨by simp[adn,asn,atn,aan,ae,apn,al],?_⟩
 simp[aF,e,bH,bY,mN,bdn,cdn,ddn,bsn,csn,dsn,btn,ctn,dtn,ban,can,dan,be,ce,de,bpn,cpn,dpn,bl,cl,dl,cG,da,aG]
theorem pa (dn sn tn an pn:Nat)(hdn:dn<=7)(hsn:sn<=7)(htn:tn<=7)(han:an<4294967296)(hpn:pn<4294967296):(aq (aj ⟨21,(dn:Nat),(sn:Nat),(tn:Nat),0,(an:Nat),1,-1⟩)).tail.all lD=O/\aF (aq (aj ⟨21,(dn:Nat),(sn:Nat),(tn:Nat),0,(an:Nat),1,-1⟩))=⟨21,(dn:Nat),(sn:Nat),(tn:Nat),0,(an:Nat),1,-1⟩:=by
 obtain⟨adn,bdn,cdn,ddn⟩:=bK dn hdn
 obtain⟨asn,bsn,csn,dsn⟩:=bK sn hsn
 obtain⟨atn,btn,ctn,dtn⟩:=bK tn htn
 obtain⟨aan,ban,can,dan⟩:=em an han
 obtain⟨apn,bpn,cpn,dpn⟩:=em pn hpn
 obtain⟨ae,be,ce,de⟩:=Gx
 obtain⟨al,bl,cl,dl⟩:=rD
 rw[gI dn sn tn an pn]
 have e:fe (bG 21) 23=21:=by decide
 refine⟨by simp[adn,asn,atn,aan,ae],?_⟩
 simp[aF,e,bH,bY,mN,bdn,cdn,ddn,bsn,csn,dsn,btn,ctn,dtn,ban,can,dan,be,ce,de,cG,da,aG]
theorem mo (i:aP)(h:au i 1073741824=O)(k0:0<=i.k)(k1:i.k<4294967296):(aq (aj i)).tail.all lD=O/\aF (aq (aj i))=i:=by
 obtain⟨hd,hs,ht,hu,ha⟩:=eJ i _ h
 obtain⟨op,d,s,t,u,a,k,pl⟩:=i
 simp only at hd hs ht hu ha k0 k1
 rcases cE op with rfl|rfl|rfl|rfl|rfl|rfl|rfl|rfl|rfl|rfl|rfl|rfl|rfl|rfl|rfl|rfl|rfl|rfl|rfl|rfl|rfl | hn
 ·skip
  have hr:=nd d s t u a k pl 1073741824 hd hs ht hu ha k0 k1
  rw[h] at hr
  simp[dd] at hr
  obtain⟨dn,rfl⟩:∃ n:Nat,d=n:=⟨d.toNat,by omega⟩
  obtain⟨sn,rfl⟩:∃ n:Nat,s=n:=⟨s.toNat,by omega⟩
  obtain⟨tn,rfl⟩:∃ n:Nat,t=n:=⟨t.toNat,by omega⟩
  obtain⟨un,rfl⟩:∃ n:Nat,u=n:=⟨u.toNat,by omega⟩
  obtain⟨an,rfl⟩:∃ n:Nat,a=n:=⟨a.toNat,by omega⟩
  obtain⟨kn,rfl⟩:∃ n:Nat,k=n:=⟨k.toNat,by omega⟩
  obtain rfl:sn=0:=by omega
  obtain rfl:tn=0:=by omega
  obtain rfl:un=0:=by omega
  obtain rfl:an=0:=by omega
  obtain rfl:pl=0:=by omega
  exact yP dn kn (by omega) (by omega)
 ·skip
  have hr:=m9 d s t u a k pl 1073741824 hd hs ht hu ha k0 k1
  rw[h] at hr
  simp[dd] at hr
  obtain⟨dn,rfl⟩:∃ n:Nat,d=n:=⟨d.toNat,by omega⟩
  obtain⟨sn,rfl⟩:∃ n:Nat,s=n:=⟨s.toNat,by omega⟩
  obtain⟨tn,rfl⟩:∃ n:Nat,t=n:=⟨t.toNat,by omega⟩
  obtain⟨un,rfl⟩:∃ n:Nat,u=n:=⟨u.toNat,by omega⟩
  obtain⟨an,rfl⟩:∃ n:Nat,a=n:=⟨a.toNat,by omega⟩
  obtain⟨kn,rfl⟩:∃ n:Nat,k=n:=⟨k.toNat,by omega⟩
  obtain rfl:tn=0:=by omega
  obtain rfl:un=0:=by omega
  obtain rfl:an=0:=by omega
  obtain rfl:kn=0:=by omega
  obtain rfl:pl=0:=by omega
  exact yO dn sn (by omega) (by omega)
 ·skip
  have hr:=m8 d s t u a k pl 1073741824 hd hs ht hu ha k0 k1
  rw[h] at hr
  simp[dd] at hr
  obtain⟨dn,rfl⟩:∃ n:Nat,d=n:=⟨d.toNat,by omega⟩
  obtain⟨sn,rfl⟩:∃ n:Nat,s=n:=⟨s.toNat,by omega⟩
  obtain⟨tn,rfl⟩:∃ n:Nat,t=n:=⟨t.toNat,by omega⟩
  obtain⟨un,rfl⟩:∃ n:Nat,u=n:=⟨u.toNat,by omega⟩
  obtain⟨an,rfl⟩:∃ n:Nat,a=n:=⟨a.toNat,by omega⟩
  obtain⟨kn,rfl⟩:∃ n:Nat,k=n:=⟨k.toNat,by omega⟩
  obtain rfl:tn=0:=by omega
  obtain rfl:un=0:=by omega
  obtain rfl:an=0:=by omega
  obtain rfl:pl=0:=by omega
  exact yN dn sn kn (by omega) (by omega) (by omega)
 ·skip
  have hr:=m7 d s t u a k pl 1073741824 hd hs ht hu ha k0 k1
  rw[h] at hr
  simp[dd] at hr
  obtain⟨dn,rfl⟩:∃ n:Nat,d=n:=⟨d.toNat,by omega⟩
  obtain⟨sn,rfl⟩:∃ n:Nat,s=n:=⟨s.toNat,by omega⟩
  obtain⟨tn,rfl⟩:∃ n:Nat,t=n:=⟨t.toNat,by omega⟩
  obtain⟨un,rfl⟩:∃ n:Nat,u=n:=⟨u.toNat,by omega⟩
  obtain⟨an,rfl⟩:∃ n:Nat,a=n:=⟨a.toNat,by omega⟩
  obtain⟨kn,rfl⟩:∃ n:Nat,k=n:=⟨k.toNat,by omega⟩
  obtain rfl:tn=0:=by omega
  obtain rfl:un=0:=by omega
  obtain rfl:an=0:=by omega
  obtain rfl:pl=0:=by omega
  exact yM dn sn kn (by omega) (by omega) (by omega)
 ·skip
  have hr:=lf d s t u a k pl 1073741824 hd hs ht hu ha k0 k1
  rw[h] at hr
  simp[dd] at hr
  obtain⟨dn,rfl⟩:∃ n:Nat,d=n:=⟨d.toNat,by omega⟩
  obtain⟨sn,rfl⟩:∃ n:Nat,s=n:=⟨s.toNat,by omega⟩
  obtain⟨tn,rfl⟩:∃ n:Nat,t=n:=⟨t.toNat,by omega⟩
  obtain⟨un,rfl⟩:∃ n:Nat,u=n:=⟨u.toNat,by omega⟩
  obtain⟨an,rfl⟩:∃ n:Nat,a=n:=⟨a.toNat,by omega⟩
  obtain⟨kn,rfl⟩:∃ n:Nat,k=n:=⟨k.toNat,by omega⟩
  obtain rfl:tn=0:=by omega
  obtain rfl:un=0:=by omega
  obtain rfl:an=0:=by omega
  obtain rfl:pl=0:=by omega
  exact yL dn sn kn (by omega) (by omega) (by omega)
 ·skip
  have hr:=kZ d s t u a k pl 1073741824 hd hs ht hu ha k0 k1
  rw[h] at hr
  simp[dd] at hr
  obtain⟨dn,rfl⟩:∃ n:Nat,d=n:=⟨d.toNat,by omega⟩
  obtain⟨sn,rfl⟩:∃ n:Nat,s=n:=⟨s.toNat,by omega⟩
  obtain⟨tn,rfl⟩:∃ n:Nat,t=n:=⟨t.toNat,by omega⟩
  obtain⟨un,rfl⟩:∃ n:Nat,u=n:=⟨u.toNat,by omega⟩
  obtain⟨an,rfl⟩:∃ n:Nat,a=n:=⟨a.toNat,by omega⟩
  obtain⟨kn,rfl⟩:∃ n:Nat,k=n:=⟨k.toNat,by omega⟩
  obtain rfl:tn=0:=by omega
  obtain rfl:un=0:=by omega
  obtain rfl:an=0:=by omega
  obtain rfl:pl=0:=by omega
  exact yK dn sn kn (by omega) (by omega) (by omega)
 ·skip
  have hr:=m6 d s t u a k pl 1073741824 hd hs ht hu ha k0 k1
  rw[h] at hr
  simp[dd] at hr
  obtain⟨dn,rfl⟩:∃ n:Nat,d=n:=⟨d.toNat,by omega⟩
  obtain⟨sn,rfl⟩:∃ n:Nat,s=n:=⟨s.toNat,by omega⟩
  obtain⟨tn,rfl⟩:∃ n:Nat,t=n:=⟨t.toNat,by omega⟩
  obtain⟨un,rfl⟩:∃ n:Nat,u=n:=⟨u.toNat,by omega⟩
  obtain⟨an,rfl⟩:∃ n:Nat,a=n:=⟨a.toNat,by omega⟩
  obtain⟨kn,rfl⟩:∃ n:Nat,k=n:=⟨k.toNat,by omega⟩
  obtain rfl:un=0:=by omega
  obtain rfl:an=0:=by omega
  obtain rfl:kn=0:=by omega
  obtain rfl:pl=0:=by omega
  exact yJ dn sn tn (by omega) (by omega) (by omega)
 ·skip
  have hr:=mZ d s t u a k pl 1073741824 hd hs ht hu ha k0 k1
  rw[h] at hr
  simp[dd] at hr
  obtain⟨dn,rfl⟩:∃ n:Nat,d=n:=⟨d.toNat,by omega⟩
  obtain⟨sn,rfl⟩:∃ n:Nat,s=n:=⟨s.toNat,by omega⟩
  obtain⟨tn,rfl⟩:∃ n:Nat,t=n:=⟨t.toNat,by omega⟩
  obtain⟨un,rfl⟩:∃ n:Nat,u=n:=⟨u.toNat,by omega⟩
  obtain⟨an,rfl⟩:∃ n:Nat,a=n:=⟨a.toNat,by omega⟩
  obtain⟨kn,rfl⟩:∃ n:Nat,k=n:=⟨k.toNat,by omega⟩
  obtain rfl:dn=0:=by omega
  obtain rfl:un=0:=by omega
  obtain rfl:an=0:=by omega
  obtain rfl:kn=0:=by omega
  obtain⟨pn,rfl⟩:∃ n:Nat,pl=n:=⟨pl.toNat,by omega⟩
  exact yI sn tn pn (by omega) (by omega) (by omega)
 ·skip
  have hr:=mY d s t u a k pl 1073741824 hd hs ht hu ha k0 k1
  rw[h] at hr
  simp[dd] at hr
  obtain⟨dn,rfl⟩:∃ n:Nat,d=n:=⟨d.toNat,by omega⟩
  obtain⟨sn,rfl⟩:∃ n:Nat,s=n:=⟨s.toNat,by omega⟩
  obtain⟨tn,rfl⟩:∃ n:Nat,t=n:=⟨t.toNat,by omega⟩
  obtain⟨un,rfl⟩:∃ n:Nat,u=n:=⟨u.toNat,by omega⟩
  obtain⟨an,rfl⟩:∃ n:Nat,a=n:=⟨a.toNat,by omega⟩
  obtain⟨kn,rfl⟩:∃ n:Nat,k=n:=⟨k.toNat,by omega⟩
  obtain rfl:dn=0:=by omega
  obtain rfl:un=0:=by omega
  obtain rfl:an=0:=by omega
  obtain rfl:kn=0:=by omega
  obtain⟨pn,rfl⟩:∃ n:Nat,pl=n:=⟨pl.toNat,by omega⟩
  exact yH sn tn pn (by omega) (by omega) (by omega)
 ·skip
  have hr:=kN d s t u a k pl 1073741824 hd hs ht hu ha k0 k1
  rw[h] at hr
  simp[dd] at hr
  obtain⟨dn,rfl⟩:∃ n:Nat,d=n:=⟨d.toNat,by omega⟩
  obtain⟨sn,rfl⟩:∃ n:Nat,s=n:=⟨s.toNat,by omega⟩
  obtain⟨tn,rfl⟩:∃ n:Nat,t=n:=⟨t.toNat,by omega⟩
  obtain⟨un,rfl⟩:∃ n:Nat,u=n:=⟨u.toNat,by omega⟩
  obtain⟨an,rfl⟩:∃ n:Nat,a=n:=⟨a.toNat,by omega⟩
  obtain⟨kn,rfl⟩:∃ n:Nat,k=n:=⟨k.toNat,by omega⟩
  obtain rfl:dn=0:=by omega
  obtain rfl:sn=0:=by omega
  obtain rfl:tn=0:=by omega
  obtain rfl:un=0:=by omega
  obtain rfl:an=0:=by omega
  obtain rfl:kn=0:=by omega
  obtain⟨pn,rfl⟩:∃ n:Nat,pl=n:=⟨pl.toNat,by omega⟩
  exact vx pn (by omega)
 ·skip
  have hr:=kM d s t u a k pl 1073741824 hd hs ht hu ha k0 k1
  rw[h] at hr
  simp[dd] at hr
  obtain⟨dn,rfl⟩:∃ n:Nat,d=n:=⟨d.toNat,by omega⟩
  obtain⟨sn,rfl⟩:∃ n:Nat,s=n:=⟨s.toNat,by omega⟩
  obtain⟨tn,rfl⟩:∃ n:Nat,t=n:=⟨t.toNat,by omega⟩
  obtain⟨un,rfl⟩:∃ n:Nat,u=n:=⟨u.toNat,by omega⟩
  obtain⟨an,rfl⟩:∃ n:Nat,a=n:=⟨a.toNat,by omega⟩
  obtain⟨kn,rfl⟩:∃ n:Nat,k=n:=⟨k.toNat,by omega⟩
  obtain rfl:sn=0:=by omega
  obtain rfl:tn=0:=by omega
  obtain rfl:un=0:=by omega
  obtain rfl:an=0:=by omega
  obtain rfl:kn=0:=by omega
  obtain rfl:pl=0:=by omega
  exact vw dn (by omega)
 ·skip
  have hr:=jg d s t u a k pl 1073741824 hd hs ht hu ha k0 k1
  rw[h] at hr
  simp[dd] at hr
  obtain⟨dn,rfl⟩:∃ n:Nat,d=n:=⟨d.toNat,by omega⟩
  obtain⟨sn,rfl⟩:∃ n:Nat,s=n:=⟨s.toNat,by omega⟩
  obtain⟨tn,rfl⟩:∃ n:Nat,t=n:=⟨t.toNat,by omega⟩
  obtain⟨un,rfl⟩:∃ n:Nat,u=n:=⟨u.toNat,by omega⟩
  obtain⟨an,rfl⟩:∃ n:Nat,a=n:=⟨a.toNat,by omega⟩
  obtain⟨kn,rfl⟩:∃ n:Nat,k=n:=⟨k.toNat,by omega⟩
  obtain rfl:dn=0:=by omega
  obtain rfl:sn=0:=by omega
  obtain rfl:tn=0:=by omega
  obtain rfl:un=0:=by omega
  obtain rfl:an=0:=by omega
  obtain rfl:pl=0:=by omega
  exact vu kn (by omega)
 ·skip
  have hr:=jf d s t u a k pl 1073741824 hd hs ht hu ha k0 k1
  rw[h] at hr
  simp[dd] at hr
  obtain⟨dn,rfl⟩:∃ n:Nat,d=n:=⟨d.toNat,by omega⟩
  obtain⟨sn,rfl⟩:∃ n:Nat,s=n:=⟨s.toNat,by omega⟩
  obtain⟨tn,rfl⟩:∃ n:Nat,t=n:=⟨t.toNat,by omega⟩
  obtain⟨un,rfl⟩:∃ n:Nat,u=n:=⟨u.toNat,by omega⟩
  obtain⟨an,rfl⟩:∃ n:Nat,a=n:=⟨a.toNat,by omega⟩
  obtain⟨kn,rfl⟩:∃ n:Nat,k=n:=⟨k.toNat,by omega⟩
  obtain rfl:dn=0:=by omega
  obtain rfl:sn=0:=by omega
  obtain rfl:tn=0:=by omega
  obtain rfl:un=0:=by omega
  obtain rfl:an=0:=by omega
  obtain rfl:pl=0:=by omega
  exact vt kn (by omega)
 ·skip
  have hr:=kK d s t u a k pl 1073741824 hd hs ht hu ha k0 k1
  rw[h] at hr
  simp[dd] at hr
  obtain⟨dn,rfl⟩:∃ n:Nat,d=n:=⟨d.toNat,by omega⟩
  obtain⟨sn,rfl⟩:∃ n:Nat,s=n:=⟨s.toNat,by omega⟩
  obtain⟨tn,rfl⟩:∃ n:Nat,t=n:=⟨t.toNat,by omega⟩
  obtain⟨un,rfl⟩:∃ n:Nat,u=n:=⟨u.toNat,by omega⟩
  obtain⟨an,rfl⟩:∃ n:Nat,a=n:=⟨a.toNat,by omega⟩
  obtain⟨kn,rfl⟩:∃ n:Nat,k=n:=⟨k.toNat,by omega⟩
  obtain rfl:tn=0:=by omega
  obtain rfl:un=0:=by omega
  obtain rfl:kn=0:=by omega
  obtain rfl:pl=0:=by omega
  exact vr dn sn an (by omega) (by omega) (by omega)
 ·skip
  have hr:=kJ d s t u a k pl 1073741824 hd hs ht hu ha k0 k1
  rw[h] at hr
  simp[dd] at hr
  obtain⟨dn,rfl⟩:∃ n:Nat,d=n:=⟨d.toNat,by omega⟩
  obtain⟨sn,rfl⟩:∃ n:Nat,s=n:=⟨s.toNat,by omega⟩
  obtain⟨tn,rfl⟩:∃ n:Nat,t=n:=⟨t.toNat,by omega⟩
  obtain⟨un,rfl⟩:∃ n:Nat,u=n:=⟨u.toNat,by omega⟩
  obtain⟨an,rfl⟩:∃ n:Nat,a=n:=⟨a.toNat,by omega⟩
  obtain⟨kn,rfl⟩:∃ n:Nat,k=n:=⟨k.toNat,by omega⟩
  obtain rfl:dn=0:=by omega
  obtain rfl:un=0:=by omega
  obtain rfl:kn=0:=by omega
  obtain rfl:pl=0:=by omega
  exact vq sn tn an (by omega) (by omega) (by omega)
 ·skip
  have hr:=kI d s t u a k pl 1073741824 hd hs ht hu ha k0 k1
  rw[h] at hr
  simp[dd] at hr
  obtain⟨dn,rfl⟩:∃ n:Nat,d=n:=⟨d.toNat,by omega⟩
  obtain⟨sn,rfl⟩:∃ n:Nat,s=n:=⟨s.toNat,by omega⟩
  obtain⟨tn,rfl⟩:∃ n:Nat,t=n:=⟨t.toNat,by omega⟩
  obtain⟨un,rfl⟩:∃ n:Nat,u=n:=⟨u.toNat,by omega⟩
  obtain⟨an,rfl⟩:∃ n:Nat,a=n:=⟨a.toNat,by omega⟩
  obtain⟨kn,rfl⟩:∃ n:Nat,k=n:=⟨k.toNat,by omega⟩
  obtain rfl:un=0:=by omega
  obtain rfl:kn=0:=by omega
  obtain rfl:pl=0:=by omega
  exact vp dn sn tn an (by omega) (by omega) (by omega) (by omega)
 ·skip
  have hr:=kH d s t u a k pl 1073741824 hd hs ht hu ha k0 k1
  rw[h] at hr
  simp[dd] at hr
  obtain⟨dn,rfl⟩:∃ n:Nat,d=n:=⟨d.toNat,by omega⟩
  obtain⟨sn,rfl⟩:∃ n:Nat,s=n:=⟨s.toNat,by omega⟩
  obtain⟨tn,rfl⟩:∃ n:Nat,t=n:=⟨t.toNat,by omega⟩
  obtain⟨un,rfl⟩:∃ n:Nat,u=n:=⟨u.toNat,by omega⟩
  obtain⟨an,rfl⟩:∃ n:Nat,a=n:=⟨a.toNat,by omega⟩
  obtain⟨kn,rfl⟩:∃ n:Nat,k=n:=⟨k.toNat,by omega⟩
  obtain rfl:kn=0:=by omega
  obtain rfl:pl=0:=by omega
  exact vm dn sn tn un an (by omega) (by omega) (by omega) (by omega) (by omega)
 ·skip
  have hr:=kG d s t u a k pl 1073741824 hd hs ht hu ha k0 k1
  rw[h] at hr
  simp[dd] at hr
  obtain⟨dn,rfl⟩:∃ n:Nat,d=n:=⟨d.toNat,by omega⟩
  obtain⟨sn,rfl⟩:∃ n:Nat,s=n:=⟨s.toNat,by omega⟩
  obtain⟨tn,rfl⟩:∃ n:Nat,t=n:=⟨t.toNat,by omega⟩
  obtain⟨un,rfl⟩:∃ n:Nat,u=n:=⟨u.toNat,by omega⟩
  obtain⟨an,rfl⟩:∃ n:Nat,a=n:=⟨a.toNat,by omega⟩
  obtain⟨kn,rfl⟩:∃ n:Nat,k=n:=⟨k.toNat,by omega⟩
  obtain rfl:tn=0:=by omega
  obtain rfl:un=0:=by omega
  obtain rfl:pl=0:=by omega
  exact vj dn sn an kn (by omega) (by omega) (by omega) (by omega)
 ·skip
  have hr:=ic d s t u a k pl 1073741824 hd hs ht hu ha k0 k1
  rw[h] at hr
  simp[dd] at hr
  obtain⟨dn,rfl⟩:∃ n:Nat,d=n:=⟨d.toNat,by omega⟩
  obtain⟨sn,rfl⟩:∃ n:Nat,s=n:=⟨s.toNat,by omega⟩
  obtain⟨tn,rfl⟩:∃ n:Nat,t=n:=⟨t.toNat,by omega⟩
  obtain⟨un,rfl⟩:∃ n:Nat,u=n:=⟨u.toNat,by omega⟩
  obtain⟨an,rfl⟩:∃ n:Nat,a=n:=⟨a.toNat,by omega⟩
  obtain⟨kn,rfl⟩:∃ n:Nat,k=n:=⟨k.toNat,by omega⟩
  obtain rfl:un=0:=by omega
  by_cases hm:pl=-1
  ·subst hm
   by_cases hk:kn=0
   ·subst hk;exact pf dn sn tn an 0 (by omega) (by omega) (by omega) (by omega) (by omega)
   ·obtain rfl:kn=1:=by omega
    exact pa dn sn tn an 0 (by omega) (by omega) (by omega) (by omega) (by omega)
  ·obtain⟨pn,rfl⟩:∃ n:Nat,pl=n:=⟨pl.toNat,by omega⟩
   by_cases hk:kn=0
   ·subst hk;exact pd dn sn tn an pn (by omega) (by omega) (by omega) (by omega) (by omega)
   ·obtain rfl:kn=1:=by omega
    exact oZ dn sn tn an pn (by omega) (by omega) (by omega) (by omega) (by omega)
 ·skip
  have hr:=kF d s t u a k pl 1073741824 hd hs ht hu ha k0 k1
  rw[h] at hr
  simp[dd] at hr
  obtain⟨dn,rfl⟩:∃ n:Nat,d=n:=⟨d.toNat,by omega⟩
  obtain⟨sn,rfl⟩:∃ n:Nat,s=n:=⟨s.toNat,by omega⟩
  obtain⟨tn,rfl⟩:∃ n:Nat,t=n:=⟨t.toNat,by omega⟩
  obtain⟨un,rfl⟩:∃ n:Nat,u=n:=⟨u.toNat,by omega⟩
  obtain⟨an,rfl⟩:∃ n:Nat,a=n:=⟨a.toNat,by omega⟩
  obtain⟨kn,rfl⟩:∃ n:Nat,k=n:=⟨k.toNat,by omega⟩
  obtain rfl:sn=0:=by omega
  obtain rfl:tn=0:=by omega
  obtain rfl:un=0:=by omega
  obtain rfl:an=0:=by omega
  obtain rfl:kn=0:=by omega
  obtain rfl:pl=0:=by omega
  exact vh dn (by omega)
 ·skip
  have hr:=kE d s t u a k pl 1073741824 hd hs ht hu ha k0 k1
  rw[h] at hr
  simp[dd] at hr
  obtain⟨dn,rfl⟩:∃ n:Nat,d=n:=⟨d.toNat,by omega⟩
  obtain⟨sn,rfl⟩:∃ n:Nat,s=n:=⟨s.toNat,by omega⟩
  obtain⟨tn,rfl⟩:∃ n:Nat,t=n:=⟨t.toNat,by omega⟩
  obtain⟨un,rfl⟩:∃ n:Nat,u=n:=⟨u.toNat,by omega⟩
  obtain⟨an,rfl⟩:∃ n:Nat,a=n:=⟨a.toNat,by omega⟩
  obtain⟨kn,rfl⟩:∃ n:Nat,k=n:=⟨k.toNat,by omega⟩
  obtain rfl:dn=0:=by omega
  obtain rfl:tn=0:=by omega
  obtain rfl:un=0:=by omega
  obtain rfl:an=0:=by omega
  obtain rfl:kn=0:=by omega
  obtain rfl:pl=0:=by omega
  exact vf sn (by omega)
 ·exfalso
  unfold au at h
  simp only[(dE hn).1] at h
  cases h
theorem sr (i:aP)(h:au i 1073741824=O)(k0:0<=i.k)(k1:i.k<4294967296):lp (aj i)=O:=by
 obtain⟨h1,h2⟩:=mo i h k0 k1
 unfold lp
 rw[h1,h2,h]
 simp
end
section
open Go.ChangeShapes Go.WideShapes Go.ChangeAt Go.RowKit
theorem CE (c:gu)(v:Value)(w:World)(hv:Pv w v c)(hw:∀ i∈c.l,i.Wf):
 Calls Tryz.prog 38 #[v] w fun e w'=>e=.returned (.bool (nM c))/\Below w.heap.size w w':=by
 obtain⟨a,ca,rfl,hc1,hc2,_,ha⟩:=hv
 have k1:=Bk.made w 35 #[.slice a c.l.length ca,I Q c.lo,I Q c.un]
 have b0:Below w.heap.size w (w.alloc (.cells #[.slice a c.l.length ca,I Q c.lo,I Q c.un] 35)):=(Below.refl _ _).alloc (Nat.le_refl _) _
 replace ha:=ha.below b0
 go_enter Tryz.func38,Tryz.ntmps38
 go_upto_region 1 with fail
 generalize w.alloc (.cells #[.slice a c.l.length ca,I Q c.lo,I Q c.un] 35)=x at *
 obtain⟨x0,x1,x2⟩:=k1.iD
 by_cases h1:1<=c.l.length
 case neg=>
  have HF:=Z (sX (c:=c) (by omega))
  have i1:(c.l.length:Int)<1:=by omega
  go_wp2
  go_ret
  exact⟨by rw[HF.out];rfl,b0⟩
 case pos=>
  have i1:¬ (c.l.length:Int)<1:=by omega
  by_cases h2:c.l.length<=64
  case neg=>
   have HF:=Z (sX (c:=c) (by omega))
   have i2:(64:Int)<c.l.length:=by omega
   go_wp2
   go_ret
   exact⟨by rw[HF.out];rfl,b0⟩
  case pos=>
   have i2:¬ (64:Int)<c.l.length:=by omega
   have HP:=Z (CO c h1 h2)
   by_cases hb1:c.lo<0\/c.un<0\/(c.l.length:Int)<=c.lo\/(c.l.length:Int)<=c.un
   case pos=>
    have HF:Hid (nM c=N):=Z (by
     rw[HP.out]
     have:((decide (0<=c.lo) && decide (c.lo<c.l.length)) && (decide (0<=c.un) && decide (c.un<c.l.length)))=N:=by
      simp only[Bool.and_eq_false_iff,decide_eq_false_iff_not]
      omega
     rw[this];simp)
    generalize c.lo=lo at *
    generalize c.un=un at *
    clear HP
    by_cases z1:lo<0
    ·clear hb1;go_wp2;go_ret;exact⟨by rw[HF.out];rfl,b0⟩
    by_cases z2:un<0
    ·clear hb1;go_wp2;go_ret;exact⟨by rw[HF.out];rfl,b0⟩
    by_cases z3:(c.l.length:Int)<=lo
    ·clear hb1;go_wp2;go_ret;exact⟨by rw[HF.out];rfl,b0⟩
    have z4:(c.l.length:Int)<=un:=by omega
    clear hb1;go_wp2;go_ret;exact⟨by rw[HF.out];rfl,b0⟩
   have z1:¬ c.lo<0:=by omega
   have z2:¬ c.un<0:=by omega
   have z3:¬ (c.l.length:Int)<=c.lo:=by omega
   have z4:¬ (c.l.length:Int)<=c.un:=by omega
   have HP2:Hid (nM c=(c.l.all fun i=>au i c.l.length)):=Z (by
    rw[HP.out]
    have:((decide (0<=c.lo) && decide (c.lo<c.l.length)) && (decide (0<=c.un) && decide (c.un<c.l.length)))=O:=by
     simp only[Bool.and_eq_true,decide_eq_true_eq]
     omega
    rw[this];simp)
   clear HP hb1
   go_wp2
   go_loopw [2,40] (fun q i wr=>∃ k:Nat,q=.bool N/\i=I Q k/\k<=c.l.length/\Below x.heap.size x wr/\Hid (∀ j i,c.l[j]?=some i->j<k->au i c.l.length=O)) (fun _ i _=>c.l.length-(intOf i).toNat)
   case atStart=>exact⟨0,rfl,rfl,Nat.zero_le _,Below.refl _ _,Z (fun _ _ _ h=>by omega)⟩
   case round=>
    obtain⟨k,rfl,rfl,hk,hb,HA⟩:=hrel
    have hbw:=b0.trans (hb.mono b0.size)
    by_cases hlt:k<c.l.length
    ·have hki:(k:Int)<c.l.length:=by omega
     have hge:=List.getElem?_eq_getElem hlt
     obtain⟨g,off,rfl,hgl,e0,e1,e2,e3,e4,e5,e6,e7⟩:=(ha.below hb).at_ hge
     have hWf:=hw _ (List.getElem_mem hlt)
     have HG:=Z hge
     clear hge
     generalize c.l[k]=i at *
     have HR:=Z (fun W=>Bs i (c.l.length:Int) hWf.k0 hWf.k1 W)
     obtain⟨op,d,s,t,u,a',k',pl⟩:=i
     simp only at e0 e1 e2 e3 e4 e5 e6 e7
     go_upto_region 7 with fail
     have m2:=Jb.made wr op d s t u a' k' pl
     replace hb:=hb.alloc (o:=.cells #[I Q op,I Q d,I Q s,I Q t,I Q u,I Q a',I .u32 k',I Q pl] 127) hb.size
     clear e0 e1 e2 e3 e4 e5 e6 e7 hbw
     generalize wr.heap.size=q at *
     generalize wr.alloc (.cells #[I Q op,I Q d,I Q s,I Q t,I Q u,I Q a',I .u32 k',I Q pl] 127)=y at *
     have hbw:=b0.trans (hb.mono b0.size)
     obtain⟨e0,e1,e2,e3,e4,e5,e6,e7⟩:=m2.cells
     simp only at e0 e1 e2 e3 e4 e5 e6 e7
     go_wp2_with fail
     refine(HR.out y).mono ?_
     rintro e z ⟨rfl,hz⟩
     replace hb:=hb.trans (hz.mono hb.size)
     replace hbw:=hbw.trans (hz.mono hbw.size)
     cases hq:au ⟨op,d,s,t,u,a',k',pl⟩ c.l.length with
     | true=>
      have HA2:Hid (∀ j i,c.l[j]?=some i->j<k+1->au i c.l.length=O):=Z fun j i hj hjk=>by
       by_cases e:j=k
       ·subst e
        rw[HG.out] at hj
        injection hj with hj
        subst hj
        exact hq
       ·exact HA.out j i hj (by omega)
      clear hq HA HR HG
      go_wp2
      go_roundw
      case rel=>exact⟨k+1,rfl,by go_num,by omega,hb,HA2⟩
      case measure=>
       show c.l.length-((k:Int)+1).toNat<c.l.length-(k:Int).toNat
       omega
     | false=>
      have HQ:Hid (nM c=N):=Z (by
       rw[HP2.out]
       have:(c.l.all fun i=>au i c.l.length)=N:=by
        rw[List.all_eq_false]
        exact⟨_,List.mem_of_getElem? HG.out,by rw[hq];simp⟩
       rw[this])
      clear hq HA HR HG
      go_wp2
      go_ret
      exact⟨by rw[HQ.out];rfl,hbw⟩
    ·have hki:¬ (k:Int)<c.l.length:=by omega
     have hall:(c.l.all fun i=>au i c.l.length)=O:=by
      rw[List.all_eq_true]
      intro i hi
      obtain⟨j,hj,rfl⟩:=List.getElem_of_mem hi
      exact HA.out j _ (List.getElem?_eq_getElem hj) (by omega)
     have HQ:Hid (nM c=O):=Z (by rw[HP2.out,hall])
     clear HA hall
     go_wp2
     go_ret
     exact⟨by rw[HQ.out];rfl,hbw⟩
end
