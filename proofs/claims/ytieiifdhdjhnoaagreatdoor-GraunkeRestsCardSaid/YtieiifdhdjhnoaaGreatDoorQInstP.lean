import Derived.Test.YtieiifdhdjhnoaaGreatDoorQInstV
import Derived.Test.YtieiifdhdjhnoaaGreatDoorQMem
import Derived.Test.YtieiifdhdjhnoaaGreatDoorQWdA
import Derived.Test.YtieiifdhdjhnoaaGreatDoorQInstB
import Derived.Test.YtieiifdhdjhnoaaGreatDoorQInstC
import Derived.Test.YtieiifdhdjhnoaaGreatDoorQRunM
set_option linter.unusedVariables false
set_option maxHeartbeats 2000000
open Go.Value renaming int->I
open Go.IntKind renaming i64->Q
open Bool renaming false->N,true->O
open Go.Lib renaming hid->Z
namespace Go.Proofs.YtieiifdhdjhnoaaGreatDoor
section
theorem ma:∀ (m:Nat) (s:List UInt8),(aq s).length<=m+1->Lib.splitK [32] 0 m s=aq s
 | 0,s,h=>by
  rcases oC s with h1 | ⟨t,r,h1,rfl⟩
  ·rw[cQ s h1];rfl
  ·rw[fx t r h1] at h
   have:=fZ r
   rw[List.length_cons] at h
   omega
 | m+1,s,h=>by
  rcases oC s with h1 | ⟨t,r,h1,rfl⟩
  ·rw[cQ s h1];unfold Lib.splitK;rw[tq s h1];rfl
  ·rw[fx t r h1] at h ⊢
   unfold Lib.splitK
   rw[tu t r h1,if_neg (by simp <;> omega)]
   have e1:(t++32 :: r).take (((t.length:Int)).toNat+0)=t:=by simp
   have e2:(t++32 :: r).drop (((t.length:Int)).toNat+[(32:UInt8)].length)=r:=by simp[List.drop_append]
   rw[e1,e2,ma m r (by simp at h;omega)]
theorem aE (s:List UInt8)(h:(aq s).length<=9):fE s=aq s:=by
 unfold fE Lib.splitN
 have:=ik s
 exact ma _ s (by omega)
def dM (n:Nat):List UInt8:=114 :: Lib.decDigits n
theorem dv (n:Nat):Bf (dM n):=by
 intro c hc
 rcases List.mem_cons.1 hc with rfl | hc
 ·decide
 ·exact dG n c hc
theorem ci (n:Nat)(h:n<9223372036854775808):lq (Lib.decDigits n)=n:=by
 have ha:=tQ n h
 obtain⟨c,r,e,h1,h2,-⟩:=jg n
 rw[e] at ha ⊢
 have n1:c≠101:=fun e=>by rw[e] at h2;exact absurd h2 (by decide)
 have n2:c≠110:=fun e=>by rw[e] at h2;exact absurd h2 (by decide)
 have n3:c≠114:=fun e=>by rw[e] at h2;exact absurd h2 (by decide)
 unfold lq
 rw[if_neg (by intro e;injection e with e _;exact n1 e),if_neg (by intro e;injection e with e _;exact n2 e)]
 have et:Lib.trimPrefix (c :: r) [114]=c :: r:=by
  unfold Lib.trimPrefix Lib.hasPrefix
  rw[if_neg (by simp[List.isPrefixOf];exact fun e=>n3 e.symm)]
 rw[et,ha]
theorem aM (n:Nat)(h:n<9223372036854775808):lq (dM n)=n:=by
 have ha:=tQ n h
 unfold lq dM
 rw[if_neg (by intro e;injection e with e _;exact absurd e (by decide)),if_neg (by intro e;injection e with e _;exact absurd e (by decide))]
 have et:Lib.trimPrefix (114 :: Lib.decDigits n) [114]=Lib.decDigits n:=by
  unfold Lib.trimPrefix Lib.hasPrefix
  rw[if_pos (by simp[List.isPrefixOf])]
  rfl
 rw[et,ha]
theorem ES (dn kn:Nat):ah ⟨1,(dn:Nat),0,0,0,0,(kn:Nat),0⟩=bw (bE 1) [dM dn,Lib.decDigits kn]:=by
 simp[ah,cP,az,aN,aW,aB,bw,dM]
theorem qL (dn kn:Nat):aq (ah ⟨1,(dn:Nat),0,0,0,0,(kn:Nat),0⟩)=bE 1 :: [dM dn,Lib.decDigits kn]:=by
 rw[ES]
 exact aP _ _ (by unfold Bf;decide) (by simp[dv,dG])
theorem AW (dn kn:Nat)(hdn:dn<9223372036854775808)(hkn:kn<9223372036854775808)(k1:kn<4294967296):aA (ah ⟨1,(dn:Nat),0,0,0,0,(kn:Nat),0⟩)=⟨1,(dn:Nat),0,0,0,0,(kn:Nat),0⟩:=by
 unfold aA
 rw[aE _ (by rw[qL];simp),qL]
 have e:oJ (bE 1)=1:=by decide
 simp[bY,e,cP,cf,dr,cO,bZ,aM dn hdn,ci kn hkn,aU.zero]
 omega
theorem EQ (dn sn:Nat):ah ⟨2,(dn:Nat),(sn:Nat),0,0,0,0,0⟩=bw (bE 2) [dM dn,dM sn]:=by
 simp[ah,cP,az,aN,aW,aB,bw,dM]
theorem qK (dn sn:Nat):aq (ah ⟨2,(dn:Nat),(sn:Nat),0,0,0,0,0⟩)=bE 2 :: [dM dn,dM sn]:=by
 rw[EQ]
 exact aP _ _ (by unfold Bf;decide) (by simp[dv])
theorem AV (dn sn:Nat)(hdn:dn<9223372036854775808)(hsn:sn<9223372036854775808):aA (ah ⟨2,(dn:Nat),(sn:Nat),0,0,0,0,0⟩)=⟨2,(dn:Nat),(sn:Nat),0,0,0,0,0⟩:=by
 unfold aA
 rw[aE _ (by rw[qK];simp),qK]
 have e:oJ (bE 2)=2:=by decide
 simp[bY,e,cP,cf,dr,cO,bZ,aM dn hdn,aM sn hsn,aU.zero]
theorem EP (dn sn kn:Nat):ah ⟨3,(dn:Nat),(sn:Nat),0,0,0,(kn:Nat),0⟩=bw (bE 3) [dM dn,dM sn,Lib.decDigits kn]:=by
 simp[ah,cP,az,aN,aW,aB,bw,dM]
theorem qJ (dn sn kn:Nat):aq (ah ⟨3,(dn:Nat),(sn:Nat),0,0,0,(kn:Nat),0⟩)=bE 3 :: [dM dn,dM sn,Lib.decDigits kn]:=by
 rw[EP]
 exact aP _ _ (by unfold Bf;decide) (by simp[dv,dG])
theorem AU (dn sn kn:Nat)(hdn:dn<9223372036854775808)(hsn:sn<9223372036854775808)(hkn:kn<9223372036854775808)(k1:kn<4294967296):aA (ah ⟨3,(dn:Nat),(sn:Nat),0,0,0,(kn:Nat),0⟩)=⟨3,(dn:Nat),(sn:Nat),0,0,0,(kn:Nat),0⟩:=by
 unfold aA
 rw[aE _ (by rw[qJ];simp),qJ]
 have e:oJ (bE 3)=3:=by decide
 simp[bY,e,cP,cf,dr,cO,bZ,aM dn hdn,aM sn hsn,ci kn hkn,aU.zero]
 omega
theorem EO (dn sn kn:Nat):ah ⟨4,(dn:Nat),(sn:Nat),0,0,0,(kn:Nat),0⟩=bw (bE 4) [dM dn,dM sn,Lib.decDigits kn]:=by
 simp[ah,cP,az,aN,aW,aB,bw,dM]
theorem qI (dn sn kn:Nat):aq (ah ⟨4,(dn:Nat),(sn:Nat),0,0,0,(kn:Nat),0⟩)=bE 4 :: [dM dn,dM sn,Lib.decDigits kn]:=by
 rw[EO]
 exact aP _ _ (by unfold Bf;decide) (by simp[dv,dG])
theorem AT (dn sn kn:Nat)(hdn:dn<9223372036854775808)(hsn:sn<9223372036854775808)(hkn:kn<9223372036854775808)(k1:kn<4294967296):aA (ah ⟨4,(dn:Nat),(sn:Nat),0,0,0,(kn:Nat),0⟩)=⟨4,(dn:Nat),(sn:Nat),0,0,0,(kn:Nat),0⟩:=by
 unfold aA
 rw[aE _ (by rw[qI];simp),qI]
 have e:oJ (bE 4)=4:=by decide
 simp[bY,e,cP,cf,dr,cO,bZ,aM dn hdn,aM sn hsn,ci kn hkn,aU.zero]
 omega
theorem EN (dn sn kn:Nat):ah ⟨5,(dn:Nat),(sn:Nat),0,0,0,(kn:Nat),0⟩=bw (bE 5) [dM dn,dM sn,Lib.decDigits kn]:=by
 simp[ah,cP,az,aN,aW,aB,bw,dM]
theorem qH (dn sn kn:Nat):aq (ah ⟨5,(dn:Nat),(sn:Nat),0,0,0,(kn:Nat),0⟩)=bE 5 :: [dM dn,dM sn,Lib.decDigits kn]:=by
 rw[EN]
 exact aP _ _ (by unfold Bf;decide) (by simp[dv,dG])
theorem AS (dn sn kn:Nat)(hdn:dn<9223372036854775808)(hsn:sn<9223372036854775808)(hkn:kn<9223372036854775808)(k1:kn<4294967296):aA (ah ⟨5,(dn:Nat),(sn:Nat),0,0,0,(kn:Nat),0⟩)=⟨5,(dn:Nat),(sn:Nat),0,0,0,(kn:Nat),0⟩:=by
 unfold aA
 rw[aE _ (by rw[qH];simp),qH]
 have e:oJ (bE 5)=5:=by decide
 simp[bY,e,cP,cf,dr,cO,bZ,aM dn hdn,aM sn hsn,ci kn hkn,aU.zero]
 omega
theorem EM (dn sn kn:Nat):ah ⟨6,(dn:Nat),(sn:Nat),0,0,0,(kn:Nat),0⟩=bw (bE 6) [dM dn,dM sn,Lib.decDigits kn]:=by
 simp[ah,cP,az,aN,aW,aB,bw,dM]
theorem qG (dn sn kn:Nat):aq (ah ⟨6,(dn:Nat),(sn:Nat),0,0,0,(kn:Nat),0⟩)=bE 6 :: [dM dn,dM sn,Lib.decDigits kn]:=by
 rw[EM]
 exact aP _ _ (by unfold Bf;decide) (by simp[dv,dG])
theorem AR (dn sn kn:Nat)(hdn:dn<9223372036854775808)(hsn:sn<9223372036854775808)(hkn:kn<9223372036854775808)(k1:kn<4294967296):aA (ah ⟨6,(dn:Nat),(sn:Nat),0,0,0,(kn:Nat),0⟩)=⟨6,(dn:Nat),(sn:Nat),0,0,0,(kn:Nat),0⟩:=by
 unfold aA
 rw[aE _ (by rw[qG];simp),qG]
 have e:oJ (bE 6)=6:=by decide
 simp[bY,e,cP,cf,dr,cO,bZ,aM dn hdn,aM sn hsn,ci kn hkn,aU.zero]
 omega
theorem EL (dn sn tn:Nat):ah ⟨7,(dn:Nat),(sn:Nat),(tn:Nat),0,0,0,0⟩=bw (bE 7) [dM dn,dM sn,dM tn]:=by
 simp[ah,cP,az,aN,aW,aB,bw,dM]
theorem qF (dn sn tn:Nat):aq (ah ⟨7,(dn:Nat),(sn:Nat),(tn:Nat),0,0,0,0⟩)=bE 7 :: [dM dn,dM sn,dM tn]:=by
 rw[EL]
 exact aP _ _ (by unfold Bf;decide) (by simp[dv])
theorem AQ (dn sn tn:Nat)(hdn:dn<9223372036854775808)(hsn:sn<9223372036854775808)(htn:tn<9223372036854775808):aA (ah ⟨7,(dn:Nat),(sn:Nat),(tn:Nat),0,0,0,0⟩)=⟨7,(dn:Nat),(sn:Nat),(tn:Nat),0,0,0,0⟩:=by
 unfold aA
 rw[aE _ (by rw[qF];simp),qF]
 have e:oJ (bE 7)=7:=by decide
 simp[bY,e,cP,cf,dr,cO,bZ,aM dn hdn,aM sn hsn,aM tn htn,aU.zero]
theorem EK (sn tn pn:Nat):ah ⟨8,0,(sn:Nat),(tn:Nat),0,0,0,(pn:Nat)⟩=bw (bE 8) [dM sn,dM tn,Lib.decDigits pn]:=by
 simp[ah,cP,az,aN,aW,aB,bw,dM]
theorem qE (sn tn pn:Nat):aq (ah ⟨8,0,(sn:Nat),(tn:Nat),0,0,0,(pn:Nat)⟩)=bE 8 :: [dM sn,dM tn,Lib.decDigits pn]:=by
 rw[EK]
 exact aP _ _ (by unfold Bf;decide) (by simp[dv,dG])
theorem AO (sn tn pn:Nat)(hsn:sn<9223372036854775808)(htn:tn<9223372036854775808)(hpn:pn<9223372036854775808):aA (ah ⟨8,0,(sn:Nat),(tn:Nat),0,0,0,(pn:Nat)⟩)=⟨8,0,(sn:Nat),(tn:Nat),0,0,0,(pn:Nat)⟩:=by
 unfold aA
 rw[aE _ (by rw[qE];simp),qE]
 have e:oJ (bE 8)=8:=by decide
 simp[bY,e,cP,cf,dr,cO,bZ,aM sn hsn,aM tn htn,ci pn hpn,aU.zero]
theorem EJ (sn tn pn:Nat):ah ⟨9,0,(sn:Nat),(tn:Nat),0,0,0,(pn:Nat)⟩=bw (bE 9) [dM sn,dM tn,Lib.decDigits pn]:=by
 simp[ah,cP,az,aN,aW,aB,bw,dM]
theorem qD (sn tn pn:Nat):aq (ah ⟨9,0,(sn:Nat),(tn:Nat),0,0,0,(pn:Nat)⟩)=bE 9 :: [dM sn,dM tn,Lib.decDigits pn]:=by
 rw[EJ]
 exact aP _ _ (by unfold Bf;decide) (by simp[dv,dG])
theorem AN (sn tn pn:Nat)(hsn:sn<9223372036854775808)(htn:tn<9223372036854775808)(hpn:pn<9223372036854775808):aA (ah ⟨9,0,(sn:Nat),(tn:Nat),0,0,0,(pn:Nat)⟩)=⟨9,0,(sn:Nat),(tn:Nat),0,0,0,(pn:Nat)⟩:=by
 unfold aA
 rw[aE _ (by rw[qD];simp),qD]
 have e:oJ (bE 9)=9:=by decide
 simp[bY,e,cP,cf,dr,cO,bZ,aM sn hsn,aM tn htn,ci pn hpn,aU.zero]
theorem C5 (pn:Nat):ah ⟨10,0,0,0,0,0,0,(pn:Nat)⟩=bw (bE 10) [Lib.decDigits pn]:=by
 simp[ah,cP,az,aN,aW,aB,bw]
theorem nS (pn:Nat):aq (ah ⟨10,0,0,0,0,0,0,(pn:Nat)⟩)=bE 10 :: [Lib.decDigits pn]:=by
 rw[C5]
 exact aP _ _ (by unfold Bf;decide) (by simp[dG])
theorem yA (pn:Nat)(hpn:pn<9223372036854775808):aA (ah ⟨10,0,0,0,0,0,0,(pn:Nat)⟩)=⟨10,0,0,0,0,0,0,(pn:Nat)⟩:=by
 unfold aA
 rw[aE _ (by rw[nS];simp),nS]
 have e:oJ (bE 10)=10:=by decide
 simp[bY,e,cP,cf,dr,cO,bZ,ci pn hpn,aU.zero]
theorem C4 (dn:Nat):ah ⟨11,(dn:Nat),0,0,0,0,0,0⟩=bw (bE 11) [dM dn]:=by
 simp[ah,cP,az,aN,aW,aB,bw,dM]
theorem nR (dn:Nat):aq (ah ⟨11,(dn:Nat),0,0,0,0,0,0⟩)=bE 11 :: [dM dn]:=by
 rw[C4]
 exact aP _ _ (by unfold Bf;decide) (by simp[dv])
theorem yz (dn:Nat)(hdn:dn<9223372036854775808):aA (ah ⟨11,(dn:Nat),0,0,0,0,0,0⟩)=⟨11,(dn:Nat),0,0,0,0,0,0⟩:=by
 unfold aA
 rw[aE _ (by rw[nR];simp),nR]
 have e:oJ (bE 11)=11:=by decide
 simp[bY,e,cP,cf,dr,cO,bZ,aM dn hdn,aU.zero]
theorem CW (dn:Nat):ah ⟨22,(dn:Nat),0,0,0,0,0,0⟩=bw (bE 22) [dM dn]:=by
 simp[ah,cP,az,aN,aW,aB,bw,dM]
theorem nJ (dn:Nat):aq (ah ⟨22,(dn:Nat),0,0,0,0,0,0⟩)=bE 22 :: [dM dn]:=by
 rw[CW]
 exact aP _ _ (by unfold Bf;decide) (by simp[dv])
theorem yo (dn:Nat)(hdn:dn<9223372036854775808):aA (ah ⟨22,(dn:Nat),0,0,0,0,0,0⟩)=⟨22,(dn:Nat),0,0,0,0,0,0⟩:=by
 unfold aA
 rw[aE _ (by rw[nJ];simp),nJ]
 have e:oJ (bE 22)=22:=by decide
 simp[bY,e,cP,cf,dr,cO,bZ,aM dn hdn,aU.zero]
theorem C3 (kn:Nat):ah ⟨12,0,0,0,0,0,(kn:Nat),0⟩=bw (bE 12) [Lib.decDigits kn]:=by
 simp[ah,cP,az,aN,aW,aB,bw]
theorem nQ (kn:Nat):aq (ah ⟨12,0,0,0,0,0,(kn:Nat),0⟩)=bE 12 :: [Lib.decDigits kn]:=by
 rw[C3]
 exact aP _ _ (by unfold Bf;decide) (by simp[dG])
theorem yy (kn:Nat)(hkn:kn<9223372036854775808)(k1:kn<4294967296):aA (ah ⟨12,0,0,0,0,0,(kn:Nat),0⟩)=⟨12,0,0,0,0,0,(kn:Nat),0⟩:=by
 unfold aA
 rw[aE _ (by rw[nQ];simp),nQ]
 have e:oJ (bE 12)=12:=by decide
 simp[bY,e,cP,cf,dr,cO,bZ,ci kn hkn,aU.zero]
 omega
theorem C2 (kn:Nat):ah ⟨13,0,0,0,0,0,(kn:Nat),0⟩=bw (bE 13) [Lib.decDigits kn]:=by
 simp[ah,cP,az,aN,aW,aB,bw]
theorem nP (kn:Nat):aq (ah ⟨13,0,0,0,0,0,(kn:Nat),0⟩)=bE 13 :: [Lib.decDigits kn]:=by
 rw[C2]
 exact aP _ _ (by unfold Bf;decide) (by simp[dG])
theorem yx (kn:Nat)(hkn:kn<9223372036854775808)(k1:kn<4294967296):aA (ah ⟨13,0,0,0,0,0,(kn:Nat),0⟩)=⟨13,0,0,0,0,0,(kn:Nat),0⟩:=by
 unfold aA
 rw[aE _ (by rw[nP];simp),nP]
 have e:oJ (bE 13)=13:=by decide
 simp[bY,e,cP,cf,dr,cO,bZ,ci kn hkn,aU.zero]
 omega
theorem C1 (dn sn an:Nat):ah ⟨16,(dn:Nat),(sn:Nat),0,0,(an:Nat),0,0⟩=bw (bE 16) [dM dn,Lib.decDigits an,dM sn]:=by
 simp[ah,cP,az,aN,aW,aB,bw,dM]
theorem nO (dn sn an:Nat):aq (ah ⟨16,(dn:Nat),(sn:Nat),0,0,(an:Nat),0,0⟩)=bE 16 :: [dM dn,Lib.decDigits an,dM sn]:=by
 rw[C1]
 exact aP _ _ (by unfold Bf;decide) (by simp[dv,dG])
theorem yw (dn sn an:Nat)(hdn:dn<9223372036854775808)(hsn:sn<9223372036854775808)(han:an<9223372036854775808):aA (ah ⟨16,(dn:Nat),(sn:Nat),0,0,(an:Nat),0,0⟩)=⟨16,(dn:Nat),(sn:Nat),0,0,(an:Nat),0,0⟩:=by
 unfold aA
 rw[aE _ (by rw[nO];simp),nO]
 have e:oJ (bE 16)=16:=by decide
 simp[bY,e,cP,cf,dr,cO,bZ,aM dn hdn,aM sn hsn,ci an han,aU.zero]
theorem C0 (sn tn an:Nat):ah ⟨17,0,(sn:Nat),(tn:Nat),0,(an:Nat),0,0⟩=bw (bE 17) [Lib.decDigits an,dM sn,dM tn]:=by
 simp[ah,cP,az,aN,aW,aB,bw,dM]
theorem nN (sn tn an:Nat):aq (ah ⟨17,0,(sn:Nat),(tn:Nat),0,(an:Nat),0,0⟩)=bE 17 :: [Lib.decDigits an,dM sn,dM tn]:=by
 rw[C0]
 exact aP _ _ (by unfold Bf;decide) (by simp[dv,dG])
theorem yv (sn tn an:Nat)(hsn:sn<9223372036854775808)(htn:tn<9223372036854775808)(han:an<9223372036854775808):aA (ah ⟨17,0,(sn:Nat),(tn:Nat),0,(an:Nat),0,0⟩)=⟨17,0,(sn:Nat),(tn:Nat),0,(an:Nat),0,0⟩:=by
 unfold aA
 rw[aE _ (by rw[nN];simp),nN]
 have e:oJ (bE 17)=17:=by decide
 simp[bY,e,cP,cf,dr,cO,bZ,aM sn hsn,aM tn htn,ci an han,aU.zero]
theorem CZ (dn sn tn an:Nat):ah ⟨18,(dn:Nat),(sn:Nat),(tn:Nat),0,(an:Nat),0,0⟩=bw (bE 18) [dM dn,Lib.decDigits an,dM sn,dM tn]:=by
 simp[ah,cP,az,aN,aW,aB,bw,dM]
theorem nM (dn sn tn an:Nat):aq (ah ⟨18,(dn:Nat),(sn:Nat),(tn:Nat),0,(an:Nat),0,0⟩)=bE 18 :: [dM dn,Lib.decDigits an,dM sn,dM tn]:=by
 rw[CZ]
 exact aP _ _ (by unfold Bf;decide) (by simp[dv,dG])
theorem yr (dn sn tn an:Nat)(hdn:dn<9223372036854775808)(hsn:sn<9223372036854775808)(htn:tn<9223372036854775808)(han:an<9223372036854775808):aA (ah ⟨18,(dn:Nat),(sn:Nat),(tn:Nat),0,(an:Nat),0,0⟩)=⟨18,(dn:Nat),(sn:Nat),(tn:Nat),0,(an:Nat),0,0⟩:=by
 unfold aA
 rw[aE _ (by rw[nM];simp),nM]
 have e:oJ (bE 18)=18:=by decide
 simp[bY,e,cP,cf,dr,cO,bZ,aM dn hdn,aM sn hsn,aM tn htn,ci an han,aU.zero]
theorem CY (dn sn tn un an:Nat):ah ⟨19,(dn:Nat),(sn:Nat),(tn:Nat),(un:Nat),(an:Nat),0,0⟩=bw (bE 19) [dM dn,Lib.decDigits an,dM sn,dM tn,dM un]:=by
 simp[ah,cP,az,aN,aW,aB,bw,dM]
theorem nL (dn sn tn un an:Nat):aq (ah ⟨19,(dn:Nat),(sn:Nat),(tn:Nat),(un:Nat),(an:Nat),0,0⟩)=bE 19 :: [dM dn,Lib.decDigits an,dM sn,dM tn,dM un]:=by
 rw[CY]
 exact aP _ _ (by unfold Bf;decide) (by simp[dv,dG])
theorem yq (dn sn tn un an:Nat)(hdn:dn<9223372036854775808)(hsn:sn<9223372036854775808)(htn:tn<9223372036854775808)(hun:un<9223372036854775808)(han:an<9223372036854775808):aA (ah ⟨19,(dn:Nat),(sn:Nat),(tn:Nat),(un:Nat),(an:Nat),0,0⟩)=⟨19,(dn:Nat),(sn:Nat),(tn:Nat),(un:Nat),(an:Nat),0,0⟩:=by
 unfold aA
 rw[aE _ (by rw[nL];simp),nL]
 have e:oJ (bE 19)=19:=by decide
 simp[bY,e,cP,cf,dr,cO,bZ,aM dn hdn,aM sn hsn,aM tn htn,aM un hun,ci an han,aU.zero]
theorem CX (dn sn an kn:Nat):ah ⟨20,(dn:Nat),(sn:Nat),0,0,(an:Nat),(kn:Nat),0⟩=bw (bE 20) [dM dn,Lib.decDigits an,dM sn,Lib.decDigits kn]:=by
 simp[ah,cP,az,aN,aW,aB,bw,dM]
theorem nK (dn sn an kn:Nat):aq (ah ⟨20,(dn:Nat),(sn:Nat),0,0,(an:Nat),(kn:Nat),0⟩)=bE 20 :: [dM dn,Lib.decDigits an,dM sn,Lib.decDigits kn]:=by
 rw[CX]
 exact aP _ _ (by unfold Bf;decide) (by simp[dv,dG])
theorem yp (dn sn an kn:Nat)(hdn:dn<9223372036854775808)(hsn:sn<9223372036854775808)(han:an<9223372036854775808)(hkn:kn<9223372036854775808)(k1:kn<4294967296):aA (ah ⟨20,(dn:Nat),(sn:Nat),0,0,(an:Nat),(kn:Nat),0⟩)=⟨20,(dn:Nat),(sn:Nat),0,0,(an:Nat),(kn:Nat),0⟩:=by
 unfold aA
 rw[aE _ (by rw[nK];simp),nK]
 have e:oJ (bE 20)=20:=by decide
 simp[bY,e,cP,cf,dr,cO,bZ,aM dn hdn,aM sn hsn,ci an han,ci kn hkn,aU.zero]
 omega
theorem CV (sn:Nat):ah ⟨23,0,(sn:Nat),0,0,0,0,0⟩=bw (bE 23) [dM sn]:=by
 simp[ah,cP,az,aN,aW,aB,bw,dM]
theorem nI (sn:Nat):aq (ah ⟨23,0,(sn:Nat),0,0,0,0,0⟩)=bE 23 :: [dM sn]:=by
 rw[CV]
 exact aP _ _ (by unfold Bf;decide) (by simp[dv])
theorem ym (sn:Nat)(hsn:sn<9223372036854775808):aA (ah ⟨23,0,(sn:Nat),0,0,0,0,0⟩)=⟨23,0,(sn:Nat),0,0,0,0,0⟩:=by
 unfold aA
 rw[aE _ (by rw[nI];simp),nI]
 have e:oJ (bE 23)=23:=by decide
 simp[bY,e,cP,cf,dr,cO,bZ,aM sn hsn,aU.zero]
theorem uQ (dn sn tn an pn:Nat):ah ⟨21,(dn:Nat),(sn:Nat),(tn:Nat),0,(an:Nat),0,(pn:Nat)⟩=bw (bE 21) [dM dn,Lib.decDigits an,dM sn,[101,113],dM tn,[101,108,115,101],Lib.decDigits pn]:=by
 have e:¬ ((pn:Int)=-1):=by omega
 simp[ah,cP,az,aN,aW,aB,bw,dM,e]
theorem gK (dn sn tn an pn:Nat):aq (ah ⟨21,(dn:Nat),(sn:Nat),(tn:Nat),0,(an:Nat),0,(pn:Nat)⟩)=bE 21 :: [dM dn,Lib.decDigits an,dM sn,[101,113],dM tn,[101,108,115,101],Lib.decDigits pn]:=by
 rw[uQ dn sn tn an pn]
 refine aP _ _ (by unfold Bf;decide) ?_
 have b1:Bf [101,113]:=by unfold Bf;decide
 have b2:Bf [101,108,115,101]:=by unfold Bf;decide
 simp[dv,dG,b1,b2]
theorem qA (dn sn tn an pn:Nat)(hdn:dn<9223372036854775808)(hsn:sn<9223372036854775808)(htn:tn<9223372036854775808)(han:an<9223372036854775808)(hpn:pn<9223372036854775808):aA (ah ⟨21,(dn:Nat),(sn:Nat),(tn:Nat),0,(an:Nat),0,(pn:Nat)⟩)=⟨21,(dn:Nat),(sn:Nat),(tn:Nat),0,(an:Nat),0,(pn:Nat)⟩:=by
 unfold aA
 rw[aE _ (by rw[gK dn sn tn an pn];simp),gK dn sn tn an pn]
 have e:oJ (bE 21)=21:=by decide
 have v:lq [101,113]=0:=by decide
 simp[bY,e,cP,cf,dr,cO,bZ,aM dn hdn,aM sn hsn,aM tn htn,ci an han,ci pn hpn,v,aU.zero]
theorem uR (dn sn tn an pn:Nat):ah ⟨21,(dn:Nat),(sn:Nat),(tn:Nat),0,(an:Nat),0,-1⟩=bw (bE 21) [dM dn,Lib.decDigits an,dM sn,[101,113],dM tn]:=by
 simp[ah,cP,az,aN,aW,aB,bw,dM]
theorem gL (dn sn tn an pn:Nat):aq (ah ⟨21,(dn:Nat),(sn:Nat),(tn:Nat),0,(an:Nat),0,-1⟩)=bE 21 :: [dM dn,Lib.decDigits an,dM sn,[101,113],dM tn]:=by
 rw[uR dn sn tn an pn]
 refine aP _ _ (by unfold Bf;decide) ?_
 have b1:Bf [101,113]:=by unfold Bf;decide
 simp[dv,dG,b1]
theorem qB (dn sn tn an pn:Nat)(hdn:dn<9223372036854775808)(hsn:sn<9223372036854775808)(htn:tn<9223372036854775808)(han:an<9223372036854775808)(hpn:pn<9223372036854775808):aA (ah ⟨21,(dn:Nat),(sn:Nat),(tn:Nat),0,(an:Nat),0,-1⟩)=⟨21,(dn:Nat),(sn:Nat),(tn:Nat),0,(an:Nat),0,-1⟩:=by
 unfold aA
 rw[aE _ (by rw[gL dn sn tn an pn];simp),gL dn sn tn an pn]
 have e:oJ (bE 21)=21:=by decide
 have v:lq [101,113]=0:=by decide
 simp[bY,e,cP,cf,dr,cO,bZ,aM dn hdn,aM sn hsn,aM tn htn,ci an han,v,aU.zero]
theorem uO (dn sn tn an pn:Nat):ah ⟨21,(dn:Nat),(sn:Nat),(tn:Nat),0,(an:Nat),1,(pn:Nat)⟩=bw (bE 21) [dM dn,Lib.decDigits an,dM sn,[110,101],dM tn,[101,108,115,101],Lib.decDigits pn]:=by
 have e:¬ ((pn:Int)=-1):=by omega
 simp[ah,cP,az,aN,aW,aB,bw,dM,e]
theorem gI (dn sn tn an pn:Nat):aq (ah ⟨21,(dn:Nat),(sn:Nat),(tn:Nat),0,(an:Nat),1,(pn:Nat)⟩)=bE 21 :: [dM dn,Lib.decDigits an,dM sn,[110,101],dM tn,[101,108,115,101],Lib.decDigits pn]:=by
 rw[uO dn sn tn an pn]
 refine aP _ _ (by unfold Bf;decide) ?_
 have b1:Bf [110,101]:=by unfold Bf;decide
 have b2:Bf [101,108,115,101]:=by unfold Bf;decide
 simp[dv,dG,b1,b2]
theorem qy (dn sn tn an pn:Nat)(hdn:dn<9223372036854775808)(hsn:sn<9223372036854775808)(htn:tn<9223372036854775808)(han:an<9223372036854775808)(hpn:pn<9223372036854775808):aA (ah ⟨21,(dn:Nat),(sn:Nat),(tn:Nat),0,(an:Nat),1,(pn:Nat)⟩)=⟨21,(dn:Nat),(sn:Nat),(tn:Nat),0,(an:Nat),1,(pn:Nat)⟩:=by
 unfold aA
 rw[aE _ (by rw[gI dn sn tn an pn];simp),gI dn sn tn an pn]
 have e:oJ (bE 21)=21:=by decide
 have v:lq [110,101]=1:=by decide
 simp[bY,e,cP,cf,dr,cO,bZ,aM dn hdn,aM sn hsn,aM tn htn,ci an han,ci pn hpn,v,aU.zero]
theorem uP (dn sn tn an pn:Nat):ah ⟨21,(dn:Nat),(sn:Nat),(tn:Nat),0,(an:Nat),1,-1⟩=bw (bE 21) [dM dn,Lib.decDigits an,dM sn,[110,101],dM tn]:=by
 simp[ah,cP,az,aN,aW,aB,bw,dM]
theorem gJ (dn sn tn an pn:Nat):aq (ah ⟨21,(dn:Nat),(sn:Nat),(tn:Nat),0,(an:Nat),1,-1⟩)=bE 21 :: [dM dn,Lib.decDigits an,dM sn,[110,101],dM tn]:=by
 rw[uP dn sn tn an pn]
 refine aP _ _ (by unfold Bf;decide) ?_
 have b1:Bf [110,101]:=by unfold Bf;decide
 simp[dv,dG,b1]
theorem qz (dn sn tn an pn:Nat)(hdn:dn<9223372036854775808)(hsn:sn<9223372036854775808)(htn:tn<9223372036854775808)(han:an<9223372036854775808)(hpn:pn<9223372036854775808):aA (ah ⟨21,(dn:Nat),(sn:Nat),(tn:Nat),0,(an:Nat),1,-1⟩)=⟨21,(dn:Nat),(sn:Nat),(tn:Nat),0,(an:Nat),1,-1⟩:=by
 unfold aA
 rw[aE _ (by rw[gJ dn sn tn an pn];simp),gJ dn sn tn an pn]
 have e:oJ (bE 21)=21:=by decide
 have v:lq [110,101]=1:=by decide
 simp[bY,e,cP,cf,dr,cO,bZ,aM dn hdn,aM sn hsn,aM tn htn,ci an han,v,aU.zero]
theorem sf (i:aU)(h:au i 1073741824=O)(k0:0<=i.k)(k1:i.k<4294967296):aA (ah i)=i:=by
 obtain⟨hd,hs,ht,hu,ha⟩:=eJ i _ h
 obtain⟨op,d,s,t,u,a,k,pl⟩:=i
 simp only at hd hs ht hu ha k0 k1
 rcases cw op with rfl|rfl|rfl|rfl|rfl|rfl|rfl|rfl|rfl|rfl|rfl|rfl|rfl|rfl|rfl|rfl|rfl|rfl|rfl|rfl|rfl | hn
 ·skip
  have hr:=mW d s t u a k pl 1073741824 hd hs ht hu ha k0 k1
  rw[h] at hr
  simp[dg] at hr
  obtain⟨dn,rfl⟩:∃ n:Nat,d=n:=⟨d.toNat,by omega⟩
  obtain⟨sn,rfl⟩:∃ n:Nat,s=n:=⟨s.toNat,by omega⟩
  obtain⟨tn,rfl⟩:∃ n:Nat,t=n:=⟨t.toNat,by omega⟩
  obtain⟨un,rfl⟩:∃ n:Nat,u=n:=⟨u.toNat,by omega⟩
  obtain⟨an,rfl⟩:∃ n:Nat,a=n:=⟨a.toNat,by omega⟩
  obtain⟨kn,rfl⟩:∃ n:Nat,k=n:=⟨k.toNat,by omega⟩
  obtain rfl:sn=0:=by omega
  obtain rfl:tn=0:=by omega
  obtain rfl:un=0:=by omega
  obtain rfl:an=0:=by omega
  obtain rfl:pl=0:=by omega
  exact AW dn kn (by omega) (by omega) (by omega)
 ·skip
  have hr:=mV d s t u a k pl 1073741824 hd hs ht hu ha k0 k1
  rw[h] at hr
  simp[dg] at hr
  obtain⟨dn,rfl⟩:∃ n:Nat,d=n:=⟨d.toNat,by omega⟩
  obtain⟨sn,rfl⟩:∃ n:Nat,s=n:=⟨s.toNat,by omega⟩
  obtain⟨tn,rfl⟩:∃ n:Nat,t=n:=⟨t.toNat,by omega⟩
  obtain⟨un,rfl⟩:∃ n:Nat,u=n:=⟨u.toNat,by omega⟩
  obtain⟨an,rfl⟩:∃ n:Nat,a=n:=⟨a.toNat,by omega⟩
  obtain⟨kn,rfl⟩:∃ n:Nat,k=n:=⟨k.toNat,by omega⟩
  obtain rfl:tn=0:=by omega
  obtain rfl:un=0:=by omega
  obtain rfl:an=0:=by omega
  obtain rfl:kn=0:=by omega
  obtain rfl:pl=0:=by omega
  exact AV dn sn (by omega) (by omega)
 ·skip
  have hr:=mU d s t u a k pl 1073741824 hd hs ht hu ha k0 k1
  rw[h] at hr
  simp[dg] at hr
  obtain⟨dn,rfl⟩:∃ n:Nat,d=n:=⟨d.toNat,by omega⟩
  obtain⟨sn,rfl⟩:∃ n:Nat,s=n:=⟨s.toNat,by omega⟩
  obtain⟨tn,rfl⟩:∃ n:Nat,t=n:=⟨t.toNat,by omega⟩
  obtain⟨un,rfl⟩:∃ n:Nat,u=n:=⟨u.toNat,by omega⟩
  obtain⟨an,rfl⟩:∃ n:Nat,a=n:=⟨a.toNat,by omega⟩
  obtain⟨kn,rfl⟩:∃ n:Nat,k=n:=⟨k.toNat,by omega⟩
  obtain rfl:tn=0:=by omega
  obtain rfl:un=0:=by omega
  obtain rfl:an=0:=by omega
  obtain rfl:pl=0:=by omega
  exact AU dn sn kn (by omega) (by omega) (by omega) (by omega)
 ·skip
  have hr:=mT d s t u a k pl 1073741824 hd hs ht hu ha k0 k1
  rw[h] at hr
  simp[dg] at hr
  obtain⟨dn,rfl⟩:∃ n:Nat,d=n:=⟨d.toNat,by omega⟩
  obtain⟨sn,rfl⟩:∃ n:Nat,s=n:=⟨s.toNat,by omega⟩
  obtain⟨tn,rfl⟩:∃ n:Nat,t=n:=⟨t.toNat,by omega⟩
  obtain⟨un,rfl⟩:∃ n:Nat,u=n:=⟨u.toNat,by omega⟩
  obtain⟨an,rfl⟩:∃ n:Nat,a=n:=⟨a.toNat,by omega⟩
  obtain⟨kn,rfl⟩:∃ n:Nat,k=n:=⟨k.toNat,by omega⟩
  obtain rfl:tn=0:=by omega
  obtain rfl:un=0:=by omega
  obtain rfl:an=0:=by omega
  obtain rfl:pl=0:=by omega
  exact AT dn sn kn (by omega) (by omega) (by omega) (by omega)
 ·skip
  have hr:=kV d s t u a k pl 1073741824 hd hs ht hu ha k0 k1
  rw[h] at hr
  simp[dg] at hr
  obtain⟨dn,rfl⟩:∃ n:Nat,d=n:=⟨d.toNat,by omega⟩
  obtain⟨sn,rfl⟩:∃ n:Nat,s=n:=⟨s.toNat,by omega⟩
  obtain⟨tn,rfl⟩:∃ n:Nat,t=n:=⟨t.toNat,by omega⟩
  obtain⟨un,rfl⟩:∃ n:Nat,u=n:=⟨u.toNat,by omega⟩
  obtain⟨an,rfl⟩:∃ n:Nat,a=n:=⟨a.toNat,by omega⟩
  obtain⟨kn,rfl⟩:∃ n:Nat,k=n:=⟨k.toNat,by omega⟩
  obtain rfl:tn=0:=by omega
  obtain rfl:un=0:=by omega
  obtain rfl:an=0:=by omega
  obtain rfl:pl=0:=by omega
  exact AS dn sn kn (by omega) (by omega) (by omega) (by omega)
 ·skip
  have hr:=kU d s t u a k pl 1073741824 hd hs ht hu ha k0 k1
  rw[h] at hr
  simp[dg] at hr
  obtain⟨dn,rfl⟩:∃ n:Nat,d=n:=⟨d.toNat,by omega⟩
  obtain⟨sn,rfl⟩:∃ n:Nat,s=n:=⟨s.toNat,by omega⟩
  obtain⟨tn,rfl⟩:∃ n:Nat,t=n:=⟨t.toNat,by omega⟩
  obtain⟨un,rfl⟩:∃ n:Nat,u=n:=⟨u.toNat,by omega⟩
  obtain⟨an,rfl⟩:∃ n:Nat,a=n:=⟨a.toNat,by omega⟩
  obtain⟨kn,rfl⟩:∃ n:Nat,k=n:=⟨k.toNat,by omega⟩
  obtain rfl:tn=0:=by omega
  obtain rfl:un=0:=by omega
  obtain rfl:an=0:=by omega
  obtain rfl:pl=0:=by omega
  exact AR dn sn kn (by omega) (by omega) (by omega) (by omega)
 ·skip
  have hr:=mS d s t u a k pl 1073741824 hd hs ht hu ha k0 k1
  rw[h] at hr
  simp[dg] at hr
  obtain⟨dn,rfl⟩:∃ n:Nat,d=n:=⟨d.toNat,by omega⟩
  obtain⟨sn,rfl⟩:∃ n:Nat,s=n:=⟨s.toNat,by omega⟩
  obtain⟨tn,rfl⟩:∃ n:Nat,t=n:=⟨t.toNat,by omega⟩
  obtain⟨un,rfl⟩:∃ n:Nat,u=n:=⟨u.toNat,by omega⟩
  obtain⟨an,rfl⟩:∃ n:Nat,a=n:=⟨a.toNat,by omega⟩
  obtain⟨kn,rfl⟩:∃ n:Nat,k=n:=⟨k.toNat,by omega⟩
  obtain rfl:un=0:=by omega
  obtain rfl:an=0:=by omega
  obtain rfl:kn=0:=by omega
  obtain rfl:pl=0:=by omega
  exact AQ dn sn tn (by omega) (by omega) (by omega)
 ·skip
  have hr:=mR d s t u a k pl 1073741824 hd hs ht hu ha k0 k1
  rw[h] at hr
  simp[dg] at hr
  obtain⟨dn,rfl⟩:∃ n:Nat,d=n:=⟨d.toNat,by omega⟩
  obtain⟨sn,rfl⟩:∃ n:Nat,s=n:=⟨s.toNat,by omega⟩
  obtain⟨tn,rfl⟩:∃ n:Nat,t=n:=⟨t.toNat,by omega⟩
  obtain⟨un,rfl⟩:∃ n:Nat,u=n:=⟨u.toNat,by omega⟩
  obtain⟨an,rfl⟩:∃ n:Nat,a=n:=⟨a.toNat,by omega⟩
  obtain⟨kn,rfl⟩:∃ n:Nat,k=n:=⟨k.toNat,by omega⟩
  obtain rfl:dn=0:=by omega
  obtain rfl:un=0:=by omega
  obtain rfl:an=0:=by omega
  obtain rfl:kn=0:=by omega
  obtain⟨pn,rfl⟩:∃ n:Nat,pl=n:=⟨pl.toNat,by omega⟩
  exact AO sn tn pn (by omega) (by omega) (by omega)
 ·skip
  have hr:=mQ d s t u a k pl 1073741824 hd hs ht hu ha k0 k1
  rw[h] at hr
  simp[dg] at hr
  obtain⟨dn,rfl⟩:∃ n:Nat,d=n:=⟨d.toNat,by omega⟩
  obtain⟨sn,rfl⟩:∃ n:Nat,s=n:=⟨s.toNat,by omega⟩
  obtain⟨tn,rfl⟩:∃ n:Nat,t=n:=⟨t.toNat,by omega⟩
  obtain⟨un,rfl⟩:∃ n:Nat,u=n:=⟨u.toNat,by omega⟩
  obtain⟨an,rfl⟩:∃ n:Nat,a=n:=⟨a.toNat,by omega⟩
  obtain⟨kn,rfl⟩:∃ n:Nat,k=n:=⟨k.toNat,by omega⟩
  obtain rfl:dn=0:=by omega
  obtain rfl:un=0:=by omega
  obtain rfl:an=0:=by omega
  obtain rfl:kn=0:=by omega
  obtain⟨pn,rfl⟩:∃ n:Nat,pl=n:=⟨pl.toNat,by omega⟩
  exact AN sn tn pn (by omega) (by omega) (by omega)
 ·skip
  have hr:=kI d s t u a k pl 1073741824 hd hs ht hu ha k0 k1
  rw[h] at hr
  simp[dg] at hr
  obtain⟨dn,rfl⟩:∃ n:Nat,d=n:=⟨d.toNat,by omega⟩
  obtain⟨sn,rfl⟩:∃ n:Nat,s=n:=⟨s.toNat,by omega⟩
  obtain⟨tn,rfl⟩:∃ n:Nat,t=n:=⟨t.toNat,by omega⟩
  obtain⟨un,rfl⟩:∃ n:Nat,u=n:=⟨u.toNat,by omega⟩
  obtain⟨an,rfl⟩:∃ n:Nat,a=n:=⟨a.toNat,by omega⟩
  obtain⟨kn,rfl⟩:∃ n:Nat,k=n:=⟨k.toNat,by omega⟩
  obtain rfl:dn=0:=by omega
  obtain rfl:sn=0:=by omega
  obtain rfl:tn=0:=by omega
  obtain rfl:un=0:=by omega
  obtain rfl:an=0:=by omega
  obtain rfl:kn=0:=by omega
  obtain⟨pn,rfl⟩:∃ n:Nat,pl=n:=⟨pl.toNat,by omega⟩
  exact yA pn (by omega)
 ·skip
  have hr:=kH d s t u a k pl 1073741824 hd hs ht hu ha k0 k1
  rw[h] at hr
  simp[dg] at hr
  obtain⟨dn,rfl⟩:∃ n:Nat,d=n:=⟨d.toNat,by omega⟩
  obtain⟨sn,rfl⟩:∃ n:Nat,s=n:=⟨s.toNat,by omega⟩
  obtain⟨tn,rfl⟩:∃ n:Nat,t=n:=⟨t.toNat,by omega⟩
  obtain⟨un,rfl⟩:∃ n:Nat,u=n:=⟨u.toNat,by omega⟩
  obtain⟨an,rfl⟩:∃ n:Nat,a=n:=⟨a.toNat,by omega⟩
  obtain⟨kn,rfl⟩:∃ n:Nat,k=n:=⟨k.toNat,by omega⟩
  obtain rfl:sn=0:=by omega
  obtain rfl:tn=0:=by omega
  obtain rfl:un=0:=by omega
  obtain rfl:an=0:=by omega
  obtain rfl:kn=0:=by omega
  obtain rfl:pl=0:=by omega
  exact yz dn (by omega)
 ·skip
  have hr:=jd d s t u a k pl 1073741824 hd hs ht hu ha k0 k1
  rw[h] at hr
  simp[dg] at hr
  obtain⟨dn,rfl⟩:∃ n:Nat,d=n:=⟨d.toNat,by omega⟩
  obtain⟨sn,rfl⟩:∃ n:Nat,s=n:=⟨s.toNat,by omega⟩
  obtain⟨tn,rfl⟩:∃ n:Nat,t=n:=⟨t.toNat,by omega⟩
  obtain⟨un,rfl⟩:∃ n:Nat,u=n:=⟨u.toNat,by omega⟩
  obtain⟨an,rfl⟩:∃ n:Nat,a=n:=⟨a.toNat,by omega⟩
  obtain⟨kn,rfl⟩:∃ n:Nat,k=n:=⟨k.toNat,by omega⟩
  obtain rfl:dn=0:=by omega
  obtain rfl:sn=0:=by omega
  obtain rfl:tn=0:=by omega
  obtain rfl:un=0:=by omega
  obtain rfl:an=0:=by omega
  obtain rfl:pl=0:=by omega
  exact yy kn (by omega) (by omega)
 ·skip
  have hr:=jc d s t u a k pl 1073741824 hd hs ht hu ha k0 k1
  rw[h] at hr
  simp[dg] at hr
  obtain⟨dn,rfl⟩:∃ n:Nat,d=n:=⟨d.toNat,by omega⟩
  obtain⟨sn,rfl⟩:∃ n:Nat,s=n:=⟨s.toNat,by omega⟩
  obtain⟨tn,rfl⟩:∃ n:Nat,t=n:=⟨t.toNat,by omega⟩
  obtain⟨un,rfl⟩:∃ n:Nat,u=n:=⟨u.toNat,by omega⟩
  obtain⟨an,rfl⟩:∃ n:Nat,a=n:=⟨a.toNat,by omega⟩
  obtain⟨kn,rfl⟩:∃ n:Nat,k=n:=⟨k.toNat,by omega⟩
  obtain rfl:dn=0:=by omega
  obtain rfl:sn=0:=by omega
  obtain rfl:tn=0:=by omega
  obtain rfl:un=0:=by omega
  obtain rfl:an=0:=by omega
  obtain rfl:pl=0:=by omega
  exact yx kn (by omega) (by omega)
 ·skip
  have hr:=kG d s t u a k pl 1073741824 hd hs ht hu ha k0 k1
  rw[h] at hr
  simp[dg] at hr
  obtain⟨dn,rfl⟩:∃ n:Nat,d=n:=⟨d.toNat,by omega⟩
  obtain⟨sn,rfl⟩:∃ n:Nat,s=n:=⟨s.toNat,by omega⟩
  obtain⟨tn,rfl⟩:∃ n:Nat,t=n:=⟨t.toNat,by omega⟩
  obtain⟨un,rfl⟩:∃ n:Nat,u=n:=⟨u.toNat,by omega⟩
  obtain⟨an,rfl⟩:∃ n:Nat,a=n:=⟨a.toNat,by omega⟩
  obtain⟨kn,rfl⟩:∃ n:Nat,k=n:=⟨k.toNat,by omega⟩
  obtain rfl:tn=0:=by omega
  obtain rfl:un=0:=by omega
  obtain rfl:kn=0:=by omega
  obtain rfl:pl=0:=by omega
  exact yw dn sn an (by omega) (by omega) (by omega)
 ·skip
  have hr:=kF d s t u a k pl 1073741824 hd hs ht hu ha k0 k1
  rw[h] at hr
  simp[dg] at hr
  obtain⟨dn,rfl⟩:∃ n:Nat,d=n:=⟨d.toNat,by omega⟩
  obtain⟨sn,rfl⟩:∃ n:Nat,s=n:=⟨s.toNat,by omega⟩
  obtain⟨tn,rfl⟩:∃ n:Nat,t=n:=⟨t.toNat,by omega⟩
  obtain⟨un,rfl⟩:∃ n:Nat,u=n:=⟨u.toNat,by omega⟩
  obtain⟨an,rfl⟩:∃ n:Nat,a=n:=⟨a.toNat,by omega⟩
  obtain⟨kn,rfl⟩:∃ n:Nat,k=n:=⟨k.toNat,by omega⟩
  obtain rfl:dn=0:=by omega
  obtain rfl:un=0:=by omega
  obtain rfl:kn=0:=by omega
  obtain rfl:pl=0:=by omega
  exact yv sn tn an (by omega) (by omega) (by omega)
 ·skip
  have hr:=kE d s t u a k pl 1073741824 hd hs ht hu ha k0 k1
  rw[h] at hr
  simp[dg] at hr
  obtain⟨dn,rfl⟩:∃ n:Nat,d=n:=⟨d.toNat,by omega⟩
  obtain⟨sn,rfl⟩:∃ n:Nat,s=n:=⟨s.toNat,by omega⟩
  obtain⟨tn,rfl⟩:∃ n:Nat,t=n:=⟨t.toNat,by omega⟩
  obtain⟨un,rfl⟩:∃ n:Nat,u=n:=⟨u.toNat,by omega⟩
  obtain⟨an,rfl⟩:∃ n:Nat,a=n:=⟨a.toNat,by omega⟩
  obtain⟨kn,rfl⟩:∃ n:Nat,k=n:=⟨k.toNat,by omega⟩
  obtain rfl:un=0:=by omega
  obtain rfl:kn=0:=by omega
  obtain rfl:pl=0:=by omega
  exact yr dn sn tn an (by omega) (by omega) (by omega) (by omega)
 ·skip
  have hr:=kD d s t u a k pl 1073741824 hd hs ht hu ha k0 k1
  rw[h] at hr
  simp[dg] at hr
  obtain⟨dn,rfl⟩:∃ n:Nat,d=n:=⟨d.toNat,by omega⟩
  obtain⟨sn,rfl⟩:∃ n:Nat,s=n:=⟨s.toNat,by omega⟩
  obtain⟨tn,rfl⟩:∃ n:Nat,t=n:=⟨t.toNat,by omega⟩
  obtain⟨un,rfl⟩:∃ n:Nat,u=n:=⟨u.toNat,by omega⟩
  obtain⟨an,rfl⟩:∃ n:Nat,a=n:=⟨a.toNat,by omega⟩
  obtain⟨kn,rfl⟩:∃ n:Nat,k=n:=⟨k.toNat,by omega⟩
  obtain rfl:kn=0:=by omega
  obtain rfl:pl=0:=by omega
  exact yq dn sn tn un an (by omega) (by omega) (by omega) (by omega) (by omega)
 ·skip
  have hr:=kC d s t u a k pl 1073741824 hd hs ht hu ha k0 k1
  rw[h] at hr
  simp[dg] at hr
  obtain⟨dn,rfl⟩:∃ n:Nat,d=n:=⟨d.toNat,by omega⟩
  obtain⟨sn,rfl⟩:∃ n:Nat,s=n:=⟨s.toNat,by omega⟩
  obtain⟨tn,rfl⟩:∃ n:Nat,t=n:=⟨t.toNat,by omega⟩
  obtain⟨un,rfl⟩:∃ n:Nat,u=n:=⟨u.toNat,by omega⟩
  obtain⟨an,rfl⟩:∃ n:Nat,a=n:=⟨a.toNat,by omega⟩
  obtain⟨kn,rfl⟩:∃ n:Nat,k=n:=⟨k.toNat,by omega⟩
  obtain rfl:tn=0:=by omega
  obtain rfl:un=0:=by omega
  obtain rfl:pl=0:=by omega
  exact yp dn sn an kn (by omega) (by omega) (by omega) (by omega) (by omega)
 ·skip
  have hr:=ic d s t u a k pl 1073741824 hd hs ht hu ha k0 k1
  rw[h] at hr
  simp[dg] at hr
  obtain⟨dn,rfl⟩:∃ n:Nat,d=n:=⟨d.toNat,by omega⟩
  obtain⟨sn,rfl⟩:∃ n:Nat,s=n:=⟨s.toNat,by omega⟩
  obtain⟨tn,rfl⟩:∃ n:Nat,t=n:=⟨t.toNat,by omega⟩
  obtain⟨un,rfl⟩:∃ n:Nat,u=n:=⟨u.toNat,by omega⟩
  obtain⟨an,rfl⟩:∃ n:Nat,a=n:=⟨a.toNat,by omega⟩
  obtain⟨kn,rfl⟩:∃ n:Nat,k=n:=⟨k.toNat,by omega⟩
  obtain rfl:un=0:=by omega
  by_cases hm:pl=-1
  ·subst hm
   by_cases hk:kn=0
   ·subst hk;exact qB dn sn tn an 0 (by omega) (by omega) (by omega) (by omega) (by omega)
   ·obtain rfl:kn=1:=by omega
    exact qz dn sn tn an 0 (by omega) (by omega) (by omega) (by omega) (by omega)
  ·obtain⟨pn,rfl⟩:∃ n:Nat,pl=n:=⟨pl.toNat,by omega⟩
   by_cases hk:kn=0
   ·subst hk;exact qA dn sn tn an pn (by omega) (by omega) (by omega) (by omega) (by omega)
   ·obtain rfl:kn=1:=by omega
    exact qy dn sn tn an pn (by omega) (by omega) (by omega) (by omega) (by omega)
 ·skip
  have hr:=kB d s t u a k pl 1073741824 hd hs ht hu ha k0 k1
  rw[h] at hr
  simp[dg] at hr
  obtain⟨dn,rfl⟩:∃ n:Nat,d=n:=⟨d.toNat,by omega⟩
  obtain⟨sn,rfl⟩:∃ n:Nat,s=n:=⟨s.toNat,by omega⟩
  obtain⟨tn,rfl⟩:∃ n:Nat,t=n:=⟨t.toNat,by omega⟩
  obtain⟨un,rfl⟩:∃ n:Nat,u=n:=⟨u.toNat,by omega⟩
  obtain⟨an,rfl⟩:∃ n:Nat,a=n:=⟨a.toNat,by omega⟩
  obtain⟨kn,rfl⟩:∃ n:Nat,k=n:=⟨k.toNat,by omega⟩
  obtain rfl:sn=0:=by omega
  obtain rfl:tn=0:=by omega
  obtain rfl:un=0:=by omega
  obtain rfl:an=0:=by omega
  obtain rfl:kn=0:=by omega
  obtain rfl:pl=0:=by omega
  exact yo dn (by omega)
 ·skip
  have hr:=kA d s t u a k pl 1073741824 hd hs ht hu ha k0 k1
  rw[h] at hr
  simp[dg] at hr
  obtain⟨dn,rfl⟩:∃ n:Nat,d=n:=⟨d.toNat,by omega⟩
  obtain⟨sn,rfl⟩:∃ n:Nat,s=n:=⟨s.toNat,by omega⟩
  obtain⟨tn,rfl⟩:∃ n:Nat,t=n:=⟨t.toNat,by omega⟩
  obtain⟨un,rfl⟩:∃ n:Nat,u=n:=⟨u.toNat,by omega⟩
  obtain⟨an,rfl⟩:∃ n:Nat,a=n:=⟨a.toNat,by omega⟩
  obtain⟨kn,rfl⟩:∃ n:Nat,k=n:=⟨k.toNat,by omega⟩
  obtain rfl:dn=0:=by omega
  obtain rfl:tn=0:=by omega
  obtain rfl:un=0:=by omega
  obtain rfl:an=0:=by omega
  obtain rfl:kn=0:=by omega
  obtain rfl:pl=0:=by omega
  exact ym sn (by omega)
 ·exfalso
  unfold au at h
  simp only[(dB hn).1] at h
  cases h
theorem uE (i:aU)(h:au i 1073741824=O)(k0:0<=i.k)(k1:i.k<4294967296):j9 (ah i)=O/\aA (ah i)=i:=by
 have e:=sf i h k0 k1
 refine⟨?_,e⟩
 unfold j9
 rw[e,h]
 simp
end
section
open Go.ChangeShapes Go.WideShapes Go.ChangeAt Go.RowKit
def jH (s:List UInt8):Int:=
 if s.length=2/\(s.getD 0 0).toNat=114/\48<=(s.getD 1 0).toNat/\(s.getD 1 0).toNat<=55 then ((s.getD 1 0).toNat:Int)-48 else -1
theorem xl (s:List UInt8)(hl:s.length<100000)(w:World):
 Calls Tryz.prog 143 #[bs s] w fun e w'=>e=.returned (I Q (jH s))/\w=w':=by
 have E:jH s=if s.length=2/\(s.getD 0 0).toNat=114/\48<=(s.getD 1 0).toNat/\(s.getD 1 0).toNat<=55 then ((s.getD 1 0).toNat:Int)-48 else -1:=rfl
 generalize jH s=r at *
 unfold bs
 by_cases h2:s.length=2
 ·have i0:∀ w,(Instr.index 9 (.string ⟨s.toArray⟩) (I Q 0)).run Tryz.prog w=.ok (I .u8 ((s.getD 0 0).toNat:Int)) w:=eO s 0 (by omega)
  have i1:∀ w,(Instr.index 9 (.string ⟨s.toArray⟩) (I Q 1)).run Tryz.prog w=.ok (I .u8 ((s.getD 1 0).toNat:Int)) w:=eO s 1 (by omega)
  generalize (s.getD 0 0).toNat=x at *
  generalize (s.getD 1 0).toNat=y at *
  have dl:((s.length:Int) != 2)=N:=by simp;omega
  by_cases h1:x=114
  ·subst h1
   by_cases h3:y<48
   ·have HE:=Z (E.trans (if_neg (by omega)))
    clear E h2
    have d:(y:Int)<48:=by omega
    have d0:((114:Nat):Int)=114:=rfl
    rw[d0] at i0
    clear d0
    go_enter Tryz.func143,Tryz.ntmps143
    go_wp2
    go_ret
    exact⟨cr HE.out.symm,rfl⟩
   have d0:((114:Nat):Int)=114:=rfl
   rw[d0] at i0
   clear d0
   by_cases h4:55<y
   ·have HE:=Z (E.trans (if_neg (by omega)))
    clear E h2
    have d:decide ((y:Int)<48)=N:=by simp;omega
    have d2:(y:Int) > 55:=by omega
    go_enter Tryz.func143,Tryz.ntmps143
    go_wp2
    go_ret
    exact⟨cr HE.out.symm,rfl⟩
   ·have HE:=Z (E.trans (if_pos (by omega)))
    clear E h2
    have d:decide ((y:Int)<48)=N:=by simp;omega
    have d2:decide ((y:Int) > 55)=N:=by simp;omega
    have d3:48<=(y:Int):=by omega
    have d4:(y:Int)<=55:=by omega
    go_enter Tryz.func143,Tryz.ntmps143
    go_wp2
    go_ret
    exact⟨cr HE.out.symm,rfl⟩
  ·have HE:=Z (E.trans (if_neg (by omega)))
   clear E h2
   have d:((x:Int) != 114)=O:=by simp;omega
   go_enter Tryz.func143,Tryz.ntmps143
   go_wp2
   go_ret
   exact⟨cr HE.out.symm,rfl⟩
 ·have HE:=Z (E.trans (if_neg (by omega)))
  have d:((s.length:Int) != 2)=O:=by simp;omega
  clear E
  go_enter Tryz.func143,Tryz.ntmps143
  go_wp2
  go_ret
  exact⟨cr HE.out.symm,rfl⟩
def dA (acc:Int):List UInt8->Option Int
 | []=>some acc
 | c :: r=>if 48<=c.toNat/\c.toNat<=57 then dA (acc*10+((c.toNat:Int)-48)) r else none
def rD:Option Int->Int
 | none=>-1
 | some n=>if 4294967295<n then -1 else n
def mi (s:List UInt8):Int:=
 if s=[]\/10<s.length\/(1<s.length/\(s.getD 0 0).toNat=48) then -1 else rD (dA 0 s)
theorem qx (acc:Int)(s:List UInt8)(k:Nat)(h:k<s.length):
 dA acc (s.drop k)=if 48<=(s.getD k 0).toNat/\(s.getD k 0).toNat<=57 then dA (acc*10+(((s.getD k 0).toNat:Int)-48)) (s.drop (k+1)) else none:=by
 rw[List.drop_eq_getElem_cons h]
 simp[dA,h]
def zI:Nat->Int
 | 0=>1
 | n+1=>zI n*10
theorem Ci:∀ k,k<=10->1<=zI k/\zI k<=10000000000:=by
 intro k hk
 have:k=0\/k=1\/k=2\/k=3\/k=4\/k=5\/k=6\/k=7\/k=8\/k=9\/k=10:=by omega
 rcases this with rfl|rfl|rfl|rfl|rfl|rfl|rfl|rfl|rfl|rfl|rfl <;> decide
theorem Cw (s:List UInt8)(hl:s.length<100000)(w:World):
 Calls Tryz.prog 144 #[bs s] w fun e w'=>e=.returned (I Q (mi s))/\w=w':=by
 have E:mi s=if s=[]\/10<s.length\/(1<s.length/\(s.getD 0 0).toNat=48) then -1 else rD (dA 0 s):=rfl
 generalize mi s=r at *
 by_cases h0:s=[]
 ·subst h0
  have HE:=Z (E.trans (if_pos (.inl rfl)))
  clear E
  unfold bs
  go_enter Tryz.func144,Tryz.ntmps144
  go_wp2
  go_ret
  exact⟨cr HE.out.symm,rfl⟩
 have he:s.isEmpty=N:=by simpa using h0
 have hpos:0<s.length:=List.length_pos_iff.2 h0
 by_cases h10:10<s.length
 ·have HE:=Z (E.trans (if_pos (.inr (.inl h10))))
  have d:(s.length:Int) > 10:=by omega
  clear E h0
  unfold bs
  go_enter Tryz.func144,Tryz.ntmps144
  go_wp2
  go_ret
  exact⟨cr HE.out.symm,rfl⟩
 have d10:decide ((s.length:Int) > 10)=N:=by simp;omega
 have i0:∀ w,(Instr.index 9 (.string ⟨s.toArray⟩) (I Q 0)).run Tryz.prog w=.ok (I .u8 ((s.getD 0 0).toNat:Int)) w:=eO s 0 hpos
 by_cases h1:1<s.length/\(s.getD 0 0).toNat=48
 ·have HE:=Z (E.trans (if_pos (.inr (.inr h1))))
  obtain⟨h1,h48⟩:=h1
  rw[h48] at i0
  have d0:((48:Nat):Int)=48:=rfl
  rw[d0] at i0
  clear d0
  have d:(s.length:Int) > 1:=by omega
  clear E h0 h48
  unfold bs
  go_enter Tryz.func144,Tryz.ntmps144
  go_wp2
  go_ret
  exact⟨cr HE.out.symm,rfl⟩
 have E2:r=rD (dA 0 s):=E.trans (if_neg (by
  rintro(h | h | h)
  ·exact h0 h
  ·exact h10 h
  ·exact h1 h))
 have HE:=Z E2
 clear E E2
 have HK:=Z (Ci)
 generalize (s.getD 0 0).toNat=c0 at *
 unfold bs
 have hgo:∀ (K:Prop),((decide ((s.length:Int) > 1)=N->K)/\(decide ((s.length:Int) > 1)=O->((c0:Int)==48)=N->K))->K:=by
  intro K hK
  by_cases h:s.length=1
  ·exact hK.1 (by simp;omega)
  ·have:c0≠48:=fun e=>h1 ⟨by omega,e⟩
   exact hK.2 (by simp;omega) (by simp;omega)
 refine hgo _ ⟨fun hd1=>?_,fun hd1 hd2=>?_⟩
 all_goals
  clear hgo h0 h1
  go_enter Tryz.func144,Tryz.ntmps144
  go_wp2
  go_loop [3,4] (fun n i=>∃ (k:Nat) (v:Int),k<=s.length/\i=I Q k/\n=I Q v/\0<=v/\v<zI k/\r=rD (dA v (s.drop k))) (fun _ i=>s.length-(intOf i).toNat)
  case atStart=>exact⟨0,0,Nat.zero_le _,rfl,rfl,by omega,by decide,HE.out⟩
  case round=>
   obtain⟨k,v,hk,rfl,rfl,v0,v1,hr⟩:=hrel
   obtain⟨q0,q1⟩:=HK.out k (by omega)
   by_cases hlt:k<s.length
   ·have ix:=eO s k hlt
    rw[qx v s k hlt] at hr
    have hrf:zI (k+1)=zI k*10:=rfl
    have hu:=(s.getD k 0).toNat_lt
    generalize (s.getD k 0).toNat=c at *
    have HR:=Z hr
    have HF:=Z hrf
    clear hr hrf
    by_cases c1:c<48
    ·rw[if_neg (by omega)] at HR
     have d1:(c:Int)<48:=by omega
     go_wp2
     go_ret
     exact⟨cr HR.out.symm,rfl⟩
    by_cases c2:57<c
    ·rw[if_neg (by omega)] at HR
     have d1:decide ((c:Int)<48)=N:=by simp;omega
     have d2:(c:Int) > 57:=by omega
     go_wp2
     go_ret
     exact⟨cr HR.out.symm,rfl⟩
    ·rw[if_pos (by omega)] at HR
     have d1:decide ((c:Int)<48)=N:=by simp;omega
     have d2:decide ((c:Int) > 57)=N:=by simp;omega
     have d3:48<=(c:Int):=by omega
     have d4:(c:Int)<=57:=by omega
     have hv9:v<10000000000:=by omega
     have hk10:(k:Int)<=10:=by omega
     go_wp2
     go_round
     case rel=>exact⟨k+1,v*10+((c:Int)-48),by omega,by go_num,rfl,by omega,by rw[HF.out];omega,HR.out⟩
     case measure=>simp[intOf];omega
   ·obtain rfl:k=s.length:=by omega
    rw[List.drop_length] at hr
    have HR:=Z (show r=if 4294967295<v then -1 else v from hr)
    clear hr
    by_cases hv:4294967295<v
    ·rw[if_pos hv] at HR
     go_wp2
     go_ret
     exact⟨cr HR.out.symm,rfl⟩
    ·rw[if_neg hv] at HR
     go_wp2
     go_ret
     exact⟨cr HR.out.symm,rfl⟩
end
section
def eZ (w:List UInt8):Nat->Int
 | 0=>0
 | n+1=>if (bE ((n:Int)+1)).isEmpty=N/\bE ((n:Int)+1)=w then (n:Int)+1 else eZ w n
def ly (w:List UInt8):Bool:=decide (0<=jH w) || (decide (0<=mi w) || (decide (w=[110,101]) || (decide (w=[101,113]) || decide (w=[101,108,115,101]))))
def iU (w:List UInt8):List Int:=if 0<=jH w then [jH w] else []
def iV (w:List UInt8):List Int:=if 0<=jH w then [] else if 0<=mi w then [mi w] else []
def mj (w:List UInt8):Bool:=!decide (0<=jH w) && (!decide (0<=mi w) && decide (w=[110,101]))
def bF (l:List (List UInt8)):List Int:=l.flatMap iU
def bX (l:List (List UInt8)):List Int:=l.flatMap iV
def mF (l:List (List UInt8)):Int:=if l.any mj=O then 1 else 0
def cC (n:Nat)(v:Int)(l:List Int):List Int:=l++List.replicate (n-l.length) v
def db (op:Int)(rs ns:List Int)(k:Int):aU:=
 if op=1\/op=3\/op=4\/op=5\/op=6 then ⟨op,aD rs 0,aD rs 1,aD rs 2,0,0,aD ns 0 % 4294967296,0⟩
 else if op=2\/op=7\/op=11\/op=22 then ⟨op,aD rs 0,aD rs 1,aD rs 2,0,0,k,0⟩
 else if op=8\/op=9\/op=10 then ⟨op,0,aD rs 0,aD rs 1,0,0,k,aD ns 0⟩
 else if op=12\/op=13 then ⟨op,0,0,0,0,0,aD ns 0 % 4294967296,0⟩
 else if op=16\/op=18\/op=19 then ⟨op,aD rs 0,aD rs 1,aD rs 2,aD rs 3,aD ns 0,k,0⟩
 else if op=20 then ⟨op,aD rs 0,aD rs 1,aD rs 2,aD rs 3,aD ns 0,aD ns 1 % 4294967296,0⟩
 else if op=21 then ⟨op,aD rs 0,aD rs 1,aD rs 2,aD rs 3,aD ns 0,k,aD ns 1⟩
 else if op=17 then ⟨op,0,aD rs 0,aD rs 1,0,aD ns 0,k,0⟩
 else if op=23 then ⟨op,0,aD rs 0,0,0,0,k,0⟩
 else ⟨op,0,0,0,0,0,k,0⟩
def aG (ws:List (List UInt8)):aU:=db (eZ (ws.getD 0 []) 23) (cC 4 0 (bF ws.tail)) (cC 2 (-1) (bX ws.tail)) (mF ws.tail)
def kZ (s:List UInt8):Bool:=(aq s).tail.all ly && (au (aG (aq s)) 1073741824 && decide (ah (aG (aq s))=s))
theorem me:∀ (a b:List UInt8) (acc u:Int),dA acc a=some u->dA acc (a++b)=dA u b
 | [],b,acc,u,h=>by simp[dA] at h;subst h;rfl
 | c :: a,b,acc,u,h=>by
  simp only[dA,List.cons_append] at h ⊢
  split at h
  ·rename_i h1
   rw[if_pos h1]
   exact me a b _ u h
  ·cases h
theorem sq:∀ (n:Nat),dA 0 (Lib.decDigits n)=some (n:Int):=by
 intro n
 induction n using Nat.strongRecOn with
 | _ n ih=>
  rw[Lib.decDigits]
  by_cases h:n<10
  ·rw[dif_pos h]
   have e:(UInt8.ofNat (48+n)).toNat=48+n:=by rw[UInt8.toNat_ofNat',Nat.mod_eq_of_lt (by omega)]
   simp only[dA,e]
   rw[if_pos (by omega)]
   congr 1
   omega
  ·rw[dif_neg h,me _ _ _ _ (ih (n / 10) (by omega))]
   have e:(UInt8.ofNat (48+n % 10)).toNat=48+n % 10:=by rw[UInt8.toNat_ofNat',Nat.mod_eq_of_lt (by omega)]
   simp only[dA,e]
   rw[if_pos (by omega)]
   congr 1
   omega
theorem yK:∀ (m n:Nat),n<10 ^ (m+1)->(Lib.decDigits n).length<=m+1:=by
 intro m
 induction m with
 | zero=>intro n h;rw[Lib.decDigits,dif_pos (by simpa using h)];simp
 | succ m ih=>
  intro n h
  rw[Lib.decDigits]
  by_cases h9:n<10
  ·rw[dif_pos h9];simp
  ·rw[dif_neg h9]
   have h2:n / 10<10 ^ (m+1):=by
    rw[Nat.div_lt_iff_lt_mul (by decide)]
    rw[Nat.pow_succ] at h
    exact h
   have:=ih _ h2
   simp
   omega
theorem CE (n:Nat)(h:n<4294967296):mi (Lib.decDigits n)=n:=by
 have hf:=sq n
 have hl:=yK 9 n (by
  have:(10:Nat) ^ (9+1)=10000000000:=by decide
  omega)
 obtain⟨c,r,e,h1,h2,h3⟩:=jg n
 have h10:1<(Lib.decDigits n).length->10<=n:=by
  intro hh
  by_cases hn:n<10
  ·rw[Lib.decDigits,dif_pos hn] at hh;simp at hh
  ·omega
 unfold mi
 rw[if_neg,hf]
 ·show (if 4294967295<(n:Int) then -1 else (n:Int))=n
  rw[if_neg (by omega)]
 ·rintro(hh | hh | ⟨hh,hz⟩)
  ·rw[e] at hh;cases hh
  ·omega
  ·have:=h3 (h10 hh)
   rw[e] at hz
   simp at hz
   omega
theorem Ck (n:Nat):jH (Lib.decDigits n)=-1:=by
 obtain⟨c,r,e,h1,h2,-⟩:=jg n
 unfold jH
 rw[if_neg]
 rintro⟨-,hh,-⟩
 rw[e] at hh
 simp at hh
 omega
theorem Cj (n:Nat)(h:n<=7):jH (dM n)=n:=by
 unfold dM
 rw[Lib.decDigits,dif_pos (by omega)]
 have e:(UInt8.ofNat (48+n)).toNat=48+n:=by rw[UInt8.toNat_ofNat',Nat.mod_eq_of_lt (by omega)]
 unfold jH
 rw[if_pos]
 ·simp only[List.getD_cons_succ,List.getD_cons_zero,e];omega
 ·refine⟨rfl,rfl,?_⟩
  simp only[List.getD_cons_succ,List.getD_cons_zero,e]
  omega
theorem bH (n:Nat)(h:n<=7):ly (dM n)=O/\iU (dM n)=[(n:Int)]/\iV (dM n)=[]/\mj (dM n)=N:=by
 have e:=Cj n h
 unfold ly iU iV mj
 rw[e]
 have h0:(0:Int)<=(n:Int):=by omega
 simp[h0]
theorem ed (n:Nat)(h:n<4294967296):ly (Lib.decDigits n)=O/\iU (Lib.decDigits n)=[]/\iV (Lib.decDigits n)=[(n:Int)]/\mj (Lib.decDigits n)=N:=by
 have e:=CE n h
 have e2:=Ck n
 unfold ly iU iV mj
 rw[e,e2]
 have h0:(0:Int)<=(n:Int):=by omega
 simp[h0]
theorem Gf:ly [101,113]=O/\iU [101,113]=[]/\iV [101,113]=[]/\mj [101,113]=N:=by decide
theorem Ge:ly [110,101]=O/\iU [110,101]=[]/\iV [110,101]=[]/\mj [110,101]=O:=by decide
theorem rx:ly [101,108,115,101]=O/\iU [101,108,115,101]=[]/\iV [101,108,115,101]=[]/\mj [101,108,115,101]=N:=by decide
theorem yJ (dn kn:Nat)(hdn:dn<=7)(hkn:kn<4294967296):(aq (ah ⟨1,(dn:Nat),0,0,0,0,(kn:Nat),0⟩)).tail.all ly=O/\aG (aq (ah ⟨1,(dn:Nat),0,0,0,0,(kn:Nat),0⟩))=⟨1,(dn:Nat),0,0,0,0,(kn:Nat),0⟩:=by
 obtain⟨adn,bdn,cdn,ddn⟩:=bH dn hdn
 obtain⟨akn,bkn,ckn,dkn⟩:=ed kn hkn
 rw[qL]
 have e:eZ (bE 1) 23=1:=by decide
 refine⟨by simp[adn,akn],?_⟩
 simp[aG,e,bF,bX,bdn,cdn,bkn,ckn,cC,db,aD]
 omega
theorem yI (dn sn:Nat)(hdn:dn<=7)(hsn:sn<=7):(aq (ah ⟨2,(dn:Nat),(sn:Nat),0,0,0,0,0⟩)).tail.all ly=O/\aG (aq (ah ⟨2,(dn:Nat),(sn:Nat),0,0,0,0,0⟩))=⟨2,(dn:Nat),(sn:Nat),0,0,0,0,0⟩:=by
 obtain⟨adn,bdn,cdn,ddn⟩:=bH dn hdn
 obtain⟨asn,bsn,csn,dsn⟩:=bH sn hsn
 rw[qK]
 have e:eZ (bE 2) 23=2:=by decide
 refine⟨by simp[adn,asn],?_⟩
 simp[aG,e,bF,mF,bdn,ddn,bsn,dsn,cC,db,aD]
theorem yH (dn sn kn:Nat)(hdn:dn<=7)(hsn:sn<=7)(hkn:kn<4294967296):(aq (ah ⟨3,(dn:Nat),(sn:Nat),0,0,0,(kn:Nat),0⟩)).tail.all ly=O/\aG (aq (ah ⟨3,(dn:Nat),(sn:Nat),0,0,0,(kn:Nat),0⟩))=⟨3,(dn:Nat),(sn:Nat),0,0,0,(kn:Nat),0⟩:=by
 obtain⟨adn,bdn,cdn,ddn⟩:=bH dn hdn
 obtain⟨asn,bsn,csn,dsn⟩:=bH sn hsn
 obtain⟨akn,bkn,ckn,dkn⟩:=ed kn hkn
 rw[qJ]
 have e:eZ (bE 3) 23=3:=by decide
 refine⟨by simp[adn,asn,akn],?_⟩
 simp[aG,e,bF,bX,bdn,cdn,bsn,csn,bkn,ckn,cC,db,aD]
 omega
theorem yG (dn sn kn:Nat)(hdn:dn<=7)(hsn:sn<=7)(hkn:kn<4294967296):(aq (ah ⟨4,(dn:Nat),(sn:Nat),0,0,0,(kn:Nat),0⟩)).tail.all ly=O/\aG (aq (ah ⟨4,(dn:Nat),(sn:Nat),0,0,0,(kn:Nat),0⟩))=⟨4,(dn:Nat),(sn:Nat),0,0,0,(kn:Nat),0⟩:=by
 obtain⟨adn,bdn,cdn,ddn⟩:=bH dn hdn
 obtain⟨asn,bsn,csn,dsn⟩:=bH sn hsn
 obtain⟨akn,bkn,ckn,dkn⟩:=ed kn hkn
 rw[qI]
 have e:eZ (bE 4) 23=4:=by decide
 refine⟨by simp[adn,asn,akn],?_⟩
 simp[aG,e,bF,bX,bdn,cdn,bsn,csn,bkn,ckn,cC,db,aD]
 omega
theorem yF (dn sn kn:Nat)(hdn:dn<=7)(hsn:sn<=7)(hkn:kn<4294967296):(aq (ah ⟨5,(dn:Nat),(sn:Nat),0,0,0,(kn:Nat),0⟩)).tail.all ly=O/\aG (aq (ah ⟨5,(dn:Nat),(sn:Nat),0,0,0,(kn:Nat),0⟩))=⟨5,(dn:Nat),(sn:Nat),0,0,0,(kn:Nat),0⟩:=by
 obtain⟨adn,bdn,cdn,ddn⟩:=bH dn hdn
 obtain⟨asn,bsn,csn,dsn⟩:=bH sn hsn
 obtain⟨akn,bkn,ckn,dkn⟩:=ed kn hkn
 rw[qH]
 have e:eZ (bE 5) 23=5:=by decide
 refine⟨by simp[adn,asn,akn],?_⟩
 simp[aG,e,bF,bX,bdn,cdn,bsn,csn,bkn,ckn,cC,db,aD]
 omega
theorem yE (dn sn kn:Nat)(hdn:dn<=7)(hsn:sn<=7)(hkn:kn<4294967296):(aq (ah ⟨6,(dn:Nat),(sn:Nat),0,0,0,(kn:Nat),0⟩)).tail.all ly=O/\aG (aq (ah ⟨6,(dn:Nat),(sn:Nat),0,0,0,(kn:Nat),0⟩))=⟨6,(dn:Nat),(sn:Nat),0,0,0,(kn:Nat),0⟩:=by
 obtain⟨adn,bdn,cdn,ddn⟩:=bH dn hdn
 obtain⟨asn,bsn,csn,dsn⟩:=bH sn hsn
 obtain⟨akn,bkn,ckn,dkn⟩:=ed kn hkn
 rw[qG]
 have e:eZ (bE 6) 23=6:=by decide
 refine⟨by simp[adn,asn,akn],?_⟩
 simp[aG,e,bF,bX,bdn,cdn,bsn,csn,bkn,ckn,cC,db,aD]
 omega
theorem yD (dn sn tn:Nat)(hdn:dn<=7)(hsn:sn<=7)(htn:tn<=7):(aq (ah ⟨7,(dn:Nat),(sn:Nat),(tn:Nat),0,0,0,0⟩)).tail.all ly=O/\aG (aq (ah ⟨7,(dn:Nat),(sn:Nat),(tn:Nat),0,0,0,0⟩))=⟨7,(dn:Nat),(sn:Nat),(tn:Nat),0,0,0,0⟩:=by
 obtain⟨adn,bdn,cdn,ddn⟩:=bH dn hdn
 obtain⟨asn,bsn,csn,dsn⟩:=bH sn hsn
 obtain⟨atn,btn,ctn,dtn⟩:=bH tn htn
 rw[qF]
 have e:eZ (bE 7) 23=7:=by decide
 refine⟨by simp[adn,asn,atn],?_⟩
 simp[aG,e,bF,mF,bdn,ddn,bsn,dsn,btn,dtn,cC,db,aD]
theorem yC (sn tn pn:Nat)(hsn:sn<=7)(htn:tn<=7)(hpn:pn<4294967296):(aq (ah ⟨8,0,(sn:Nat),(tn:Nat),0,0,0,(pn:Nat)⟩)).tail.all ly=O/\aG (aq (ah ⟨8,0,(sn:Nat),(tn:Nat),0,0,0,(pn:Nat)⟩))=⟨8,0,(sn:Nat),(tn:Nat),0,0,0,(pn:Nat)⟩:=by
 obtain⟨asn,bsn,csn,dsn⟩:=bH sn hsn
 obtain⟨atn,btn,ctn,dtn⟩:=bH tn htn
 obtain⟨apn,bpn,cpn,dpn⟩:=ed pn hpn
 rw[qE]
 have e:eZ (bE 8) 23=8:=by decide
 refine⟨by simp[asn,atn,apn],?_⟩
 simp[aG,e,bF,bX,mF,bsn,csn,dsn,btn,ctn,dtn,bpn,cpn,dpn,cC,db,aD]
theorem yB (sn tn pn:Nat)(hsn:sn<=7)(htn:tn<=7)(hpn:pn<4294967296):(aq (ah ⟨9,0,(sn:Nat),(tn:Nat),0,0,0,(pn:Nat)⟩)).tail.all ly=O/\aG (aq (ah ⟨9,0,(sn:Nat),(tn:Nat),0,0,0,(pn:Nat)⟩))=⟨9,0,(sn:Nat),(tn:Nat),0,0,0,(pn:Nat)⟩:=by
 obtain⟨asn,bsn,csn,dsn⟩:=bH sn hsn
 obtain⟨atn,btn,ctn,dtn⟩:=bH tn htn
 obtain⟨apn,bpn,cpn,dpn⟩:=ed pn hpn
 rw[qD]
 have e:eZ (bE 9) 23=9:=by decide
 refine⟨by simp[asn,atn,apn],?_⟩
 simp[aG,e,bF,bX,mF,bsn,csn,dsn,btn,ctn,dtn,bpn,cpn,dpn,cC,db,aD]
theorem vp (pn:Nat)(hpn:pn<4294967296):(aq (ah ⟨10,0,0,0,0,0,0,(pn:Nat)⟩)).tail.all ly=O/\aG (aq (ah ⟨10,0,0,0,0,0,0,(pn:Nat)⟩))=⟨10,0,0,0,0,0,0,(pn:Nat)⟩:=by
 obtain⟨apn,bpn,cpn,dpn⟩:=ed pn hpn
 rw[nS]
 have e:eZ (bE 10) 23=10:=by decide
 refine⟨by simp[apn],?_⟩
 simp[aG,e,bF,bX,mF,bpn,cpn,dpn,cC,db,aD]
theorem vm (dn:Nat)(hdn:dn<=7):(aq (ah ⟨11,(dn:Nat),0,0,0,0,0,0⟩)).tail.all ly=O/\aG (aq (ah ⟨11,(dn:Nat),0,0,0,0,0,0⟩))=⟨11,(dn:Nat),0,0,0,0,0,0⟩:=by
 obtain⟨adn,bdn,cdn,ddn⟩:=bH dn hdn
 rw[nR]
 have e:eZ (bE 11) 23=11:=by decide
 refine⟨by simp[adn],?_⟩
 simp[aG,e,bF,mF,bdn,ddn,cC,db,aD]
theorem uY (dn:Nat)(hdn:dn<=7):(aq (ah ⟨22,(dn:Nat),0,0,0,0,0,0⟩)).tail.all ly=O/\aG (aq (ah ⟨22,(dn:Nat),0,0,0,0,0,0⟩))=⟨22,(dn:Nat),0,0,0,0,0,0⟩:=by
 obtain⟨adn,bdn,cdn,ddn⟩:=bH dn hdn
 rw[nJ]
 have e:eZ (bE 22) 23=22:=by decide
 refine⟨by simp[adn],?_⟩
 simp[aG,e,bF,mF,bdn,ddn,cC,db,aD]
theorem vj (kn:Nat)(hkn:kn<4294967296):(aq (ah ⟨12,0,0,0,0,0,(kn:Nat),0⟩)).tail.all ly=O/\aG (aq (ah ⟨12,0,0,0,0,0,(kn:Nat),0⟩))=⟨12,0,0,0,0,0,(kn:Nat),0⟩:=by
 obtain⟨akn,bkn,ckn,dkn⟩:=ed kn hkn
 rw[nQ]
 have e:eZ (bE 12) 23=12:=by decide
 refine⟨by simp[akn],?_⟩
 simp[aG,e,bX,ckn,cC,db,aD]
 omega
theorem vh (kn:Nat)(hkn:kn<4294967296):(aq (ah ⟨13,0,0,0,0,0,(kn:Nat),0⟩)).tail.all ly=O/\aG (aq (ah ⟨13,0,0,0,0,0,(kn:Nat),0⟩))=⟨13,0,0,0,0,0,(kn:Nat),0⟩:=by
 obtain⟨akn,bkn,ckn,dkn⟩:=ed kn hkn
 rw[nP]
 have e:eZ (bE 13) 23=13:=by decide
 refine⟨by simp[akn],?_⟩
 simp[aG,e,bX,ckn,cC,db,aD]
 omega
theorem vf (dn sn an:Nat)(hdn:dn<=7)(hsn:sn<=7)(han:an<4294967296):(aq (ah ⟨16,(dn:Nat),(sn:Nat),0,0,(an:Nat),0,0⟩)).tail.all ly=O/\aG (aq (ah ⟨16,(dn:Nat),(sn:Nat),0,0,(an:Nat),0,0⟩))=⟨16,(dn:Nat),(sn:Nat),0,0,(an:Nat),0,0⟩:=by
 obtain⟨adn,bdn,cdn,ddn⟩:=bH dn hdn
 obtain⟨asn,bsn,csn,dsn⟩:=bH sn hsn
 obtain⟨aan,ban,can,dan⟩:=ed an han
 rw[nO]
 have e:eZ (bE 16) 23=16:=by decide
 refine⟨by simp[adn,asn,aan],?_⟩
 simp[aG,e,bF,bX,mF,bdn,cdn,ddn,bsn,csn,dsn,ban,can,dan,cC,db,aD]
theorem ve (sn tn an:Nat)(hsn:sn<=7)(htn:tn<=7)(han:an<4294967296):(aq (ah ⟨17,0,(sn:Nat),(tn:Nat),0,(an:Nat),0,0⟩)).tail.all ly=O/\aG (aq (ah ⟨17,0,(sn:Nat),(tn:Nat),0,(an:Nat),0,0⟩))=⟨17,0,(sn:Nat),(tn:Nat),0,(an:Nat),0,0⟩:=by
 obtain⟨asn,bsn,csn,dsn⟩:=bH sn hsn
 obtain⟨atn,btn,ctn,dtn⟩:=bH tn htn
 obtain⟨aan,ban,can,dan⟩:=ed an han
 rw[nN]
 have e:eZ (bE 17) 23=17:=by decide
 refine⟨by simp[asn,atn,aan],?_⟩
 simp[aG,e,bF,bX,mF,bsn,csn,dsn,btn,ctn,dtn,ban,can,dan,cC,db,aD]
theorem vd (dn sn tn an:Nat)(hdn:dn<=7)(hsn:sn<=7)(htn:tn<=7)(han:an<4294967296):(aq (ah ⟨18,(dn:Nat),(sn:Nat),(tn:Nat),0,(an:Nat),0,0⟩)).tail.all ly=O/\aG (aq (ah ⟨18,(dn:Nat),(sn:Nat),(tn:Nat),0,(an:Nat),0,0⟩))=⟨18,(dn:Nat),(sn:Nat),(tn:Nat),0,(an:Nat),0,0⟩:=by
 obtain⟨adn,bdn,cdn,ddn⟩:=bH dn hdn
 obtain⟨asn,bsn,csn,dsn⟩:=bH sn hsn
 obtain⟨atn,btn,ctn,dtn⟩:=bH tn htn
 obtain⟨aan,ban,can,dan⟩:=ed an han
 rw[nM]
 have e:eZ (bE 18) 23=18:=by decide
 refine⟨by simp[adn,asn,atn,aan],?_⟩
 simp[aG,e,bF,bX,mF,bdn,cdn,ddn,bsn,csn,dsn,btn,ctn,dtn,ban,can,dan,cC,db,aD]
theorem vb (dn sn tn un an:Nat)(hdn:dn<=7)(hsn:sn<=7)(htn:tn<=7)(hun:un<=7)(han:an<4294967296):(aq (ah ⟨19,(dn:Nat),(sn:Nat),(tn:Nat),(un:Nat),(an:Nat),0,0⟩)).tail.all ly=O/\aG (aq (ah ⟨19,(dn:Nat),(sn:Nat),(tn:Nat),(un:Nat),(an:Nat),0,0⟩))=⟨19,(dn:Nat),(sn:Nat),(tn:Nat),(un:Nat),(an:Nat),0,0⟩:=by
 obtain⟨adn,bdn,cdn,ddn⟩:=bH dn hdn
 obtain⟨asn,bsn,csn,dsn⟩:=bH sn hsn
 obtain⟨atn,btn,ctn,dtn⟩:=bH tn htn
 obtain⟨aun,bun,cun,dun⟩:=bH un hun
 obtain⟨aan,ban,can,dan⟩:=ed an han
 rw[nL]
 have e:eZ (bE 19) 23=19:=by decide
 refine⟨by simp[adn,asn,atn,aun,aan],?_⟩
 simp[aG,e,bF,bX,mF,bdn,cdn,ddn,bsn,csn,dsn,btn,ctn,dtn,bun,cun,dun,ban,can,dan,cC,db,aD]
theorem uZ (dn sn an kn:Nat)(hdn:dn<=7)(hsn:sn<=7)(han:an<4294967296)(hkn:kn<4294967296):(aq (ah ⟨20,(dn:Nat),(sn:Nat),0,0,(an:Nat),(kn:Nat),0⟩)).tail.all ly=O/\aG (aq (ah ⟨20,(dn:Nat),(sn:Nat),0,0,(an:Nat),(kn:Nat),0⟩))=⟨20,(dn:Nat),(sn:Nat),0,0,(an:Nat),(kn:Nat),0⟩:=by
 obtain⟨adn,bdn,cdn,ddn⟩:=bH dn hdn
 obtain⟨asn,bsn,csn,dsn⟩:=bH sn hsn
 obtain⟨aan,ban,can,dan⟩:=ed an han
 obtain⟨akn,bkn,ckn,dkn⟩:=ed kn hkn
 rw[nK]
 have e:eZ (bE 20) 23=20:=by decide
 refine⟨by simp[adn,asn,aan,akn],?_⟩
 simp[aG,e,bF,bX,bdn,cdn,bsn,csn,ban,can,bkn,ckn,cC,db,aD]
 omega
theorem uX (sn:Nat)(hsn:sn<=7):(aq (ah ⟨23,0,(sn:Nat),0,0,0,0,0⟩)).tail.all ly=O/\aG (aq (ah ⟨23,0,(sn:Nat),0,0,0,0,0⟩))=⟨23,0,(sn:Nat),0,0,0,0,0⟩:=by
 obtain⟨asn,bsn,csn,dsn⟩:=bH sn hsn
 rw[nI]
 have e:eZ (bE 23) 23=23:=by decide
 refine⟨by simp[asn],?_⟩
 simp[aG,e,bF,mF,bsn,dsn,cC,db,aD]
theorem oT (dn sn tn an pn:Nat)(hdn:dn<=7)(hsn:sn<=7)(htn:tn<=7)(han:an<4294967296)(hpn:pn<4294967296):(aq (ah ⟨21,(dn:Nat),(sn:Nat),(tn:Nat),0,(an:Nat),0,(pn:Nat)⟩)).tail.all ly=O/\aG (aq (ah ⟨21,(dn:Nat),(sn:Nat),(tn:Nat),0,(an:Nat),0,(pn:Nat)⟩))=⟨21,(dn:Nat),(sn:Nat),(tn:Nat),0,(an:Nat),0,(pn:Nat)⟩:=by
 obtain⟨adn,bdn,cdn,ddn⟩:=bH dn hdn
 obtain⟨asn,bsn,csn,dsn⟩:=bH sn hsn
 obtain⟨atn,btn,ctn,dtn⟩:=bH tn htn
 obtain⟨aan,ban,can,dan⟩:=ed an han
 obtain⟨apn,bpn,cpn,dpn⟩:=ed pn hpn
 obtain⟨ae,be,ce,de⟩:=Gf
 obtain⟨al,bl,cl,dl⟩:=rx
 rw[gK dn sn tn an pn]
 have e:eZ (bE 21) 23=21:=by decide
 refine⟨by simp[adn,asn,atn,aan,ae,apn,al],?_⟩
 simp[aG,e,bF,bX,mF,bdn,cdn,ddn,bsn,csn,dsn,btn,ctn,dtn,ban,can,dan,be,ce,de,bpn,cpn,dpn,bl,cl,dl,cC,db,aD]
theorem oU (dn sn tn an pn:Nat)(hdn:dn<=7)(hsn:sn<=7)(htn:tn<=7)(han:an<4294967296)(hpn:pn<4294967296):(aq (ah ⟨21,(dn:Nat),(sn:Nat),(tn:Nat),0,(an:Nat),0,-1⟩)).tail.all ly=O/\aG (aq (ah ⟨21,(dn:Nat),(sn:Nat),(tn:Nat),0,(an:Nat),0,-1⟩))=⟨21,(dn:Nat),(sn:Nat),(tn:Nat),0,(an:Nat),0,-1⟩:=by
 obtain⟨adn,bdn,cdn,ddn⟩:=bH dn hdn
 obtain⟨asn,bsn,csn,dsn⟩:=bH sn hsn
 obtain⟨atn,btn,ctn,dtn⟩:=bH tn htn
 obtain⟨aan,ban,can,dan⟩:=ed an han
 obtain⟨apn,bpn,cpn,dpn⟩:=ed pn hpn
 obtain⟨ae,be,ce,de⟩:=Gf
 obtain⟨al,bl,cl,dl⟩:=rx
 rw[gL dn sn tn an pn]
 have e:eZ (bE 21) 23=21:=by decide
 refine⟨by simp[adn,asn,atn,aan,ae],?_⟩
 simp[aG,e,bF,bX,mF,bdn,cdn,ddn,bsn,csn,dsn,btn,ctn,dtn,ban,can,dan,be,ce,de,cC,db,aD]
theorem oR (dn sn tn an pn:Nat)(hdn:dn<=7)(hsn:sn<=7)(htn:tn<=7)(han:an<4294967296)(hpn:pn<4294967296):(aq (ah ⟨21,(dn:Nat),(sn:Nat),(tn:Nat),0,(an:Nat),1,(pn:Nat)⟩)).tail.all ly=O/\aG (aq (ah ⟨21,(dn:Nat),(sn:Nat),(tn:Nat),0,(an:Nat),1,(pn:Nat)⟩))=⟨21,(dn:Nat),(sn:Nat),(tn:Nat),0,(an:Nat),1,(pn:Nat)⟩:=by
 obtain⟨adn,bdn,cdn,ddn⟩:=bH dn hdn
 obtain⟨asn,bsn,csn,dsn⟩:=bH sn hsn
 obtain⟨atn,btn,ctn,dtn⟩:=bH tn htn
 obtain⟨aan,ban,can,dan⟩:=ed an han
 obtain⟨apn,bpn,cpn,dpn⟩:=ed pn hpn
 obtain⟨ae,be,ce,de⟩:=Ge
 obtain⟨al,bl,cl,dl⟩:=rx
 rw[gI dn sn tn an pn]
 have e:eZ (bE 21) 23=21:=by decide
 refine⟨by simp[adn,asn,atn,aan,ae,apn,al],?_⟩
 simp[aG,e,bF,bX,mF,bdn,cdn,ddn,bsn,csn,dsn,btn,ctn,dtn,ban,can,dan,be,ce,de,bpn,cpn,dpn,bl,cl,dl,cC,db,aD]
theorem oS (dn sn tn an pn:Nat)(hdn:dn<=7)(hsn:sn<=7)(htn:tn<=7)(han:an<4294967296)(hpn:pn<4294967296):(aq (ah ⟨21,(dn:Nat),(sn:Nat),(tn:Nat),0,(an:Nat),1,-1⟩)).tail.all ly=O/\aG (aq (ah ⟨21,(dn:Nat),(sn:Nat),(tn:Nat),0,(an:Nat),1,-1⟩))=⟨21,(dn:Nat),(sn:Nat),(tn:Nat),0,(an:Nat),1,-1⟩:=by
 obtain⟨adn,bdn,cdn,ddn⟩:=bH dn hdn
 obtain⟨asn,bsn,csn,dsn⟩:=bH sn hsn
 obtain⟨atn,btn,ctn,dtn⟩:=bH tn htn
 obtain⟨aan,ban,can,dan⟩:=ed an han
 obtain⟨apn,bpn,cpn,dpn⟩:=ed pn hpn
 obtain⟨ae,be,ce,de⟩:=Ge
 obtain⟨al,bl,cl,dl⟩:=rx
 rw[gJ dn sn tn an pn]
 have e:eZ (bE 21) 23=21:=by decide
 refine⟨by simp[adn,asn,atn,aan,ae],?_⟩
 simp[aG,e,bF,bX,mF,bdn,cdn,ddn,bsn,csn,dsn,btn,ctn,dtn,ban,can,dan,be,ce,de,cC,db,aD]
theorem mh (i:aU)(h:au i 1073741824=O)(k0:0<=i.k)(k1:i.k<4294967296):(aq (ah i)).tail.all ly=O/\aG (aq (ah i))=i:=by
 obtain⟨hd,hs,ht,hu,ha⟩:=eJ i _ h
 obtain⟨op,d,s,t,u,a,k,pl⟩:=i
 simp only at hd hs ht hu ha k0 k1
 rcases cw op with rfl|rfl|rfl|rfl|rfl|rfl|rfl|rfl|rfl|rfl|rfl|rfl|rfl|rfl|rfl|rfl|rfl|rfl|rfl|rfl|rfl | hn
 ·skip
  have hr:=mW d s t u a k pl 1073741824 hd hs ht hu ha k0 k1
  rw[h] at hr
  simp[dg] at hr
  obtain⟨dn,rfl⟩:∃ n:Nat,d=n:=⟨d.toNat,by omega⟩
  obtain⟨sn,rfl⟩:∃ n:Nat,s=n:=⟨s.toNat,by omega⟩
  obtain⟨tn,rfl⟩:∃ n:Nat,t=n:=⟨t.toNat,by omega⟩
  obtain⟨un,rfl⟩:∃ n:Nat,u=n:=⟨u.toNat,by omega⟩
  obtain⟨an,rfl⟩:∃ n:Nat,a=n:=⟨a.toNat,by omega⟩
  obtain⟨kn,rfl⟩:∃ n:Nat,k=n:=⟨k.toNat,by omega⟩
  obtain rfl:sn=0:=by omega
  obtain rfl:tn=0:=by omega
  obtain rfl:un=0:=by omega
  obtain rfl:an=0:=by omega
  obtain rfl:pl=0:=by omega
  exact yJ dn kn (by omega) (by omega)
 ·skip
  have hr:=mV d s t u a k pl 1073741824 hd hs ht hu ha k0 k1
  rw[h] at hr
  simp[dg] at hr
  obtain⟨dn,rfl⟩:∃ n:Nat,d=n:=⟨d.toNat,by omega⟩
  obtain⟨sn,rfl⟩:∃ n:Nat,s=n:=⟨s.toNat,by omega⟩
  obtain⟨tn,rfl⟩:∃ n:Nat,t=n:=⟨t.toNat,by omega⟩
  obtain⟨un,rfl⟩:∃ n:Nat,u=n:=⟨u.toNat,by omega⟩
  obtain⟨an,rfl⟩:∃ n:Nat,a=n:=⟨a.toNat,by omega⟩
  obtain⟨kn,rfl⟩:∃ n:Nat,k=n:=⟨k.toNat,by omega⟩
  obtain rfl:tn=0:=by omega
  obtain rfl:un=0:=by omega
  obtain rfl:an=0:=by omega
  obtain rfl:kn=0:=by omega
  obtain rfl:pl=0:=by omega
  exact yI dn sn (by omega) (by omega)
 ·skip
  have hr:=mU d s t u a k pl 1073741824 hd hs ht hu ha k0 k1
  rw[h] at hr
  simp[dg] at hr
  obtain⟨dn,rfl⟩:∃ n:Nat,d=n:=⟨d.toNat,by omega⟩
  obtain⟨sn,rfl⟩:∃ n:Nat,s=n:=⟨s.toNat,by omega⟩
  obtain⟨tn,rfl⟩:∃ n:Nat,t=n:=⟨t.toNat,by omega⟩
  obtain⟨un,rfl⟩:∃ n:Nat,u=n:=⟨u.toNat,by omega⟩
  obtain⟨an,rfl⟩:∃ n:Nat,a=n:=⟨a.toNat,by omega⟩
  obtain⟨kn,rfl⟩:∃ n:Nat,k=n:=⟨k.toNat,by omega⟩
  obtain rfl:tn=0:=by omega
  obtain rfl:un=0:=by omega
  obtain rfl:an=0:=by omega
  obtain rfl:pl=0:=by omega
  exact yH dn sn kn (by omega) (by omega) (by omega)
 ·skip
  have hr:=mT d s t u a k pl 1073741824 hd hs ht hu ha k0 k1
  rw[h] at hr
  simp[dg] at hr
  obtain⟨dn,rfl⟩:∃ n:Nat,d=n:=⟨d.toNat,by omega⟩
  obtain⟨sn,rfl⟩:∃ n:Nat,s=n:=⟨s.toNat,by omega⟩
  obtain⟨tn,rfl⟩:∃ n:Nat,t=n:=⟨t.toNat,by omega⟩
  obtain⟨un,rfl⟩:∃ n:Nat,u=n:=⟨u.toNat,by omega⟩
  obtain⟨an,rfl⟩:∃ n:Nat,a=n:=⟨a.toNat,by omega⟩
  obtain⟨kn,rfl⟩:∃ n:Nat,k=n:=⟨k.toNat,by omega⟩
  obtain rfl:tn=0:=by omega
  obtain rfl:un=0:=by omega
  obtain rfl:an=0:=by omega
  obtain rfl:pl=0:=by omega
  exact yG dn sn kn (by omega) (by omega) (by omega)
 ·skip
  have hr:=kV d s t u a k pl 1073741824 hd hs ht hu ha k0 k1
  rw[h] at hr
  simp[dg] at hr
  obtain⟨dn,rfl⟩:∃ n:Nat,d=n:=⟨d.toNat,by omega⟩
  obtain⟨sn,rfl⟩:∃ n:Nat,s=n:=⟨s.toNat,by omega⟩
  obtain⟨tn,rfl⟩:∃ n:Nat,t=n:=⟨t.toNat,by omega⟩
  obtain⟨un,rfl⟩:∃ n:Nat,u=n:=⟨u.toNat,by omega⟩
  obtain⟨an,rfl⟩:∃ n:Nat,a=n:=⟨a.toNat,by omega⟩
  obtain⟨kn,rfl⟩:∃ n:Nat,k=n:=⟨k.toNat,by omega⟩
  obtain rfl:tn=0:=by omega
  obtain rfl:un=0:=by omega
  obtain rfl:an=0:=by omega
  obtain rfl:pl=0:=by omega
  exact yF dn sn kn (by omega) (by omega) (by omega)
 ·skip
  have hr:=kU d s t u a k pl 1073741824 hd hs ht hu ha k0 k1
  rw[h] at hr
  simp[dg] at hr
  obtain⟨dn,rfl⟩:∃ n:Nat,d=n:=⟨d.toNat,by omega⟩
  obtain⟨sn,rfl⟩:∃ n:Nat,s=n:=⟨s.toNat,by omega⟩
  obtain⟨tn,rfl⟩:∃ n:Nat,t=n:=⟨t.toNat,by omega⟩
  obtain⟨un,rfl⟩:∃ n:Nat,u=n:=⟨u.toNat,by omega⟩
  obtain⟨an,rfl⟩:∃ n:Nat,a=n:=⟨a.toNat,by omega⟩
  obtain⟨kn,rfl⟩:∃ n:Nat,k=n:=⟨k.toNat,by omega⟩
  obtain rfl:tn=0:=by omega
  obtain rfl:un=0:=by omega
  obtain rfl:an=0:=by omega
  obtain rfl:pl=0:=by omega
  exact yE dn sn kn (by omega) (by omega) (by omega)
 ·skip
  have hr:=mS d s t u a k pl 1073741824 hd hs ht hu ha k0 k1
  rw[h] at hr
  simp[dg] at hr
  obtain⟨dn,rfl⟩:∃ n:Nat,d=n:=⟨d.toNat,by omega⟩
  obtain⟨sn,rfl⟩:∃ n:Nat,s=n:=⟨s.toNat,by omega⟩
  obtain⟨tn,rfl⟩:∃ n:Nat,t=n:=⟨t.toNat,by omega⟩
  obtain⟨un,rfl⟩:∃ n:Nat,u=n:=⟨u.toNat,by omega⟩
  obtain⟨an,rfl⟩:∃ n:Nat,a=n:=⟨a.toNat,by omega⟩
  obtain⟨kn,rfl⟩:∃ n:Nat,k=n:=⟨k.toNat,by omega⟩
  obtain rfl:un=0:=by omega
  obtain rfl:an=0:=by omega
  obtain rfl:kn=0:=by omega
  obtain rfl:pl=0:=by omega
  exact yD dn sn tn (by omega) (by omega) (by omega)
 ·skip
  have hr:=mR d s t u a k pl 1073741824 hd hs ht hu ha k0 k1
  rw[h] at hr
  simp[dg] at hr
  obtain⟨dn,rfl⟩:∃ n:Nat,d=n:=⟨d.toNat,by omega⟩
  obtain⟨sn,rfl⟩:∃ n:Nat,s=n:=⟨s.toNat,by omega⟩
  obtain⟨tn,rfl⟩:∃ n:Nat,t=n:=⟨t.toNat,by omega⟩
  obtain⟨un,rfl⟩:∃ n:Nat,u=n:=⟨u.toNat,by omega⟩
  obtain⟨an,rfl⟩:∃ n:Nat,a=n:=⟨a.toNat,by omega⟩
  obtain⟨kn,rfl⟩:∃ n:Nat,k=n:=⟨k.toNat,by omega⟩
  obtain rfl:dn=0:=by omega
  obtain rfl:un=0:=by omega
  obtain rfl:an=0:=by omega
  obtain rfl:kn=0:=by omega
  obtain⟨pn,rfl⟩:∃ n:Nat,pl=n:=⟨pl.toNat,by omega⟩
  exact yC sn tn pn (by omega) (by omega) (by omega)
 ·skip
  have hr:=mQ d s t u a k pl 1073741824 hd hs ht hu ha k0 k1
  rw[h] at hr
  simp[dg] at hr
  obtain⟨dn,rfl⟩:∃ n:Nat,d=n:=⟨d.toNat,by omega⟩
  obtain⟨sn,rfl⟩:∃ n:Nat,s=n:=⟨s.toNat,by omega⟩
  obtain⟨tn,rfl⟩:∃ n:Nat,t=n:=⟨t.toNat,by omega⟩
  obtain⟨un,rfl⟩:∃ n:Nat,u=n:=⟨u.toNat,by omega⟩
  obtain⟨an,rfl⟩:∃ n:Nat,a=n:=⟨a.toNat,by omega⟩
  obtain⟨kn,rfl⟩:∃ n:Nat,k=n:=⟨k.toNat,by omega⟩
  obtain rfl:dn=0:=by omega
  obtain rfl:un=0:=by omega
  obtain rfl:an=0:=by omega
  obtain rfl:kn=0:=by omega
  obtain⟨pn,rfl⟩:∃ n:Nat,pl=n:=⟨pl.toNat,by omega⟩
  exact yB sn tn pn (by omega) (by omega) (by omega)
 ·skip
  have hr:=kI d s t u a k pl 1073741824 hd hs ht hu ha k0 k1
  rw[h] at hr
  simp[dg] at hr
  obtain⟨dn,rfl⟩:∃ n:Nat,d=n:=⟨d.toNat,by omega⟩
  obtain⟨sn,rfl⟩:∃ n:Nat,s=n:=⟨s.toNat,by omega⟩
  obtain⟨tn,rfl⟩:∃ n:Nat,t=n:=⟨t.toNat,by omega⟩
  obtain⟨un,rfl⟩:∃ n:Nat,u=n:=⟨u.toNat,by omega⟩
  obtain⟨an,rfl⟩:∃ n:Nat,a=n:=⟨a.toNat,by omega⟩
  obtain⟨kn,rfl⟩:∃ n:Nat,k=n:=⟨k.toNat,by omega⟩
  obtain rfl:dn=0:=by omega
  obtain rfl:sn=0:=by omega
  obtain rfl:tn=0:=by omega
  obtain rfl:un=0:=by omega
  obtain rfl:an=0:=by omega
  obtain rfl:kn=0:=by omega
  obtain⟨pn,rfl⟩:∃ n:Nat,pl=n:=⟨pl.toNat,by omega⟩
  exact vp pn (by omega)
 ·skip
  have hr:=kH d s t u a k pl 1073741824 hd hs ht hu ha k0 k1
  rw[h] at hr
  simp[dg] at hr
  obtain⟨dn,rfl⟩:∃ n:Nat,d=n:=⟨d.toNat,by omega⟩
  obtain⟨sn,rfl⟩:∃ n:Nat,s=n:=⟨s.toNat,by omega⟩
  obtain⟨tn,rfl⟩:∃ n:Nat,t=n:=⟨t.toNat,by omega⟩
  obtain⟨un,rfl⟩:∃ n:Nat,u=n:=⟨u.toNat,by omega⟩
  obtain⟨an,rfl⟩:∃ n:Nat,a=n:=⟨a.toNat,by omega⟩
  obtain⟨kn,rfl⟩:∃ n:Nat,k=n:=⟨k.toNat,by omega⟩
  obtain rfl:sn=0:=by omega
  obtain rfl:tn=0:=by omega
  obtain rfl:un=0:=by omega
  obtain rfl:an=0:=by omega
  obtain rfl:kn=0:=by omega
  obtain rfl:pl=0:=by omega
  exact vm dn (by omega)
 ·skip
  have hr:=jd d s t u a k pl 1073741824 hd hs ht hu ha k0 k1
  rw[h] at hr
  simp[dg] at hr
  obtain⟨dn,rfl⟩:∃ n:Nat,d=n:=⟨d.toNat,by omega⟩
  obtain⟨sn,rfl⟩:∃ n:Nat,s=n:=⟨s.toNat,by omega⟩
  obtain⟨tn,rfl⟩:∃ n:Nat,t=n:=⟨t.toNat,by omega⟩
  obtain⟨un,rfl⟩:∃ n:Nat,u=n:=⟨u.toNat,by omega⟩
  obtain⟨an,rfl⟩:∃ n:Nat,a=n:=⟨a.toNat,by omega⟩
  obtain⟨kn,rfl⟩:∃ n:Nat,k=n:=⟨k.toNat,by omega⟩
  obtain rfl:dn=0:=by omega
  obtain rfl:sn=0:=by omega
  obtain rfl:tn=0:=by omega
  obtain rfl:un=0:=by omega
  obtain rfl:an=0:=by omega
  obtain rfl:pl=0:=by omega
  exact vj kn (by omega)
 ·skip
  have hr:=jc d s t u a k pl 1073741824 hd hs ht hu ha k0 k1
  rw[h] at hr
  simp[dg] at hr
  obtain⟨dn,rfl⟩:∃ n:Nat,d=n:=⟨d.toNat,by omega⟩
  obtain⟨sn,rfl⟩:∃ n:Nat,s=n:=⟨s.toNat,by omega⟩
  obtain⟨tn,rfl⟩:∃ n:Nat,t=n:=⟨t.toNat,by omega⟩
  obtain⟨un,rfl⟩:∃ n:Nat,u=n:=⟨u.toNat,by omega⟩
  obtain⟨an,rfl⟩:∃ n:Nat,a=n:=⟨a.toNat,by omega⟩
  obtain⟨kn,rfl⟩:∃ n:Nat,k=n:=⟨k.toNat,by omega⟩
  obtain rfl:dn=0:=by omega
  obtain rfl:sn=0:=by omega
  obtain rfl:tn=0:=by omega
  obtain rfl:un=0:=by omega
  obtain rfl:an=0:=by omega
  obtain rfl:pl=0:=by omega
  exact vh kn (by omega)
 ·skip
  have hr:=kG d s t u a k pl 1073741824 hd hs ht hu ha k0 k1
  rw[h] at hr
  simp[dg] at hr
  obtain⟨dn,rfl⟩:∃ n:Nat,d=n:=⟨d.toNat,by omega⟩
  obtain⟨sn,rfl⟩:∃ n:Nat,s=n:=⟨s.toNat,by omega⟩
  obtain⟨tn,rfl⟩:∃ n:Nat,t=n:=⟨t.toNat,by omega⟩
  obtain⟨un,rfl⟩:∃ n:Nat,u=n:=⟨u.toNat,by omega⟩
  obtain⟨an,rfl⟩:∃ n:Nat,a=n:=⟨a.toNat,by omega⟩
  obtain⟨kn,rfl⟩:∃ n:Nat,k=n:=⟨k.toNat,by omega⟩
  obtain rfl:tn=0:=by omega
  obtain rfl:un=0:=by omega
  obtain rfl:kn=0:=by omega
  obtain rfl:pl=0:=by omega
  exact vf dn sn an (by omega) (by omega) (by omega)
 ·skip
  have hr:=kF d s t u a k pl 1073741824 hd hs ht hu ha k0 k1
  rw[h] at hr
  simp[dg] at hr
  obtain⟨dn,rfl⟩:∃ n:Nat,d=n:=⟨d.toNat,by omega⟩
  obtain⟨sn,rfl⟩:∃ n:Nat,s=n:=⟨s.toNat,by omega⟩
  obtain⟨tn,rfl⟩:∃ n:Nat,t=n:=⟨t.toNat,by omega⟩
  obtain⟨un,rfl⟩:∃ n:Nat,u=n:=⟨u.toNat,by omega⟩
  obtain⟨an,rfl⟩:∃ n:Nat,a=n:=⟨a.toNat,by omega⟩
  obtain⟨kn,rfl⟩:∃ n:Nat,k=n:=⟨k.toNat,by omega⟩
  obtain rfl:dn=0:=by omega
  obtain rfl:un=0:=by omega
  obtain rfl:kn=0:=by omega
  obtain rfl:pl=0:=by omega
  exact ve sn tn an (by omega) (by omega) (by omega)
 ·skip
  have hr:=kE d s t u a k pl 1073741824 hd hs ht hu ha k0 k1
  rw[h] at hr
  simp[dg] at hr
  obtain⟨dn,rfl⟩:∃ n:Nat,d=n:=⟨d.toNat,by omega⟩
  obtain⟨sn,rfl⟩:∃ n:Nat,s=n:=⟨s.toNat,by omega⟩
  obtain⟨tn,rfl⟩:∃ n:Nat,t=n:=⟨t.toNat,by omega⟩
  obtain⟨un,rfl⟩:∃ n:Nat,u=n:=⟨u.toNat,by omega⟩
  obtain⟨an,rfl⟩:∃ n:Nat,a=n:=⟨a.toNat,by omega⟩
  obtain⟨kn,rfl⟩:∃ n:Nat,k=n:=⟨k.toNat,by omega⟩
  obtain rfl:un=0:=by omega
  obtain rfl:kn=0:=by omega
  obtain rfl:pl=0:=by omega
  exact vd dn sn tn an (by omega) (by omega) (by omega) (by omega)
 ·skip
  have hr:=kD d s t u a k pl 1073741824 hd hs ht hu ha k0 k1
  rw[h] at hr
  simp[dg] at hr
  obtain⟨dn,rfl⟩:∃ n:Nat,d=n:=⟨d.toNat,by omega⟩
  obtain⟨sn,rfl⟩:∃ n:Nat,s=n:=⟨s.toNat,by omega⟩
  obtain⟨tn,rfl⟩:∃ n:Nat,t=n:=⟨t.toNat,by omega⟩
  obtain⟨un,rfl⟩:∃ n:Nat,u=n:=⟨u.toNat,by omega⟩
  obtain⟨an,rfl⟩:∃ n:Nat,a=n:=⟨a.toNat,by omega⟩
  obtain⟨kn,rfl⟩:∃ n:Nat,k=n:=⟨k.toNat,by omega⟩
  obtain rfl:kn=0:=by omega
  obtain rfl:pl=0:=by omega
  exact vb dn sn tn un an (by omega) (by omega) (by omega) (by omega) (by omega)
 ·skip
  have hr:=kC d s t u a k pl 1073741824 hd hs ht hu ha k0 k1
  rw[h] at hr
  simp[dg] at hr
  obtain⟨dn,rfl⟩:∃ n:Nat,d=n:=⟨d.toNat,by omega⟩
  obtain⟨sn,rfl⟩:∃ n:Nat,s=n:=⟨s.toNat,by omega⟩
  obtain⟨tn,rfl⟩:∃ n:Nat,t=n:=⟨t.toNat,by omega⟩
  obtain⟨un,rfl⟩:∃ n:Nat,u=n:=⟨u.toNat,by omega⟩
  obtain⟨an,rfl⟩:∃ n:Nat,a=n:=⟨a.toNat,by omega⟩
  obtain⟨kn,rfl⟩:∃ n:Nat,k=n:=⟨k.toNat,by omega⟩
  obtain rfl:tn=0:=by omega
  obtain rfl:un=0:=by omega
  obtain rfl:pl=0:=by omega
  exact uZ dn sn an kn (by omega) (by omega) (by omega) (by omega)
 ·skip
  have hr:=ic d s t u a k pl 1073741824 hd hs ht hu ha k0 k1
  rw[h] at hr
  simp[dg] at hr
  obtain⟨dn,rfl⟩:∃ n:Nat,d=n:=⟨d.toNat,by omega⟩
  obtain⟨sn,rfl⟩:∃ n:Nat,s=n:=⟨s.toNat,by omega⟩
  obtain⟨tn,rfl⟩:∃ n:Nat,t=n:=⟨t.toNat,by omega⟩
  obtain⟨un,rfl⟩:∃ n:Nat,u=n:=⟨u.toNat,by omega⟩
  obtain⟨an,rfl⟩:∃ n:Nat,a=n:=⟨a.toNat,by omega⟩
  obtain⟨kn,rfl⟩:∃ n:Nat,k=n:=⟨k.toNat,by omega⟩
  obtain rfl:un=0:=by omega
  by_cases hm:pl=-1
  ·subst hm
   by_cases hk:kn=0
   ·subst hk;exact oU dn sn tn an 0 (by omega) (by omega) (by omega) (by omega) (by omega)
   ·obtain rfl:kn=1:=by omega
    exact oS dn sn tn an 0 (by omega) (by omega) (by omega) (by omega) (by omega)
  ·obtain⟨pn,rfl⟩:∃ n:Nat,pl=n:=⟨pl.toNat,by omega⟩
   by_cases hk:kn=0
   ·subst hk;exact oT dn sn tn an pn (by omega) (by omega) (by omega) (by omega) (by omega)
   ·obtain rfl:kn=1:=by omega
    exact oR dn sn tn an pn (by omega) (by omega) (by omega) (by omega) (by omega)
 ·skip
  have hr:=kB d s t u a k pl 1073741824 hd hs ht hu ha k0 k1
  rw[h] at hr
  simp[dg] at hr
  obtain⟨dn,rfl⟩:∃ n:Nat,d=n:=⟨d.toNat,by omega⟩
  obtain⟨sn,rfl⟩:∃ n:Nat,s=n:=⟨s.toNat,by omega⟩
  obtain⟨tn,rfl⟩:∃ n:Nat,t=n:=⟨t.toNat,by omega⟩
  obtain⟨un,rfl⟩:∃ n:Nat,u=n:=⟨u.toNat,by omega⟩
  obtain⟨an,rfl⟩:∃ n:Nat,a=n:=⟨a.toNat,by omega⟩
  obtain⟨kn,rfl⟩:∃ n:Nat,k=n:=⟨k.toNat,by omega⟩
  obtain rfl:sn=0:=by omega
  obtain rfl:tn=0:=by omega
  obtain rfl:un=0:=by omega
  obtain rfl:an=0:=by omega
  obtain rfl:kn=0:=by omega
  obtain rfl:pl=0:=by omega
  exact uY dn (by omega)
 ·skip
  have hr:=kA d s t u a k pl 1073741824 hd hs ht hu ha k0 k1
  rw[h] at hr
  simp[dg] at hr
  obtain⟨dn,rfl⟩:∃ n:Nat,d=n:=⟨d.toNat,by omega⟩
  obtain⟨sn,rfl⟩:∃ n:Nat,s=n:=⟨s.toNat,by omega⟩
  obtain⟨tn,rfl⟩:∃ n:Nat,t=n:=⟨t.toNat,by omega⟩
  obtain⟨un,rfl⟩:∃ n:Nat,u=n:=⟨u.toNat,by omega⟩
  obtain⟨an,rfl⟩:∃ n:Nat,a=n:=⟨a.toNat,by omega⟩
  obtain⟨kn,rfl⟩:∃ n:Nat,k=n:=⟨k.toNat,by omega⟩
  obtain rfl:dn=0:=by omega
  obtain rfl:tn=0:=by omega
  obtain rfl:un=0:=by omega
  obtain rfl:an=0:=by omega
  obtain rfl:kn=0:=by omega
  obtain rfl:pl=0:=by omega
  exact uX sn (by omega)
 ·exfalso
  unfold au at h
  simp only[(dB hn).1] at h
  cases h
theorem sg (i:aU)(h:au i 1073741824=O)(k0:0<=i.k)(k1:i.k<4294967296):kZ (ah i)=O:=by
 obtain⟨h1,h2⟩:=mh i h k0 k1
 unfold kZ
 rw[h1,h2,h]
 simp
end
section
open Go.ChangeShapes Go.WideShapes Go.ChangeAt Go.RowKit
theorem Co (c:gp)(v:Value)(w:World)(hv:Pv w v c)(hw:∀ i∈c.l,i.Wf):
 Calls Tryz.prog 34 #[v] w fun e w'=>e=.returned (.bool (nC c))/\Below w.heap.size w w':=by
 obtain⟨a,ca,rfl,hc1,hc2,_,ha⟩:=hv
 have k1:=Bk.made w 34 #[.slice a c.l.length ca,I Q c.lo,I Q c.un]
 have b0:Below w.heap.size w (w.alloc (.cells #[.slice a c.l.length ca,I Q c.lo,I Q c.un] 34)):=(Below.refl _ _).alloc (Nat.le_refl _) _
 replace ha:=ha.below b0
 go_enter Tryz.func34,Tryz.ntmps34
 go_upto_region 1 with fail
 generalize w.alloc (.cells #[.slice a c.l.length ca,I Q c.lo,I Q c.un] 34)=x at *
 obtain⟨x0,x1,x2⟩:=k1.iS
 by_cases h1:1<=c.l.length
 case neg=>
  have HF:=Z (sS (c:=c) (by omega))
  have i1:(c.l.length:Int)<1:=by omega
  go_wp2
  go_ret
  exact⟨by rw[HF.out];rfl,b0⟩
 case pos=>
  have i1:¬ (c.l.length:Int)<1:=by omega
  by_cases h2:c.l.length<=64
  case neg=>
   have HF:=Z (sS (c:=c) (by omega))
   have i2:(64:Int)<c.l.length:=by omega
   go_wp2
   go_ret
   exact⟨by rw[HF.out];rfl,b0⟩
  case pos=>
   have i2:¬ (64:Int)<c.l.length:=by omega
   have HP:=Z (Cz c h1 h2)
   by_cases hb1:c.lo<0\/c.un<0\/(c.l.length:Int)<=c.lo\/(c.l.length:Int)<=c.un
   case pos=>
    have HF:Hid (nC c=N):=Z (by
     rw[HP.out]
     have:((decide (0<=c.lo) && decide (c.lo<c.l.length)) && (decide (0<=c.un) && decide (c.un<c.l.length)))=N:=by
      simp only[Bool.and_eq_false_iff,decide_eq_false_iff_not]
      omega
     rw[this];simp)
    generalize c.lo=lo at *
    generalize c.un=un at *
    clear HP
    by_cases z1:lo<0
    ·clear hb1;go_wp2;go_ret;exact⟨by rw[HF.out];rfl,b0⟩
    by_cases z2:un<0
    ·clear hb1;go_wp2;go_ret;exact⟨by rw[HF.out];rfl,b0⟩
    by_cases z3:(c.l.length:Int)<=lo
    ·clear hb1;go_wp2;go_ret;exact⟨by rw[HF.out];rfl,b0⟩
    have z4:(c.l.length:Int)<=un:=by omega
    clear hb1;go_wp2;go_ret;exact⟨by rw[HF.out];rfl,b0⟩
   have z1:¬ c.lo<0:=by omega
   have z2:¬ c.un<0:=by omega
   have z3:¬ (c.l.length:Int)<=c.lo:=by omega
   have z4:¬ (c.l.length:Int)<=c.un:=by omega
   have HP2:Hid (nC c=(c.l.all fun i=>au i c.l.length)):=Z (by
    rw[HP.out]
    have:((decide (0<=c.lo) && decide (c.lo<c.l.length)) && (decide (0<=c.un) && decide (c.un<c.l.length)))=O:=by
     simp only[Bool.and_eq_true,decide_eq_true_eq]
     omega
    rw[this];simp)
   clear HP hb1
   go_wp2
   go_loopw [2,40] (fun q i wr=>∃ k:Nat,q=.bool N/\i=I Q k/\k<=c.l.length/\Below x.heap.size x wr/\Hid (∀ j i,c.l[j]?=some i->j<k->au i c.l.length=O)) (fun _ i _=>c.l.length-(intOf i).toNat)
   case atStart=>exact⟨0,rfl,rfl,Nat.zero_le _,Below.refl _ _,Z (fun _ _ _ h=>by omega)⟩
   case round=>
    obtain⟨k,rfl,rfl,hk,hb,HA⟩:=hrel
    have hbw:=b0.trans (hb.mono b0.size)
    by_cases hlt:k<c.l.length
    ·have hki:(k:Int)<c.l.length:=by omega
     have hge:=List.getElem?_eq_getElem hlt
     obtain⟨g,off,rfl,hgl,e0,e1,e2,e3,e4,e5,e6,e7⟩:=(ha.below hb).at_ hge
     have hWf:=hw _ (List.getElem_mem hlt)
     have HG:=Z hge
     clear hge
     generalize c.l[k]=i at *
     have HR:=Z (fun W=>Bd i (c.l.length:Int) hWf.k0 hWf.k1 W)
     obtain⟨op,d,s,t,u,a',k',pl⟩:=i
     simp only at e0 e1 e2 e3 e4 e5 e6 e7
     go_upto_region 7 with fail
     have m2:=Jb.made wr op d s t u a' k' pl
     replace hb:=hb.alloc (o:=.cells #[I Q op,I Q d,I Q s,I Q t,I Q u,I Q a',I .u32 k',I Q pl] 123) hb.size
     clear e0 e1 e2 e3 e4 e5 e6 e7 hbw
     generalize wr.heap.size=q at *
     generalize wr.alloc (.cells #[I Q op,I Q d,I Q s,I Q t,I Q u,I Q a',I .u32 k',I Q pl] 123)=y at *
     have hbw:=b0.trans (hb.mono b0.size)
     obtain⟨e0,e1,e2,e3,e4,e5,e6,e7⟩:=m2.cells
     simp only at e0 e1 e2 e3 e4 e5 e6 e7
     go_wp2_with fail
     refine(HR.out y).mono ?_
     rintro e z ⟨rfl,hz⟩
     replace hb:=hb.trans (hz.mono hb.size)
     replace hbw:=hbw.trans (hz.mono hbw.size)
     cases hq:au ⟨op,d,s,t,u,a',k',pl⟩ c.l.length with
     | true=>
      have HA2:Hid (∀ j i,c.l[j]?=some i->j<k+1->au i c.l.length=O):=Z fun j i hj hjk=>by
       by_cases e:j=k
       ·subst e
        rw[HG.out] at hj
        injection hj with hj
        subst hj
        exact hq
       ·exact HA.out j i hj (by omega)
      clear hq HA HR HG
      go_wp2
      go_roundw
      case rel=>exact⟨k+1,rfl,by go_num,by omega,hb,HA2⟩
      case measure=>
       show c.l.length-((k:Int)+1).toNat<c.l.length-(k:Int).toNat
       omega
     | false=>
      have HQ:Hid (nC c=N):=Z (by
       rw[HP2.out]
       have:(c.l.all fun i=>au i c.l.length)=N:=by
        rw[List.all_eq_false]
        exact⟨_,List.mem_of_getElem? HG.out,by rw[hq];simp⟩
       rw[this])
      clear hq HA HR HG
      go_wp2
      go_ret
      exact⟨by rw[HQ.out];rfl,hbw⟩
    ·have hki:¬ (k:Int)<c.l.length:=by omega
     have hall:(c.l.all fun i=>au i c.l.length)=O:=by
      rw[List.all_eq_true]
      intro i hi
      obtain⟨j,hj,rfl⟩:=List.getElem_of_mem hi
      exact HA.out j _ (List.getElem?_eq_getElem hj) (by omega)
     have HQ:Hid (nC c=O):=Z (by rw[HP2.out,hall])
     clear HA hall
     go_wp2
     go_ret
     exact⟨by rw[HQ.out];rfl,hbw⟩
end
