import Derived.Test.YtieiifdhdjhnoaaDoorPInstC
import Derived.Test.YtieiifdhdjhnoaaDoorPFlow
import Derived.Test.YtieiifdhdjhnoaaDoorPMem
import Derived.Deep.RegionLaw
import Derived.Laws.IdiomStrings
set_option linter.unusedVariables false
open Bool renaming true->I
namespace Go.Proofs.YtieiifdhdjhnoaaDoor
section
theorem dU:∀ (m:Nat) (s:List UInt8),(ab s).length<=m+1->Lib.splitK [32] 0 m s=ab s
 | 0,s,h=>by
  rcases eO s with h1 | ⟨t,r,h1,rfl⟩
  ·rw[aU s h1];rfl
  ·rw[cp t r h1] at h
   have:=cZ r
   rw[List.length_cons] at h
   omega
 | m+1,s,h=>by
  rcases eO s with h1 | ⟨t,r,h1,rfl⟩
  ·rw[aU s h1];unfold Lib.splitK;rw[hE s h1];rfl
  ·rw[cp t r h1] at h ⊢
   unfold Lib.splitK
   rw[hG t r h1,if_neg (by simp <;> omega)]
   have e1:(t++32 :: r).take (((t.length:Int)).toNat+0)=t:=by simp
   have e2:(t++32 :: r).drop (((t.length:Int)).toNat+[(32:UInt8)].length)=r:=by simp[List.drop_append]
   rw[e1,e2,dU m r (by simp at h;omega)]
theorem ak (s:List UInt8)(h:(ab s).length<=9):bJ s=ab s:=by
 unfold bJ Lib.splitN
 have:=el s
 exact dU _ s (by omega)
def bg (n:Nat):List UInt8:=114 :: Lib.decDigits n
theorem aX (n:Nat):Bf (bg n):=by
 intro c hc
 rcases List.mem_cons.1 hc with rfl | hc
 ·decide
 ·exact bf n c hc
theorem aH (n:Nat)(h:n<9223372036854775808):dD (Lib.decDigits n)=n:=by
 have ha:=ie n h
 obtain⟨c,r,e,h1,h2,-⟩:=cO n
 rw[e] at ha ⊢
 have n1:c≠101:=fun e=>by rw[e] at h2;exact absurd h2 (by decide)
 have n2:c≠110:=fun e=>by rw[e] at h2;exact absurd h2 (by decide)
 have n3:c≠114:=fun e=>by rw[e] at h2;exact absurd h2 (by decide)
 unfold dD
 rw[if_neg (by intro e;injection e with e _;exact n1 e),if_neg (by intro e;injection e with e _;exact n2 e)]
 have et:Lib.trimPrefix (c :: r) [114]=c :: r:=by
  unfold Lib.trimPrefix Lib.hasPrefix
  rw[if_neg (by simp[List.isPrefixOf];exact fun e=>n3 e.symm)]
 rw[et,ha]
theorem am (n:Nat)(h:n<9223372036854775808):dD (bg n)=n:=by
 have ha:=ie n h
 unfold dD bg
 rw[if_neg (by intro e;injection e with e _;exact absurd e (by decide)),if_neg (by intro e;injection e with e _;exact absurd e (by decide))]
 have et:Lib.trimPrefix (114 :: Lib.decDigits n) [114]=Lib.decDigits n:=by
  unfold Lib.trimPrefix Lib.hasPrefix
  rw[if_pos (by simp[List.isPrefixOf])]
  rfl
 rw[et,ha]
theorem nB (dn kn:Nat):aa ⟨1,(dn:Nat),0,0,0,0,(kn:Nat),0⟩=ax (aT 1) [bg dn,Lib.decDigits kn]:=by
 simp[aa,bc,aj,ar,au,aw,ax,bg]
theorem fT (dn kn:Nat):ab (aa ⟨1,(dn:Nat),0,0,0,0,(kn:Nat),0⟩)=aT 1 :: [bg dn,Lib.decDigits kn]:=by
 rw[nB]
 exact aq _ _ (by unfold Bf;decide) (by simp[aX,bf])
theorem lB (dn kn:Nat)(hdn:dn<9223372036854775808)(hkn:kn<9223372036854775808)(k1:kn<4294967296):ai (aa ⟨1,(dn:Nat),0,0,0,0,(kn:Nat),0⟩)=⟨1,(dn:Nat),0,0,0,0,(kn:Nat),0⟩:=by
 unfold ai
 rw[ak _ (by rw[fT];simp),fT]
 have e:eQ (aT 1)=1:=by decide
 simp[aD,e,bc,aF,aV,aO,aE,am dn hdn,aH kn hkn,ay.zero]
 omega
theorem nA (dn sn:Nat):aa ⟨2,(dn:Nat),(sn:Nat),0,0,0,0,0⟩=ax (aT 2) [bg dn,bg sn]:=by
 simp[aa,bc,aj,ar,au,aw,ax,bg]
theorem fS (dn sn:Nat):ab (aa ⟨2,(dn:Nat),(sn:Nat),0,0,0,0,0⟩)=aT 2 :: [bg dn,bg sn]:=by
 rw[nA]
 exact aq _ _ (by unfold Bf;decide) (by simp[aX])
theorem lA (dn sn:Nat)(hdn:dn<9223372036854775808)(hsn:sn<9223372036854775808):ai (aa ⟨2,(dn:Nat),(sn:Nat),0,0,0,0,0⟩)=⟨2,(dn:Nat),(sn:Nat),0,0,0,0,0⟩:=by
 unfold ai
 rw[ak _ (by rw[fS];simp),fS]
 have e:eQ (aT 2)=2:=by decide
 simp[aD,e,bc,aF,aV,aO,aE,am dn hdn,am sn hsn,ay.zero]
theorem nz (dn sn kn:Nat):aa ⟨3,(dn:Nat),(sn:Nat),0,0,0,(kn:Nat),0⟩=ax (aT 3) [bg dn,bg sn,Lib.decDigits kn]:=by
 simp[aa,bc,aj,ar,au,aw,ax,bg]
theorem fR (dn sn kn:Nat):ab (aa ⟨3,(dn:Nat),(sn:Nat),0,0,0,(kn:Nat),0⟩)=aT 3 :: [bg dn,bg sn,Lib.decDigits kn]:=by
 rw[nz]
 exact aq _ _ (by unfold Bf;decide) (by simp[aX,bf])
theorem lz (dn sn kn:Nat)(hdn:dn<9223372036854775808)(hsn:sn<9223372036854775808)(hkn:kn<9223372036854775808)(k1:kn<4294967296):ai (aa ⟨3,(dn:Nat),(sn:Nat),0,0,0,(kn:Nat),0⟩)=⟨3,(dn:Nat),(sn:Nat),0,0,0,(kn:Nat),0⟩:=by
 unfold ai
 rw[ak _ (by rw[fR];simp),fR]
 have e:eQ (aT 3)=3:=by decide
 simp[aD,e,bc,aF,aV,aO,aE,am dn hdn,am sn hsn,aH kn hkn,ay.zero]
 omega
theorem ny (dn sn kn:Nat):aa ⟨4,(dn:Nat),(sn:Nat),0,0,0,(kn:Nat),0⟩=ax (aT 4) [bg dn,bg sn,Lib.decDigits kn]:=by
 simp[aa,bc,aj,ar,au,aw,ax,bg]
theorem fQ (dn sn kn:Nat):ab (aa ⟨4,(dn:Nat),(sn:Nat),0,0,0,(kn:Nat),0⟩)=aT 4 :: [bg dn,bg sn,Lib.decDigits kn]:=by
 rw[ny]
 exact aq _ _ (by unfold Bf;decide) (by simp[aX,bf])
theorem ly (dn sn kn:Nat)(hdn:dn<9223372036854775808)(hsn:sn<9223372036854775808)(hkn:kn<9223372036854775808)(k1:kn<4294967296):ai (aa ⟨4,(dn:Nat),(sn:Nat),0,0,0,(kn:Nat),0⟩)=⟨4,(dn:Nat),(sn:Nat),0,0,0,(kn:Nat),0⟩:=by
 unfold ai
 rw[ak _ (by rw[fQ];simp),fQ]
 have e:eQ (aT 4)=4:=by decide
 simp[aD,e,bc,aF,aV,aO,aE,am dn hdn,am sn hsn,aH kn hkn,ay.zero]
 omega
theorem nx (dn sn kn:Nat):aa ⟨5,(dn:Nat),(sn:Nat),0,0,0,(kn:Nat),0⟩=ax (aT 5) [bg dn,bg sn,Lib.decDigits kn]:=by
 simp[aa,bc,aj,ar,au,aw,ax,bg]
theorem fP (dn sn kn:Nat):ab (aa ⟨5,(dn:Nat),(sn:Nat),0,0,0,(kn:Nat),0⟩)=aT 5 :: [bg dn,bg sn,Lib.decDigits kn]:=by
 rw[nx]
 exact aq _ _ (by unfold Bf;decide) (by simp[aX,bf])
theorem lx (dn sn kn:Nat)(hdn:dn<9223372036854775808)(hsn:sn<9223372036854775808)(hkn:kn<9223372036854775808)(k1:kn<4294967296):ai (aa ⟨5,(dn:Nat),(sn:Nat),0,0,0,(kn:Nat),0⟩)=⟨5,(dn:Nat),(sn:Nat),0,0,0,(kn:Nat),0⟩:=by
 unfold ai
 rw[ak _ (by rw[fP];simp),fP]
 have e:eQ (aT 5)=5:=by decide
 simp[aD,e,bc,aF,aV,aO,aE,am dn hdn,am sn hsn,aH kn hkn,ay.zero]
 omega
theorem nw (dn sn kn:Nat):aa ⟨6,(dn:Nat),(sn:Nat),0,0,0,(kn:Nat),0⟩=ax (aT 6) [bg dn,bg sn,Lib.decDigits kn]:=by
 simp[aa,bc,aj,ar,au,aw,ax,bg]
theorem fO (dn sn kn:Nat):ab (aa ⟨6,(dn:Nat),(sn:Nat),0,0,0,(kn:Nat),0⟩)=aT 6 :: [bg dn,bg sn,Lib.decDigits kn]:=by
 rw[nw]
 exact aq _ _ (by unfold Bf;decide) (by simp[aX,bf])
theorem lw (dn sn kn:Nat)(hdn:dn<9223372036854775808)(hsn:sn<9223372036854775808)(hkn:kn<9223372036854775808)(k1:kn<4294967296):ai (aa ⟨6,(dn:Nat),(sn:Nat),0,0,0,(kn:Nat),0⟩)=⟨6,(dn:Nat),(sn:Nat),0,0,0,(kn:Nat),0⟩:=by
 unfold ai
 rw[ak _ (by rw[fO];simp),fO]
 have e:eQ (aT 6)=6:=by decide
 simp[aD,e,bc,aF,aV,aO,aE,am dn hdn,am sn hsn,aH kn hkn,ay.zero]
 omega
theorem nv (dn sn tn:Nat):aa ⟨7,(dn:Nat),(sn:Nat),(tn:Nat),0,0,0,0⟩=ax (aT 7) [bg dn,bg sn,bg tn]:=by
 simp[aa,bc,aj,ar,au,aw,ax,bg]
theorem fN (dn sn tn:Nat):ab (aa ⟨7,(dn:Nat),(sn:Nat),(tn:Nat),0,0,0,0⟩)=aT 7 :: [bg dn,bg sn,bg tn]:=by
 rw[nv]
 exact aq _ _ (by unfold Bf;decide) (by simp[aX])
theorem lv (dn sn tn:Nat)(hdn:dn<9223372036854775808)(hsn:sn<9223372036854775808)(htn:tn<9223372036854775808):ai (aa ⟨7,(dn:Nat),(sn:Nat),(tn:Nat),0,0,0,0⟩)=⟨7,(dn:Nat),(sn:Nat),(tn:Nat),0,0,0,0⟩:=by
 unfold ai
 rw[ak _ (by rw[fN];simp),fN]
 have e:eQ (aT 7)=7:=by decide
 simp[aD,e,bc,aF,aV,aO,aE,am dn hdn,am sn hsn,am tn htn,ay.zero]
theorem nu (sn tn pn:Nat):aa ⟨8,0,(sn:Nat),(tn:Nat),0,0,0,(pn:Nat)⟩=ax (aT 8) [bg sn,bg tn,Lib.decDigits pn]:=by
 simp[aa,bc,aj,ar,au,aw,ax,bg]
theorem fM (sn tn pn:Nat):ab (aa ⟨8,0,(sn:Nat),(tn:Nat),0,0,0,(pn:Nat)⟩)=aT 8 :: [bg sn,bg tn,Lib.decDigits pn]:=by
 rw[nu]
 exact aq _ _ (by unfold Bf;decide) (by simp[aX,bf])
theorem lu (sn tn pn:Nat)(hsn:sn<9223372036854775808)(htn:tn<9223372036854775808)(hpn:pn<9223372036854775808):ai (aa ⟨8,0,(sn:Nat),(tn:Nat),0,0,0,(pn:Nat)⟩)=⟨8,0,(sn:Nat),(tn:Nat),0,0,0,(pn:Nat)⟩:=by
 unfold ai
 rw[ak _ (by rw[fM];simp),fM]
 have e:eQ (aT 8)=8:=by decide
 simp[aD,e,bc,aF,aV,aO,aE,am sn hsn,am tn htn,aH pn hpn,ay.zero]
theorem nt (sn tn pn:Nat):aa ⟨9,0,(sn:Nat),(tn:Nat),0,0,0,(pn:Nat)⟩=ax (aT 9) [bg sn,bg tn,Lib.decDigits pn]:=by
 simp[aa,bc,aj,ar,au,aw,ax,bg]
theorem fL (sn tn pn:Nat):ab (aa ⟨9,0,(sn:Nat),(tn:Nat),0,0,0,(pn:Nat)⟩)=aT 9 :: [bg sn,bg tn,Lib.decDigits pn]:=by
 rw[nt]
 exact aq _ _ (by unfold Bf;decide) (by simp[aX,bf])
theorem lr (sn tn pn:Nat)(hsn:sn<9223372036854775808)(htn:tn<9223372036854775808)(hpn:pn<9223372036854775808):ai (aa ⟨9,0,(sn:Nat),(tn:Nat),0,0,0,(pn:Nat)⟩)=⟨9,0,(sn:Nat),(tn:Nat),0,0,0,(pn:Nat)⟩:=by
 unfold ai
 rw[ak _ (by rw[fL];simp),fL]
 have e:eQ (aT 9)=9:=by decide
 simp[aD,e,bc,aF,aV,aO,aE,am sn hsn,am tn htn,aH pn hpn,ay.zero]
theorem mC (pn:Nat):aa ⟨10,0,0,0,0,0,0,(pn:Nat)⟩=ax (aT 10) [Lib.decDigits pn]:=by
 simp[aa,bc,aj,ar,au,aw,ax]
theorem eJ (pn:Nat):ab (aa ⟨10,0,0,0,0,0,0,(pn:Nat)⟩)=aT 10 :: [Lib.decDigits pn]:=by
 rw[mC]
 exact aq _ _ (by unfold Bf;decide) (by simp[bf])
theorem kl (pn:Nat)(hpn:pn<9223372036854775808):ai (aa ⟨10,0,0,0,0,0,0,(pn:Nat)⟩)=⟨10,0,0,0,0,0,0,(pn:Nat)⟩:=by
 unfold ai
 rw[ak _ (by rw[eJ];simp),eJ]
 have e:eQ (aT 10)=10:=by decide
 simp[aD,e,bc,aF,aV,aO,aE,aH pn hpn,ay.zero]
theorem mB (dn:Nat):aa ⟨11,(dn:Nat),0,0,0,0,0,0⟩=ax (aT 11) [bg dn]:=by
 simp[aa,bc,aj,ar,au,aw,ax,bg]
theorem eI (dn:Nat):ab (aa ⟨11,(dn:Nat),0,0,0,0,0,0⟩)=aT 11 :: [bg dn]:=by
 rw[mB]
 exact aq _ _ (by unfold Bf;decide) (by simp[aX])
theorem kj (dn:Nat)(hdn:dn<9223372036854775808):ai (aa ⟨11,(dn:Nat),0,0,0,0,0,0⟩)=⟨11,(dn:Nat),0,0,0,0,0,0⟩:=by
 unfold ai
 rw[ak _ (by rw[eI];simp),eI]
 have e:eQ (aT 11)=11:=by decide
 simp[aD,e,bc,aF,aV,aO,aE,am dn hdn,ay.zero]
theorem ms (dn:Nat):aa ⟨22,(dn:Nat),0,0,0,0,0,0⟩=ax (aT 22) [bg dn]:=by
 simp[aa,bc,aj,ar,au,aw,ax,bg]
theorem eA (dn:Nat):ab (aa ⟨22,(dn:Nat),0,0,0,0,0,0⟩)=aT 22 :: [bg dn]:=by
 rw[ms]
 exact aq _ _ (by unfold Bf;decide) (by simp[aX])
theorem kb (dn:Nat)(hdn:dn<9223372036854775808):ai (aa ⟨22,(dn:Nat),0,0,0,0,0,0⟩)=⟨22,(dn:Nat),0,0,0,0,0,0⟩:=by
 unfold ai
 rw[ak _ (by rw[eA];simp),eA]
 have e:eQ (aT 22)=22:=by decide
 simp[aD,e,bc,aF,aV,aO,aE,am dn hdn,ay.zero]
theorem mA (kn:Nat):aa ⟨12,0,0,0,0,0,(kn:Nat),0⟩=ax (aT 12) [Lib.decDigits kn]:=by
 simp[aa,bc,aj,ar,au,aw,ax]
theorem eH (kn:Nat):ab (aa ⟨12,0,0,0,0,0,(kn:Nat),0⟩)=aT 12 :: [Lib.decDigits kn]:=by
 rw[mA]
 exact aq _ _ (by unfold Bf;decide) (by simp[bf])
theorem ki (kn:Nat)(hkn:kn<9223372036854775808)(k1:kn<4294967296):ai (aa ⟨12,0,0,0,0,0,(kn:Nat),0⟩)=⟨12,0,0,0,0,0,(kn:Nat),0⟩:=by
 unfold ai
 rw[ak _ (by rw[eH];simp),eH]
 have e:eQ (aT 12)=12:=by decide
 simp[aD,e,bc,aF,aV,aO,aE,aH kn hkn,ay.zero]
 omega
theorem mz (kn:Nat):aa ⟨13,0,0,0,0,0,(kn:Nat),0⟩=ax (aT 13) [Lib.decDigits kn]:=by
 simp[aa,bc,aj,ar,au,aw,ax]
theorem eG (kn:Nat):ab (aa ⟨13,0,0,0,0,0,(kn:Nat),0⟩)=aT 13 :: [Lib.decDigits kn]:=by
 rw[mz]
 exact aq _ _ (by unfold Bf;decide) (by simp[bf])
theorem kh (kn:Nat)(hkn:kn<9223372036854775808)(k1:kn<4294967296):ai (aa ⟨13,0,0,0,0,0,(kn:Nat),0⟩)=⟨13,0,0,0,0,0,(kn:Nat),0⟩:=by
 unfold ai
 rw[ak _ (by rw[eG];simp),eG]
 have e:eQ (aT 13)=13:=by decide
 simp[aD,e,bc,aF,aV,aO,aE,aH kn hkn,ay.zero]
 omega
theorem my (dn sn an:Nat):aa ⟨16,(dn:Nat),(sn:Nat),0,0,(an:Nat),0,0⟩=ax (aT 16) [bg dn,Lib.decDigits an,bg sn]:=by
 simp[aa,bc,aj,ar,au,aw,ax,bg]
theorem eF (dn sn an:Nat):ab (aa ⟨16,(dn:Nat),(sn:Nat),0,0,(an:Nat),0,0⟩)=aT 16 :: [bg dn,Lib.decDigits an,bg sn]:=by
 rw[my]
 exact aq _ _ (by unfold Bf;decide) (by simp[aX,bf])
theorem kg (dn sn an:Nat)(hdn:dn<9223372036854775808)(hsn:sn<9223372036854775808)(han:an<9223372036854775808):ai (aa ⟨16,(dn:Nat),(sn:Nat),0,0,(an:Nat),0,0⟩)=⟨16,(dn:Nat),(sn:Nat),0,0,(an:Nat),0,0⟩:=by
 unfold ai
 rw[ak _ (by rw[eF];simp),eF]
 have e:eQ (aT 16)=16:=by decide
 simp[aD,e,bc,aF,aV,aO,aE,am dn hdn,am sn hsn,aH an han,ay.zero]
theorem mw (sn tn an:Nat):aa ⟨17,0,(sn:Nat),(tn:Nat),0,(an:Nat),0,0⟩=ax (aT 17) [Lib.decDigits an,bg sn,bg tn]:=by
 simp[aa,bc,aj,ar,au,aw,ax,bg]
theorem eE (sn tn an:Nat):ab (aa ⟨17,0,(sn:Nat),(tn:Nat),0,(an:Nat),0,0⟩)=aT 17 :: [Lib.decDigits an,bg sn,bg tn]:=by
 rw[mw]
 exact aq _ _ (by unfold Bf;decide) (by simp[aX,bf])
theorem kf (sn tn an:Nat)(hsn:sn<9223372036854775808)(htn:tn<9223372036854775808)(han:an<9223372036854775808):ai (aa ⟨17,0,(sn:Nat),(tn:Nat),0,(an:Nat),0,0⟩)=⟨17,0,(sn:Nat),(tn:Nat),0,(an:Nat),0,0⟩:=by
 unfold ai
 rw[ak _ (by rw[eE];simp),eE]
 have e:eQ (aT 17)=17:=by decide
 simp[aD,e,bc,aF,aV,aO,aE,am sn hsn,am tn htn,aH an han,ay.zero]
theorem mv (dn sn tn an:Nat):aa ⟨18,(dn:Nat),(sn:Nat),(tn:Nat),0,(an:Nat),0,0⟩=ax (aT 18) [bg dn,Lib.decDigits an,bg sn,bg tn]:=by
 simp[aa,bc,aj,ar,au,aw,ax,bg]
theorem eD (dn sn tn an:Nat):ab (aa ⟨18,(dn:Nat),(sn:Nat),(tn:Nat),0,(an:Nat),0,0⟩)=aT 18 :: [bg dn,Lib.decDigits an,bg sn,bg tn]:=by
 rw[mv]
 exact aq _ _ (by unfold Bf;decide) (by simp[aX,bf])
theorem ke (dn sn tn an:Nat)(hdn:dn<9223372036854775808)(hsn:sn<9223372036854775808)(htn:tn<9223372036854775808)(han:an<9223372036854775808):ai (aa ⟨18,(dn:Nat),(sn:Nat),(tn:Nat),0,(an:Nat),0,0⟩)=⟨18,(dn:Nat),(sn:Nat),(tn:Nat),0,(an:Nat),0,0⟩:=by
 unfold ai
 rw[ak _ (by rw[eD];simp),eD]
 have e:eQ (aT 18)=18:=by decide
 simp[aD,e,bc,aF,aV,aO,aE,am dn hdn,am sn hsn,am tn htn,aH an han,ay.zero]
theorem mu (dn sn tn un an:Nat):aa ⟨19,(dn:Nat),(sn:Nat),(tn:Nat),(un:Nat),(an:Nat),0,0⟩=ax (aT 19) [bg dn,Lib.decDigits an,bg sn,bg tn,bg un]:=by
 simp[aa,bc,aj,ar,au,aw,ax,bg]
theorem eC (dn sn tn un an:Nat):ab (aa ⟨19,(dn:Nat),(sn:Nat),(tn:Nat),(un:Nat),(an:Nat),0,0⟩)=aT 19 :: [bg dn,Lib.decDigits an,bg sn,bg tn,bg un]:=by
 rw[mu]
 exact aq _ _ (by unfold Bf;decide) (by simp[aX,bf])
theorem kd (dn sn tn un an:Nat)(hdn:dn<9223372036854775808)(hsn:sn<9223372036854775808)(htn:tn<9223372036854775808)(hun:un<9223372036854775808)(han:an<9223372036854775808):ai (aa ⟨19,(dn:Nat),(sn:Nat),(tn:Nat),(un:Nat),(an:Nat),0,0⟩)=⟨19,(dn:Nat),(sn:Nat),(tn:Nat),(un:Nat),(an:Nat),0,0⟩:=by
 unfold ai
 rw[ak _ (by rw[eC];simp),eC]
 have e:eQ (aT 19)=19:=by decide
 simp[aD,e,bc,aF,aV,aO,aE,am dn hdn,am sn hsn,am tn htn,am un hun,aH an han,ay.zero]
theorem mt (dn sn an kn:Nat):aa ⟨20,(dn:Nat),(sn:Nat),0,0,(an:Nat),(kn:Nat),0⟩=ax (aT 20) [bg dn,Lib.decDigits an,bg sn,Lib.decDigits kn]:=by
 simp[aa,bc,aj,ar,au,aw,ax,bg]
theorem eB (dn sn an kn:Nat):ab (aa ⟨20,(dn:Nat),(sn:Nat),0,0,(an:Nat),(kn:Nat),0⟩)=aT 20 :: [bg dn,Lib.decDigits an,bg sn,Lib.decDigits kn]:=by
 rw[mt]
 exact aq _ _ (by unfold Bf;decide) (by simp[aX,bf])
theorem kc (dn sn an kn:Nat)(hdn:dn<9223372036854775808)(hsn:sn<9223372036854775808)(han:an<9223372036854775808)(hkn:kn<9223372036854775808)(k1:kn<4294967296):ai (aa ⟨20,(dn:Nat),(sn:Nat),0,0,(an:Nat),(kn:Nat),0⟩)=⟨20,(dn:Nat),(sn:Nat),0,0,(an:Nat),(kn:Nat),0⟩:=by
 unfold ai
 rw[ak _ (by rw[eB];simp),eB]
 have e:eQ (aT 20)=20:=by decide
 simp[aD,e,bc,aF,aV,aO,aE,am dn hdn,am sn hsn,aH an han,aH kn hkn,ay.zero]
 omega
theorem mr (sn:Nat):aa ⟨23,0,(sn:Nat),0,0,0,0,0⟩=ax (aT 23) [bg sn]:=by
 simp[aa,bc,aj,ar,au,aw,ax,bg]
theorem ez (sn:Nat):ab (aa ⟨23,0,(sn:Nat),0,0,0,0,0⟩)=aT 23 :: [bg sn]:=by
 rw[mr]
 exact aq _ _ (by unfold Bf;decide) (by simp[aX])
theorem ka (sn:Nat)(hsn:sn<9223372036854775808):ai (aa ⟨23,0,(sn:Nat),0,0,0,0,0⟩)=⟨23,0,(sn:Nat),0,0,0,0,0⟩:=by
 unfold ai
 rw[ak _ (by rw[ez];simp),ez]
 have e:eQ (aT 23)=23:=by decide
 simp[aD,e,bc,aF,aV,aO,aE,am sn hsn,ay.zero]
theorem iG (dn sn tn an pn:Nat):aa ⟨21,(dn:Nat),(sn:Nat),(tn:Nat),0,(an:Nat),0,(pn:Nat)⟩=ax (aT 21) [bg dn,Lib.decDigits an,bg sn,[101,113],bg tn,[101,108,115,101],Lib.decDigits pn]:=by
 have e:¬ ((pn:Int)=-1):=by omega
 simp[aa,bc,aj,ar,au,aw,ax,bg,e]
theorem cm (dn sn tn an pn:Nat):ab (aa ⟨21,(dn:Nat),(sn:Nat),(tn:Nat),0,(an:Nat),0,(pn:Nat)⟩)=aT 21 :: [bg dn,Lib.decDigits an,bg sn,[101,113],bg tn,[101,108,115,101],Lib.decDigits pn]:=by
 rw[iG dn sn tn an pn]
 refine aq _ _ (by unfold Bf;decide) ?_
 have b1:Bf [101,113]:=by unfold Bf;decide
 have b2:Bf [101,108,115,101]:=by unfold Bf;decide
 simp[aX,bf,b1,b2]
theorem fJ (dn sn tn an pn:Nat)(hdn:dn<9223372036854775808)(hsn:sn<9223372036854775808)(htn:tn<9223372036854775808)(han:an<9223372036854775808)(hpn:pn<9223372036854775808):ai (aa ⟨21,(dn:Nat),(sn:Nat),(tn:Nat),0,(an:Nat),0,(pn:Nat)⟩)=⟨21,(dn:Nat),(sn:Nat),(tn:Nat),0,(an:Nat),0,(pn:Nat)⟩:=by
 unfold ai
 rw[ak _ (by rw[cm dn sn tn an pn];simp),cm dn sn tn an pn]
 have e:eQ (aT 21)=21:=by decide
 have v:dD [101,113]=0:=by decide
 simp[aD,e,bc,aF,aV,aO,aE,am dn hdn,am sn hsn,am tn htn,aH an han,aH pn hpn,v,ay.zero]
theorem iH (dn sn tn an pn:Nat):aa ⟨21,(dn:Nat),(sn:Nat),(tn:Nat),0,(an:Nat),0,-1⟩=ax (aT 21) [bg dn,Lib.decDigits an,bg sn,[101,113],bg tn]:=by
 simp[aa,bc,aj,ar,au,aw,ax,bg]
theorem co (dn sn tn an pn:Nat):ab (aa ⟨21,(dn:Nat),(sn:Nat),(tn:Nat),0,(an:Nat),0,-1⟩)=aT 21 :: [bg dn,Lib.decDigits an,bg sn,[101,113],bg tn]:=by
 rw[iH dn sn tn an pn]
 refine aq _ _ (by unfold Bf;decide) ?_
 have b1:Bf [101,113]:=by unfold Bf;decide
 simp[aX,bf,b1]
theorem fK (dn sn tn an pn:Nat)(hdn:dn<9223372036854775808)(hsn:sn<9223372036854775808)(htn:tn<9223372036854775808)(han:an<9223372036854775808)(hpn:pn<9223372036854775808):ai (aa ⟨21,(dn:Nat),(sn:Nat),(tn:Nat),0,(an:Nat),0,-1⟩)=⟨21,(dn:Nat),(sn:Nat),(tn:Nat),0,(an:Nat),0,-1⟩:=by
 unfold ai
 rw[ak _ (by rw[co dn sn tn an pn];simp),co dn sn tn an pn]
 have e:eQ (aT 21)=21:=by decide
 have v:dD [101,113]=0:=by decide
 simp[aD,e,bc,aF,aV,aO,aE,am dn hdn,am sn hsn,am tn htn,aH an han,v,ay.zero]
theorem iE (dn sn tn an pn:Nat):aa ⟨21,(dn:Nat),(sn:Nat),(tn:Nat),0,(an:Nat),1,(pn:Nat)⟩=ax (aT 21) [bg dn,Lib.decDigits an,bg sn,[110,101],bg tn,[101,108,115,101],Lib.decDigits pn]:=by
 have e:¬ ((pn:Int)=-1):=by omega
 simp[aa,bc,aj,ar,au,aw,ax,bg,e]
theorem cj (dn sn tn an pn:Nat):ab (aa ⟨21,(dn:Nat),(sn:Nat),(tn:Nat),0,(an:Nat),1,(pn:Nat)⟩)=aT 21 :: [bg dn,Lib.decDigits an,bg sn,[110,101],bg tn,[101,108,115,101],Lib.decDigits pn]:=by
 rw[iE dn sn tn an pn]
 refine aq _ _ (by unfold Bf;decide) ?_
 have b1:Bf [110,101]:=by unfold Bf;decide
 have b2:Bf [101,108,115,101]:=by unfold Bf;decide
 simp[aX,bf,b1,b2]
theorem fH (dn sn tn an pn:Nat)(hdn:dn<9223372036854775808)(hsn:sn<9223372036854775808)(htn:tn<9223372036854775808)(han:an<9223372036854775808)(hpn:pn<9223372036854775808):ai (aa ⟨21,(dn:Nat),(sn:Nat),(tn:Nat),0,(an:Nat),1,(pn:Nat)⟩)=⟨21,(dn:Nat),(sn:Nat),(tn:Nat),0,(an:Nat),1,(pn:Nat)⟩:=by
 unfold ai
 rw[ak _ (by rw[cj dn sn tn an pn];simp),cj dn sn tn an pn]
 have e:eQ (aT 21)=21:=by decide
 have v:dD [110,101]=1:=by decide
 simp[aD,e,bc,aF,aV,aO,aE,am dn hdn,am sn hsn,am tn htn,aH an han,aH pn hpn,v,ay.zero]
theorem iF (dn sn tn an pn:Nat):aa ⟨21,(dn:Nat),(sn:Nat),(tn:Nat),0,(an:Nat),1,-1⟩=ax (aT 21) [bg dn,Lib.decDigits an,bg sn,[110,101],bg tn]:=by
 simp[aa,bc,aj,ar,au,aw,ax,bg]
theorem ck (dn sn tn an pn:Nat):ab (aa ⟨21,(dn:Nat),(sn:Nat),(tn:Nat),0,(an:Nat),1,-1⟩)=aT 21 :: [bg dn,Lib.decDigits an,bg sn,[110,101],bg tn]:=by
 rw[iF dn sn tn an pn]
 refine aq _ _ (by unfold Bf;decide) ?_
 have b1:Bf [110,101]:=by unfold Bf;decide
 simp[aX,bf,b1]
theorem fI (dn sn tn an pn:Nat)(hdn:dn<9223372036854775808)(hsn:sn<9223372036854775808)(htn:tn<9223372036854775808)(han:an<9223372036854775808)(hpn:pn<9223372036854775808):ai (aa ⟨21,(dn:Nat),(sn:Nat),(tn:Nat),0,(an:Nat),1,-1⟩)=⟨21,(dn:Nat),(sn:Nat),(tn:Nat),0,(an:Nat),1,-1⟩:=by
 unfold ai
 rw[ak _ (by rw[ck dn sn tn an pn];simp),ck dn sn tn an pn]
 have e:eQ (aT 21)=21:=by decide
 have v:dD [110,101]=1:=by decide
 simp[aD,e,bc,aF,aV,aO,aE,am dn hdn,am sn hsn,am tn htn,aH an han,v,ay.zero]
theorem gu (i:ay)(h:ag i 1073741824=I)(k0:0<=i.k)(k1:i.k<4294967296):ai (aa i)=i:=by
 obtain⟨hd,hs,ht,hu,ha⟩:=da i _ h
 obtain⟨op,d,s,t,u,a,k,pl⟩:=i
 simp only at hd hs ht hu ha k0 k1
 rcases aZ op with rfl|rfl|rfl|rfl|rfl|rfl|rfl|rfl|rfl|rfl|rfl|rfl|rfl|rfl|rfl|rfl|rfl|rfl|rfl|rfl|rfl | hn
 ·skip
  have hr:=js d s t u a k pl 1073741824 hd hs ht hu ha k0 k1
  rw[h] at hr
  simp[bw] at hr
  obtain⟨dn,rfl⟩:∃ n:Nat,d=n:=⟨d.toNat,by omega⟩
  obtain⟨sn,rfl⟩:∃ n:Nat,s=n:=⟨s.toNat,by omega⟩
  obtain⟨tn,rfl⟩:∃ n:Nat,t=n:=⟨t.toNat,by omega⟩
  obtain⟨un,rfl⟩:∃ n:Nat,u=n:=⟨u.toNat,by omega⟩
  obtain⟨an,rfl⟩:∃ n:Nat,a=n:=⟨a.toNat,by omega⟩
  obtain⟨kn,rfl⟩:∃ n:Nat,k=n:=⟨k.toNat,by omega⟩
  obtain rfl:sn=0:=by omega
  obtain rfl:tn=0:=by omega
  obtain rfl:un=0:=by omega
  obtain rfl:an=0:=by omega
  obtain rfl:pl=0:=by omega
  exact lB dn kn (by omega) (by omega) (by omega)
 ·skip
  have hr:=jq d s t u a k pl 1073741824 hd hs ht hu ha k0 k1
  rw[h] at hr
  simp[bw] at hr
  obtain⟨dn,rfl⟩:∃ n:Nat,d=n:=⟨d.toNat,by omega⟩
  obtain⟨sn,rfl⟩:∃ n:Nat,s=n:=⟨s.toNat,by omega⟩
  obtain⟨tn,rfl⟩:∃ n:Nat,t=n:=⟨t.toNat,by omega⟩
  obtain⟨un,rfl⟩:∃ n:Nat,u=n:=⟨u.toNat,by omega⟩
  obtain⟨an,rfl⟩:∃ n:Nat,a=n:=⟨a.toNat,by omega⟩
  obtain⟨kn,rfl⟩:∃ n:Nat,k=n:=⟨k.toNat,by omega⟩
  obtain rfl:tn=0:=by omega
  obtain rfl:un=0:=by omega
  obtain rfl:an=0:=by omega
  obtain rfl:kn=0:=by omega
  obtain rfl:pl=0:=by omega
  exact lA dn sn (by omega) (by omega)
 ·skip
  have hr:=jp d s t u a k pl 1073741824 hd hs ht hu ha k0 k1
  rw[h] at hr
  simp[bw] at hr
  obtain⟨dn,rfl⟩:∃ n:Nat,d=n:=⟨d.toNat,by omega⟩
  obtain⟨sn,rfl⟩:∃ n:Nat,s=n:=⟨s.toNat,by omega⟩
  obtain⟨tn,rfl⟩:∃ n:Nat,t=n:=⟨t.toNat,by omega⟩
  obtain⟨un,rfl⟩:∃ n:Nat,u=n:=⟨u.toNat,by omega⟩
  obtain⟨an,rfl⟩:∃ n:Nat,a=n:=⟨a.toNat,by omega⟩
  obtain⟨kn,rfl⟩:∃ n:Nat,k=n:=⟨k.toNat,by omega⟩
  obtain rfl:tn=0:=by omega
  obtain rfl:un=0:=by omega
  obtain rfl:an=0:=by omega
  obtain rfl:pl=0:=by omega
  exact lz dn sn kn (by omega) (by omega) (by omega) (by omega)
 ·skip
  have hr:=jo d s t u a k pl 1073741824 hd hs ht hu ha k0 k1
  rw[h] at hr
  simp[bw] at hr
  obtain⟨dn,rfl⟩:∃ n:Nat,d=n:=⟨d.toNat,by omega⟩
  obtain⟨sn,rfl⟩:∃ n:Nat,s=n:=⟨s.toNat,by omega⟩
  obtain⟨tn,rfl⟩:∃ n:Nat,t=n:=⟨t.toNat,by omega⟩
  obtain⟨un,rfl⟩:∃ n:Nat,u=n:=⟨u.toNat,by omega⟩
  obtain⟨an,rfl⟩:∃ n:Nat,a=n:=⟨a.toNat,by omega⟩
  obtain⟨kn,rfl⟩:∃ n:Nat,k=n:=⟨k.toNat,by omega⟩
  obtain rfl:tn=0:=by omega
  obtain rfl:un=0:=by omega
  obtain rfl:an=0:=by omega
  obtain rfl:pl=0:=by omega
  exact ly dn sn kn (by omega) (by omega) (by omega) (by omega)
 ·skip
  have hr:=jn d s t u a k pl 1073741824 hd hs ht hu ha k0 k1
  rw[h] at hr
  simp[bw] at hr
  obtain⟨dn,rfl⟩:∃ n:Nat,d=n:=⟨d.toNat,by omega⟩
  obtain⟨sn,rfl⟩:∃ n:Nat,s=n:=⟨s.toNat,by omega⟩
  obtain⟨tn,rfl⟩:∃ n:Nat,t=n:=⟨t.toNat,by omega⟩
  obtain⟨un,rfl⟩:∃ n:Nat,u=n:=⟨u.toNat,by omega⟩
  obtain⟨an,rfl⟩:∃ n:Nat,a=n:=⟨a.toNat,by omega⟩
  obtain⟨kn,rfl⟩:∃ n:Nat,k=n:=⟨k.toNat,by omega⟩
  obtain rfl:tn=0:=by omega
  obtain rfl:un=0:=by omega
  obtain rfl:an=0:=by omega
  obtain rfl:pl=0:=by omega
  exact lx dn sn kn (by omega) (by omega) (by omega) (by omega)
 ·skip
  have hr:=jm d s t u a k pl 1073741824 hd hs ht hu ha k0 k1
  rw[h] at hr
  simp[bw] at hr
  obtain⟨dn,rfl⟩:∃ n:Nat,d=n:=⟨d.toNat,by omega⟩
  obtain⟨sn,rfl⟩:∃ n:Nat,s=n:=⟨s.toNat,by omega⟩
  obtain⟨tn,rfl⟩:∃ n:Nat,t=n:=⟨t.toNat,by omega⟩
  obtain⟨un,rfl⟩:∃ n:Nat,u=n:=⟨u.toNat,by omega⟩
  obtain⟨an,rfl⟩:∃ n:Nat,a=n:=⟨a.toNat,by omega⟩
  obtain⟨kn,rfl⟩:∃ n:Nat,k=n:=⟨k.toNat,by omega⟩
  obtain rfl:tn=0:=by omega
  obtain rfl:un=0:=by omega
  obtain rfl:an=0:=by omega
  obtain rfl:pl=0:=by omega
  exact lw dn sn kn (by omega) (by omega) (by omega) (by omega)
 ·skip
  have hr:=jl d s t u a k pl 1073741824 hd hs ht hu ha k0 k1
  rw[h] at hr
  simp[bw] at hr
  obtain⟨dn,rfl⟩:∃ n:Nat,d=n:=⟨d.toNat,by omega⟩
  obtain⟨sn,rfl⟩:∃ n:Nat,s=n:=⟨s.toNat,by omega⟩
  obtain⟨tn,rfl⟩:∃ n:Nat,t=n:=⟨t.toNat,by omega⟩
  obtain⟨un,rfl⟩:∃ n:Nat,u=n:=⟨u.toNat,by omega⟩
  obtain⟨an,rfl⟩:∃ n:Nat,a=n:=⟨a.toNat,by omega⟩
  obtain⟨kn,rfl⟩:∃ n:Nat,k=n:=⟨k.toNat,by omega⟩
  obtain rfl:un=0:=by omega
  obtain rfl:an=0:=by omega
  obtain rfl:kn=0:=by omega
  obtain rfl:pl=0:=by omega
  exact lv dn sn tn (by omega) (by omega) (by omega)
 ·skip
  have hr:=jk d s t u a k pl 1073741824 hd hs ht hu ha k0 k1
  rw[h] at hr
  simp[bw] at hr
  obtain⟨dn,rfl⟩:∃ n:Nat,d=n:=⟨d.toNat,by omega⟩
  obtain⟨sn,rfl⟩:∃ n:Nat,s=n:=⟨s.toNat,by omega⟩
  obtain⟨tn,rfl⟩:∃ n:Nat,t=n:=⟨t.toNat,by omega⟩
  obtain⟨un,rfl⟩:∃ n:Nat,u=n:=⟨u.toNat,by omega⟩
  obtain⟨an,rfl⟩:∃ n:Nat,a=n:=⟨a.toNat,by omega⟩
  obtain⟨kn,rfl⟩:∃ n:Nat,k=n:=⟨k.toNat,by omega⟩
  obtain rfl:dn=0:=by omega
  obtain rfl:un=0:=by omega
  obtain rfl:an=0:=by omega
  obtain rfl:kn=0:=by omega
  obtain⟨pn,rfl⟩:∃ n:Nat,pl=n:=⟨pl.toNat,by omega⟩
  exact lu sn tn pn (by omega) (by omega) (by omega)
 ·skip
  have hr:=jj d s t u a k pl 1073741824 hd hs ht hu ha k0 k1
  rw[h] at hr
  simp[bw] at hr
  obtain⟨dn,rfl⟩:∃ n:Nat,d=n:=⟨d.toNat,by omega⟩
  obtain⟨sn,rfl⟩:∃ n:Nat,s=n:=⟨s.toNat,by omega⟩
  obtain⟨tn,rfl⟩:∃ n:Nat,t=n:=⟨t.toNat,by omega⟩
  obtain⟨un,rfl⟩:∃ n:Nat,u=n:=⟨u.toNat,by omega⟩
  obtain⟨an,rfl⟩:∃ n:Nat,a=n:=⟨a.toNat,by omega⟩
  obtain⟨kn,rfl⟩:∃ n:Nat,k=n:=⟨k.toNat,by omega⟩
  obtain rfl:dn=0:=by omega
  obtain rfl:un=0:=by omega
  obtain rfl:an=0:=by omega
  obtain rfl:kn=0:=by omega
  obtain⟨pn,rfl⟩:∃ n:Nat,pl=n:=⟨pl.toNat,by omega⟩
  exact lr sn tn pn (by omega) (by omega) (by omega)
 ·skip
  have hr:=gQ d s t u a k pl 1073741824 hd hs ht hu ha k0 k1
  rw[h] at hr
  simp[bw] at hr
  obtain⟨dn,rfl⟩:∃ n:Nat,d=n:=⟨d.toNat,by omega⟩
  obtain⟨sn,rfl⟩:∃ n:Nat,s=n:=⟨s.toNat,by omega⟩
  obtain⟨tn,rfl⟩:∃ n:Nat,t=n:=⟨t.toNat,by omega⟩
  obtain⟨un,rfl⟩:∃ n:Nat,u=n:=⟨u.toNat,by omega⟩
  obtain⟨an,rfl⟩:∃ n:Nat,a=n:=⟨a.toNat,by omega⟩
  obtain⟨kn,rfl⟩:∃ n:Nat,k=n:=⟨k.toNat,by omega⟩
  obtain rfl:dn=0:=by omega
  obtain rfl:sn=0:=by omega
  obtain rfl:tn=0:=by omega
  obtain rfl:un=0:=by omega
  obtain rfl:an=0:=by omega
  obtain rfl:kn=0:=by omega
  obtain⟨pn,rfl⟩:∃ n:Nat,pl=n:=⟨pl.toNat,by omega⟩
  exact kl pn (by omega)
 ·skip
  have hr:=gP d s t u a k pl 1073741824 hd hs ht hu ha k0 k1
  rw[h] at hr
  simp[bw] at hr
  obtain⟨dn,rfl⟩:∃ n:Nat,d=n:=⟨d.toNat,by omega⟩
  obtain⟨sn,rfl⟩:∃ n:Nat,s=n:=⟨s.toNat,by omega⟩
  obtain⟨tn,rfl⟩:∃ n:Nat,t=n:=⟨t.toNat,by omega⟩
  obtain⟨un,rfl⟩:∃ n:Nat,u=n:=⟨u.toNat,by omega⟩
  obtain⟨an,rfl⟩:∃ n:Nat,a=n:=⟨a.toNat,by omega⟩
  obtain⟨kn,rfl⟩:∃ n:Nat,k=n:=⟨k.toNat,by omega⟩
  obtain rfl:sn=0:=by omega
  obtain rfl:tn=0:=by omega
  obtain rfl:un=0:=by omega
  obtain rfl:an=0:=by omega
  obtain rfl:kn=0:=by omega
  obtain rfl:pl=0:=by omega
  exact kj dn (by omega)
 ·skip
  have hr:=gO d s t u a k pl 1073741824 hd hs ht hu ha k0 k1
  rw[h] at hr
  simp[bw] at hr
  obtain⟨dn,rfl⟩:∃ n:Nat,d=n:=⟨d.toNat,by omega⟩
  obtain⟨sn,rfl⟩:∃ n:Nat,s=n:=⟨s.toNat,by omega⟩
  obtain⟨tn,rfl⟩:∃ n:Nat,t=n:=⟨t.toNat,by omega⟩
  obtain⟨un,rfl⟩:∃ n:Nat,u=n:=⟨u.toNat,by omega⟩
  obtain⟨an,rfl⟩:∃ n:Nat,a=n:=⟨a.toNat,by omega⟩
  obtain⟨kn,rfl⟩:∃ n:Nat,k=n:=⟨k.toNat,by omega⟩
  obtain rfl:dn=0:=by omega
  obtain rfl:sn=0:=by omega
  obtain rfl:tn=0:=by omega
  obtain rfl:un=0:=by omega
  obtain rfl:an=0:=by omega
  obtain rfl:pl=0:=by omega
  exact ki kn (by omega) (by omega)
 ·skip
  have hr:=gN d s t u a k pl 1073741824 hd hs ht hu ha k0 k1
  rw[h] at hr
  simp[bw] at hr
  obtain⟨dn,rfl⟩:∃ n:Nat,d=n:=⟨d.toNat,by omega⟩
  obtain⟨sn,rfl⟩:∃ n:Nat,s=n:=⟨s.toNat,by omega⟩
  obtain⟨tn,rfl⟩:∃ n:Nat,t=n:=⟨t.toNat,by omega⟩
  obtain⟨un,rfl⟩:∃ n:Nat,u=n:=⟨u.toNat,by omega⟩
  obtain⟨an,rfl⟩:∃ n:Nat,a=n:=⟨a.toNat,by omega⟩
  obtain⟨kn,rfl⟩:∃ n:Nat,k=n:=⟨k.toNat,by omega⟩
  obtain rfl:dn=0:=by omega
  obtain rfl:sn=0:=by omega
  obtain rfl:tn=0:=by omega
  obtain rfl:un=0:=by omega
  obtain rfl:an=0:=by omega
  obtain rfl:pl=0:=by omega
  exact kh kn (by omega) (by omega)
 ·skip
  have hr:=gM d s t u a k pl 1073741824 hd hs ht hu ha k0 k1
  rw[h] at hr
  simp[bw] at hr
  obtain⟨dn,rfl⟩:∃ n:Nat,d=n:=⟨d.toNat,by omega⟩
  obtain⟨sn,rfl⟩:∃ n:Nat,s=n:=⟨s.toNat,by omega⟩
  obtain⟨tn,rfl⟩:∃ n:Nat,t=n:=⟨t.toNat,by omega⟩
  obtain⟨un,rfl⟩:∃ n:Nat,u=n:=⟨u.toNat,by omega⟩
  obtain⟨an,rfl⟩:∃ n:Nat,a=n:=⟨a.toNat,by omega⟩
  obtain⟨kn,rfl⟩:∃ n:Nat,k=n:=⟨k.toNat,by omega⟩
  obtain rfl:tn=0:=by omega
  obtain rfl:un=0:=by omega
  obtain rfl:kn=0:=by omega
  obtain rfl:pl=0:=by omega
  exact kg dn sn an (by omega) (by omega) (by omega)
 ·skip
  have hr:=gK d s t u a k pl 1073741824 hd hs ht hu ha k0 k1
  rw[h] at hr
  simp[bw] at hr
  obtain⟨dn,rfl⟩:∃ n:Nat,d=n:=⟨d.toNat,by omega⟩
  obtain⟨sn,rfl⟩:∃ n:Nat,s=n:=⟨s.toNat,by omega⟩
  obtain⟨tn,rfl⟩:∃ n:Nat,t=n:=⟨t.toNat,by omega⟩
  obtain⟨un,rfl⟩:∃ n:Nat,u=n:=⟨u.toNat,by omega⟩
  obtain⟨an,rfl⟩:∃ n:Nat,a=n:=⟨a.toNat,by omega⟩
  obtain⟨kn,rfl⟩:∃ n:Nat,k=n:=⟨k.toNat,by omega⟩
  obtain rfl:dn=0:=by omega
  obtain rfl:un=0:=by omega
  obtain rfl:kn=0:=by omega
  obtain rfl:pl=0:=by omega
  exact kf sn tn an (by omega) (by omega) (by omega)
 ·skip
  have hr:=gJ d s t u a k pl 1073741824 hd hs ht hu ha k0 k1
  rw[h] at hr
  simp[bw] at hr
  obtain⟨dn,rfl⟩:∃ n:Nat,d=n:=⟨d.toNat,by omega⟩
  obtain⟨sn,rfl⟩:∃ n:Nat,s=n:=⟨s.toNat,by omega⟩
  obtain⟨tn,rfl⟩:∃ n:Nat,t=n:=⟨t.toNat,by omega⟩
  obtain⟨un,rfl⟩:∃ n:Nat,u=n:=⟨u.toNat,by omega⟩
  obtain⟨an,rfl⟩:∃ n:Nat,a=n:=⟨a.toNat,by omega⟩
  obtain⟨kn,rfl⟩:∃ n:Nat,k=n:=⟨k.toNat,by omega⟩
  obtain rfl:un=0:=by omega
  obtain rfl:kn=0:=by omega
  obtain rfl:pl=0:=by omega
  exact ke dn sn tn an (by omega) (by omega) (by omega) (by omega)
 ·skip
  have hr:=gH d s t u a k pl 1073741824 hd hs ht hu ha k0 k1
  rw[h] at hr
  simp[bw] at hr
  obtain⟨dn,rfl⟩:∃ n:Nat,d=n:=⟨d.toNat,by omega⟩
  obtain⟨sn,rfl⟩:∃ n:Nat,s=n:=⟨s.toNat,by omega⟩
  obtain⟨tn,rfl⟩:∃ n:Nat,t=n:=⟨t.toNat,by omega⟩
  obtain⟨un,rfl⟩:∃ n:Nat,u=n:=⟨u.toNat,by omega⟩
  obtain⟨an,rfl⟩:∃ n:Nat,a=n:=⟨a.toNat,by omega⟩
  obtain⟨kn,rfl⟩:∃ n:Nat,k=n:=⟨k.toNat,by omega⟩
  obtain rfl:kn=0:=by omega
  obtain rfl:pl=0:=by omega
  exact kd dn sn tn un an (by omega) (by omega) (by omega) (by omega) (by omega)
 ·skip
  have hr:=gG d s t u a k pl 1073741824 hd hs ht hu ha k0 k1
  rw[h] at hr
  simp[bw] at hr
  obtain⟨dn,rfl⟩:∃ n:Nat,d=n:=⟨d.toNat,by omega⟩
  obtain⟨sn,rfl⟩:∃ n:Nat,s=n:=⟨s.toNat,by omega⟩
  obtain⟨tn,rfl⟩:∃ n:Nat,t=n:=⟨t.toNat,by omega⟩
  obtain⟨un,rfl⟩:∃ n:Nat,u=n:=⟨u.toNat,by omega⟩
  obtain⟨an,rfl⟩:∃ n:Nat,a=n:=⟨a.toNat,by omega⟩
  obtain⟨kn,rfl⟩:∃ n:Nat,k=n:=⟨k.toNat,by omega⟩
  obtain rfl:tn=0:=by omega
  obtain rfl:un=0:=by omega
  obtain rfl:pl=0:=by omega
  exact kc dn sn an kn (by omega) (by omega) (by omega) (by omega) (by omega)
 ·skip
  have hr:=eL d s t u a k pl 1073741824 hd hs ht hu ha k0 k1
  rw[h] at hr
  simp[bw] at hr
  obtain⟨dn,rfl⟩:∃ n:Nat,d=n:=⟨d.toNat,by omega⟩
  obtain⟨sn,rfl⟩:∃ n:Nat,s=n:=⟨s.toNat,by omega⟩
  obtain⟨tn,rfl⟩:∃ n:Nat,t=n:=⟨t.toNat,by omega⟩
  obtain⟨un,rfl⟩:∃ n:Nat,u=n:=⟨u.toNat,by omega⟩
  obtain⟨an,rfl⟩:∃ n:Nat,a=n:=⟨a.toNat,by omega⟩
  obtain⟨kn,rfl⟩:∃ n:Nat,k=n:=⟨k.toNat,by omega⟩
  obtain rfl:un=0:=by omega
  by_cases hm:pl=-1
  ·subst hm
   by_cases hk:kn=0
   ·subst hk;exact fK dn sn tn an 0 (by omega) (by omega) (by omega) (by omega) (by omega)
   ·obtain rfl:kn=1:=by omega
    exact fI dn sn tn an 0 (by omega) (by omega) (by omega) (by omega) (by omega)
  ·obtain⟨pn,rfl⟩:∃ n:Nat,pl=n:=⟨pl.toNat,by omega⟩
   by_cases hk:kn=0
   ·subst hk;exact fJ dn sn tn an pn (by omega) (by omega) (by omega) (by omega) (by omega)
   ·obtain rfl:kn=1:=by omega
    exact fH dn sn tn an pn (by omega) (by omega) (by omega) (by omega) (by omega)
 ·skip
  have hr:=gF d s t u a k pl 1073741824 hd hs ht hu ha k0 k1
  rw[h] at hr
  simp[bw] at hr
  obtain⟨dn,rfl⟩:∃ n:Nat,d=n:=⟨d.toNat,by omega⟩
  obtain⟨sn,rfl⟩:∃ n:Nat,s=n:=⟨s.toNat,by omega⟩
  obtain⟨tn,rfl⟩:∃ n:Nat,t=n:=⟨t.toNat,by omega⟩
  obtain⟨un,rfl⟩:∃ n:Nat,u=n:=⟨u.toNat,by omega⟩
  obtain⟨an,rfl⟩:∃ n:Nat,a=n:=⟨a.toNat,by omega⟩
  obtain⟨kn,rfl⟩:∃ n:Nat,k=n:=⟨k.toNat,by omega⟩
  obtain rfl:sn=0:=by omega
  obtain rfl:tn=0:=by omega
  obtain rfl:un=0:=by omega
  obtain rfl:an=0:=by omega
  obtain rfl:kn=0:=by omega
  obtain rfl:pl=0:=by omega
  exact kb dn (by omega)
 ·skip
  have hr:=gE d s t u a k pl 1073741824 hd hs ht hu ha k0 k1
  rw[h] at hr
  simp[bw] at hr
  obtain⟨dn,rfl⟩:∃ n:Nat,d=n:=⟨d.toNat,by omega⟩
  obtain⟨sn,rfl⟩:∃ n:Nat,s=n:=⟨s.toNat,by omega⟩
  obtain⟨tn,rfl⟩:∃ n:Nat,t=n:=⟨t.toNat,by omega⟩
  obtain⟨un,rfl⟩:∃ n:Nat,u=n:=⟨u.toNat,by omega⟩
  obtain⟨an,rfl⟩:∃ n:Nat,a=n:=⟨a.toNat,by omega⟩
  obtain⟨kn,rfl⟩:∃ n:Nat,k=n:=⟨k.toNat,by omega⟩
  obtain rfl:dn=0:=by omega
  obtain rfl:tn=0:=by omega
  obtain rfl:un=0:=by omega
  obtain rfl:an=0:=by omega
  obtain rfl:kn=0:=by omega
  obtain rfl:pl=0:=by omega
  exact ka sn (by omega)
 ·exfalso
  unfold ag at h
  simp only[(bA hn).1] at h
  cases h
theorem iA (i:ay)(h:ag i 1073741824=I)(k0:0<=i.k)(k1:i.k<4294967296):di (aa i)=I/\ai (aa i)=i:=by
 have e:=gu i h k0 k1
 refine⟨?_,e⟩
 unfold di
 rw[e,h]
 simp
end
section
open Go.ChangeShapes Go.WideShapes Go.ChangeAt Go.RowKit
def ik (s:List UInt8):Int:=
 if s.length=2/\(s.getD 0 0).toNat=114/\48<=(s.getD 1 0).toNat/\(s.getD 1 0).toNat<=55 then ((s.getD 1 0).toNat:Int)-48 else -1
def bH (acc:Int):List UInt8->Option Int
 | []=>some acc
 | c :: r=>if 48<=c.toNat/\c.toNat<=57 then bH (acc*10+((c.toNat:Int)-48)) r else none
def ng:Option Int->Int
 | none=>-1
 | some n=>if 4294967295<n then -1 else n
def kU (s:List UInt8):Int:=
 if s=[]\/10<s.length\/(1<s.length/\(s.getD 0 0).toNat=48) then -1 else ng (bH 0 s)
end
section
def bZ (w:List UInt8):Nat->Int
 | 0=>0
 | n+1=>if (aT ((n:Int)+1)).isEmpty=false/\aT ((n:Int)+1)=w then (n:Int)+1 else bZ w n
def fa (w:List UInt8):Bool:=decide (0<=ik w) || (decide (0<=kU w) || (decide (w=[110,101]) || (decide (w=[101,113]) || decide (w=[101,108,115,101]))))
def ec (w:List UInt8):List Int:=if 0<=ik w then [ik w] else []
def ed (w:List UInt8):List Int:=if 0<=ik w then [] else if 0<=kU w then [kU w] else []
def jc (w:List UInt8):Bool:=!decide (0<=ik w) && (!decide (0<=kU w) && decide (w=[110,101]))
def aQ (l:List (List UInt8)):List Int:=l.flatMap ec
def bd (l:List (List UInt8)):List Int:=l.flatMap ed
def jF (l:List (List UInt8)):Int:=if l.any jc=I then 1 else 0
def bh (n:Nat)(v:Int)(l:List Int):List Int:=l++List.replicate (n-l.length) v
def ci (op:Int)(rs ns:List Int)(k:Int):ay:=
 if op=1\/op=3\/op=4\/op=5\/op=6 then ⟨op,cc rs 0,cc rs 1,cc rs 2,0,0,cc ns 0 % 4294967296,0⟩
 else if op=2\/op=7\/op=11\/op=22 then ⟨op,cc rs 0,cc rs 1,cc rs 2,0,0,k,0⟩
 else if op=8\/op=9\/op=10 then ⟨op,0,cc rs 0,cc rs 1,0,0,k,cc ns 0⟩
 else if op=12\/op=13 then ⟨op,0,0,0,0,0,cc ns 0 % 4294967296,0⟩
 else if op=16\/op=18\/op=19 then ⟨op,cc rs 0,cc rs 1,cc rs 2,cc rs 3,cc ns 0,k,0⟩
 else if op=20 then ⟨op,cc rs 0,cc rs 1,cc rs 2,cc rs 3,cc ns 0,cc ns 1 % 4294967296,0⟩
 else if op=21 then ⟨op,cc rs 0,cc rs 1,cc rs 2,cc rs 3,cc ns 0,k,cc ns 1⟩
 else if op=17 then ⟨op,0,cc rs 0,cc rs 1,0,cc ns 0,k,0⟩
 else if op=23 then ⟨op,0,cc rs 0,0,0,0,k,0⟩
 else ⟨op,0,0,0,0,0,k,0⟩
def ap (ws:List (List UInt8)):ay:=ci (bZ (ws.getD 0 []) 23) (bh 4 0 (aQ ws.tail)) (bh 2 (-1) (bd ws.tail)) (jF ws.tail)
def ej (s:List UInt8):Bool:=(ab s).tail.all fa && (ag (ap (ab s)) 1073741824 && decide (aa (ap (ab s))=s))
theorem dV:∀ (a b:List UInt8) (acc u:Int),bH acc a=some u->bH acc (a++b)=bH u b
 | [],b,acc,u,h=>by simp[bH] at h;subst h;rfl
 | c :: a,b,acc,u,h=>by
  simp only[bH,List.cons_append] at h ⊢
  split at h
  ·rename_i h1
   rw[if_pos h1]
   exact dV a b _ u h
  ·cases h
theorem gx:∀ (n:Nat),bH 0 (Lib.decDigits n)=some (n:Int):=by
 intro n
 induction n using Nat.strongRecOn with
 | _ n ih=>
  rw[Lib.decDigits]
  by_cases h:n<10
  ·rw[dif_pos h]
   have e:(UInt8.ofNat (48+n)).toNat=48+n:=by rw[UInt8.toNat_ofNat',Nat.mod_eq_of_lt (by omega)]
   simp only[bH,e]
   rw[if_pos (by omega)]
   congr 1
   omega
  ·rw[dif_neg h,dV _ _ _ _ (ih (n / 10) (by omega))]
   have e:(UInt8.ofNat (48+n % 10)).toNat=48+n % 10:=by rw[UInt8.toNat_ofNat',Nat.mod_eq_of_lt (by omega)]
   simp only[bH,e]
   rw[if_pos (by omega)]
   congr 1
   omega
theorem kw:∀ (m n:Nat),n<10 ^ (m+1)->(Lib.decDigits n).length<=m+1:=by
 intro m
 induction m with
 | zero=>intro n h;rw[Lib.decDigits,dif_pos (by simpa using h)];simp
 | succ m ih=>
  intro n h
  rw[Lib.decDigits]
  by_cases h9:n<10
  ·rw[dif_pos h9];simp
  ·rw[dif_neg h9]
   have h2:n / 10<10 ^ (m+1):=by
    rw[Nat.div_lt_iff_lt_mul (by decide)]
    rw[Nat.pow_succ] at h
    exact h
   have:=ih _ h2
   simp
   omega
theorem mm (n:Nat)(h:n<4294967296):kU (Lib.decDigits n)=n:=by
 have hf:=gx n
 have hl:=kw 9 n (by
  have:(10:Nat) ^ (9+1)=10000000000:=by decide
  omega)
 obtain⟨c,r,e,h1,h2,h3⟩:=cO n
 have h10:1<(Lib.decDigits n).length->10<=n:=by
  intro hh
  by_cases hn:n<10
  ·rw[Lib.decDigits,dif_pos hn] at hh;simp at hh
  ·omega
 unfold kU
 rw[if_neg,hf]
 ·show (if 4294967295<(n:Int) then -1 else (n:Int))=n
  rw[if_neg (by omega)]
 ·rintro(hh | hh | ⟨hh,hz⟩)
  ·rw[e] at hh;cases hh
  ·omega
  ·have:=h3 (h10 hh)
   rw[e] at hz
   simp at hz
   omega
theorem mg (n:Nat):ik (Lib.decDigits n)=-1:=by
 obtain⟨c,r,e,h1,h2,-⟩:=cO n
 unfold ik
 rw[if_neg]
 rintro⟨-,hh,-⟩
 rw[e] at hh
 simp at hh
 omega
theorem mf (n:Nat)(h:n<=7):ik (bg n)=n:=by
 unfold bg
 rw[Lib.decDigits,dif_pos (by omega)]
 have e:(UInt8.ofNat (48+n)).toNat=48+n:=by rw[UInt8.toNat_ofNat',Nat.mod_eq_of_lt (by omega)]
 unfold ik
 rw[if_pos]
 ·simp only[List.getD_cons_succ,List.getD_cons_zero,e];omega
 ·refine⟨rfl,rfl,?_⟩
  simp only[List.getD_cons_succ,List.getD_cons_zero,e]
  omega
theorem aA (n:Nat)(h:n<=7):fa (bg n)=I/\ec (bg n)=[(n:Int)]/\ed (bg n)=[]/\jc (bg n)=false:=by
 have e:=mf n h
 unfold fa ec ed jc
 rw[e]
 have h0:(0:Int)<=(n:Int):=by omega
 simp[h0]
theorem bn (n:Nat)(h:n<4294967296):fa (Lib.decDigits n)=I/\ec (Lib.decDigits n)=[]/\ed (Lib.decDigits n)=[(n:Int)]/\jc (Lib.decDigits n)=false:=by
 have e:=mm n h
 have e2:=mg n
 unfold fa ec ed jc
 rw[e,e2]
 have h0:(0:Int)<=(n:Int):=by omega
 simp[h0]
theorem oq:fa [101,113]=I/\ec [101,113]=[]/\ed [101,113]=[]/\jc [101,113]=false:=by decide
theorem oo:fa [110,101]=I/\ec [110,101]=[]/\ed [110,101]=[]/\jc [110,101]=I:=by decide
theorem gi:fa [101,108,115,101]=I/\ec [101,108,115,101]=[]/\ed [101,108,115,101]=[]/\jc [101,108,115,101]=false:=by decide
theorem kv (dn kn:Nat)(hdn:dn<=7)(hkn:kn<4294967296):(ab (aa ⟨1,(dn:Nat),0,0,0,0,(kn:Nat),0⟩)).tail.all fa=I/\ap (ab (aa ⟨1,(dn:Nat),0,0,0,0,(kn:Nat),0⟩))=⟨1,(dn:Nat),0,0,0,0,(kn:Nat),0⟩:=by
 obtain⟨adn,bdn,cdn,ddn⟩:=aA dn hdn
 obtain⟨akn,bkn,ckn,dkn⟩:=bn kn hkn
 rw[fT]
 have e:bZ (aT 1) 23=1:=by decide
 refine⟨by simp[adn,akn],?_⟩
 simp[ap,e,aQ,bd,bdn,cdn,bkn,ckn,bh,ci,cc]
 omega
theorem ku (dn sn:Nat)(hdn:dn<=7)(hsn:sn<=7):(ab (aa ⟨2,(dn:Nat),(sn:Nat),0,0,0,0,0⟩)).tail.all fa=I/\ap (ab (aa ⟨2,(dn:Nat),(sn:Nat),0,0,0,0,0⟩))=⟨2,(dn:Nat),(sn:Nat),0,0,0,0,0⟩:=by
 obtain⟨adn,bdn,cdn,ddn⟩:=aA dn hdn
 obtain⟨asn,bsn,csn,dsn⟩:=aA sn hsn
 rw[fS]
 have e:bZ (aT 2) 23=2:=by decide
 refine⟨by simp[adn,asn],?_⟩
 simp[ap,e,aQ,jF,bdn,ddn,bsn,dsn,bh,ci,cc]
theorem kt (dn sn kn:Nat)(hdn:dn<=7)(hsn:sn<=7)(hkn:kn<4294967296):(ab (aa ⟨3,(dn:Nat),(sn:Nat),0,0,0,(kn:Nat),0⟩)).tail.all fa=I/\ap (ab (aa ⟨3,(dn:Nat),(sn:Nat),0,0,0,(kn:Nat),0⟩))=⟨3,(dn:Nat),(sn:Nat),0,0,0,(kn:Nat),0⟩:=by
 obtain⟨adn,bdn,cdn,ddn⟩:=aA dn hdn
 obtain⟨asn,bsn,csn,dsn⟩:=aA sn hsn
 obtain⟨akn,bkn,ckn,dkn⟩:=bn kn hkn
 rw[fR]
 have e:bZ (aT 3) 23=3:=by decide
 refine⟨by simp[adn,asn,akn],?_⟩
 simp[ap,e,aQ,bd,bdn,cdn,bsn,csn,bkn,ckn,bh,ci,cc]
 omega
theorem ks (dn sn kn:Nat)(hdn:dn<=7)(hsn:sn<=7)(hkn:kn<4294967296):(ab (aa ⟨4,(dn:Nat),(sn:Nat),0,0,0,(kn:Nat),0⟩)).tail.all fa=I/\ap (ab (aa ⟨4,(dn:Nat),(sn:Nat),0,0,0,(kn:Nat),0⟩))=⟨4,(dn:Nat),(sn:Nat),0,0,0,(kn:Nat),0⟩:=by
 obtain⟨adn,bdn,cdn,ddn⟩:=aA dn hdn
 obtain⟨asn,bsn,csn,dsn⟩:=aA sn hsn
 obtain⟨akn,bkn,ckn,dkn⟩:=bn kn hkn
 rw[fQ]
 have e:bZ (aT 4) 23=4:=by decide
 refine⟨by simp[adn,asn,akn],?_⟩
 simp[ap,e,aQ,bd,bdn,cdn,bsn,csn,bkn,ckn,bh,ci,cc]
 omega
theorem kr (dn sn kn:Nat)(hdn:dn<=7)(hsn:sn<=7)(hkn:kn<4294967296):(ab (aa ⟨5,(dn:Nat),(sn:Nat),0,0,0,(kn:Nat),0⟩)).tail.all fa=I/\ap (ab (aa ⟨5,(dn:Nat),(sn:Nat),0,0,0,(kn:Nat),0⟩))=⟨5,(dn:Nat),(sn:Nat),0,0,0,(kn:Nat),0⟩:=by
 obtain⟨adn,bdn,cdn,ddn⟩:=aA dn hdn
 obtain⟨asn,bsn,csn,dsn⟩:=aA sn hsn
 obtain⟨akn,bkn,ckn,dkn⟩:=bn kn hkn
 rw[fP]
 have e:bZ (aT 5) 23=5:=by decide
 refine⟨by simp[adn,asn,akn],?_⟩
 simp[ap,e,aQ,bd,bdn,cdn,bsn,csn,bkn,ckn,bh,ci,cc]
 omega
theorem kq (dn sn kn:Nat)(hdn:dn<=7)(hsn:sn<=7)(hkn:kn<4294967296):(ab (aa ⟨6,(dn:Nat),(sn:Nat),0,0,0,(kn:Nat),0⟩)).tail.all fa=I/\ap (ab (aa ⟨6,(dn:Nat),(sn:Nat),0,0,0,(kn:Nat),0⟩))=⟨6,(dn:Nat),(sn:Nat),0,0,0,(kn:Nat),0⟩:=by
 obtain⟨adn,bdn,cdn,ddn⟩:=aA dn hdn
 obtain⟨asn,bsn,csn,dsn⟩:=aA sn hsn
 obtain⟨akn,bkn,ckn,dkn⟩:=bn kn hkn
 rw[fO]
 have e:bZ (aT 6) 23=6:=by decide
 refine⟨by simp[adn,asn,akn],?_⟩
 simp[ap,e,aQ,bd,bdn,cdn,bsn,csn,bkn,ckn,bh,ci,cc]
 omega
theorem kp (dn sn tn:Nat)(hdn:dn<=7)(hsn:sn<=7)(htn:tn<=7):(ab (aa ⟨7,(dn:Nat),(sn:Nat),(tn:Nat),0,0,0,0⟩)).tail.all fa=I/\ap (ab (aa ⟨7,(dn:Nat),(sn:Nat),(tn:Nat),0,0,0,0⟩))=⟨7,(dn:Nat),(sn:Nat),(tn:Nat),0,0,0,0⟩:=by
 obtain⟨adn,bdn,cdn,ddn⟩:=aA dn hdn
 obtain⟨asn,bsn,csn,dsn⟩:=aA sn hsn
 obtain⟨atn,btn,ctn,dtn⟩:=aA tn htn
 rw[fN]
 have e:bZ (aT 7) 23=7:=by decide
 refine⟨by simp[adn,asn,atn],?_⟩
 simp[ap,e,aQ,jF,bdn,ddn,bsn,dsn,btn,dtn,bh,ci,cc]
theorem ko (sn tn pn:Nat)(hsn:sn<=7)(htn:tn<=7)(hpn:pn<4294967296):(ab (aa ⟨8,0,(sn:Nat),(tn:Nat),0,0,0,(pn:Nat)⟩)).tail.all fa=I/\ap (ab (aa ⟨8,0,(sn:Nat),(tn:Nat),0,0,0,(pn:Nat)⟩))=⟨8,0,(sn:Nat),(tn:Nat),0,0,0,(pn:Nat)⟩:=by
 obtain⟨asn,bsn,csn,dsn⟩:=aA sn hsn
 obtain⟨atn,btn,ctn,dtn⟩:=aA tn htn
 obtain⟨apn,bpn,cpn,dpn⟩:=bn pn hpn
 rw[fM]
 have e:bZ (aT 8) 23=8:=by decide
 refine⟨by simp[asn,atn,apn],?_⟩
 simp[ap,e,aQ,bd,jF,bsn,csn,dsn,btn,ctn,dtn,bpn,cpn,dpn,bh,ci,cc]
theorem km (sn tn pn:Nat)(hsn:sn<=7)(htn:tn<=7)(hpn:pn<4294967296):(ab (aa ⟨9,0,(sn:Nat),(tn:Nat),0,0,0,(pn:Nat)⟩)).tail.all fa=I/\ap (ab (aa ⟨9,0,(sn:Nat),(tn:Nat),0,0,0,(pn:Nat)⟩))=⟨9,0,(sn:Nat),(tn:Nat),0,0,0,(pn:Nat)⟩:=by
 obtain⟨asn,bsn,csn,dsn⟩:=aA sn hsn
 obtain⟨atn,btn,ctn,dtn⟩:=aA tn htn
 obtain⟨apn,bpn,cpn,dpn⟩:=bn pn hpn
 rw[fL]
 have e:bZ (aT 9) 23=9:=by decide
 refine⟨by simp[asn,atn,apn],?_⟩
 simp[ap,e,aQ,bd,jF,bsn,csn,dsn,btn,ctn,dtn,bpn,cpn,dpn,bh,ci,cc]
theorem iW (pn:Nat)(hpn:pn<4294967296):(ab (aa ⟨10,0,0,0,0,0,0,(pn:Nat)⟩)).tail.all fa=I/\ap (ab (aa ⟨10,0,0,0,0,0,0,(pn:Nat)⟩))=⟨10,0,0,0,0,0,0,(pn:Nat)⟩:=by
 obtain⟨apn,bpn,cpn,dpn⟩:=bn pn hpn
 rw[eJ]
 have e:bZ (aT 10) 23=10:=by decide
 refine⟨by simp[apn],?_⟩
 simp[ap,e,aQ,bd,jF,bpn,cpn,dpn,bh,ci,cc]
theorem iV (dn:Nat)(hdn:dn<=7):(ab (aa ⟨11,(dn:Nat),0,0,0,0,0,0⟩)).tail.all fa=I/\ap (ab (aa ⟨11,(dn:Nat),0,0,0,0,0,0⟩))=⟨11,(dn:Nat),0,0,0,0,0,0⟩:=by
 obtain⟨adn,bdn,cdn,ddn⟩:=aA dn hdn
 rw[eI]
 have e:bZ (aT 11) 23=11:=by decide
 refine⟨by simp[adn],?_⟩
 simp[ap,e,aQ,jF,bdn,ddn,bh,ci,cc]
theorem iN (dn:Nat)(hdn:dn<=7):(ab (aa ⟨22,(dn:Nat),0,0,0,0,0,0⟩)).tail.all fa=I/\ap (ab (aa ⟨22,(dn:Nat),0,0,0,0,0,0⟩))=⟨22,(dn:Nat),0,0,0,0,0,0⟩:=by
 obtain⟨adn,bdn,cdn,ddn⟩:=aA dn hdn
 rw[eA]
 have e:bZ (aT 22) 23=22:=by decide
 refine⟨by simp[adn],?_⟩
 simp[ap,e,aQ,jF,bdn,ddn,bh,ci,cc]
theorem iU (kn:Nat)(hkn:kn<4294967296):(ab (aa ⟨12,0,0,0,0,0,(kn:Nat),0⟩)).tail.all fa=I/\ap (ab (aa ⟨12,0,0,0,0,0,(kn:Nat),0⟩))=⟨12,0,0,0,0,0,(kn:Nat),0⟩:=by
 obtain⟨akn,bkn,ckn,dkn⟩:=bn kn hkn
 rw[eH]
 have e:bZ (aT 12) 23=12:=by decide
 refine⟨by simp[akn],?_⟩
 simp[ap,e,bd,ckn,bh,ci,cc]
 omega
theorem iT (kn:Nat)(hkn:kn<4294967296):(ab (aa ⟨13,0,0,0,0,0,(kn:Nat),0⟩)).tail.all fa=I/\ap (ab (aa ⟨13,0,0,0,0,0,(kn:Nat),0⟩))=⟨13,0,0,0,0,0,(kn:Nat),0⟩:=by
 obtain⟨akn,bkn,ckn,dkn⟩:=bn kn hkn
 rw[eG]
 have e:bZ (aT 13) 23=13:=by decide
 refine⟨by simp[akn],?_⟩
 simp[ap,e,bd,ckn,bh,ci,cc]
 omega
theorem iS (dn sn an:Nat)(hdn:dn<=7)(hsn:sn<=7)(han:an<4294967296):(ab (aa ⟨16,(dn:Nat),(sn:Nat),0,0,(an:Nat),0,0⟩)).tail.all fa=I/\ap (ab (aa ⟨16,(dn:Nat),(sn:Nat),0,0,(an:Nat),0,0⟩))=⟨16,(dn:Nat),(sn:Nat),0,0,(an:Nat),0,0⟩:=by
 obtain⟨adn,bdn,cdn,ddn⟩:=aA dn hdn
 obtain⟨asn,bsn,csn,dsn⟩:=aA sn hsn
 obtain⟨aan,ban,can,dan⟩:=bn an han
 rw[eF]
 have e:bZ (aT 16) 23=16:=by decide
 refine⟨by simp[adn,asn,aan],?_⟩
 simp[ap,e,aQ,bd,jF,bdn,cdn,ddn,bsn,csn,dsn,ban,can,dan,bh,ci,cc]
theorem iR (sn tn an:Nat)(hsn:sn<=7)(htn:tn<=7)(han:an<4294967296):(ab (aa ⟨17,0,(sn:Nat),(tn:Nat),0,(an:Nat),0,0⟩)).tail.all fa=I/\ap (ab (aa ⟨17,0,(sn:Nat),(tn:Nat),0,(an:Nat),0,0⟩))=⟨17,0,(sn:Nat),(tn:Nat),0,(an:Nat),0,0⟩:=by
 obtain⟨asn,bsn,csn,dsn⟩:=aA sn hsn
 obtain⟨atn,btn,ctn,dtn⟩:=aA tn htn
 obtain⟨aan,ban,can,dan⟩:=bn an han
 rw[eE]
 have e:bZ (aT 17) 23=17:=by decide
 refine⟨by simp[asn,atn,aan],?_⟩
 simp[ap,e,aQ,bd,jF,bsn,csn,dsn,btn,ctn,dtn,ban,can,dan,bh,ci,cc]
theorem iQ (dn sn tn an:Nat)(hdn:dn<=7)(hsn:sn<=7)(htn:tn<=7)(han:an<4294967296):(ab (aa ⟨18,(dn:Nat),(sn:Nat),(tn:Nat),0,(an:Nat),0,0⟩)).tail.all fa=I/\ap (ab (aa ⟨18,(dn:Nat),(sn:Nat),(tn:Nat),0,(an:Nat),0,0⟩))=⟨18,(dn:Nat),(sn:Nat),(tn:Nat),0,(an:Nat),0,0⟩:=by
 obtain⟨adn,bdn,cdn,ddn⟩:=aA dn hdn
 obtain⟨asn,bsn,csn,dsn⟩:=aA sn hsn
 obtain⟨atn,btn,ctn,dtn⟩:=aA tn htn
 obtain⟨aan,ban,can,dan⟩:=bn an han
 rw[eD]
 have e:bZ (aT 18) 23=18:=by decide
 refine⟨by simp[adn,asn,atn,aan],?_⟩
 simp[ap,e,aQ,bd,jF,bdn,cdn,ddn,bsn,csn,dsn,btn,ctn,dtn,ban,can,dan,bh,ci,cc]
theorem iP (dn sn tn un an:Nat)(hdn:dn<=7)(hsn:sn<=7)(htn:tn<=7)(hun:un<=7)(han:an<4294967296):(ab (aa ⟨19,(dn:Nat),(sn:Nat),(tn:Nat),(un:Nat),(an:Nat),0,0⟩)).tail.all fa=I/\ap (ab (aa ⟨19,(dn:Nat),(sn:Nat),(tn:Nat),(un:Nat),(an:Nat),0,0⟩))=⟨19,(dn:Nat),(sn:Nat),(tn:Nat),(un:Nat),(an:Nat),0,0⟩:=by
 obtain⟨adn,bdn,cdn,ddn⟩:=aA dn hdn
 obtain⟨asn,bsn,csn,dsn⟩:=aA sn hsn
 obtain⟨atn,btn,ctn,dtn⟩:=aA tn htn
 obtain⟨aun,bun,cun,dun⟩:=aA un hun
 obtain⟨aan,ban,can,dan⟩:=bn an han
 rw[eC]
 have e:bZ (aT 19) 23=19:=by decide
 refine⟨by simp[adn,asn,atn,aun,aan],?_⟩
 simp[ap,e,aQ,bd,jF,bdn,cdn,ddn,bsn,csn,dsn,btn,ctn,dtn,bun,cun,dun,ban,can,dan,bh,ci,cc]
theorem iO (dn sn an kn:Nat)(hdn:dn<=7)(hsn:sn<=7)(han:an<4294967296)(hkn:kn<4294967296):(ab (aa ⟨20,(dn:Nat),(sn:Nat),0,0,(an:Nat),(kn:Nat),0⟩)).tail.all fa=I/\ap (ab (aa ⟨20,(dn:Nat),(sn:Nat),0,0,(an:Nat),(kn:Nat),0⟩))=⟨20,(dn:Nat),(sn:Nat),0,0,(an:Nat),(kn:Nat),0⟩:=by
 obtain⟨adn,bdn,cdn,ddn⟩:=aA dn hdn
 obtain⟨asn,bsn,csn,dsn⟩:=aA sn hsn
 obtain⟨aan,ban,can,dan⟩:=bn an han
 obtain⟨akn,bkn,ckn,dkn⟩:=bn kn hkn
 rw[eB]
 have e:bZ (aT 20) 23=20:=by decide
 refine⟨by simp[adn,asn,aan,akn],?_⟩
 simp[ap,e,aQ,bd,bdn,cdn,bsn,csn,ban,can,bkn,ckn,bh,ci,cc]
 omega
theorem iM (sn:Nat)(hsn:sn<=7):(ab (aa ⟨23,0,(sn:Nat),0,0,0,0,0⟩)).tail.all fa=I/\ap (ab (aa ⟨23,0,(sn:Nat),0,0,0,0,0⟩))=⟨23,0,(sn:Nat),0,0,0,0,0⟩:=by
 obtain⟨asn,bsn,csn,dsn⟩:=aA sn hsn
 rw[ez]
 have e:bZ (aT 23) 23=23:=by decide
 refine⟨by simp[asn],?_⟩
 simp[ap,e,aQ,jF,bsn,dsn,bh,ci,cc]
theorem eX (dn sn tn an pn:Nat)(hdn:dn<=7)(hsn:sn<=7)(htn:tn<=7)(han:an<4294967296)(hpn:pn<4294967296):(ab (aa ⟨21,(dn:Nat),(sn:Nat),(tn:Nat),0,(an:Nat),0,(pn:Nat)⟩)).tail.all fa=I/\ap (ab (aa ⟨21,(dn:Nat),(sn:Nat),(tn:Nat),0,(an:Nat),0,(pn:Nat)⟩))=⟨21,(dn:Nat),(sn:Nat),(tn:Nat),0,(an:Nat),0,(pn:Nat)⟩:=by
 obtain⟨adn,bdn,cdn,ddn⟩:=aA dn hdn
 obtain⟨asn,bsn,csn,dsn⟩:=aA sn hsn
 obtain⟨atn,btn,ctn,dtn⟩:=aA tn htn
 obtain⟨aan,ban,can,dan⟩:=bn an han
 obtain⟨apn,bpn,cpn,dpn⟩:=bn pn hpn
 obtain⟨ae,be,ce,de⟩:=oq
 obtain⟨al,bl,cl,dl⟩:=gi
 rw[cm dn sn tn an pn]
 have e:bZ (aT 21) 23=21:=by decide
 refine⟨by simp[adn,asn,atn,aan,ae,apn,al],?_⟩
 simp[ap,e,aQ,bd,jF,bdn,cdn,ddn,bsn,csn,dsn,btn,ctn,dtn,ban,can,dan,be,ce,de,bpn,cpn,dpn,bl,cl,dl,bh,ci,cc]
theorem eY (dn sn tn an pn:Nat)(hdn:dn<=7)(hsn:sn<=7)(htn:tn<=7)(han:an<4294967296)(hpn:pn<4294967296):(ab (aa ⟨21,(dn:Nat),(sn:Nat),(tn:Nat),0,(an:Nat),0,-1⟩)).tail.all fa=I/\ap (ab (aa ⟨21,(dn:Nat),(sn:Nat),(tn:Nat),0,(an:Nat),0,-1⟩))=⟨21,(dn:Nat),(sn:Nat),(tn:Nat),0,(an:Nat),0,-1⟩:=by
 obtain⟨adn,bdn,cdn,ddn⟩:=aA dn hdn
 obtain⟨asn,bsn,csn,dsn⟩:=aA sn hsn
 obtain⟨atn,btn,ctn,dtn⟩:=aA tn htn
 obtain⟨aan,ban,can,dan⟩:=bn an han
 obtain⟨apn,bpn,cpn,dpn⟩:=bn pn hpn
 obtain⟨ae,be,ce,de⟩:=oq
 obtain⟨al,bl,cl,dl⟩:=gi
 rw[co dn sn tn an pn]
 have e:bZ (aT 21) 23=21:=by decide
 refine⟨by simp[adn,asn,atn,aan,ae],?_⟩
 simp[ap,e,aQ,bd,jF,bdn,cdn,ddn,bsn,csn,dsn,btn,ctn,dtn,ban,can,dan,be,ce,de,bh,ci,cc]
theorem eV (dn sn tn an pn:Nat)(hdn:dn<=7)(hsn:sn<=7)(htn:tn<=7)(han:an<4294967296)(hpn:pn<4294967296):(ab (aa ⟨21,(dn:Nat),(sn:Nat),(tn:Nat),0,(an:Nat),1,(pn:Nat)⟩)).tail.all fa=I/\ap (ab (aa ⟨21,(dn:Nat),(sn:Nat),(tn:Nat),0,(an:Nat),1,(pn:Nat)⟩))=⟨21,(dn:Nat),(sn:Nat),(tn:Nat),0,(an:Nat),1,(pn:Nat)⟩:=by
 obtain⟨adn,bdn,cdn,ddn⟩:=aA dn hdn
 obtain⟨asn,bsn,csn,dsn⟩:=aA sn hsn
 obtain⟨atn,btn,ctn,dtn⟩:=aA tn htn
 obtain⟨aan,ban,can,dan⟩:=bn an han
 obtain⟨apn,bpn,cpn,dpn⟩:=bn pn hpn
 obtain⟨ae,be,ce,de⟩:=oo
 obtain⟨al,bl,cl,dl⟩:=gi
 rw[cj dn sn tn an pn]
 have e:bZ (aT 21) 23=21:=by decide
 refine⟨by simp[adn,asn,atn,aan,ae,apn,al],?_⟩
 simp[ap,e,aQ,bd,jF,bdn,cdn,ddn,bsn,csn,dsn,btn,ctn,dtn,ban,can,dan,be,ce,de,bpn,cpn,dpn,bl,cl,dl,bh,ci,cc]
theorem eW (dn sn tn an pn:Nat)(hdn:dn<=7)(hsn:sn<=7)(htn:tn<=7)(han:an<4294967296)(hpn:pn<4294967296):(ab (aa ⟨21,(dn:Nat),(sn:Nat),(tn:Nat),0,(an:Nat),1,-1⟩)).tail.all fa=I/\ap (ab (aa ⟨21,(dn:Nat),(sn:Nat),(tn:Nat),0,(an:Nat),1,-1⟩))=⟨21,(dn:Nat),(sn:Nat),(tn:Nat),0,(an:Nat),1,-1⟩:=by
 obtain⟨adn,bdn,cdn,ddn⟩:=aA dn hdn
 obtain⟨asn,bsn,csn,dsn⟩:=aA sn hsn
 obtain⟨atn,btn,ctn,dtn⟩:=aA tn htn
 obtain⟨aan,ban,can,dan⟩:=bn an han
 obtain⟨apn,bpn,cpn,dpn⟩:=bn pn hpn
 obtain⟨ae,be,ce,de⟩:=oo
 obtain⟨al,bl,cl,dl⟩:=gi
 rw[ck dn sn tn an pn]
 have e:bZ (aT 21) 23=21:=by decide
 refine⟨by simp[adn,asn,atn,aan,ae],?_⟩
 simp[ap,e,aQ,bd,jF,bdn,cdn,ddn,bsn,csn,dsn,btn,ctn,dtn,ban,can,dan,be,ce,de,bh,ci,cc]
theorem dX (i:ay)(h:ag i 1073741824=I)(k0:0<=i.k)(k1:i.k<4294967296):(ab (aa i)).tail.all fa=I/\ap (ab (aa i))=i:=by
 obtain⟨hd,hs,ht,hu,ha⟩:=da i _ h
 obtain⟨op,d,s,t,u,a,k,pl⟩:=i
 simp only at hd hs ht hu ha k0 k1
 rcases aZ op with rfl|rfl|rfl|rfl|rfl|rfl|rfl|rfl|rfl|rfl|rfl|rfl|rfl|rfl|rfl|rfl|rfl|rfl|rfl|rfl|rfl | hn
 ·skip
  have hr:=js d s t u a k pl 1073741824 hd hs ht hu ha k0 k1
  rw[h] at hr
  simp[bw] at hr
  obtain⟨dn,rfl⟩:∃ n:Nat,d=n:=⟨d.toNat,by omega⟩
  obtain⟨sn,rfl⟩:∃ n:Nat,s=n:=⟨s.toNat,by omega⟩
  obtain⟨tn,rfl⟩:∃ n:Nat,t=n:=⟨t.toNat,by omega⟩
  obtain⟨un,rfl⟩:∃ n:Nat,u=n:=⟨u.toNat,by omega⟩
  obtain⟨an,rfl⟩:∃ n:Nat,a=n:=⟨a.toNat,by omega⟩
  obtain⟨kn,rfl⟩:∃ n:Nat,k=n:=⟨k.toNat,by omega⟩
  obtain rfl:sn=0:=by omega
  obtain rfl:tn=0:=by omega
  obtain rfl:un=0:=by omega
  obtain rfl:an=0:=by omega
  obtain rfl:pl=0:=by omega
  exact kv dn kn (by omega) (by omega)
 ·skip
  have hr:=jq d s t u a k pl 1073741824 hd hs ht hu ha k0 k1
  rw[h] at hr
  simp[bw] at hr
  obtain⟨dn,rfl⟩:∃ n:Nat,d=n:=⟨d.toNat,by omega⟩
  obtain⟨sn,rfl⟩:∃ n:Nat,s=n:=⟨s.toNat,by omega⟩
  obtain⟨tn,rfl⟩:∃ n:Nat,t=n:=⟨t.toNat,by omega⟩
  obtain⟨un,rfl⟩:∃ n:Nat,u=n:=⟨u.toNat,by omega⟩
  obtain⟨an,rfl⟩:∃ n:Nat,a=n:=⟨a.toNat,by omega⟩
  obtain⟨kn,rfl⟩:∃ n:Nat,k=n:=⟨k.toNat,by omega⟩
  obtain rfl:tn=0:=by omega
  obtain rfl:un=0:=by omega
  obtain rfl:an=0:=by omega
  obtain rfl:kn=0:=by omega
  obtain rfl:pl=0:=by omega
  exact ku dn sn (by omega) (by omega)
 ·skip
  have hr:=jp d s t u a k pl 1073741824 hd hs ht hu ha k0 k1
  rw[h] at hr
  simp[bw] at hr
  obtain⟨dn,rfl⟩:∃ n:Nat,d=n:=⟨d.toNat,by omega⟩
  obtain⟨sn,rfl⟩:∃ n:Nat,s=n:=⟨s.toNat,by omega⟩
  obtain⟨tn,rfl⟩:∃ n:Nat,t=n:=⟨t.toNat,by omega⟩
  obtain⟨un,rfl⟩:∃ n:Nat,u=n:=⟨u.toNat,by omega⟩
  obtain⟨an,rfl⟩:∃ n:Nat,a=n:=⟨a.toNat,by omega⟩
  obtain⟨kn,rfl⟩:∃ n:Nat,k=n:=⟨k.toNat,by omega⟩
  obtain rfl:tn=0:=by omega
  obtain rfl:un=0:=by omega
  obtain rfl:an=0:=by omega
  obtain rfl:pl=0:=by omega
  exact kt dn sn kn (by omega) (by omega) (by omega)
 ·skip
  have hr:=jo d s t u a k pl 1073741824 hd hs ht hu ha k0 k1
  rw[h] at hr
  simp[bw] at hr
  obtain⟨dn,rfl⟩:∃ n:Nat,d=n:=⟨d.toNat,by omega⟩
  obtain⟨sn,rfl⟩:∃ n:Nat,s=n:=⟨s.toNat,by omega⟩
  obtain⟨tn,rfl⟩:∃ n:Nat,t=n:=⟨t.toNat,by omega⟩
  obtain⟨un,rfl⟩:∃ n:Nat,u=n:=⟨u.toNat,by omega⟩
  obtain⟨an,rfl⟩:∃ n:Nat,a=n:=⟨a.toNat,by omega⟩
  obtain⟨kn,rfl⟩:∃ n:Nat,k=n:=⟨k.toNat,by omega⟩
  obtain rfl:tn=0:=by omega
  obtain rfl:un=0:=by omega
  obtain rfl:an=0:=by omega
  obtain rfl:pl=0:=by omega
  exact ks dn sn kn (by omega) (by omega) (by omega)
 ·skip
  have hr:=jn d s t u a k pl 1073741824 hd hs ht hu ha k0 k1
  rw[h] at hr
  simp[bw] at hr
  obtain⟨dn,rfl⟩:∃ n:Nat,d=n:=⟨d.toNat,by omega⟩
  obtain⟨sn,rfl⟩:∃ n:Nat,s=n:=⟨s.toNat,by omega⟩
  obtain⟨tn,rfl⟩:∃ n:Nat,t=n:=⟨t.toNat,by omega⟩
  obtain⟨un,rfl⟩:∃ n:Nat,u=n:=⟨u.toNat,by omega⟩
  obtain⟨an,rfl⟩:∃ n:Nat,a=n:=⟨a.toNat,by omega⟩
  obtain⟨kn,rfl⟩:∃ n:Nat,k=n:=⟨k.toNat,by omega⟩
  obtain rfl:tn=0:=by omega
  obtain rfl:un=0:=by omega
  obtain rfl:an=0:=by omega
  obtain rfl:pl=0:=by omega
  exact kr dn sn kn (by omega) (by omega) (by omega)
 ·skip
  have hr:=jm d s t u a k pl 1073741824 hd hs ht hu ha k0 k1
  rw[h] at hr
  simp[bw] at hr
  obtain⟨dn,rfl⟩:∃ n:Nat,d=n:=⟨d.toNat,by omega⟩
  obtain⟨sn,rfl⟩:∃ n:Nat,s=n:=⟨s.toNat,by omega⟩
  obtain⟨tn,rfl⟩:∃ n:Nat,t=n:=⟨t.toNat,by omega⟩
  obtain⟨un,rfl⟩:∃ n:Nat,u=n:=⟨u.toNat,by omega⟩
  obtain⟨an,rfl⟩:∃ n:Nat,a=n:=⟨a.toNat,by omega⟩
  obtain⟨kn,rfl⟩:∃ n:Nat,k=n:=⟨k.toNat,by omega⟩
  obtain rfl:tn=0:=by omega
  obtain rfl:un=0:=by omega
  obtain rfl:an=0:=by omega
  obtain rfl:pl=0:=by omega
  exact kq dn sn kn (by omega) (by omega) (by omega)
 ·skip
  have hr:=jl d s t u a k pl 1073741824 hd hs ht hu ha k0 k1
  rw[h] at hr
  simp[bw] at hr
  obtain⟨dn,rfl⟩:∃ n:Nat,d=n:=⟨d.toNat,by omega⟩
  obtain⟨sn,rfl⟩:∃ n:Nat,s=n:=⟨s.toNat,by omega⟩
  obtain⟨tn,rfl⟩:∃ n:Nat,t=n:=⟨t.toNat,by omega⟩
  obtain⟨un,rfl⟩:∃ n:Nat,u=n:=⟨u.toNat,by omega⟩
  obtain⟨an,rfl⟩:∃ n:Nat,a=n:=⟨a.toNat,by omega⟩
  obtain⟨kn,rfl⟩:∃ n:Nat,k=n:=⟨k.toNat,by omega⟩
  obtain rfl:un=0:=by omega
  obtain rfl:an=0:=by omega
  obtain rfl:kn=0:=by omega
  obtain rfl:pl=0:=by omega
  exact kp dn sn tn (by omega) (by omega) (by omega)
 ·skip
  have hr:=jk d s t u a k pl 1073741824 hd hs ht hu ha k0 k1
  rw[h] at hr
  simp[bw] at hr
  obtain⟨dn,rfl⟩:∃ n:Nat,d=n:=⟨d.toNat,by omega⟩
  obtain⟨sn,rfl⟩:∃ n:Nat,s=n:=⟨s.toNat,by omega⟩
  obtain⟨tn,rfl⟩:∃ n:Nat,t=n:=⟨t.toNat,by omega⟩
  obtain⟨un,rfl⟩:∃ n:Nat,u=n:=⟨u.toNat,by omega⟩
  obtain⟨an,rfl⟩:∃ n:Nat,a=n:=⟨a.toNat,by omega⟩
  obtain⟨kn,rfl⟩:∃ n:Nat,k=n:=⟨k.toNat,by omega⟩
  obtain rfl:dn=0:=by omega
  obtain rfl:un=0:=by omega
  obtain rfl:an=0:=by omega
  obtain rfl:kn=0:=by omega
  obtain⟨pn,rfl⟩:∃ n:Nat,pl=n:=⟨pl.toNat,by omega⟩
  exact ko sn tn pn (by omega) (by omega) (by omega)
 ·skip
  have hr:=jj d s t u a k pl 1073741824 hd hs ht hu ha k0 k1
  rw[h] at hr
  simp[bw] at hr
  obtain⟨dn,rfl⟩:∃ n:Nat,d=n:=⟨d.toNat,by omega⟩
  obtain⟨sn,rfl⟩:∃ n:Nat,s=n:=⟨s.toNat,by omega⟩
  obtain⟨tn,rfl⟩:∃ n:Nat,t=n:=⟨t.toNat,by omega⟩
  obtain⟨un,rfl⟩:∃ n:Nat,u=n:=⟨u.toNat,by omega⟩
  obtain⟨an,rfl⟩:∃ n:Nat,a=n:=⟨a.toNat,by omega⟩
  obtain⟨kn,rfl⟩:∃ n:Nat,k=n:=⟨k.toNat,by omega⟩
  obtain rfl:dn=0:=by omega
  obtain rfl:un=0:=by omega
  obtain rfl:an=0:=by omega
  obtain rfl:kn=0:=by omega
  obtain⟨pn,rfl⟩:∃ n:Nat,pl=n:=⟨pl.toNat,by omega⟩
  exact km sn tn pn (by omega) (by omega) (by omega)
 ·skip
  have hr:=gQ d s t u a k pl 1073741824 hd hs ht hu ha k0 k1
  rw[h] at hr
  simp[bw] at hr
  obtain⟨dn,rfl⟩:∃ n:Nat,d=n:=⟨d.toNat,by omega⟩
  obtain⟨sn,rfl⟩:∃ n:Nat,s=n:=⟨s.toNat,by omega⟩
  obtain⟨tn,rfl⟩:∃ n:Nat,t=n:=⟨t.toNat,by omega⟩
  obtain⟨un,rfl⟩:∃ n:Nat,u=n:=⟨u.toNat,by omega⟩
  obtain⟨an,rfl⟩:∃ n:Nat,a=n:=⟨a.toNat,by omega⟩
  obtain⟨kn,rfl⟩:∃ n:Nat,k=n:=⟨k.toNat,by omega⟩
  obtain rfl:dn=0:=by omega
  obtain rfl:sn=0:=by omega
  obtain rfl:tn=0:=by omega
  obtain rfl:un=0:=by omega
  obtain rfl:an=0:=by omega
  obtain rfl:kn=0:=by omega
  obtain⟨pn,rfl⟩:∃ n:Nat,pl=n:=⟨pl.toNat,by omega⟩
  exact iW pn (by omega)
 ·skip
  have hr:=gP d s t u a k pl 1073741824 hd hs ht hu ha k0 k1
  rw[h] at hr
  simp[bw] at hr
  obtain⟨dn,rfl⟩:∃ n:Nat,d=n:=⟨d.toNat,by omega⟩
  obtain⟨sn,rfl⟩:∃ n:Nat,s=n:=⟨s.toNat,by omega⟩
  obtain⟨tn,rfl⟩:∃ n:Nat,t=n:=⟨t.toNat,by omega⟩
  obtain⟨un,rfl⟩:∃ n:Nat,u=n:=⟨u.toNat,by omega⟩
  obtain⟨an,rfl⟩:∃ n:Nat,a=n:=⟨a.toNat,by omega⟩
  obtain⟨kn,rfl⟩:∃ n:Nat,k=n:=⟨k.toNat,by omega⟩
  obtain rfl:sn=0:=by omega
  obtain rfl:tn=0:=by omega
  obtain rfl:un=0:=by omega
  obtain rfl:an=0:=by omega
  obtain rfl:kn=0:=by omega
  obtain rfl:pl=0:=by omega
  exact iV dn (by omega)
 ·skip
  have hr:=gO d s t u a k pl 1073741824 hd hs ht hu ha k0 k1
  rw[h] at hr
  simp[bw] at hr
  obtain⟨dn,rfl⟩:∃ n:Nat,d=n:=⟨d.toNat,by omega⟩
  obtain⟨sn,rfl⟩:∃ n:Nat,s=n:=⟨s.toNat,by omega⟩
  obtain⟨tn,rfl⟩:∃ n:Nat,t=n:=⟨t.toNat,by omega⟩
  obtain⟨un,rfl⟩:∃ n:Nat,u=n:=⟨u.toNat,by omega⟩
  obtain⟨an,rfl⟩:∃ n:Nat,a=n:=⟨a.toNat,by omega⟩
  obtain⟨kn,rfl⟩:∃ n:Nat,k=n:=⟨k.toNat,by omega⟩
  obtain rfl:dn=0:=by omega
  obtain rfl:sn=0:=by omega
  obtain rfl:tn=0:=by omega
  obtain rfl:un=0:=by omega
  obtain rfl:an=0:=by omega
  obtain rfl:pl=0:=by omega
  exact iU kn (by omega)
 ·skip
  have hr:=gN d s t u a k pl 1073741824 hd hs ht hu ha k0 k1
  rw[h] at hr
  simp[bw] at hr
  obtain⟨dn,rfl⟩:∃ n:Nat,d=n:=⟨d.toNat,by omega⟩
  obtain⟨sn,rfl⟩:∃ n:Nat,s=n:=⟨s.toNat,by omega⟩
  obtain⟨tn,rfl⟩:∃ n:Nat,t=n:=⟨t.toNat,by omega⟩
  obtain⟨un,rfl⟩:∃ n:Nat,u=n:=⟨u.toNat,by omega⟩
  obtain⟨an,rfl⟩:∃ n:Nat,a=n:=⟨a.toNat,by omega⟩
  obtain⟨kn,rfl⟩:∃ n:Nat,k=n:=⟨k.toNat,by omega⟩
  obtain rfl:dn=0:=by omega
  obtain rfl:sn=0:=by omega
  obtain rfl:tn=0:=by omega
  obtain rfl:un=0:=by omega
  obtain rfl:an=0:=by omega
  obtain rfl:pl=0:=by omega
  exact iT kn (by omega)
 ·skip
  have hr:=gM d s t u a k pl 1073741824 hd hs ht hu ha k0 k1
  rw[h] at hr
  simp[bw] at hr
  obtain⟨dn,rfl⟩:∃ n:Nat,d=n:=⟨d.toNat,by omega⟩
  obtain⟨sn,rfl⟩:∃ n:Nat,s=n:=⟨s.toNat,by omega⟩
  obtain⟨tn,rfl⟩:∃ n:Nat,t=n:=⟨t.toNat,by omega⟩
  obtain⟨un,rfl⟩:∃ n:Nat,u=n:=⟨u.toNat,by omega⟩
  obtain⟨an,rfl⟩:∃ n:Nat,a=n:=⟨a.toNat,by omega⟩
  obtain⟨kn,rfl⟩:∃ n:Nat,k=n:=⟨k.toNat,by omega⟩
  obtain rfl:tn=0:=by omega
  obtain rfl:un=0:=by omega
  obtain rfl:kn=0:=by omega
  obtain rfl:pl=0:=by omega
  exact iS dn sn an (by omega) (by omega) (by omega)
 ·skip
  have hr:=gK d s t u a k pl 1073741824 hd hs ht hu ha k0 k1
  rw[h] at hr
  simp[bw] at hr
  obtain⟨dn,rfl⟩:∃ n:Nat,d=n:=⟨d.toNat,by omega⟩
  obtain⟨sn,rfl⟩:∃ n:Nat,s=n:=⟨s.toNat,by omega⟩
  obtain⟨tn,rfl⟩:∃ n:Nat,t=n:=⟨t.toNat,by omega⟩
  obtain⟨un,rfl⟩:∃ n:Nat,u=n:=⟨u.toNat,by omega⟩
  obtain⟨an,rfl⟩:∃ n:Nat,a=n:=⟨a.toNat,by omega⟩
  obtain⟨kn,rfl⟩:∃ n:Nat,k=n:=⟨k.toNat,by omega⟩
  obtain rfl:dn=0:=by omega
  obtain rfl:un=0:=by omega
  obtain rfl:kn=0:=by omega
  obtain rfl:pl=0:=by omega
  exact iR sn tn an (by omega) (by omega) (by omega)
 ·skip
  have hr:=gJ d s t u a k pl 1073741824 hd hs ht hu ha k0 k1
  rw[h] at hr
  simp[bw] at hr
  obtain⟨dn,rfl⟩:∃ n:Nat,d=n:=⟨d.toNat,by omega⟩
  obtain⟨sn,rfl⟩:∃ n:Nat,s=n:=⟨s.toNat,by omega⟩
  obtain⟨tn,rfl⟩:∃ n:Nat,t=n:=⟨t.toNat,by omega⟩
  obtain⟨un,rfl⟩:∃ n:Nat,u=n:=⟨u.toNat,by omega⟩
  obtain⟨an,rfl⟩:∃ n:Nat,a=n:=⟨a.toNat,by omega⟩
  obtain⟨kn,rfl⟩:∃ n:Nat,k=n:=⟨k.toNat,by omega⟩
  obtain rfl:un=0:=by omega
  obtain rfl:kn=0:=by omega
  obtain rfl:pl=0:=by omega
  exact iQ dn sn tn an (by omega) (by omega) (by omega) (by omega)
 ·skip
  have hr:=gH d s t u a k pl 1073741824 hd hs ht hu ha k0 k1
  rw[h] at hr
  simp[bw] at hr
  obtain⟨dn,rfl⟩:∃ n:Nat,d=n:=⟨d.toNat,by omega⟩
  obtain⟨sn,rfl⟩:∃ n:Nat,s=n:=⟨s.toNat,by omega⟩
  obtain⟨tn,rfl⟩:∃ n:Nat,t=n:=⟨t.toNat,by omega⟩
  obtain⟨un,rfl⟩:∃ n:Nat,u=n:=⟨u.toNat,by omega⟩
  obtain⟨an,rfl⟩:∃ n:Nat,a=n:=⟨a.toNat,by omega⟩
  obtain⟨kn,rfl⟩:∃ n:Nat,k=n:=⟨k.toNat,by omega⟩
  obtain rfl:kn=0:=by omega
  obtain rfl:pl=0:=by omega
  exact iP dn sn tn un an (by omega) (by omega) (by omega) (by omega) (by omega)
 ·skip
  have hr:=gG d s t u a k pl 1073741824 hd hs ht hu ha k0 k1
  rw[h] at hr
  simp[bw] at hr
  obtain⟨dn,rfl⟩:∃ n:Nat,d=n:=⟨d.toNat,by omega⟩
  obtain⟨sn,rfl⟩:∃ n:Nat,s=n:=⟨s.toNat,by omega⟩
  obtain⟨tn,rfl⟩:∃ n:Nat,t=n:=⟨t.toNat,by omega⟩
  obtain⟨un,rfl⟩:∃ n:Nat,u=n:=⟨u.toNat,by omega⟩
  obtain⟨an,rfl⟩:∃ n:Nat,a=n:=⟨a.toNat,by omega⟩
  obtain⟨kn,rfl⟩:∃ n:Nat,k=n:=⟨k.toNat,by omega⟩
  obtain rfl:tn=0:=by omega
  obtain rfl:un=0:=by omega
  obtain rfl:pl=0:=by omega
  exact iO dn sn an kn (by omega) (by omega) (by omega) (by omega)
 ·skip
  have hr:=eL d s t u a k pl 1073741824 hd hs ht hu ha k0 k1
  rw[h] at hr
  simp[bw] at hr
  obtain⟨dn,rfl⟩:∃ n:Nat,d=n:=⟨d.toNat,by omega⟩
  obtain⟨sn,rfl⟩:∃ n:Nat,s=n:=⟨s.toNat,by omega⟩
  obtain⟨tn,rfl⟩:∃ n:Nat,t=n:=⟨t.toNat,by omega⟩
  obtain⟨un,rfl⟩:∃ n:Nat,u=n:=⟨u.toNat,by omega⟩
  obtain⟨an,rfl⟩:∃ n:Nat,a=n:=⟨a.toNat,by omega⟩
  obtain⟨kn,rfl⟩:∃ n:Nat,k=n:=⟨k.toNat,by omega⟩
  obtain rfl:un=0:=by omega
  by_cases hm:pl=-1
  ·subst hm
   by_cases hk:kn=0
   ·subst hk;exact eY dn sn tn an 0 (by omega) (by omega) (by omega) (by omega) (by omega)
   ·obtain rfl:kn=1:=by omega
    exact eW dn sn tn an 0 (by omega) (by omega) (by omega) (by omega) (by omega)
  ·obtain⟨pn,rfl⟩:∃ n:Nat,pl=n:=⟨pl.toNat,by omega⟩
   by_cases hk:kn=0
   ·subst hk;exact eX dn sn tn an pn (by omega) (by omega) (by omega) (by omega) (by omega)
   ·obtain rfl:kn=1:=by omega
    exact eV dn sn tn an pn (by omega) (by omega) (by omega) (by omega) (by omega)
 ·skip
  have hr:=gF d s t u a k pl 1073741824 hd hs ht hu ha k0 k1
  rw[h] at hr
  simp[bw] at hr
  obtain⟨dn,rfl⟩:∃ n:Nat,d=n:=⟨d.toNat,by omega⟩
  obtain⟨sn,rfl⟩:∃ n:Nat,s=n:=⟨s.toNat,by omega⟩
  obtain⟨tn,rfl⟩:∃ n:Nat,t=n:=⟨t.toNat,by omega⟩
  obtain⟨un,rfl⟩:∃ n:Nat,u=n:=⟨u.toNat,by omega⟩
  obtain⟨an,rfl⟩:∃ n:Nat,a=n:=⟨a.toNat,by omega⟩
  obtain⟨kn,rfl⟩:∃ n:Nat,k=n:=⟨k.toNat,by omega⟩
  obtain rfl:sn=0:=by omega
  obtain rfl:tn=0:=by omega
  obtain rfl:un=0:=by omega
  obtain rfl:an=0:=by omega
  obtain rfl:kn=0:=by omega
  obtain rfl:pl=0:=by omega
  exact iN dn (by omega)
 ·skip
  have hr:=gE d s t u a k pl 1073741824 hd hs ht hu ha k0 k1
  rw[h] at hr
  simp[bw] at hr
  obtain⟨dn,rfl⟩:∃ n:Nat,d=n:=⟨d.toNat,by omega⟩
  obtain⟨sn,rfl⟩:∃ n:Nat,s=n:=⟨s.toNat,by omega⟩
  obtain⟨tn,rfl⟩:∃ n:Nat,t=n:=⟨t.toNat,by omega⟩
  obtain⟨un,rfl⟩:∃ n:Nat,u=n:=⟨u.toNat,by omega⟩
  obtain⟨an,rfl⟩:∃ n:Nat,a=n:=⟨a.toNat,by omega⟩
  obtain⟨kn,rfl⟩:∃ n:Nat,k=n:=⟨k.toNat,by omega⟩
  obtain rfl:dn=0:=by omega
  obtain rfl:tn=0:=by omega
  obtain rfl:un=0:=by omega
  obtain rfl:an=0:=by omega
  obtain rfl:kn=0:=by omega
  obtain rfl:pl=0:=by omega
  exact iM sn (by omega)
 ·exfalso
  unfold ag at h
  simp only[(bA hn).1] at h
  cases h
theorem gv (i:ay)(h:ag i 1073741824=I)(k0:0<=i.k)(k1:i.k<4294967296):ej (aa i)=I:=by
 obtain⟨h1,h2⟩:=dX i h k0 k1
 unfold ej
 rw[h1,h2,h]
 simp
end
