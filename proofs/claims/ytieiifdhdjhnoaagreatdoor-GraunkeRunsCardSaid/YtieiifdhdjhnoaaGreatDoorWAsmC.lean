import Derived.Test.YtieiifdhdjhnoaaGreatDoorWAsmM
import Derived.Test.YtieiifdhdjhnoaaGreatDoorWInstC
import Derived.Deep.CutBlock
set_option linter.unusedVariables false
set_option maxHeartbeats 2000000
open Go.Value renaming int->I
open Go.IntKind renaming i64->Q,u32->N
open Option renaming none->O
open Bool renaming true->Z
open Go.Obj renaming cells->V
open Go.Lib renaming hid->P
open Nat renaming le_refl->S
namespace Go.Proofs.YtieiifdhdjhnoaaGreatDoor
open Go.ChangeShapes Go.WideShapes Go.ChangeAt Go.RowKit Go.Shelf
theorem pK (s:List UInt8)(j:Nat)(h:j<s.length):(⟨s.toArray⟩:ByteArray).data[j]! = s[j]:=by
 simp[h]
theorem ul (s:List UInt8)(h:Bf s):Lib.lastIndexByte ⟨s.toArray⟩ 32=-1:=by
 have hz:(⟨s.toArray⟩:ByteArray).size=s.length:=by show s.toArray.size=_;simp
 unfold Lib.lastIndexByte
 rw[hz]
 rcases Lib.lastIdx_spec ⟨s.toArray⟩ 32 s.length with ⟨e,-⟩ | ⟨i,hi,e,hc,-⟩
 ·exact e
 ·exfalso
  rw[pK s i hi] at hc
  exact h _ (List.getElem_mem hi) (UInt8.toNat_inj.1 (by simpa using Int.ofNat.inj hc))
theorem qS (a b:List UInt8)(h:Bf b):Lib.lastIndexByte ⟨(a++32 :: b).toArray⟩ 32=a.length:=by
 have hz:(⟨(a++32 :: b).toArray⟩:ByteArray).size=(a++32 :: b).length:=by show (a++32 :: b).toArray.size=_;simp
 unfold Lib.lastIndexByte
 rw[hz]
 have hl:a.length<(a++32 :: b).length:=by simp
 have h32:(((⟨(a++32 :: b).toArray⟩:ByteArray).data[a.length]!).toNat:Int)=32:=by
  rw[pK _ _ hl]
  simp
 rcases Lib.lastIdx_spec ⟨(a++32 :: b).toArray⟩ 32 (a++32 :: b).length with ⟨e,hn⟩ | ⟨i,hi,e,hc,hn⟩
 ·exact absurd h32 (hn _ hl)
 ·rw[e]
  by_cases h1:i<a.length
  ·exact absurd h32 (hn _ h1 hl)
  by_cases h2:a.length<i
  ·exfalso
   rw[pK _ i hi] at hc
   have hm:(a++32 :: b)[i]∈b:=by
    rw[List.getElem_append_right (by omega)]
    obtain⟨k,hk⟩:∃ k,i-a.length=k+1:=⟨i-a.length-1,by omega⟩
    simp only[hk,List.getElem_cons_succ]
    exact List.getElem_mem _
   exact h _ hm (UInt8.toNat_inj.1 (by simpa using Int.ofNat.inj hc))
  ·have:i=a.length:=by omega
   rw[this]
theorem EF (s:List UInt8)(hl:s.length<1000000)(w:World):
 Calls Tryz.prog 161 #[bs s,I .u8 32] w fun e w'=>e=.returned (I Q (Lib.lastIndexByte ⟨s.toArray⟩ 32))/\w=w':=
 (Any.strings_LastIndexByte Tryz.lays149 ⟨s.toArray⟩ 32 (by show s.toArray.size<_;simp;omega) w).mono fun _ _ ⟨he,hw⟩=>⟨he,hw.symm⟩
theorem kz (s:List UInt8)(n:Nat)(h:n<=s.length)(w:World):(Instr.slice 9 (.string ⟨s.toArray⟩) O (some (I Q n)) O).run Tryz.prog w=.ok (.string ⟨(s.take n).toArray⟩) w:=by
 have hu:=Tryz.underlying9
 go_simp
 refine ByteArray.ext ?_
 rw[ByteArray.data_extract]
 apply Array.ext'
 simp
theorem xm (s:List UInt8)(n:Nat)(h:n<=s.length)(w:World):(Instr.slice 9 (.string ⟨s.toArray⟩) (some (I Q n)) O O).run Tryz.prog w=.ok (.string ⟨(s.drop n).toArray⟩) w:=by
 have hu:=Tryz.underlying9
 go_simp
 refine ByteArray.ext ?_
 rw[ByteArray.data_extract]
 apply Array.ext'
 simp
 try exact List.take_of_length_le (by simp)
theorem tk (s:List UInt8):∃ n:Nat,n<=s.length/\Lib.lastIndexByte ⟨s.toArray⟩ 32+1=n/\-1<=Lib.lastIndexByte ⟨s.toArray⟩ 32/\s.take n=dN s/\s.drop n=dK s:=by
 rcases jj s with h | ⟨a,b,hb,rfl⟩
 ·refine⟨0,by omega,by rw[ul s h];rfl,by rw[ul s h];omega,?_,?_⟩
  ·unfold dN dK
   rw[cN s h]
   simp
  ·unfold dK
   rw[cN s h]
   simp
 ·refine⟨a.length+1,by simp,by rw[qS a b hb];rfl,by rw[qS a b hb];omega,?_,?_⟩
  ·rw[kM a b hb,show a++32 :: b=(a++[32])++b by simp,show a.length+1=(a++[32]).length by simp,List.take_left]
  ·rw[kK a b hb,show a++32 :: b=(a++[32])++b by simp,show a.length+1=(a++[32]).length by simp,List.drop_left]
theorem yH (s:List UInt8)(hl:s.length<1000000)(w:World):
 Calls Tryz.prog 140 #[bs s] w fun e w'=>e=.returned (.tuple #[bs (dN s),bs (dK s)])/\Below w.heap.size w w':=by
 obtain⟨n,hn,he,h0,h1,h2⟩:=tk s
 have HL:=P (fun W=>EF s hl W)
 have r1:=kz s n hn
 have r2:=xm s n hn
 rw[<-h1,<-h2]
 have hwr:wrap64 (Lib.lastIndexByte ⟨s.toArray⟩ 32+1)=(n:Int):=by rw[he];unfold wrap64;omega
 have HE:=P he
 clear he h1 h2
 generalize Lib.lastIndexByte ⟨s.toArray⟩ 32=i at *
 unfold bs
 go_enter Tryz.func140,Tryz.ntmps140
 go_wp2_with fail
 refine(HL.out _).mono ?_
 rintro e w' ⟨rfl,rfl⟩
 go_wp2
 go_region
 go_wp2
 go_ret2
 exact⟨rfl,(Below.refl _ _).drew⟩
theorem xD (s:List UInt8):qf s=if jp s=Z then some (aD s) else O:=by
 by_cases h:jp s=Z
 ·rw[if_pos h,i3]
  have h2:=h
  unfold jp at h2
  simp only[Bool.and_eq_true,decide_eq_true_eq] at h2
  have hw:(aD s).Wf:=rj _
  exact⟨h2.1,hw.k0,hw.k1,h2.2⟩
 ·rw[if_neg h]
  cases hp:qf s with
  | none=>rfl
  | some i=>
   obtain⟨h1,h2,h3,rfl⟩:=(i3 _ _).1 hp
   exact absurd (sD i h1 h2 h3).1 h
def pP:Option aN->Value
 | some i=>.tuple #[iv i,I Q 0]
 | none=>.tuple #[iv aN.zero,I Q 8]
theorem sE (s:List UInt8):nz s=pP (qf s):=by
 unfold nz pP
 rw[xD]
 by_cases h:jp s=Z
 ·simp[h]
 ·simp[h]
theorem iN {s:List UInt8}{i:aN}(h:qf s=some i):au i 1073741824=Z:=((i3 _ _).1 h).1
theorem qk {i:aN}{p:Int}(hr:au i p=Z)(h:i.op=21):-1<=i.pl:=by
 obtain⟨op,d,s,t,u,a,k,pl⟩:=i
 simp only at h
 subst h
 unfold au at hr
 simp[cM,oT,eR,ep,aZ] at hr
 show -1<=pl
 omega
theorem g8 {i:aN}{p:Int}(hr:au i p=Z):eI i=ci i:=by
 unfold eI ci
 have h:=fun e=>qk hr e
 rw[Bool.eq_iff_iff]
 simp only[Bool.or_eq_true,Bool.and_eq_true,decide_eq_true_eq]
 constructor
 ·rintro(e | ⟨e,e2⟩)
  ·left;omega
  ·right;have:=h e;exact⟨e,by omega⟩
 ·rintro(e | ⟨e,e2⟩)
  ·left;omega
  ·right;exact⟨e,by omega⟩
def gH (s:List UInt8):Value:=match d9 s with
 | some (i,nm)=>.tuple #[iv i,bs nm,.bool Z]
 | none=>.tuple #[iv aN.zero,bs [],.bool false]
def rH:Option aN->Value
 | some j=>if eI j=Z then .tuple #[iv aN.zero,bs [],.bool false] else .tuple #[iv j,bs [],.bool Z]
 | none=>.tuple #[iv aN.zero,bs [],.bool false]
def rJ (la:List UInt8)(t:Value):Option aN->Value
 | some i=>if eI i=Z then .tuple #[iv i,bs la,.bool Z] else t
 | none=>t
theorem vw (s:List UInt8):gH s=rJ (dK s) (rH (qf s)) (if cz (dK s)=Z then qf (dN s++[48]) else O):=by
 unfold rJ rH
 unfold gH d9
 by_cases hn:cz (dK s)=Z
 ·simp only[hn,if_true,and_true]
  cases h1:qf (dN s++[48]) with
  | none=>
   cases h2:qf s with
   | none=>simp
   | some j=>
    have:=g8 (iN h2)
    by_cases hg:ci j=Z <;> simp[this,hg]
  | some i=>
   have e1:=g8 (iN h1)
   by_cases hi:ci i=Z
   ·simp[e1,hi]
   ·cases h2:qf s with
    | none=>simp[e1,hi]
    | some j=>
     have:=g8 (iN h2)
     by_cases hg:ci j=Z <;> simp[e1,hi,this,hg]
 ·simp only[hn]
  cases h1:qf (dN s++[48]) <;> cases h2:qf s with
  | none=>simp
  | some j=>
   have:=g8 (iN h2)
   by_cases hg:ci j=Z <;> simp[this,hg]
theorem Bw (s:List UInt8)(hl:s.length<100000)(w:World)(L:Lb w):
 Calls Tryz.prog 99 #[bs s] w fun e w'=>e=.returned (gH s)/\Below w.heap.size w w':=by
 have hh:(dN s).length<=s.length:=by unfold dN;simp
 have hc:=cW (dN s) [48]
 have hc2:¬ 9223372036854775807<(dN s).length+1:=by omega
 have HC:=P (fun W=>yH s (by omega) W)
 have HN:=P (fun W=>ux (dK s) W)
 have HP0:=P (fun W LW=>zy (dN s++[48]) (by simp;omega) W LW)
 have HP:=P (fun W LW=>zy s (by omega) W LW)
 have HE:=P (vw s)
 rw[sE] at HP0 HP
 have HL:=P (fun(W:World) (h:Below w.heap.size w W)=>L.below h)
 generalize gH s=res at *
 generalize hA:dN s=hd at *
 generalize hB:dK s=la at *
 clear hA hB hh L
 generalize qf (hd++[48])=p0 at *
 generalize qf s=p1 at *
 unfold bs
 go_enter Tryz.func99,Tryz.ntmps99
 go_wp2_with fail
 have b1:Below w.heap.size w (w.alloc (V #[I Q 0,I Q 0,I Q 0,I Q 0,I Q 0,I Q 0,I N 0,I Q 0] 117)):=(Below.refl _ _).alloc (S _) _
 have m1:Ib (w.alloc (V #[I Q 0,I Q 0,I Q 0,I Q 0,I Q 0,I Q 0,I N 0,I Q 0] 117)) w.heap.size aN.zero:=Bk.made _ _ _
 generalize w.alloc (V #[I Q 0,I Q 0,I Q 0,I Q 0,I Q 0,I Q 0,I N 0,I Q 0] 117)=x1 at *
 refine(HC.out x1).mono ?_
 rintro e x2 ⟨rfl,b2⟩
 replace m1:=m1.below b2
 replace b2:=b1.trans (b2.mono b1.size)
 clear b1 x1
 unfold bs
 go_wp2_with fail
 refine(HN.out x2).mono ?_
 rintro e x3 ⟨rfl,b3⟩
 replace m1:=m1.below b3
 replace b3:=b2.trans (b3.mono b2.size)
 clear b2 x2
 have HT:Hid (∀ i,p0=some i->cz la=Z->eI i=Z->res=.tuple #[iv i,bs la,.bool Z]):=P fun i h1 h2 h3=>by
  rw[HE.out,h1,h2];simp[rJ,h3]
 have HU:Hid ((cz la=Z->p0=O\/∃ i,p0=some i/\eI i=false)->res=rH p1):=P fun h=>by
  rw[HE.out]
  by_cases hn:cz la=Z
  ·rcases h hn with e | ⟨i,e,e2⟩
   ·rw[e];simp[rJ]
   ·rw[e,if_pos hn];simp[rJ,e2]
  ·rw[if_neg hn];rfl
 clear HE HC HN
 have hp:Hid (∀ (i:aN) (W:World),Calls Tryz.prog 142 #[iv i] W fun e w'=>e=.returned (.bool (eI i))/\Below W.heap.size W w'):=P fun i W=>wb i W
 rcases hn:cz la
 case' false=>
  replace HU:=P (HU.out (by rw[hn];simp))
  clear hn HT HP0 hc hc2
  go_wp2_with fail
  have bb:=b3
  clear b3
 case' true=>
  go_wp2_with fail
  refine(HP0.out x3 (HL.out _ b3)).mono ?_
  rintro e x4 ⟨rfl,b4⟩
  replace m1:=m1.below b4
  replace b4:=b3.trans (b4.mono b3.size)
  clear b3 x3 HP0
  rcases p0 with _ | ⟨op,d,s',t,u,a,k,pl⟩
  case' none=>
   replace HU:=P (HU.out (by simp))
   clear HT hn
   rw[show pP O=.tuple #[.agg #[I Q 0,I Q 0,I Q 0,I Q 0,I Q 0,I Q 0,I N 0,I Q 0],I Q 8] from rfl]
   go_wp2_with fail
   replace m1:Ib (x4.alloc (V #[I Q 0,I Q 0,I Q 0,I Q 0,I Q 0,I Q 0,I N 0,I Q 0] 117)) w.heap.size aN.zero:=Bk.alloc m1 _
   have bb:=b4.alloc (o:=V #[I Q 0,I Q 0,I Q 0,I Q 0,I Q 0,I Q 0,I N 0,I Q 0] 117) b4.size
   clear b4
   generalize x4.alloc (V #[I Q 0,I Q 0,I Q 0,I Q 0,I Q 0,I Q 0,I N 0,I Q 0] 117)=x3 at *
  case' some=>
   rw[show pP (some ⟨op,d,s',t,u,a,k,pl⟩)=.tuple #[.agg #[I Q op,I Q d,I Q s',I Q t,I Q u,I Q a,I N k,I Q pl],I Q 0] from rfl]
   go_upto_region 4 with fail
   have m2:=Ib.made x4 op d s' t u a k pl
   have hne:w.heap.size≠x4.heap.size:=Nat.ne_of_lt (Bk.lt m1)
   replace m1:Ib (x4.alloc (V #[I Q op,I Q d,I Q s',I Q t,I Q u,I Q a,I N k,I Q pl] 117)) w.heap.size aN.zero:=Bk.alloc m1 _
   replace b4:=b4.alloc (o:=V #[I Q op,I Q d,I Q s',I Q t,I Q u,I Q a,I N k,I Q pl] 117) b4.size
   generalize x4.heap.size=g at *
   generalize x4.alloc (V #[I Q op,I Q d,I Q s',I Q t,I Q u,I Q a,I N k,I Q pl] 117)=x3 at *
   obtain⟨c0,c1,c2,c3,c4,c5,c6,c7⟩:=m2.cells
   simp only at c0 c1 c2 c3 c4 c5 c6 c7
   go_wp2_with fail
   refine(hp.out ⟨op,d,s',t,u,a,k,pl⟩ x3).mono ?_
   rintro e x5 ⟨rfl,b5⟩
   replace m1:=m1.below b5
   replace m2:=m2.below b5
   have bb:=b4.trans (b5.mono b4.size)
   clear c0 c1 c2 c3 c4 c5 c6 c7 b4 b5 x3
   rcases hq:eI ⟨op,d,s',t,u,a,k,pl⟩
   case' false=>
    replace HU:=P (HU.out fun _=>.inr ⟨_,rfl,hq⟩)
    clear HT hn hq m2
    go_wp2_with fail
   case' true=>
    replace HT:=P (HT.out _ rfl hn hq)
    clear HU hn hq HP hp
    obtain⟨c0,c1,c2,c3,c4,c5,c6,c7⟩:=m2.cells
    simp only at c0 c1 c2 c3 c4 c5 c6 c7
    obtain⟨r0,r1,r2,r3,r4,r5,r6,r7⟩:=m1.cells
    have hfR:=Bk.free m1
    unfold aN.zero at r0 r1 r2 r3 r4 r5 r6 r7
    simp only at r0 r1 r2 r3 r4 r5 r6 r7
    go_wp2
    generalize hv:((((((((x5.setCell ⟨w.heap.size,0,O⟩ (I Q op)).setCell ⟨w.heap.size,1,O⟩ (I Q d)).setCell ⟨w.heap.size,2,O⟩ (I Q s')).setCell ⟨w.heap.size,3,O⟩ (I Q t)).setCell ⟨w.heap.size,4,O⟩ (I Q u)).setCell ⟨w.heap.size,5,O⟩ (I Q a)).setCell ⟨w.heap.size,6,O⟩ (I N k)).setCell ⟨w.heap.size,7,O⟩ (I Q pl))=v9
    have hv2:eA x5 w.heap.size ⟨op,d,s',t,u,a,k,pl⟩=v9:=hv
    clear hv
    have hA:=dJ (i:=⟨op,d,s',t,u,a,k,pl⟩) m1
    have hC:=aY (i:=⟨op,d,s',t,u,a,k,pl⟩) bb (S _)
    rw[hv2] at hA hC
    clear hv2
    obtain⟨q0,q1,q2,q3,q4,q5,q6,q7⟩:=hA.cells
    simp only at q0 q1 q2 q3 q4 q5 q6 q7
    refine bodyPost_ret (v:=.tuple #[.agg #[I Q op,I Q d,I Q s',I Q t,I Q u,I Q a,I N k,I Q pl],.string ⟨la.toArray⟩,.bool Z]) (by simp[results,Tryz.results99,go_sem,q0,q1,q2,q3,q4,q5,q6,q7]) rfl ⟨?_,hC⟩
    rw[HT.out];rfl
 all_goals (
  refine(HP.out _ (HL.out _ bb)).mono ?_
  rintro e y ⟨rfl,hby⟩
  replace m1:=m1.below hby
  replace bb:=bb.trans (hby.mono bb.size)
  clear hby HP
  obtain⟨r0,r1,r2,r3,r4,r5,r6,r7⟩:=m1.cells
  have hfR:=Bk.free m1
  unfold aN.zero at r0 r1 r2 r3 r4 r5 r6 r7
  simp only at r0 r1 r2 r3 r4 r5 r6 r7
  rcases p1 with _ | ⟨op,d,s',t,u,a,k,pl⟩
  ·rw[show pP O=.tuple #[.agg #[I Q 0,I Q 0,I Q 0,I Q 0,I Q 0,I Q 0,I N 0,I Q 0],I Q 8] from rfl]
   go_upto_region 7 with fail
   generalize hv:((((((((y.setCell ⟨w.heap.size,0,O⟩ (I Q 0)).setCell ⟨w.heap.size,1,O⟩ (I Q 0)).setCell ⟨w.heap.size,2,O⟩ (I Q 0)).setCell ⟨w.heap.size,3,O⟩ (I Q 0)).setCell ⟨w.heap.size,4,O⟩ (I Q 0)).setCell ⟨w.heap.size,5,O⟩ (I Q 0)).setCell ⟨w.heap.size,6,O⟩ (I N 0)).setCell ⟨w.heap.size,7,O⟩ (I Q 0))=y2
   have hv2:eA y w.heap.size ⟨0,0,0,0,0,0,0,0⟩=y2:=hv
   clear hv
   replace m1:=dJ (i:=⟨0,0,0,0,0,0,0,0⟩) m1
   replace bb:=aY (i:=⟨0,0,0,0,0,0,0,0⟩) bb (S _)
   rw[hv2] at m1 bb
   clear hv2 r0 r1 r2 r3 r4 r5 r6 r7 hfR
   obtain⟨r0,r1,r2,r3,r4,r5,r6,r7⟩:=m1.cells
   have hfR:=Bk.free m1
   simp only at r0 r1 r2 r3 r4 r5 r6 r7
   go_wp2
   generalize hv:((((((((y2.setCell ⟨w.heap.size,0,O⟩ (I Q 0)).setCell ⟨w.heap.size,1,O⟩ (I Q 0)).setCell ⟨w.heap.size,2,O⟩ (I Q 0)).setCell ⟨w.heap.size,3,O⟩ (I Q 0)).setCell ⟨w.heap.size,4,O⟩ (I Q 0)).setCell ⟨w.heap.size,5,O⟩ (I Q 0)).setCell ⟨w.heap.size,6,O⟩ (I N 0)).setCell ⟨w.heap.size,7,O⟩ (I Q 0))=v9
   have hv2:eA y2 w.heap.size ⟨0,0,0,0,0,0,0,0⟩=v9:=hv
   clear hv
   have hA:=dJ (i:=⟨0,0,0,0,0,0,0,0⟩) m1
   have hC:=aY (i:=⟨0,0,0,0,0,0,0,0⟩) bb (S _)
   rw[hv2] at hA hC
   clear hv2
   obtain⟨q0,q1,q2,q3,q4,q5,q6,q7⟩:=hA.cells
   simp only at q0 q1 q2 q3 q4 q5 q6 q7
   refine bodyPost_ret (v:=.tuple #[.agg #[I Q 0,I Q 0,I Q 0,I Q 0,I Q 0,I Q 0,I N 0,I Q 0],.string ⟨#[]⟩,.bool false]) (by simp[results,Tryz.results99,go_sem,q0,q1,q2,q3,q4,q5,q6,q7]) rfl ⟨?_,hC⟩
   rw[HU.out];rfl
  ·rw[show pP (some ⟨op,d,s',t,u,a,k,pl⟩)=.tuple #[.agg #[I Q op,I Q d,I Q s',I Q t,I Q u,I Q a,I N k,I Q pl],I Q 0] from rfl]
   go_upto_region 7 with fail
   generalize hv:((((((((y.setCell ⟨w.heap.size,0,O⟩ (I Q op)).setCell ⟨w.heap.size,1,O⟩ (I Q d)).setCell ⟨w.heap.size,2,O⟩ (I Q s')).setCell ⟨w.heap.size,3,O⟩ (I Q t)).setCell ⟨w.heap.size,4,O⟩ (I Q u)).setCell ⟨w.heap.size,5,O⟩ (I Q a)).setCell ⟨w.heap.size,6,O⟩ (I N k)).setCell ⟨w.heap.size,7,O⟩ (I Q pl))=y2
   have hv2:eA y w.heap.size ⟨op,d,s',t,u,a,k,pl⟩=y2:=hv
   clear hv
   replace m1:=dJ (i:=⟨op,d,s',t,u,a,k,pl⟩) m1
   replace bb:=aY (i:=⟨op,d,s',t,u,a,k,pl⟩) bb (S _)
   rw[hv2] at m1 bb
   clear hv2 r0 r1 r2 r3 r4 r5 r6 r7 hfR
   obtain⟨r0,r1,r2,r3,r4,r5,r6,r7⟩:=m1.cells
   simp only at r0 r1 r2 r3 r4 r5 r6 r7
   go_wp2_with fail
   refine(hp.out ⟨op,d,s',t,u,a,k,pl⟩ _).mono ?_
   rintro e y3 ⟨rfl,hby⟩
   replace m1:=m1.below hby
   replace bb:=bb.trans (hby.mono bb.size)
   clear hby r0 r1 r2 r3 r4 r5 r6 r7
   obtain⟨r0,r1,r2,r3,r4,r5,r6,r7⟩:=m1.cells
   have hfR:=Bk.free m1
   simp only at r0 r1 r2 r3 r4 r5 r6 r7
   cases hq:eI ⟨op,d,s',t,u,a,k,pl⟩ with
   | true=>
    go_wp2
    generalize hv:((((((((y3.setCell ⟨w.heap.size,0,O⟩ (I Q 0)).setCell ⟨w.heap.size,1,O⟩ (I Q 0)).setCell ⟨w.heap.size,2,O⟩ (I Q 0)).setCell ⟨w.heap.size,3,O⟩ (I Q 0)).setCell ⟨w.heap.size,4,O⟩ (I Q 0)).setCell ⟨w.heap.size,5,O⟩ (I Q 0)).setCell ⟨w.heap.size,6,O⟩ (I N 0)).setCell ⟨w.heap.size,7,O⟩ (I Q 0))=v9
    have hv2:eA y3 w.heap.size ⟨0,0,0,0,0,0,0,0⟩=v9:=hv
    clear hv
    have hA:=dJ (i:=⟨0,0,0,0,0,0,0,0⟩) m1
    have hC:=aY (i:=⟨0,0,0,0,0,0,0,0⟩) bb (S _)
    rw[hv2] at hA hC
    clear hv2
    obtain⟨q0,q1,q2,q3,q4,q5,q6,q7⟩:=hA.cells
    simp only at q0 q1 q2 q3 q4 q5 q6 q7
    refine bodyPost_ret (v:=.tuple #[.agg #[I Q 0,I Q 0,I Q 0,I Q 0,I Q 0,I Q 0,I N 0,I Q 0],.string ⟨#[]⟩,.bool false]) (by simp[results,Tryz.results99,go_sem,q0,q1,q2,q3,q4,q5,q6,q7]) rfl ⟨?_,hC⟩
    rw[HU.out,rH,if_pos hq];rfl
   | false=>
    go_wp2
    generalize hv:((((((((y3.setCell ⟨w.heap.size,0,O⟩ (I Q op)).setCell ⟨w.heap.size,1,O⟩ (I Q d)).setCell ⟨w.heap.size,2,O⟩ (I Q s')).setCell ⟨w.heap.size,3,O⟩ (I Q t)).setCell ⟨w.heap.size,4,O⟩ (I Q u)).setCell ⟨w.heap.size,5,O⟩ (I Q a)).setCell ⟨w.heap.size,6,O⟩ (I N k)).setCell ⟨w.heap.size,7,O⟩ (I Q pl))=v9
    have hv2:eA y3 w.heap.size ⟨op,d,s',t,u,a,k,pl⟩=v9:=hv
    clear hv
    have hA:=dJ (i:=⟨op,d,s',t,u,a,k,pl⟩) m1
    have hC:=aY (i:=⟨op,d,s',t,u,a,k,pl⟩) bb (S _)
    rw[hv2] at hA hC
    clear hv2
    obtain⟨q0,q1,q2,q3,q4,q5,q6,q7⟩:=hA.cells
    simp only at q0 q1 q2 q3 q4 q5 q6 q7
    refine bodyPost_ret (v:=.tuple #[.agg #[I Q op,I Q d,I Q s',I Q t,I Q u,I Q a,I N k,I Q pl],.string ⟨#[]⟩,.bool Z]) (by simp[results,Tryz.results99,go_sem,q0,q1,q2,q3,q4,q5,q6,q7]) rfl ⟨?_,hC⟩
    rw[HU.out,rH,if_neg (by rw[hq];simp)];rfl)
