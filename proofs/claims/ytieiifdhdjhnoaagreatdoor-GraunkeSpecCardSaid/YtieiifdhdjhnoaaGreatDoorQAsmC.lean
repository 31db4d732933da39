import Derived.Test.YtieiifdhdjhnoaaGreatDoorQAsmM
import Derived.Test.YtieiifdhdjhnoaaGreatDoorQInstC
import Derived.Deep.CutBlock
set_option linter.unusedVariables false
set_option maxHeartbeats 2000000
open Go.Value renaming int->I
open Go.IntKind renaming i64->Q,u32->N
open Option renaming none->O
open Bool renaming true->Z
open Go.Obj renaming cells->V
open Go.Lib renaming hid->P
open Nat renaming le_refl->S
namespace Go.Proofs.YtieiifdhdjhnoaaGreatDoor
open Go.ChangeShapes Go.WideShapes Go.ChangeAt Go.RowKit Go.Shelf
theorem q9 (s:List UInt8)(j:Nat)(h:j<s.length):(⟨s.toArray⟩:ByteArray).data[j]! = s[j]:=by
 simp[h]
theorem ww (s:List UInt8)(h:Bf s):Lib.lastIndexByte ⟨s.toArray⟩ 32=-1:=by
 have hz:(⟨s.toArray⟩:ByteArray).size=s.length:=by show s.toArray.size=_;simp
 unfold Lib.lastIndexByte
 rw[hz]
 rcases Lib.lastIdx_spec ⟨s.toArray⟩ 32 s.length with ⟨e,-⟩ | ⟨i,hi,e,hc,-⟩
 ·exact e
 ·exfalso
  rw[q9 s i hi] at hc
  exact h _ (List.getElem_mem hi) (UInt8.toNat_inj.1 (by simpa using Int.ofNat.inj hc))
theorem tf (a b:List UInt8)(h:Bf b):Lib.lastIndexByte ⟨(a++32 :: b).toArray⟩ 32=a.length:=by
 have hz:(⟨(a++32 :: b).toArray⟩:ByteArray).size=(a++32 :: b).length:=by show (a++32 :: b).toArray.size=_;simp
 unfold Lib.lastIndexByte
 rw[hz]
 have hl:a.length<(a++32 :: b).length:=by simp
 have h32:(((⟨(a++32 :: b).toArray⟩:ByteArray).data[a.length]!).toNat:Int)=32:=by
  rw[q9 _ _ hl]
  simp
 rcases Lib.lastIdx_spec ⟨(a++32 :: b).toArray⟩ 32 (a++32 :: b).length with ⟨e,hn⟩ | ⟨i,hi,e,hc,hn⟩
 ·exact absurd h32 (hn _ hl)
 ·rw[e]
  by_cases h1:i<a.length
  ·exact absurd h32 (hn _ h1 hl)
  by_cases h2:a.length<i
  ·exfalso
   rw[q9 _ i hi] at hc
   have hm:(a++32 :: b)[i]∈b:=by
    rw[List.getElem_append_right (by omega)]
    obtain⟨k,hk⟩:∃ k,i-a.length=k+1:=⟨i-a.length-1,by omega⟩
    simp only[hk,List.getElem_cons_succ]
    exact List.getElem_mem _
   exact h _ hm (UInt8.toNat_inj.1 (by simpa using Int.ofNat.inj hc))
  ·have:i=a.length:=by omega
   rw[this]
theorem FZ (s:List UInt8)(hl:s.length<1000000)(w:World):
 Calls Tryz.prog 161 #[bs s,I .u8 32] w fun e w'=>e=.returned (I Q (Lib.lastIndexByte ⟨s.toArray⟩ 32))/\w=w':=
 (Any.strings_LastIndexByte Tryz.lays149 ⟨s.toArray⟩ 32 (by show s.toArray.size<_;simp;omega) w).mono fun _ _ ⟨he,hw⟩=>⟨he,hw.symm⟩
theorem lD (s:List UInt8)(n:Nat)(h:n<=s.length)(w:World):(Instr.slice 9 (.string ⟨s.toArray⟩) O (some (I Q n)) O).run Tryz.prog w=.ok (.string ⟨(s.take n).toArray⟩) w:=by
 have hu:=Tryz.underlying9
 go_simp
 refine ByteArray.ext ?_
 rw[ByteArray.data_extract]
 apply Array.ext'
 simp
theorem zY (s:List UInt8)(n:Nat)(h:n<=s.length)(w:World):(Instr.slice 9 (.string ⟨s.toArray⟩) (some (I Q n)) O O).run Tryz.prog w=.ok (.string ⟨(s.drop n).toArray⟩) w:=by
 have hu:=Tryz.underlying9
 go_simp
 refine ByteArray.ext ?_
 rw[ByteArray.data_extract]
 apply Array.ext'
 simp
 try exact List.take_of_length_le (by simp)
theorem vq (s:List UInt8):∃ n:Nat,n<=s.length/\Lib.lastIndexByte ⟨s.toArray⟩ 32+1=n/\-1<=Lib.lastIndexByte ⟨s.toArray⟩ 32/\s.take n=dP s/\s.drop n=dO s:=by
 rcases jV s with h | ⟨a,b,hb,rfl⟩
 ·refine⟨0,by omega,by rw[ww s h];rfl,by rw[ww s h];omega,?_,?_⟩
  ·unfold dP dO
   rw[cQ s h]
   simp
  ·unfold dO
   rw[cQ s h]
   simp
 ·refine⟨a.length+1,by simp,by rw[tf a b hb];rfl,by rw[tf a b hb];omega,?_,?_⟩
  ·rw[lO a b hb,show a++32 :: b=(a++[32])++b by simp,show a.length+1=(a++[32]).length by simp,List.take_left]
  ·rw[lN a b hb,show a++32 :: b=(a++[32])++b by simp,show a.length+1=(a++[32]).length by simp,List.drop_left]
theorem A3 (s:List UInt8)(hl:s.length<1000000)(w:World):
 Calls Tryz.prog 140 #[bs s] w fun e w'=>e=.returned (.tuple #[bs (dP s),bs (dO s)])/\Below w.heap.size w w':=by
 obtain⟨n,hn,he,h0,h1,h2⟩:=vq s
 have HL:=P (fun W=>FZ s hl W)
 have r1:=lD s n hn
 have r2:=zY s n hn
 rw[<-h1,<-h2]
 have hwr:wrap64 (Lib.lastIndexByte ⟨s.toArray⟩ 32+1)=(n:Int):=by rw[he];unfold wrap64;omega
 have HE:=P he
 clear he h1 h2
 generalize Lib.lastIndexByte ⟨s.toArray⟩ 32=i at *
 unfold bs
 go_enter Tryz.func140,Tryz.ntmps140
 go_wp2_with fail
 refine(HL.out _).mono ?_
 rintro e w' ⟨rfl,rfl⟩
 go_wp2
 go_region
 go_wp2
 go_ret2
 exact⟨rfl,(Below.refl _ _).drew⟩
theorem Ak (s:List UInt8):rN s=if j9 s=Z then some (aA s) else O:=by
 by_cases h:j9 s=Z
 ·rw[if_pos h,jF]
  have h2:=h
  unfold j9 at h2
  simp only[Bool.and_eq_true,decide_eq_true_eq] at h2
  have hw:(aA s).Wf:=tI _
  exact⟨h2.1,hw.k0,hw.k1,h2.2⟩
 ·rw[if_neg h]
  cases hp:rN s with
  | none=>rfl
  | some i=>
   obtain⟨h1,h2,h3,rfl⟩:=(jF _ _).1 hp
   exact absurd (uE i h1 h2 h3).1 h
def ri:Option aU->Value
 | some i=>.tuple #[iv i,I Q 0]
 | none=>.tuple #[iv aU.zero,I Q 8]
theorem uF (s:List UInt8):oI s=ri (rN s):=by
 unfold oI ri
 rw[Ak]
 by_cases h:j9 s=Z
 ·simp[h]
 ·simp[h]
theorem jp {s:List UInt8}{i:aU}(h:rN s=some i):au i 1073741824=Z:=((jF _ _).1 h).1
theorem rY {i:aU}{p:Int}(hr:au i p=Z)(h:i.op=21):-1<=i.pl:=by
 obtain⟨op,d,s,t,u,a,k,pl⟩:=i
 simp only at h
 subst h
 unfold au at hr
 simp[cP,ql,fb,eC,aW] at hr
 show -1<=pl
 omega
theorem it {i:aU}{p:Int}(hr:au i p=Z):eS i=co i:=by
 unfold eS co
 have h:=fun e=>rY hr e
 rw[Bool.eq_iff_iff]
 simp only[Bool.or_eq_true,Bool.and_eq_true,decide_eq_true_eq]
 constructor
 ·rintro(e | ⟨e,e2⟩)
  ·left;omega
  ·right;have:=h e;exact⟨e,by omega⟩
 ·rintro(e | ⟨e,e2⟩)
  ·left;omega
  ·right;exact⟨e,by omega⟩
def gT (s:List UInt8):Value:=match ee s with
 | some (i,nm)=>.tuple #[iv i,bs nm,.bool Z]
 | none=>.tuple #[iv aU.zero,bs [],.bool false]
def tW:Option aU->Value
 | some j=>if eS j=Z then .tuple #[iv aU.zero,bs [],.bool false] else .tuple #[iv j,bs [],.bool Z]
 | none=>.tuple #[iv aU.zero,bs [],.bool false]
def t9 (la:List UInt8)(t:Value):Option aU->Value
 | some i=>if eS i=Z then .tuple #[iv i,bs la,.bool Z] else t
 | none=>t
theorem xU (s:List UInt8):gT s=t9 (dO s) (tW (rN s)) (if cE (dO s)=Z then rN (dP s++[48]) else O):=by
 unfold t9 tW
 unfold gT ee
 by_cases hn:cE (dO s)=Z
 ·simp only[hn,if_true,and_true]
  cases h1:rN (dP s++[48]) with
  | none=>
   cases h2:rN s with
   | none=>simp
   | some j=>
    have:=it (jp h2)
    by_cases hg:co j=Z <;> simp[this,hg]
  | some i=>
   have e1:=it (jp h1)
   by_cases hi:co i=Z
   ·simp[e1,hi]
   ·cases h2:rN s with
    | none=>simp[e1,hi]
    | some j=>
     have:=it (jp h2)
     by_cases hg:co j=Z <;> simp[e1,hi,this,hg]
 ·simp only[hn]
  cases h1:rN (dP s++[48]) <;> cases h2:rN s with
  | none=>simp
  | some j=>
   have:=it (jp h2)
   by_cases hg:co j=Z <;> simp[this,hg]
theorem Dn (s:List UInt8)(hl:s.length<100000)(w:World)(L:Lb w):
 Calls Tryz.prog 99 #[bs s] w fun e w'=>e=.returned (gT s)/\Below w.heap.size w w':=by
 have hh:(dP s).length<=s.length:=by unfold dP;simp
 have hc:=cZ (dP s) [48]
 have hc2:¬ 9223372036854775807<(dP s).length+1:=by omega
 have HC:=P (fun W=>A3 s (by omega) W)
 have HN:=P (fun W=>wK (dO s) W)
 have HP0:=P (fun W LW=>Bz (dP s++[48]) (by simp;omega) W LW)
 have HP:=P (fun W LW=>Bz s (by omega) W LW)
 have HE:=P (xU s)
 rw[uF] at HP0 HP
 have HL:=P (fun(W:World) (h:Below w.heap.size w W)=>L.below h)
 generalize gT s=res at *
 generalize hA:dP s=hd at *
 generalize hB:dO s=la at *
 clear hA hB hh L
 generalize rN (hd++[48])=p0 at *
 generalize rN s=p1 at *
 unfold bs
 go_enter Tryz.func99,Tryz.ntmps99
 go_wp2_with fail
 have b1:Below w.heap.size w (w.alloc (V #[I Q 0,I Q 0,I Q 0,I Q 0,I Q 0,I Q 0,I N 0,I Q 0] 117)):=(Below.refl _ _).alloc (S _) _
 have m1:Ib (w.alloc (V #[I Q 0,I Q 0,I Q 0,I Q 0,I Q 0,I Q 0,I N 0,I Q 0] 117)) w.heap.size aU.zero:=Bk.made _ _ _
 generalize w.alloc (V #[I Q 0,I Q 0,I Q 0,I Q 0,I Q 0,I Q 0,I N 0,I Q 0] 117)=x1 at *
 refine(HC.out x1).mono ?_
 rintro e x2 ⟨rfl,b2⟩
 replace m1:=m1.below b2
 replace b2:=b1.trans (b2.mono b1.size)
 clear b1 x1
 unfold bs
 go_wp2_with fail
 refine(HN.out x2).mono ?_
 rintro e x3 ⟨rfl,b3⟩
 replace m1:=m1.below b3
 replace b3:=b2.trans (b3.mono b2.size)
 clear b2 x2
 have HT:Hid (∀ i,p0=some i->cE la=Z->eS i=Z->res=.tuple #[iv i,bs la,.bool Z]):=P fun i h1 h2 h3=>by
  rw[HE.out,h1,h2];simp[t9,h3]
 have HU:Hid ((cE la=Z->p0=O\/∃ i,p0=some i/\eS i=false)->res=tW p1):=P fun h=>by
  rw[HE.out]
  by_cases hn:cE la=Z
  ·rcases h hn with e | ⟨i,e,e2⟩
   ·rw[e];simp[t9]
   ·rw[e,if_pos hn];simp[t9,e2]
  ·rw[if_neg hn];rfl
 clear HE HC HN
 have hp:Hid (∀ (i:aU) (W:World),Calls Tryz.prog 142 #[iv i] W fun e w'=>e=.returned (.bool (eS i))/\Below W.heap.size W w'):=P fun i W=>yS i W
 rcases hn:cE la
 case' false=>
  replace HU:=P (HU.out (by rw[hn];simp))
  clear hn HT HP0 hc hc2
  go_wp2_with fail
  have bb:=b3
  clear b3
 case' true=>
  go_wp2_with fail
  refine(HP0.out x3 (HL.out _ b3)).mono ?_
  rintro e x4 ⟨rfl,b4⟩
  replace m1:=m1.below b4
  replace b4:=b3.trans (b4.mono b3.size)
  clear b3 x3 HP0
  rcases p0 with _ | ⟨op,d,s',t,u,a,k,pl⟩
  case' none=>
   replace HU:=P (HU.out (by simp))
   clear HT hn
   rw[show ri O=.tuple #[.agg #[I Q 0,I Q 0,I Q 0,I Q 0,I Q 0,I Q 0,I N 0,I Q 0],I Q 8] from rfl]
   go_wp2_with fail
   replace m1:Ib (x4.alloc (V #[I Q 0,I Q 0,I Q 0,I Q 0,I Q 0,I Q 0,I N 0,I Q 0] 117)) w.heap.size aU.zero:=Bk.alloc m1 _
   have bb:=b4.alloc (o:=V #[I Q 0,I Q 0,I Q 0,I Q 0,I Q 0,I Q 0,I N 0,I Q 0] 117) b4.size
   clear b4
   generalize x4.alloc (V #[I Q 0,I Q 0,I Q 0,I Q 0,I Q 0,I Q 0,I N 0,I Q 0] 117)=x3 at *
  case' some=>
   rw[show ri (some ⟨op,d,s',t,u,a,k,pl⟩)=.tuple #[.agg #[I Q op,I Q d,I Q s',I Q t,I Q u,I Q a,I N k,I Q pl],I Q 0] from rfl]
   go_upto_region 4 with fail
   have m2:=Ib.made x4 op d s' t u a k pl
   have hne:w.heap.size≠x4.heap.size:=Nat.ne_of_lt (Bk.lt m1)
   replace m1:Ib (x4.alloc (V #[I Q op,I Q d,I Q s',I Q t,I Q u,I Q a,I N k,I Q pl] 117)) w.heap.size aU.zero:=Bk.alloc m1 _
   replace b4:=b4.alloc (o:=V #[I Q op,I Q d,I Q s',I Q t,I Q u,I Q a,I N k,I Q pl] 117) b4.size
   generalize x4.heap.size=g at *
   generalize x4.alloc (V #[I Q op,I Q d,I Q s',I Q t,I Q u,I Q a,I N k,I Q pl] 117)=x3 at *
   obtain⟨c0,c1,c2,c3,c4,c5,c6,c7⟩:=m2.cells
   simp only at c0 c1 c2 c3 c4 c5 c6 c7
   go_wp2_with fail
   refine(hp.out ⟨op,d,s',t,u,a,k,pl⟩ x3).mono ?_
   rintro e x5 ⟨rfl,b5⟩
   replace m1:=m1.below b5
   replace m2:=m2.below b5
   have bb:=b4.trans (b5.mono b4.size)
   clear c0 c1 c2 c3 c4 c5 c6 c7 b4 b5 x3
   rcases hq:eS ⟨op,d,s',t,u,a,k,pl⟩
   case' false=>
    replace HU:=P (HU.out fun _=>.inr ⟨_,rfl,hq⟩)
    clear HT hn hq m2
    go_wp2_with fail
   case' true=>
    replace HT:=P (HT.out _ rfl hn hq)
    clear HU hn hq HP hp
    obtain⟨c0,c1,c2,c3,c4,c5,c6,c7⟩:=m2.cells
    simp only at c0 c1 c2 c3 c4 c5 c6 c7
    obtain⟨r0,r1,r2,r3,r4,r5,r6,r7⟩:=m1.cells
    have hfR:=Bk.free m1
    unfold aU.zero at r0 r1 r2 r3 r4 r5 r6 r7
    simp only at r0 r1 r2 r3 r4 r5 r6 r7
    go_wp2
    generalize hv:((((((((x5.setCell ⟨w.heap.size,0,O⟩ (I Q op)).setCell ⟨w.heap.size,1,O⟩ (I Q d)).setCell ⟨w.heap.size,2,O⟩ (I Q s')).setCell ⟨w.heap.size,3,O⟩ (I Q t)).setCell ⟨w.heap.size,4,O⟩ (I Q u)).setCell ⟨w.heap.size,5,O⟩ (I Q a)).setCell ⟨w.heap.size,6,O⟩ (I N k)).setCell ⟨w.heap.size,7,O⟩ (I Q pl))=v9
    have hv2:fN x5 w.heap.size ⟨op,d,s',t,u,a,k,pl⟩=v9:=hv
    clear hv
    have hA:=em (i:=⟨op,d,s',t,u,a,k,pl⟩) m1
    have hC:=aZ (i:=⟨op,d,s',t,u,a,k,pl⟩) bb (S _)
    rw[hv2] at hA hC
    clear hv2
    obtain⟨q0,q1,q2,q3,q4,q5,q6,q7⟩:=hA.cells
    simp only at q0 q1 q2 q3 q4 q5 q6 q7
    refine bodyPost_ret (v:=.tuple #[.agg #[I Q op,I Q d,I Q s',I Q t,I Q u,I Q a,I N k,I Q pl],.string ⟨la.toArray⟩,.bool Z]) (by simp[results,Tryz.results99,go_sem,q0,q1,q2,q3,q4,q5,q6,q7]) rfl ⟨?_,hC⟩
    rw[HT.out];rfl
 all_goals (
  refine(HP.out _ (HL.out _ bb)).mono ?_
  rintro e y ⟨rfl,hby⟩
  replace m1:=m1.below hby
  replace bb:=bb.trans (hby.mono bb.size)
  clear hby HP
  obtain⟨r0,r1,r2,r3,r4,r5,r6,r7⟩:=m1.cells
  have hfR:=Bk.free m1
  unfold aU.zero at r0 r1 r2 r3 r4 r5 r6 r7
  simp only at r0 r1 r2 r3 r4 r5 r6 r7
  rcases p1 with _ | ⟨op,d,s',t,u,a,k,pl⟩
  ·rw[show ri O=.tuple #[.agg #[I Q 0,I Q 0,I Q 0,I Q 0,I Q 0,I Q 0,I N 0,I Q 0],I Q 8] from rfl]
   go_upto_region 7 with fail
   generalize hv:((((((((y.setCell ⟨w.heap.size,0,O⟩ (I Q 0)).setCell ⟨w.heap.size,1,O⟩ (I Q 0)).setCell ⟨w.heap.size,2,O⟩ (I Q 0)).setCell ⟨w.heap.size,3,O⟩ (I Q 0)).setCell ⟨w.heap.size,4,O⟩ (I Q 0)).setCell ⟨w.heap.size,5,O⟩ (I Q 0)).setCell ⟨w.heap.size,6,O⟩ (I N 0)).setCell ⟨w.heap.size,7,O⟩ (I Q 0))=y2
   have hv2:fN y w.heap.size ⟨0,0,0,0,0,0,0,0⟩=y2:=hv
   clear hv
   replace m1:=em (i:=⟨0,0,0,0,0,0,0,0⟩) m1
   replace bb:=aZ (i:=⟨0,0,0,0,0,0,0,0⟩) bb (S _)
   rw[hv2] at m1 bb
   clear hv2 r0 r1 r2 r3 r4 r5 r6 r7 hfR
   obtain⟨r0,r1,r2,r3,r4,r5,r6,r7⟩:=m1.cells
   have hfR:=Bk.free m1
   simp only at r0 r1 r2 r3 r4 r5 r6 r7
   go_wp2
   generalize hv:((((((((y2.setCell ⟨w.heap.size,0,O⟩ (I Q 0)).setCell ⟨w.heap.size,1,O⟩ (I Q 0)).setCell ⟨w.heap.size,2,O⟩ (I Q 0)).setCell ⟨w.heap.size,3,O⟩ (I Q 0)).setCell ⟨w.heap.size,4,O⟩ (I Q 0)).setCell ⟨w.heap.size,5,O⟩ (I Q 0)).setCell ⟨w.heap.size,6,O⟩ (I N 0)).setCell ⟨w.heap.size,7,O⟩ (I Q 0))=v9
   have hv2:fN y2 w.heap.size ⟨0,0,0,0,0,0,0,0⟩=v9:=hv
   clear hv
   have hA:=em (i:=⟨0,0,0,0,0,0,0,0⟩) m1
   have hC:=aZ (i:=⟨0,0,0,0,0,0,0,0⟩) bb (S _)
   rw[hv2] at hA hC
   clear hv2
   obtain⟨q0,q1,q2,q3,q4,q5,q6,q7⟩:=hA.cells
   simp only at q0 q1 q2 q3 q4 q5 q6 q7
   refine bodyPost_ret (v:=.tuple #[.agg #[I Q 0,I Q 0,I Q 0,I Q 0,I Q 0,I Q 0,I N 0,I Q 0],.string ⟨#[]⟩,.bool false]) (by simp[results,Tryz.results99,go_sem,q0,q1,q2,q3,q4,q5,q6,q7]) rfl ⟨?_,hC⟩
   rw[HU.out];rfl
  ·rw[show ri (some ⟨op,d,s',t,u,a,k,pl⟩)=.tuple #[.agg #[I Q op,I Q d,I Q s',I Q t,I Q u,I Q a,I N k,I Q pl],I Q 0] from rfl]
   go_upto_region 7 with fail
   generalize hv:((((((((y.setCell ⟨w.heap.size,0,O⟩ (I Q op)).setCell ⟨w.heap.size,1,O⟩ (I Q d)).setCell ⟨w.heap.size,2,O⟩ (I Q s')).setCell ⟨w.heap.size,3,O⟩ (I Q t)).setCell ⟨w.heap.size,4,O⟩ (I Q u)).setCell ⟨w.heap.size,5,O⟩ (I Q a)).setCell ⟨w.heap.size,6,O⟩ (I N k)).setCell ⟨w.heap.size,7,O⟩ (I Q pl))=y2
   have hv2:fN y w.heap.size ⟨op,d,s',t,u,a,k,pl⟩=y2:=hv
   clear hv
   replace m1:=em (i:=⟨op,d,s',t,u,a,k,pl⟩) m1
   replace bb:=aZ (i:=⟨op,d,s',t,u,a,k,pl⟩) bb (S _)
   rw[hv2] at m1 bb
   clear hv2 r0 r1 r2 r3 r4 r5 r6 r7 hfR
   obtain⟨r0,r1,r2,r3,r4,r5,r6,r7⟩:=m1.cells
   simp only at r0 r1 r2 r3 r4 r5 r6 r7
   go_wp2_with fail
   refine(hp.out ⟨op,d,s',t,u,a,k,pl⟩ _).mono ?_
   rintro e y3 ⟨rfl,hby⟩
   replace m1:=m1.below hby
   replace bb:=bb.trans (hby.mono bb.size)
   clear hby r0 r1 r2 r3 r4 r5 r6 r7
   obtain⟨r0,r1,r2,r3,r4,r5,r6,r7⟩:=m1.cells
   have hfR:=Bk.free m1
   simp only at r0 r1 r2 r3 r4 r5 r6 r7
   cases hq:eS ⟨op,d,s',t,u,a,k,pl⟩ with
   | true=>
    go_wp2
    generalize hv:((((((((y3.setCell ⟨w.heap.size,0,O⟩ (I Q 0)).setCell ⟨w.heap.size,1,O⟩ (I Q 0)).setCell ⟨w.heap.size,2,O⟩ (I Q 0)).setCell ⟨w.heap.size,3,O⟩ (I Q 0)).setCell ⟨w.heap.size,4,O⟩ (I Q 0)).setCell ⟨w.heap.size,5,O⟩ (I Q 0)).setCell ⟨w.heap.size,6,O⟩ (I N 0)).setCell ⟨w.heap.size,7,O⟩ (I Q 0))=v9
    have hv2:fN y3 w.heap.size ⟨0,0,0,0,0,0,0,0⟩=v9:=hv
    clear hv
    have hA:=em (i:=⟨0,0,0,0,0,0,0,0⟩) m1
    have hC:=aZ (i:=⟨0,0,0,0,0,0,0,0⟩) bb (S _)
    rw[hv2] at hA hC
    clear hv2
    obtain⟨q0,q1,q2,q3,q4,q5,q6,q7⟩:=hA.cells
    simp only at q0 q1 q2 q3 q4 q5 q6 q7
    refine bodyPost_ret (v:=.tuple #[.agg #[I Q 0,I Q 0,I Q 0,I Q 0,I Q 0,I Q 0,I N 0,I Q 0],.string ⟨#[]⟩,.bool false]) (by simp[results,Tryz.results99,go_sem,q0,q1,q2,q3,q4,q5,q6,q7]) rfl ⟨?_,hC⟩
    rw[HU.out,tW,if_pos hq];rfl
   | false=>
    go_wp2
    generalize hv:((((((((y3.setCell ⟨w.heap.size,0,O⟩ (I Q op)).setCell ⟨w.heap.size,1,O⟩ (I Q d)).setCell ⟨w.heap.size,2,O⟩ (I Q s')).setCell ⟨w.heap.size,3,O⟩ (I Q t)).setCell ⟨w.heap.size,4,O⟩ (I Q u)).setCell ⟨w.heap.size,5,O⟩ (I Q a)).setCell ⟨w.heap.size,6,O⟩ (I N k)).setCell ⟨w.heap.size,7,O⟩ (I Q pl))=v9
    have hv2:fN y3 w.heap.size ⟨op,d,s',t,u,a,k,pl⟩=v9:=hv
    clear hv
    have hA:=em (i:=⟨op,d,s',t,u,a,k,pl⟩) m1
    have hC:=aZ (i:=⟨op,d,s',t,u,a,k,pl⟩) bb (S _)
    rw[hv2] at hA hC
    clear hv2
    obtain⟨q0,q1,q2,q3,q4,q5,q6,q7⟩:=hA.cells
    simp only at q0 q1 q2 q3 q4 q5 q6 q7
    refine bodyPost_ret (v:=.tuple #[.agg #[I Q op,I Q d,I Q s',I Q t,I Q u,I Q a,I N k,I Q pl],.string ⟨#[]⟩,.bool Z]) (by simp[results,Tryz.results99,go_sem,q0,q1,q2,q3,q4,q5,q6,q7]) rfl ⟨?_,hC⟩
    rw[HU.out,tW,if_neg (by rw[hq];simp)];rfl)
