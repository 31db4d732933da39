import Derived.Test.YtieiifdhdjhnoaaGreatDoorWAsmE
import Derived.Test.YtieiifdhdjhnoaaGreatDoorWAsmM
import Derived.Test.YtieiifdhdjhnoaaGreatDoorWAsmD
import Derived.Test.YtieiifdhdjhnoaaGreatDoorWPoolRefE
import Derived.Test.YtieiifdhdjhnoaaGreatDoorWWdB
import Derived.Test.YtieiifdhdjhnoaaGreatDoorWCoreP
import Derived.Test.YtieiifdhdjhnoaaGreatDoorWExE
import Derived.Test.YtieiifdhdjhnoaaGreatDoorWCoreV
import Derived.Test.YtieiifdhdjhnoaaGreatDoorWCell
import Derived.Test.YtieiifdhdjhnoaaGreatDoorWMem
import Derived.Deep.Onto
import Derived.BigQuiet
import Derived.Deep.CutBlock
import Derived.Deep.QuietTactic
import Derived.Deep.DeepCutAuto
set_option linter.unusedVariables false
set_option maxHeartbeats 4000000
set_option maxRecDepth 100000
open Go.Value renaming int->I,slice->F,pointer->C
open Go.IntKind renaming i64->Q,u32->O
open Option renaming none->Z,some->J
open Bool renaming false->G
open Go.Obj renaming cells->Za
open Go.Lib renaming hid->Zb
open Go.RowKit.Below renaming refl->Zc
open Nat renaming le_refl->Zd
open Go renaming undef->Ze
namespace Go.Proofs.YtieiifdhdjhnoaaGreatDoor
section
open Go.ChangeShapes Go.WideShapes Go.ChangeAt Go.RowKit Go.Shelf
attribute [local go_sem] Oper.semAt_some
theorem Dp (s r:List UInt8)(h:Nl s)(n:Int)(ls:List (List UInt8×Int))(rs:List Rw):
 gV (s++10 :: r) n ls rs=if (ie s n ls rs).1=0 then gV r (n+1) (ie s n ls rs).2.1 (ie s n ls rs).2.2 else (im.zero,n,(ie s n ls rs).1):=by
 rw[eY s r h]
 unfold ie fB
 by_cases h1:qg s=true
 ·rw[if_pos h1,if_pos h1]
  by_cases h2:(ls.any fun x=>x.1==s.dropLast)=true
  ·rw[if_pos h2,if_pos h2];simp
  ·rw[if_neg h2,if_neg h2];simp
 ·rw[if_neg h1,if_neg h1]
  cases hl:d9 s with
  | none=>simp
  | some q=>
   obtain⟨i,nm⟩:=q
   simp only
   by_cases h3:64<=rs.length
   ·simp[h3]
   ·simp[h3]
structure kh (ls:List (List UInt8×Int))(rs:List Rw)(k:Nat):Prop where
 lab:wL ls rs.length
 few:rs.length<=64
 names:∀ r∈rs,r.2.1.length<=16
 many:ls.length<=k
theorem xK {s:List UInt8}(h:cz s=true):s.length<=16:=by
 unfold cz at h
 simp only[Bool.and_eq_true,decide_eq_true_eq] at h
 exact h.2.1
theorem vr {s:List UInt8}{i:aN}{nm:List UInt8}(h:d9 s=J (i,nm)):nm.length<=16:=by
 unfold d9 at h
 repeat' split at h
 all_goals first
  | (cases h;done)
  | (cases h;simp;done)
  | (cases h;exact xK (by rename_i hh;exact hh.2))
theorem kh.add {ls:List (List UInt8×Int)}{rs:List Rw}{k:Nat}(h:kh ls rs k)(s:List UInt8)(n:Int)(h0:(ie s n ls rs).1=0):kh (ie s n ls rs).2.1 (ie s n ls rs).2.2 (k+1):=by
 unfold ie at *
 split at h0
 ·rename_i h1
  rw[if_pos h1]
  split at h0
  ·cases h0
  ·rename_i h2
   rw[if_neg h2]
   refine⟨⟨?_,?_⟩,h.few,h.names,by have:=h.many;simp;omega⟩
   ·rw[List.map_append,List.nodup_append]
    refine⟨h.lab.1,by simp,?_⟩
    intro a ha b hb e
    simp at hb
    subst hb
    subst e
    refine h2 ?_
    unfold fB
    rw[List.any_eq_true]
    obtain⟨x,hx,e⟩:=List.mem_map.1 ha
    exact⟨x,hx,by simpa using e⟩
   ·intro x hx
    rcases List.mem_append.1 hx with hx | hx
    ·exact h.lab.2 x hx
    ·simp at hx
     subst hx
     simp
 ·rename_i h1
  rw[if_neg h1]
  cases hl:d9 s with
  | none=>rw[hl] at h0;cases h0
  | some q=>
   obtain⟨i,nm⟩:=q
   rw[hl] at h0
   simp only at h0 ⊢
   split at h0
   ·cases h0
   ·rename_i h3
    rw[if_neg h3]
    refine⟨⟨h.lab.1,fun x hx=>?_⟩,by simp;omega,fun r hr=>?_,by have:=h.many;simp;omega⟩
    ·have:=h.lab.2 x hx
     simp
     omega
    ·rcases List.mem_append.1 hr with hr | hr
     ·exact h.names r hr
     ·simp at hr
      subst hr
      exact vr hl
def BT (w:World)(text:List UInt8)(e:Ending)(w':World):Prop:=
 ∃ v,e=.returned (.tuple #[v,I Q (eG text).2.1,I Q (eG text).2.2])/\Pg w' w.heap.size v (eG text).1/\Below w.heap.size w w'
theorem cr {B:Nat}{A W:World}{S:Nat->Prop}(h:ab A W S)(hs:∀ b,S b->B<=b)(hB:B<=A.heap.size:=by omega):Below B A W:=⟨h.os,h.tape,h.output,h.size,fun i hi=>h.block i (by omega) (fun e=>by have:=hs i e;omega)⟩
theorem wi (w W:World)(hW:W=(((((w.alloc (Za #[F Z 0 0,I Q 0,I Q 0] 24)).alloc (Za #[I Q 0] 3)).alloc (Za #[I Q 0] 29)).alloc (.map #[] 0)).alloc (Za #[F Z 0 0,.map (J (w.heap.size+1+1+1))] 135))):
 Below w.heap.size w W/\W.heap.size=w.heap.size+5/\Bk W w.heap.size 24 #[F Z 0 0,I Q 0,I Q 0]/\Bk W (w.heap.size+1) 3 #[I Q 0]/\Bk W (w.heap.size+2) 29 #[I Q 0]/\∀ lo,Dr W (w.heap.size+4) (w.heap.size+3) lo [] []:=by
 have h1:=Bk.made w 24 #[F Z 0 0,I Q 0,I Q 0]
 generalize e1:w.alloc (Za #[F Z 0 0,I Q 0,I Q 0] 24)=w1 at *
 have z1:w1.heap.size=w.heap.size+1:=by rw[<-e1];simp
 have h2:=Bk.made w1 3 #[I Q 0]
 generalize e2:w1.alloc (Za #[I Q 0] 3)=w2 at *
 have z2:w2.heap.size=w.heap.size+2:=by rw[<-e2];simp[z1]
 have h3:=Bk.made w2 29 #[I Q 0]
 generalize e3:w2.alloc (Za #[I Q 0] 29)=w3 at *
 have z3:w3.heap.size=w.heap.size+3:=by rw[<-e3];simp[z2]
 have h4:=ig.made w3
 generalize e4:w3.alloc (.map #[] 0)=w4 at *
 have z4:w4.heap.size=w.heap.size+4:=by rw[<-e4];simp[z3]
 have h5:=Bk.made w4 135 #[F Z 0 0,.map (J (w.heap.size+1+1+1))]
 rw[<-hW] at h5
 have k1:ab w1 w2 (fun _=>False):=by rw[<-e2];exact(ab.refl _ _).alloc _
 have k2:ab w2 w3 (fun _=>False):=by rw[<-e3];exact(ab.refl _ _).alloc _
 have k3:ab w3 w4 (fun _=>False):=by rw[<-e4];exact(ab.refl _ _).alloc _
 have k4:ab w4 W (fun _=>False):=by rw[hW];exact(ab.refl _ _).alloc _
 have k0:ab w w1 (fun _=>False):=by rw[<-e1];exact(ab.refl _ _).alloc _
 have k14:=((k1.bp k2 (by simp)).bp k3 (by simp)).bp k4 (by simp)
 have k24:=(k2.bp k3 (by simp)).bp k4 (by simp)
 have k34:=k3.bp k4 (by simp)
 rw[z1] at h2
 rw[z2] at h3
 rw[z3] at h4
 rw[z4] at h5
 refine⟨(k0.bp k14 (by simp)).below (by simp),by rw[hW];simp[z4],h1.within k14 (by simp),h2.within k24 (by simp),h3.within k34 (by simp),fun lo=>⟨F Z 0 0,h5,h4.within k4 (by simp),World.ownsRow_nil _ _ _ _⟩⟩
def Ff (w:World)(text:List UInt8)(k:Nat)(W:World):Prop:=
 ∃ (ls:List (List UInt8×Int)) (rs:List Rw) (t:List UInt8),Below w.heap.size w W/\Bk W w.heap.size 24 #[F Z 0 0,I Q 0,I Q 0]/\Bk W (w.heap.size+1) 3 #[I Q 0]/\Bk W (w.heap.size+2) 29 #[I Q 0]/\
  Dr W (w.heap.size+4) (w.heap.size+3) (w.heap.size+13) ls rs/\kh ls rs k/\(bG text).drop k=bG t/\t.length<=text.length/\eG text=gV t ((k:Int)+1) ls rs
def Fe (w:World)(text:List UInt8)(c:Code)(W:World):Prop:=
 c=.ret/\∃ ln e:Int,Below w.heap.size w W/\Bk W w.heap.size 24 #[F Z 0 0,I Q 0,I Q 0]/\Bk W (w.heap.size+1) 3 #[I Q ln]/\Bk W (w.heap.size+2) 29 #[I Q e]/\eG text=(im.zero,ln,e)
theorem yM {w:World}{text:List UInt8}:∀ k,xc (fun b=>b=w.heap.size+6\/b=w.heap.size+6+1\/w.heap.size+8<=b/\b<w.heap.size+13) (Ff w text k):=by
 rintro k A B ⟨ls,rs,t,b2,q0,q1,q2,hD,hO,hdr,htl,hgo⟩ hw
 have hA:=b2.size
 exact⟨ls,rs,t,b2.trans (cr hw (by rintro b (rfl|rfl | h) <;> omega)),q0.within hw (by omega),q1.within hw (by omega),q2.within hw (by omega),hD.within hw (by omega) (by omega) (by rintro b (rfl|rfl | h) <;> omega),hO,hdr,htl,hgo⟩
theorem wj {w:World}{text:List UInt8}:∀ c,xc (fun b=>b=w.heap.size+6\/b=w.heap.size+6+1\/w.heap.size+8<=b/\b<w.heap.size+13) (Fe w text c):=by
 rintro c A B ⟨rfl,ln,e,b2,q0,q1,q2,hgo⟩ hw
 have hA:=b2.size
 exact⟨rfl,ln,e,b2.trans (cr hw (by rintro b (rfl|rfl | h) <;> omega)),q0.within hw (by omega),q1.within hw (by omega),q2.within hw (by omega),hgo⟩
def lB (W:World)(g:Nat)(sl a b ln e:Value):World:=((((W.setCell ⟨g,0,Z⟩ sl).setCell ⟨g,1,Z⟩ a).setCell ⟨g,2,Z⟩ b).setCell ⟨g+1,0,Z⟩ ln).setCell ⟨g+2,0,Z⟩ e
theorem pE {w W:World}{x0 x1 x2 y z:Value}(b2:Below w.heap.size w W)(q0:Bk W w.heap.size 24 #[x0,x1,x2])(q1:Bk W (w.heap.size+1) 3 #[y])(q2:Bk W (w.heap.size+2) 29 #[z])(sl a b ln e:Value):
 Below w.heap.size w (lB W w.heap.size sl a b ln e)/\Bk (lB W w.heap.size sl a b ln e) w.heap.size 24 #[sl,a,b]/\Bk (lB W w.heap.size sl a b ln e) (w.heap.size+1) 3 #[ln]/\Bk (lB W w.heap.size sl a b ln e) (w.heap.size+2) 29 #[e]/\
  ab W (lB W w.heap.size sl a b ln e) (fun b=>b=w.heap.size\/b=w.heap.size+1\/b=w.heap.size+2):=by
 have h0:=ed q0 sl a b
 have k0:ab W (dE W w.heap.size sl a b) (fun b=>b=w.heap.size):=(((ab.refl W (fun b=>b=w.heap.size)).put w.heap.size 0 sl (.inl rfl)).put w.heap.size 1 a (.inl rfl)).put w.heap.size 2 b (.inl rfl)
 have h1:=q1.within k0 (by omega)
 have h2:=q2.within k0 (by omega)
 have b0:=bO b2 (Zd _) sl a b
 have e9:lB W w.heap.size sl a b ln e=((dE W w.heap.size sl a b).setCell ⟨w.heap.size+1,0,Z⟩ ln).setCell ⟨w.heap.size+2,0,Z⟩ e:=rfl
 rw[e9]
 generalize dE W w.heap.size sl a b=V at *
 refine⟨(b0.setCell (by show w.heap.size<=w.heap.size+1;omega) _).setCell (by show w.heap.size<=w.heap.size+2;omega) _,(h0.off (by show w.heap.size≠w.heap.size+1;omega) _).off (by show w.heap.size≠w.heap.size+2;omega) _,
  (h1.put 0 ln).off (by show w.heap.size+1≠w.heap.size+2;omega) _,(h2.off (by show w.heap.size+2≠w.heap.size+1;omega) _).put 0 e,?_⟩
 exact((k0.wide fun i hi _=>.inl hi).put (w.heap.size+1) 0 ln (.inl (.inr (.inl rfl)))).put (w.heap.size+2) 0 e (.inl (.inr (.inr rfl)))
theorem we (text:List UInt8)(hl:text.length<80000)(w:World)(L:Lb w):Calls Tryz.prog 27 #[bs text] w (BT w text):=by
 refine(callsIn_wide (n:=0)).1 ?_
 refine callsIn_of_wp_marks Tryz.func27 rfl trivial ?_ rfl
 unfold bs
 simp only[Tryz.ntmps27,List.size_toArray,List.length_cons,List.length_nil,Nat.reduceAdd,Nat.reduceSub,Array.replicate_succ,Array.replicate_zero,List.push_toArray,List.append_toArray,List.nil_append,List.cons_append]
 have hmm:=@run_makeMap Tryz.prog
 have HNB:=Zb (fun W=>(callsIn_wide (n:=0)).2 (wa text W))
 gi_wp2
 refine⟨trivial,rfl,?_⟩
 obtain⟨b0,s0,r0,r1,r2,d0⟩:=wi w _ rfl
 generalize ((((((w.alloc (Za #[F Z 0 0,I Q 0,I Q 0] 24)).alloc (Za #[I Q 0] 3)).alloc (Za #[I Q 0] 29)).alloc (.map #[] 0)).alloc (Za #[F Z 0 0,.map (J (w.heap.size+1+1+1))] 135)))=W0 at *
 refine(HNB.out _).mono ?_
 rintro e W1 ⟨rfl,rfl⟩
 have t1:=Bk.made W0 9 #[bs text]
 have h1:ab W0 (W0.alloc (Za #[bs text] 9)) (fun _=>False):=(ab.refl _ _).alloc _
 have s1:(W0.alloc (Za #[bs text] 9)).heap.size=w.heap.size+6:=by simp[s0]
 rw[s0] at t1 ⊢
 replace b0:=b0.trans (cr h1 (B:=w.heap.size) (by simp))
 replace r0:=r0.within h1 (by simp)
 replace r1:=r1.within h1 (by simp)
 replace r2:=r2.within h1 (by simp)
 replace d0:=(d0 (w.heap.size+13)).within h1 (by simp) (by simp) (by simp)
 generalize W0.alloc (Za #[bs text] 9)=W1 at *
 clear h1 s0 HNB hmm W0
 gi_wp2
 have HI:=Zb (yM (w:=w) (text:=text))
 have HX:=Zb (wj (w:=w) (text:=text))
 refine mg (gf:=94) (lb:=#[C (J ⟨w.heap.size+5,0,Z⟩)]) rfl (enters_of Tryz.func94 (by kernel_rfl) rfl)
  (encs:=fun k=>#[I Q ((k:Int)+1),bs (ez text k)]) (N:=(bG text).length) (T:=fun x=>w.heap.size+8<=x/\x<w.heap.size+13) (fun _=>rfl) (by omega) (by omega)
  ?seq (Ff w text) (Fe w text) (by rw[s1];exact HI.out) (by rw[s1];exact HX.out) ⟨[],[],text,b0,r0,r1,r2,d0,⟨⟨by simp,by simp⟩,by simp,by simp,by simp⟩,rfl,Zd _,oM text⟩
  (fun k=>{ tmps:=#[.string ⟨text.toArray⟩,Ze,C (J ⟨w.heap.size,0,Z⟩),C (J ⟨w.heap.size+1,0,Z⟩),C (J ⟨w.heap.size+2,0,Z⟩),C (J ⟨w.heap.size+4,0,Z⟩),I Q ((k:Int)+1),.string ⟨(ez text k).toArray⟩,Ze,.map (J (w.heap.size+3)),.agg #[F Z 0 0,.map (J (w.heap.size+3))],.string ⟨text.toArray⟩,
   .func (.func 94) #[] #[C (J ⟨w.heap.size+5,0,Z⟩)],I Q ((k:Int)+1),.string ⟨(ez text k).toArray⟩,Ze,Ze,Ze,Ze,Ze,Ze,Ze,Ze,Ze,Ze,Ze,Ze],defers:=[] }) ?assign ?body ?done ?stop
 case seq=>
  intro W4 hb4 hz4
  have hz:W4.heap.size=w.heap.size+8:=by omega
  have:=qu text (w.heap.size+5) (W1.heap.size+1) W4 ((hb4.block _ (by omega)).trans t1) (by omega)
  rw[hz] at this
  exact this
 case assign=>
  intro l2 k W K hK
  unfold bs
  gi_wp2
  exact hK
 case body=>
  rintro l2 k W hk ⟨ls,rs,t,b2,q0,q1,q2,hD,hO,hdr,htl,hgo⟩ hT
  simp only[s1] at hT ⊢
  have hsz:w.heap.size+13<=W.heap.size:=hT (w.heap.size+12) (.inr (.inr ⟨by omega,by omega⟩))
  have hne:t≠[]:=by
   rintro rfl
   have:=congrArg List.length hdr
   simp[bG] at this
   omega
  have hkl:k<1000000:=Nat.lt_of_lt_of_le hk (Nat.le_trans (kH text) (by omega))
  obtain⟨v0,v1,v2,v3,v4⟩:W.cell? ⟨w.heap.size,0,Z⟩=J (F Z 0 0)/\W.cell? ⟨w.heap.size,1,Z⟩=J (I Q 0)/\W.cell? ⟨w.heap.size,2,Z⟩=J (I Q 0)/\W.cell? ⟨w.heap.size+1,0,Z⟩=J (I Q 0)/\W.cell? ⟨w.heap.size+2,0,Z⟩=J (I Q 0):=⟨q0.cell 0,q0.cell 1,q0.cell 2,q1.cell 0,q2.cell 0⟩
  have g0:=q0.free
  have g1:=q1.free 0
  have g2:=q2.free 0
  rcases jX t with hn | ⟨s,r,hn,rfl⟩
  ·have hline:ez text k=t:=by
    have:=congrArg List.head? hdr
    rw[eX t hn hne] at this
    simp[List.head?_drop] at this
    simp[ez,List.getD_eq_getElem?_getD,this]
   have hres:eG text=(im.zero,(k:Int)+1,8):=by rw[hgo,iW t hn,if_pos hne]
   have HA:=Zb (CallsIn.inRound l2 ((callsIn_wide (n:=0)).2 (BC hD t (fun u e=>hn 10 (by rw[e];simp) rfl) (by omega) ((k:Int)+1))))
   rw[hline]
   obtain⟨p0,p1,p2,p3,p4⟩:=pE b2 q0 q1 q2 (F Z 0 0) (I Q 0) (I Q 0) (I Q ((k:Int)+1)) (I Q 8)
   clear hgo hdr hD hO HI HX
   gi_wp2
   refine⟨trivial,rfl,HA.out.mono ?_⟩
   rintro e W5 ⟨rfl,rfl⟩
   gi_wp2
   exact⟨gI.kF p4 (fun b hb=>⟨hT b hb,by omega⟩),rfl,(k:Int)+1,8,p0,p1,p2,p3,hres⟩
  ·have hline:ez text k=s++[10]:=by
    have:=congrArg List.head? hdr
    rw[eD s r hn] at this
    simp[List.head?_drop] at this
    simp[ez,List.getD_eq_getElem?_getD,this]
   have hdr2:(bG text).drop (k+1)=bG r:=by
    have:=congrArg List.tail hdr
    rw[eD s r hn] at this
    simpa [List.tail_drop] using this
   have hle:s.length+(r.length+1)<=text.length:=by simpa using htl
   rw[Dp s r hn] at hgo
   have HA:=Zb (CallsIn.inRound l2 ((callsIn_wide (n:=0)).2 (ET hD hsz (L.below b2) s (by omega) ((k:Int)+1) (by have:=hO.many;omega) hO.few)))
   have HK:Hid ((ie s ((k:Int)+1) ls rs).1=0->kh (ie s ((k:Int)+1) ls rs).2.1 (ie s ((k:Int)+1) ls rs).2.2 (k+1)):=Zb fun e=>hO.add s _ e
   have HG:=Zb hgo
   rw[hline]
   clear hgo hdr hD hO HI HX
   generalize ie s ((k:Int)+1) ls rs=ad at *
   obtain⟨er,ls2,rs2⟩:=ad
   gi_wp2
   refine⟨trivial,rfl,HA.out.mono ?_⟩
   rintro e W5 ⟨rfl,hD5,hW5⟩
   simp only at hD5 hW5 HK HG ⊢
   clear HA v0 v1 v2 v3 v4 g0 g1 g2
   replace b2:=b2.trans (cr hW5 (B:=w.heap.size) (by rintro b (rfl|rfl | h) <;> omega))
   replace q0:=q0.within hW5 (by rintro(h | h | h) <;> omega)
   replace q1:=q1.within hW5 (by rintro(h | h | h) <;> omega)
   replace q2:=q2.within hW5 (by rintro(h | h | h) <;> omega)
   have hH:gI (fun b=>b=w.heap.size+6\/b=w.heap.size+6+1\/w.heap.size+8<=b/\b<w.heap.size+13) W W5:=gI.kF hW5 (fun b hb=>⟨hT b hb,by rintro(h | h | h) <;> omega⟩)
   by_cases her:er=0
   ·subst her
    gi_wp2
    refine⟨hH,ls2,rs2,r,b2,q0,q1,q2,hD5,HK.out (by trivial),hdr2,by omega,?_⟩
    rw[HG.out]
    simp
   ·have her2:(er != 0)=true:=by simpa using her
    have hres:eG text=(im.zero,(k:Int)+1,er):=by rw[HG.out,if_neg her]
    obtain⟨v0,v1,v2,v3,v4⟩:W5.cell? ⟨w.heap.size,0,Z⟩=J (F Z 0 0)/\W5.cell? ⟨w.heap.size,1,Z⟩=J (I Q 0)/\W5.cell? ⟨w.heap.size,2,Z⟩=J (I Q 0)/\W5.cell? ⟨w.heap.size+1,0,Z⟩=J (I Q 0)/\W5.cell? ⟨w.heap.size+2,0,Z⟩=J (I Q 0):=⟨q0.cell 0,q0.cell 1,q0.cell 2,q1.cell 0,q2.cell 0⟩
    have g0:=q0.free
    have g1:=q1.free 0
    have g2:=q2.free 0
    obtain⟨p0,p1,p2,p3,p4⟩:=pE b2 q0 q1 q2 (F Z 0 0) (I Q 0) (I Q 0) (I Q ((k:Int)+1)) (I Q er)
    clear HK HG hD5 her
    gi_wp2
    exact⟨hH.trans (gI.kF p4 (fun b hb=>⟨Nat.lt_of_lt_of_le (hT b hb) hH.1,by omega⟩)),rfl,(k:Int)+1,er,p0,p1,p2,p3,hres⟩
 case done=>
  rintro W ⟨ls,rs,t,b2,q0,q1,q2,hD,hO,hdr,htl,hgo⟩ hd
  have ht:t=[]:=by
   rw[List.drop_of_length_le (Zd _)] at hdr
   cases t with
   | nil=>rfl
   | cons c u=>
    exfalso
    rcases jX (c :: u) with hn | ⟨s,r,hn,e⟩
    ·rw[eX _ hn (by simp)] at hdr;cases hdr
    ·rw[e,eD s r hn] at hdr;cases hdr
  subst ht
  rw[iW [] (by unfold Nl;simp),if_neg (by simp)] at hgo
  have HC:=Zb ((callsIn_wide (n:=0)).2 (EQ hD hO.few hO.lab hO.names))
  rw[<-hgo] at HC
  clear hgo hD hO hdr htl
  gi_wp2
  refine⟨trivial,rfl,HC.out.mono ?_⟩
  rintro e W5 ⟨v,rfl,⟨sl,rfl,hP⟩,hB⟩
  have hz:=b2.size
  have hlt:=q2.lt
  have kt:=(Array.getElem?_eq_some_iff.1 hd).1
  replace q0:Bk W5 _ _ _:=(hB.block _ q0.lt).trans q0
  replace q1:Bk W5 _ _ _:=(hB.block _ q1.lt).trans q1
  replace q2:Bk W5 _ _ _:=(hB.block _ q2.lt).trans q2
  replace hd:=(hB.block _ kt).trans hd
  replace b2:=b2.trans (hB.mono hz)
  obtain⟨v0,v1,v2,v3,v4⟩:W5.cell? ⟨w.heap.size,0,Z⟩=J (F Z 0 0)/\W5.cell? ⟨w.heap.size,1,Z⟩=J (I Q 0)/\W5.cell? ⟨w.heap.size,2,Z⟩=J (I Q 0)/\W5.cell? ⟨w.heap.size+1,0,Z⟩=J (I Q 0)/\W5.cell? ⟨w.heap.size+1+1,0,Z⟩=J (I Q 0):=⟨q0.cell 0,q0.cell 1,q0.cell 2,q1.cell 0,q2.cell 0⟩
  have g0:=q0.free
  have g1:=q1.free 0
  have g2:W5.frozen? ⟨w.heap.size+1+1,0,Z⟩=G:=q2.free 0
  obtain⟨sa,scap,rfl,_,_,_⟩:=bt hP
  rw[s1] at hd
  have HR:Hid (BT w text=fun e w'=>∃ v,e=.returned (.tuple #[v,I Q (eG text).2.1,I Q (eG text).2.2])/\Pg w' w.heap.size v (eG text).1/\Below w.heap.size w w'):=Zb rfl
  generalize eG text=res at *
  obtain⟨⟨l,plo,pun⟩,ln,er⟩:=res
  simp only at hP q0 q1 q2 v0 v1 v2 v3 v4 g0 g1 g2 hd b2 ⊢
  obtain⟨p0,p1,p2,p3,p4⟩:=pE b2 q0 q1 q2 (F sa l.length scap) (I Q plo) (I Q pun) (I Q ln) (I Q er)
  have hP2:=aq hP p4 (fun b e e2=>by
   obtain⟨cs,hcs⟩:=bf hP e
   rcases e2 with rfl|rfl|rfl
   ·exact Bk.aj hcs q0 (by decide) rfl
   ·exact Bk.aj hcs q1 (by decide) rfl
   ·exact Bk.aj hcs q2 (by decide) rfl)
  have hd2:=(p4.block _ (Array.getElem?_eq_some_iff.1 hd).1 (by omega)).trans hd
  replace hP2:=World.ownsRow.mono (base':=w.heap.size) hP2 hz
  gi_wp2
  generalize hv:((((W5.setCell ⟨w.heap.size,0,Z⟩ (F sa l.length scap)).setCell ⟨w.heap.size,1,Z⟩ (I Q plo)).setCell ⟨w.heap.size,2,Z⟩ (I Q pun)).setCell ⟨w.heap.size+1,0,Z⟩ (I Q ln)).setCell ⟨w.heap.size+1+1,0,Z⟩ (I Q er)=V
  replace hv:lB W5 w.heap.size (F sa l.length scap) (I Q plo) (I Q pun) (I Q ln) (I Q er)=V:=hv
  rw[hv] at p0 p1 p2 p3 p4 hP2 hd2
  refine⟨by simp,.inl ⟨_,_,rfl,run_takeDeferred hd2,?_⟩⟩
  have hpo:=cE V (w.heap.size+6) (.deferred Z) (fun b=>b=w.heap.size+6) rfl
  replace p1:=p1.within hpo (by omega)
  replace p2:=p2.within hpo (by omega)
  replace p3:=p3.within hpo (by omega)
  replace hP2:=aq hP2 hpo (fun b e e2=>by
   obtain⟨cs,hcs⟩:=bf hP2 e
   rw[e2] at hcs
   unfold Bk at hcs
   rw[hd2] at hcs
   cases hcs)
  replace p0:=p0.trans (cr hpo (B:=w.heap.size) (by rintro b rfl;omega) p0.size)
  generalize V.putObj (w.heap.size+6) (.deferred Z)=V2 at *
  obtain⟨y0,y1,y2,y3,y4⟩:V2.cell? ⟨w.heap.size,0,Z⟩=J (F sa l.length scap)/\V2.cell? ⟨w.heap.size,1,Z⟩=J (I Q plo)/\V2.cell? ⟨w.heap.size,2,Z⟩=J (I Q pun)/\V2.cell? ⟨w.heap.size+1,0,Z⟩=J (I Q ln)/\V2.cell? ⟨w.heap.size+1+1,0,Z⟩=J (I Q er):=⟨p1.cell 0,p1.cell 1,p1.cell 2,p2.cell 0,p3.cell 0⟩
  refine⟨.tuple #[.agg #[F sa l.length scap,I Q plo,I Q pun],I Q ln,I Q er],by simp[results,Tryz.results27,go_sem,y0,y1,y2,y3,y4],?_⟩
  rw[HR.out]
  exact⟨_,rfl,⟨_,rfl,hP2⟩,p0⟩
 case stop=>
  rintro c W ⟨rfl,ln,er,b2,q0,q1,q2,hgo⟩ hd
  gi_wp2
  refine⟨by simp,.inl ⟨_,_,rfl,run_takeDeferred hd,?_⟩⟩
  have hpo:=cE W W1.heap.size (.deferred Z) (fun b=>b=W1.heap.size) rfl
  replace q0:=q0.within hpo (by omega)
  replace q1:=q1.within hpo (by omega)
  replace q2:=q2.within hpo (by omega)
  have p0:=b2.trans (cr hpo (B:=w.heap.size) (by rintro b rfl;omega) b2.size)
  generalize W.putObj W1.heap.size (.deferred Z)=V2 at *
  obtain⟨y0,y1,y2,y3,y4⟩:V2.cell? ⟨w.heap.size,0,Z⟩=J (F Z 0 0)/\V2.cell? ⟨w.heap.size,1,Z⟩=J (I Q 0)/\V2.cell? ⟨w.heap.size,2,Z⟩=J (I Q 0)/\V2.cell? ⟨w.heap.size+1,0,Z⟩=J (I Q ln)/\V2.cell? ⟨w.heap.size+1+1,0,Z⟩=J (I Q er):=⟨q0.cell 0,q0.cell 1,q0.cell 2,q1.cell 0,q2.cell 0⟩
  refine⟨.tuple #[.agg #[F Z 0 0,I Q 0,I Q 0],I Q ln,I Q er],by simp[results,Tryz.results27,go_sem,y0,y1,y2,y3,y4],?_⟩
  unfold BT
  rw[hgo]
  exact⟨_,rfl,⟨_,rfl,World.ownsRow_nil _ _ _ _⟩,p0⟩
end
section
open Go.ChangeShapes Go.WideShapes Go.ChangeAt Go.RowKit
section
variable {w wr w2:World}{p x n each each' c:Nat}{M M2:PM}{R R2:RM}{free:Nat->List Nat}{gen out:List Int}{fr:Nat->List Int}{os:Int->Bool}{hv:Value}{had:List Int}
theorem Rf.bk (h:Rf w x n each R free gen out){i:Nat}(k:R.Has n i):∃ t cs,Bk w i t cs/\(t=25\/t=3):=by
 rcases k with e | e | e | ⟨s,hs,e⟩
 ·obtain⟨cs,hc⟩:=h.row.bk e;exact⟨_,cs,hc,.inl rfl⟩
 ·obtain⟨cs,hc⟩:=h.gens.bk e;exact⟨_,cs,hc,.inr rfl⟩
 ·obtain⟨cs,hc⟩:=h.outs.bk e;exact⟨_,cs,hc,.inr rfl⟩
 ·obtain⟨cs,hc⟩:=(h.frees s hs).bk e;exact⟨_,cs,hc,.inr rfl⟩
theorem Rf.dz (h:Rf w x n each R free gen out){q:Nat}{t:TypeId}{cs:Array Value}(k:Bk w q t cs)(h1:t≠25)(h2:t≠3):¬ R.Has n q:=fun e=>by
 obtain⟨t',cs',hc,ht⟩:=h.bk e
 have:t=t':=by unfold Bk at k hc;rw[k] at hc;injection hc with hc;injection hc
 subst this
 rcases ht with e | e
 ·exact h1 e
 ·exact h2 e
theorem Pl.off (hp:Pl w p n each M fr os c)(hr:Rf w x n each' R free gen out){i:Nat}(k:M.Has n i):¬ R.Has n i:=fun e=>by
 obtain⟨t,cs,hc,ht⟩:=hr.bk e
 rcases ht with rfl|rfl
 ·exact hp.dz hc (by decide) (by decide) k
 ·exact hp.dz hc (by decide) (by decide) k
end
def qd (x:List UInt8×Int):List Value:=[bs x.1,I Q x.2]
theorem xO (x:List UInt8×Int):(qd x).length=2:=rfl
def lI (ls:List (List UInt8×Int)):List Value:=ls.flatMap qd
theorem sI (ls:List (List UInt8×Int))(x:List UInt8×Int):lI (ls++[x])=lI ls++qd x:=by simp[lI]
theorem qT {ls:List (List UInt8×Int)}{k:Nat}{x:List UInt8×Int}(h:ls[k]?=J x){j:Nat}(hj:j<2):(lI ls)[k*2+j]?=(qd x)[j]?:=l8 qd 2 xO ls k j x h hj
theorem xN (x:List UInt8×Int):∀ u∈qd x,u.oneCell'=true:=by
 intro u hu
 simp only[qd,List.mem_cons,List.not_mem_nil,or_false] at hu
 rcases hu with rfl|rfl <;> rfl
theorem AX:(Tryz.prog.info? 145).map (fun i=>(i.zero,i.size,i.bytes))=J (J (.agg #[bs [],I Q 0]),2,24):=by kernel_rfl
theorem Ak:(Tryz.prog.info? 9).map (fun i=>(i.zero,i.size,i.bytes))=J (J (bs []),1,16):=by kernel_rfl
theorem Bh:(Tryz.prog.info? 3).map (fun i=>(i.zero,i.size,i.bytes))=J (J (I Q 0),1,8):=by kernel_rfl
structure nT (w W:World)(is:List aN)(ls:List (List UInt8×Int))(ns:List (List UInt8))(ks:List Int)(vi vl vn vk:Value):Prop where
 b:Below w.heap.size w W
 r:Bk W w.heap.size 34 #[F Z 0 0,I Q 0,I Q 0]
 o:Bk W (w.heap.size+1) 34 #[vi,I Q 0,I Q 0]
 i:W.ownsRow w.heap.size 123 8 vi is.length (bE is)
 l:W.ownsRow w.heap.size 145 2 vl ls.length (lI ls)
 n:W.ownsRow w.heap.size 9 1 vn ns.length (ns.map bs)
 k:W.ownsRow w.heap.size 3 1 vk ks.length (ks.map (Value.int .i64))
section
variable {w W X w':World}{is:List aN}{ls:List (List UInt8×Int)}{ns:List (List UInt8)}{ks:List Int}{vi vl vn vk v':Value}
theorem bJ {base n size n2 size2 base2:Nat}{t t2:TypeId}{v v2:Value}{xs ys:List Value}(h:W.ownsRow base t size v n xs)(h2:W.ownsRow base2 t2 size2 v2 n2 ys)(ht:t≠t2):∀ g,v.ownBlock=J g->¬ J g=v2.ownBlock:=fun g e e2=>by
 obtain⟨cs,hc⟩:=bf h e
 obtain⟨FZ,hc2⟩:=bf h2 e2.symm
 exact Bk.aj hc hc2 ht rfl
theorem bX {base n size g:Nat}{t t2:TypeId}{v:Value}{xs:List Value}{cs:Array Value}(h:W.ownsRow base t size v n xs)(h2:Bk W g t2 cs)(ht:t≠t2):¬ J g=v.ownBlock:=fun e=>by
 obtain⟨FZ,hc2⟩:=bf h e.symm
 exact Bk.aj hc2 h2 ht rfl
theorem nT.below (h:nT w W is ls ns ks vi vl vn vk)(hb:Below W.heap.size W X):nT w X is ls ns ks vi vl vn vk:=
 ⟨h.b.trans (hb.mono h.b.size),(hb.block _ h.r.lt).trans h.r,(hb.block _ h.o.lt).trans h.o,aq h.i (ay hb) (by simp),aq h.l (ay hb) (by simp),aq h.n (ay hb) (by simp),aq h.k (ay hb) (by simp)⟩
theorem gO {v:Value}(hX:Below W.heap.size W X)(hg:X.grownBy w' v.ownBlock):ab W w' (fun b=>J b=v.ownBlock):=
 ((ay hX).wide (by simp)).bp (.az (S:=fun b=>J b=v.ownBlock) hg (by rintro i e;exact .inl e.symm)) (by rintro i e;exact .inl e)
theorem gM {v:Value}{base n size:Nat}{t:TypeId}{xs:List Value}(hb:Below base w W)(hs:base<=W.heap.size)(h:W.ownsRow base t size v n xs)(hW:ab W w' (fun b=>J b=v.ownBlock)):Below base w w':=
 hb.trans (cr hW (B:=base) (fun b e=>(World.ownsRow.lt h b e.symm).1) hs)
theorem nT.lab (h:nT w W is ls ns ks vi vl vn vk)(hX:Below W.heap.size W X)(hg:X.grownBy w' vl.ownBlock){x:List UInt8×Int}(ho:w'.ownsRow w.heap.size 145 2 v' (ls.length+1) (lI ls++qd x)):nT w w' is (ls++[x]) ns ks vi v' vn vk:=by
 have hW:=gO hX hg
 exact⟨gM h.b h.b.size h.l hW,h.r.within hW (bX h.l h.r (by decide)),h.o.within hW (bX h.l h.o (by decide)),aq h.i hW (bJ h.i h.l (by decide)),by rw[sI,List.length_append];exact ho,aq h.n hW (bJ h.n h.l (by decide)),aq h.k hW (bJ h.k h.l (by decide))⟩
theorem nT.Ge (h:nT w W is ls ns ks vi vl vn vk)(hX:Below W.heap.size W X)(hg:X.grownBy w' vn.ownBlock){x:List UInt8}(ho:w'.ownsRow w.heap.size 9 1 v' (ns.length+1) (ns.map bs++[bs x])):nT w w' is ls (ns++[x]) ks vi vl v' vk:=by
 have hW:=gO hX hg
 exact⟨gM h.b h.b.size h.n hW,h.r.within hW (bX h.n h.r (by decide)),h.o.within hW (bX h.n h.o (by decide)),aq h.i hW (bJ h.i h.n (by decide)),aq h.l hW (bJ h.l h.n (by decide)),by rw[List.map_append,List.length_append];exact ho,aq h.k hW (bJ h.k h.n (by decide))⟩
theorem nT.Gg (h:nT w W is ls ns ks vi vl vn vk)(hX:Below W.heap.size W X)(hg:X.grownBy w' vk.ownBlock){x:Int}(ho:w'.ownsRow w.heap.size 3 1 v' (ks.length+1) (ks.map (Value.int .i64)++[I Q x])):nT w w' is ls ns (ks++[x]) vi vl vn v':=by
 have hW:=gO hX hg
 exact⟨gM h.b h.b.size h.k hW,h.r.within hW (bX h.k h.r (by decide)),h.o.within hW (bX h.k h.o (by decide)),aq h.i hW (bJ h.i h.k (by decide)),aq h.l hW (bJ h.l h.k (by decide)),aq h.n hW (bJ h.n h.k (by decide)),by rw[List.map_append,List.length_append];exact ho⟩
theorem nT.mid (h:nT w W is ls ns ks vi vl vn vk)(hX:Below W.heap.size W X)(hg:X.grownBy w' vi.ownBlock):Bk w' (w.heap.size+1) 34 #[vi,I Q 0,I Q 0]:=
 h.o.within (gO hX hg) (bX h.i h.o (by decide))
theorem nT.ins (h:nT w W is ls ns ks vi vl vn vk)(hX:Below W.heap.size W X)(hg:X.grownBy w' vi.ownBlock){x:aN}(ho:w'.ownsRow w.heap.size 123 8 v' (is.length+1) (bE is++ju x)):nT w (w'.setCell ⟨w.heap.size+1,0,Z⟩ v') (is++[x]) ls ns ks v' vl vn vk:=by
 have hW:=gO hX hg
 have hB:=gM h.b h.b.size h.i hW
 have h2:ab w' (w'.setCell ⟨w.heap.size+1,0,Z⟩ v') (fun b=>b=w.heap.size+1):=(ab.refl w' _).put _ _ _ (.inl rfl)
 have hr:=h.r.within hW (bX h.i h.r (by decide))
 have hO:=h.o.within hW (bX h.i h.o (by decide))
 have hl:=aq h.l hW (bJ h.l h.i (by decide))
 have hn:=aq h.n hW (bJ h.n h.i (by decide))
 have hk:=aq h.k hW (bJ h.k h.i (by decide))
 refine⟨hB.setCell (by show w.heap.size<=w.heap.size+1;omega) _,hr.within h2 (by omega),hO.put 0 v',?_,aq hl h2 ?_,aq hn h2 ?_,aq hk h2 ?_⟩
 ·rw[mo,List.length_append]
  refine aq ho h2 ?_
  rintro g e rfl
  exact bX ho hO (by decide) e.symm
 ·rintro g e rfl
  exact bX hl hO (by decide) e.symm
 ·rintro g e rfl
  exact bX hn hO (by decide) e.symm
 ·rintro g e rfl
  exact bX hk hO (by decide) e.symm
theorem nT.wG (h:nT w W is ls ns ks vi vl vn vk):∃ a cap,vl=F a ls.length cap/\ls.length<=cap/\cap<=maxLen/\zX W a ls:=by
 obtain⟨a,cap,rfl,h1,h2,hg⟩:=bt h.l
 refine⟨a,cap,rfl,h1,h2,fun j x hx=>?_⟩
 have hj:=(List.getElem?_eq_some_iff.1 hx).1
 obtain⟨g,rfl,_,_,hlt,_,hc⟩:=hg (by omega)
 refine⟨g,rfl,hlt,?_,?_⟩
 ·have:=hc (j*2) (by omega)
  rw[this]
  have:=qT hx (j:=0) (by omega)
  rw[Nat.add_zero] at this
  rw[this]
  rfl
 ·have:=hc (j*2+1) (by omega)
  rw[this,qT hx (j:=1) (by omega)]
  rfl
end
theorem tI {W:World}{base n m cap:Nat}{t:TypeId}{a:Option Addr}{xs:List Value}(h:W.ownsRow base t 1 (F a m cap) n xs){j:Nat}{u:Value}(hj:xs[j]?=J u):∃ g,a=J ⟨g,0,Z⟩/\g<W.heap.size/\W.cell? ⟨g,j,Z⟩=J u:=by
 have hl:=h.1
 have hlt:=(List.getElem?_eq_some_iff.1 hj).1
 obtain⟨a2,cap2,e,_,_,hg⟩:=bt h
 simp only[Value.slice.injEq] at e
 obtain⟨rfl,-,-⟩:=e
 obtain⟨g,rfl,_,_,hgl,_,hc⟩:=hg (by omega)
 exact⟨g,rfl,hgl,by rw[hc j (by omega),hj]⟩
theorem oh:∀ (l:List aN) (j:Nat) (i:aN) (p:Int),l[j]?=J i->bE (l.set j { i with pl:=p })=(bE l).set (j*8+7) (I Q p)
 | [],j,i,p,h=>by simp at h
 | x :: l,0,i,p,h=>by
  simp at h
  subst h
  rfl
 | x :: l,j+1,i,p,h=>by
  have ih:=oh l j i p (by simpa using h)
  have e:(j+1)*8+7=8+(j*8+7):=by omega
  show ju x++bE (l.set j { i with pl:=p })=(ju x++bE l).set ((j+1)*8+7) _
  rw[ih,e,List.set_append_right _ _ (by rw[jW];omega),jW]
  congr 2
  omega
theorem nT.place {w W:World}{is:List aN}{ls:List (List UInt8×Int)}{ns:List (List UInt8)}{ks:List Int}{vl vn vk:Value}{a:Option Addr}{n cap:Nat}(h:nT w W is ls ns ks (F a n cap) vl vn vk){j:Nat}{i:aN}(hj:is[j]?=J i):∃ g,a=J ⟨g,0,Z⟩/\g<W.heap.size/\w.heap.size<=g/\W.cell? ⟨g,j*8+7,Z⟩=J (I Q i.pl)/\(∀ o,W.frozen? ⟨g,o,Z⟩=G):=by
 have hlt:=(List.getElem?_eq_some_iff.1 hj).1
 obtain⟨a2,cap2,e,_,_,hg⟩:=bt h.i
 simp only[Value.slice.injEq] at e
 obtain⟨rfl,-,-⟩:=e
 obtain⟨g,rfl,_,hge,hgl,hf,hc⟩:=hg (by omega)
 refine⟨g,rfl,hgl,hge,?_,hf⟩
 rw[hc _ (by omega),m6 hj (by omega)]
 rfl
theorem nT.F7 {w W:World}{is:List aN}{ls:List (List UInt8×Int)}{ns:List (List UInt8)}{ks:List Int}{vl vn vk:Value}{g n cap:Nat}(h:nT w W is ls ns ks (F (J ⟨g,0,Z⟩) n cap) vl vn vk){j:Nat}{i:aN}(hj:is[j]?=J i)(p:Int):
 nT w (W.setCell ⟨g,j*8+7,Z⟩ (I Q p)) (is.set j { i with pl:=p }) ls ns ks (F (J ⟨g,0,Z⟩) n cap) vl vn vk:=by
 have hn:n=is.length:=by
  obtain⟨a2,cap2,e,_,_,_⟩:=bt h.i
  simp only[Value.slice.injEq] at e
  exact e.2.1
 subst hn
 have h2:ab W (W.setCell ⟨g,j*8+7,Z⟩ (I Q p)) (fun b=>J b=(Value.slice (J ⟨g,0,Z⟩) is.length cap).ownBlock):=(ab.refl W _).put _ _ _ (.inl rfl)
 refine⟨gM h.b h.b.size h.i h2,h.r.within h2 (bX h.i h.r (by decide)),h.o.within h2 (bX h.i h.o (by decide)),?_,aq h.l h2 (bJ h.l h.i (by decide)),aq h.n h2 (bJ h.n h.i (by decide)),aq h.k h2 (bJ h.k h.i (by decide))⟩
 rw[oh is j i p hj,List.length_set]
 exact(World.ownsRow.stored h.i (j*8+7) (I Q p)).1
structure qD (text:List UInt8)(fr k ln:Nat)(ls:List (List UInt8×Int))(rs:List (aN×List UInt8×Int)):Prop where
 fk:fr<=k
 lk:ln<=k
 few:rs.length<=64
 many:ls.length<=k
 no:Nl ((text.take k).drop fr)
 go:eG text=gV (text.drop fr) ((ln:Int)+1) ls rs
section
variable {text:List UInt8}{fr k ln:Nat}{ls:List (List UInt8×Int)}{rs:List (aN×List UInt8×Int)}
theorem yx (h:fr<=k)(hk:k<text.length):(text.take (k+1)).drop fr=(text.take k).drop fr++[text[k]]:=by
 have e:text.take (k+1)=text.take k++[text[k]]:=by simp
 rw[e,List.drop_append,List.length_take,Nat.min_eq_left (by omega),show fr-k=0 by omega]
 rfl
theorem vW (h:fr<=k)(hk:k<text.length):text.drop fr=(text.take k).drop fr++text[k] :: text.drop (k+1):=by
 have e:text=text.take k++text[k] :: text.drop (k+1):=by
  rw[List.getElem_cons_drop hk,List.take_append_drop]
 have e2:text.drop fr=(text.take k++text[k] :: text.drop (k+1)).drop fr:=congrArg (List.drop fr) e
 rw[e2,List.drop_append,List.length_take,Nat.min_eq_left (by omega),show fr-k=0 by omega]
 rfl
theorem qD.on (h:qD text fr k ln ls rs)(hk:k<text.length)(hc:text[k]≠10):qD text fr (k+1) ln ls rs:=by
 refine⟨by have:=h.fk;omega,by have:=h.lk;omega,h.few,by have:=h.many;omega,?_,h.go⟩
 rw[yx h.fk hk]
 exact Nl.app h.no (fun c hc'=>by simp at hc';subst hc';exact hc)
theorem qD.line (h:qD text fr k ln ls rs)(hk:k<text.length)(hc:text[k]=10):eG text=gV ((text.take k).drop fr++10 :: text.drop (k+1)) ((ln:Int)+1) ls rs:=by
 rw[h.go,vW h.fk hk,hc]
theorem qD.next (h:qD text fr k ln ls rs)(hk:k<text.length){ls2:List (List UInt8×Int)}{rs2:List (aN×List UInt8×Int)}(hf:rs2.length<=64)(hm:ls2.length<=ls.length+1)(hg:eG text=gV (text.drop (k+1)) ((ln:Int)+1+1) ls2 rs2):qD text (k+1) (k+1) (ln+1) ls2 rs2:=by
 refine⟨Zd _,by have:=h.lk;omega,hf,by have:=h.many;omega,?_,by rw[hg];push_cast;rfl⟩
 intro c hc
 rw[List.drop_of_length_le (by simp;omega)] at hc
 cases hc
theorem qD.Ee (h:qD text fr k ln ls rs)(hk:k<text.length)(hc:text[k]=10)(hl:qg ((text.take k).drop fr)=true)(ha:(ls.any fun x=>x.1==((text.take k).drop fr).dropLast)=true):eG text=(im.zero,(ln:Int)+1,2):=by
 rw[h.line hk hc,eY _ _ h.no,if_pos hl,if_pos ha]
theorem qD.label (h:qD text fr k ln ls rs)(hk:k<text.length)(hc:text[k]=10)(hl:qg ((text.take k).drop fr)=true)(ha:(ls.any fun x=>x.1==((text.take k).drop fr).dropLast)=G):qD text (k+1) (k+1) (ln+1) (ls++[(((text.take k).drop fr).dropLast,(rs.length:Int))]) rs:=
 h.next hk h.few (by simp) (by rw[h.line hk hc,eY _ _ h.no,if_pos hl,if_neg (by rw[ha];simp)])
theorem qD.none_ (h:qD text fr k ln ls rs)(hk:k<text.length)(hc:text[k]=10)(hl:qg ((text.take k).drop fr)=G)(hn:d9 ((text.take k).drop fr)=Z):eG text=(im.zero,(ln:Int)+1,8):=by
 rw[h.line hk hc,eY _ _ h.no,if_neg (by rw[hl];simp),hn]
theorem qD.DT (h:qD text fr k ln ls rs)(hk:k<text.length)(hc:text[k]=10)(hl:qg ((text.take k).drop fr)=G){i:aN}{nm:List UInt8}(hn:d9 ((text.take k).drop fr)=J (i,nm))(hb:64<=rs.length):eG text=(im.zero,(ln:Int)+1,9):=by
 rw[h.line hk hc,eY _ _ h.no,if_neg (by rw[hl];simp),hn]
 simp only
 rw[if_pos hb]
theorem qD.row (h:qD text fr k ln ls rs)(hk:k<text.length)(hc:text[k]=10)(hl:qg ((text.take k).drop fr)=G){i:aN}{nm:List UInt8}(hn:d9 ((text.take k).drop fr)=J (i,nm))(hb:rs.length<64):qD text (k+1) (k+1) (ln+1) ls (rs++[(i,nm,(ln:Int)+1)]):=
 h.next hk (by simp;omega) (by omega) (by
  rw[h.line hk hc,eY _ _ h.no,if_neg (by rw[hl];simp),hn]
  simp only
  rw[if_neg (by omega)])
theorem qD.short (h:qD text fr text.length ln ls rs)(hf:fr<text.length):eG text=(im.zero,(ln:Int)+1,8):=by
 have hn:=h.no
 rw[List.take_length] at hn
 rw[h.go,iW _ hn,if_pos (by intro e;have:=congrArg List.length e;simp at this;omega)]
theorem qD.end_ (h:qD text fr text.length ln ls rs)(hf:¬ fr<text.length):eG text=dP ls rs:=by
 have hn:=h.no
 rw[List.take_length] at hn
 rw[h.go,iW _ hn,if_neg (by rw[List.drop_of_length_le (by omega)];simp)]
end
def zZ (w:World)(text:List UInt8)(e:Ending)(w':World):Prop:=
 ∃ v,e=.returned (.tuple #[v,I Q (eG text).2.1,I Q (eG text).2.2])/\(∃ sl,v=.agg #[sl,I Q (eG text).1.lo,I Q (eG text).1.un]/\w'.ownsRow w.heap.size 123 8 sl (eG text).1.l.length (bE (eG text).1.l))/\Below w.heap.size w w'
theorem ik {w w':World}{text:List UInt8}{n e:Int}(h:eG text=(im.zero,n,e))(hb:Below w.heap.size w w'):zZ w text (.returned (.tuple #[.agg #[F Z 0 0,I Q 0,I Q 0],I Q n,I Q e])) w':=by
 unfold zZ
 rw[h]
 exact⟨_,rfl,⟨_,rfl,World.ownsRow_nil _ _ _ _⟩,hb⟩
def fz (cs:Nat->kX)(n:Nat):List Value:=(List.range n).flatMap fun t=>dd (cs t).xs (cs t).pc
theorem mY {xs:List Int}{pc:Int}(h:xs.length=8):(dd xs pc).length=9:=by simp[dd,h]
section
variable {cs:Nat->kX}{n:Nat}
theorem mw (h:∀ t,t<n->bh (cs t).xs):(fz cs n).length=n*9:=by
 unfold fz
 rw[nl _ 9 _ (fun t ht=>mY (h t (List.mem_range.1 ht)).1),List.length_range]
theorem kO (h:∀ t,t<n->bh (cs t).xs){t j:Nat}(ht:t<n)(hj:j<9):(fz cs n)[t*9+j]?=(dd (cs t).xs (cs t).pc)[j]?:=
 nn _ 9 _ (fun t ht=>mY (h t (List.mem_range.1 ht)).1) t j t (by simp[ht]) hj
theorem tm (h:∀ t,t<n->bh (cs t).xs){t:Nat}(ht:t<n){c:kX}(hc:bh c.xs):tG (fz cs n) (t*9) (dd c.xs c.pc)=fz (fA cs t c) n:=by
 have h2:=eW (n:=n) h hc t
 apply List.ext_getElem?
 intro i
 have hl:=mw h
 have hl2:=mw h2
 have hcl:=mY (pc:=c.pc) hc.1
 have hle:t*9+9<=n*9:=by omega
 rw[pD _ _ _ _ (by rw[hcl,hl];exact hle),hcl]
 by_cases hi:i<n*9
 ·obtain⟨s,j,hs,hj,rfl⟩:∃ s j,s<n/\j<9/\i=s*9+j:=⟨i / 9,i % 9,by omega,by omega,by omega⟩
  rw[kO h2 hs hj,kO h hs hj]
  by_cases e:s=t
  ·subst e
   rw[if_pos (by omega),kw,show s*9+j-s*9=j by omega]
  ·rw[if_neg (by omega),jg e]
 ·rw[if_neg (by omega),List.getElem?_eq_none (by omega),List.getElem?_eq_none (by omega)]
theorem qy (cs:Nat->kX)(n:Nat):fz cs n++dd (cs n).xs (cs n).pc=fz cs (n+1):=by
 unfold fz
 rw[List.range_succ,List.flatMap_append]
 simp
end
theorem qP {base n cap sz g:Nat}{t:TypeId}:∀ (vs xs:List Value) (o:Nat) (w:World),w.ownsRow base t sz (F (J ⟨g,0,Z⟩) n cap) n xs->(ic w g o vs).ownsRow base t sz (F (J ⟨g,0,Z⟩) n cap) n (tG xs o vs)
 | [],xs,o,w,h=>h
 | v :: vs,xs,o,w,h=>qP vs _ (o+1) _ (World.ownsRow.stored h o v).1
theorem m9 {w:World}{base n sz:Nat}{t:TypeId}{v:Value}{xs:List Value}(h:w.ownsRow base t sz v n xs):w.ownsRow 0 t sz v n xs:=World.ownsRow.mono (base':=0) h (Nat.zero_le _)
structure YP where
 y:Nat
 cv:Value
 cl:Value
 wl:Value
 x:Nat
 kl:Value
 ac:Int
 R:RM
def YP.Own (Y:YP)(n i:Nat):Prop:=i=Y.y\/Y.cv.ownBlock=J i\/Y.cl.ownBlock=J i\/Y.wl.ownBlock=J i\/i=Y.x\/Y.kl.ownBlock=J i\/Y.R.Has n i
structure Ey (w:World)(Y:YP)(k:Lk)(m:Mc):Prop where
 ptr:Bk w Y.y 90 #[Y.cv,I Q k.lo,I Q k.un,Y.cl,Y.wl,C (J ⟨Y.x,0,Z⟩),Y.kl,I Q Y.ac]
 code:w.ownsRow 0 123 8 Y.cv k.l.length (bE k.l)
 cells:Cs 0 w Y.cl (nP k.zs)
 words:eH .u32 70 w Y.wl m.ws
 dV:Rf w Y.x k.n k.each Y.R m.pn.free m.pn.gen m.pn.out
 same:∃ fr os c,jx k.n k.each m.pn.free m.pn.gen m.pn.out fr os c
 cores:w.ownsRow 0 111 9 Y.kl k.n (fz m.cs k.n)
 lk:mE k
 mc:Fl k m
def bC (w:World)(n:Nat)(Y:YP)(w':World)(Y':YP):Prop:=ab w w' (Y.Own n)/\(∀ i,Y'.Own n i->Y.Own n i\/w.heap.size<=i)/\Y'.y=Y.y
section
variable {w w':World}{Y:YP}{k:Lk}{m:Mc}
theorem bC.refl (w:World)(n:Nat)(Y:YP):bC w n Y w Y:=⟨ab.refl _ _,fun _ h=>.inl h,rfl⟩
theorem bC.bp {n:Nat}{w'':World}{Y' Y'':YP}(h:bC w n Y w' Y')(k:bC w' n Y' w'' Y''):bC w n Y w'' Y'':=
 ⟨h.1.bp k.1 h.2.1,fun i hi=>by
  rcases k.2.1 i hi with e | e
  ·exact h.2.1 i e
  ·exact .inr (Nat.le_trans h.1.size e),k.2.2.trans h.2.2⟩
theorem bC.grown {n:Nat}{Y':YP}{w'':World}(h:bC w n Y w' Y')(k:Below w'.heap.size w' w''):bC w n Y w'' Y':=
 h.bp ⟨(ay k).wide (by simp),fun _ h=>.inl h,rfl⟩
theorem bC.az {n:Nat}(k:Below w.heap.size w w'):bC w n Y w' Y:=(bC.refl w n Y).grown k
theorem bC.oU {v:World}{N:Nat}{Y':YP}{S:Nat->Prop}(h:bC v N Y w Y')(hw:ab w w' S)(hs:∀ i,S i->v.heap.size<=i):bC v N Y w' Y':=
 ⟨h.1.bp hw (fun i e=>.inr (hs i e)),h.2⟩
theorem Ey.kept {S:Nat->Prop}(h:Ey w Y k m)(hw:ab w w' S)(hn:∀ i,Y.Own k.n i->¬ S i):Ey w' Y k m:=by
 unfold YP.Own at hn
 exact⟨h.ptr.within hw (hn _ (.inl rfl)),aq h.code hw (fun g e=>hn g (.inr (.inl e))),h.cells.within hw (fun g e=>hn g (.inr (.inr (.inl e)))),h.words.within hw (fun g e=>hn g (.inr (.inr (.inr (.inl e))))),
  h.dV.kept hw (hn _ (.inr (.inr (.inr (.inr (.inl rfl)))))) (fun i hi=>hn i (.inr (.inr (.inr (.inr (.inr (.inr hi))))))),h.same,aq h.cores hw (fun g e=>hn g (.inr (.inr (.inr (.inr (.inr (.inl e))))))),h.lk,h.mc⟩
theorem Ey.below (h:Ey w Y k m)(hb:Below w.heap.size w w'):Ey w' Y k m:=h.kept (ay hb) (by simp)
theorem Ey.lt (h:Ey w Y k m){i:Nat}(hi:Y.Own k.n i):i<w.heap.size:=by
 rcases hi with rfl | e | e | e | rfl | e | e
 ·exact h.ptr.lt
 ·exact(World.ownsRow.lt h.code i e).2
 ·exact(h.cells.lt e).2
 ·exact h.words.lt e
 ·exact h.dV.ptr.lt
 ·exact(World.ownsRow.lt h.cores i e).2
 ·exact h.dV.lt e
theorem Ey.c0 (h:Ey w Y k m):w.cell? ⟨Y.y,0,Z⟩=J Y.cv:=by rw[h.ptr.cell];rfl
theorem Ey.c1 (h:Ey w Y k m):w.cell? ⟨Y.y,1,Z⟩=J (I Q k.lo):=by rw[h.ptr.cell];rfl
theorem Ey.c2 (h:Ey w Y k m):w.cell? ⟨Y.y,2,Z⟩=J (I Q k.un):=by rw[h.ptr.cell];rfl
theorem Ey.c3 (h:Ey w Y k m):w.cell? ⟨Y.y,3,Z⟩=J Y.cl:=by rw[h.ptr.cell];rfl
theorem Ey.c4 (h:Ey w Y k m):w.cell? ⟨Y.y,4,Z⟩=J Y.wl:=by rw[h.ptr.cell];rfl
theorem Ey.c5 (h:Ey w Y k m):w.cell? ⟨Y.y,5,Z⟩=J (C (J ⟨Y.x,0,Z⟩)):=by rw[h.ptr.cell];rfl
theorem Ey.c6 (h:Ey w Y k m):w.cell? ⟨Y.y,6,Z⟩=J Y.kl:=by rw[h.ptr.cell];rfl
theorem Ey.c7 (h:Ey w Y k m):w.cell? ⟨Y.y,7,Z⟩=J (I Q Y.ac):=by rw[h.ptr.cell];rfl
theorem Ey.pv (h:Ey w Y k m):Pv w (.agg #[Y.cv,I Q k.lo,I Q k.un]) ⟨k.l,k.lo,k.un⟩/\∃ a cap,Y.cv=F a k.l.length cap:=by
 obtain⟨a,cap,e,h1,h2,_⟩:=bt h.code
 exact⟨zg (c:=⟨k.l,k.lo,k.un⟩) h.code,a,cap,e⟩
theorem Ey.nN (h:Ey w Y k m):∃ g cap,Y.kl=F (J ⟨g,0,Z⟩) k.n cap/\k.n<=cap/\cap<=maxLen/\Y.kl.ownBlock=J g/\(∀ i,w.frozen? ⟨g,i,Z⟩=G)/\∀ t,t<k.n->∀ j,j<9->w.cell? ⟨g,t*9+j,Z⟩=(dd (m.cs t).xs (m.cs t).pc)[j]?:=by
 obtain⟨a,cap,e,h1,h2,h3⟩:=bt h.cores
 obtain⟨g,rfl,e2,_,_,hf,hc⟩:=h3 h.lk.n1
 refine⟨g,cap,e,h1,h2,e2,hf,fun t ht j hj=>?_⟩
 rw[hc _ (by omega),kO h.mc.cs ht hj]
theorem Ey.bA (h:Ey w Y k m){t:Nat}(ht:t<k.n):∃ r0 r1 r2 r3 r4 r5 r6 r7 pc,m.cs t=⟨[r0,r1,r2,r3,r4,r5,r6,r7],pc⟩:=by
 obtain⟨r0,r1,r2,r3,r4,r5,r6,r7,e⟩:=aC (h.mc.cs t ht).1
 exact⟨r0,r1,r2,r3,r4,r5,r6,r7,(m.cs t).pc,by rw[<-e]⟩
theorem Ey.core (h:Ey w Y k m){t:Nat}(ht:t<k.n){r0 r1 r2 r3 r4 r5 r6 r7 pc:Int}(e:m.cs t=⟨[r0,r1,r2,r3,r4,r5,r6,r7],pc⟩){g cap:Nat}(ek:Y.kl=F (J ⟨g,0,Z⟩) k.n cap):
 w.cell? ⟨g,t*9,Z⟩=J (I Q r0)/\w.cell? ⟨g,t*9+1,Z⟩=J (I Q r1)/\w.cell? ⟨g,t*9+2,Z⟩=J (I Q r2)/\w.cell? ⟨g,t*9+3,Z⟩=J (I Q r3)/\w.cell? ⟨g,t*9+4,Z⟩=J (I Q r4)/\w.cell? ⟨g,t*9+5,Z⟩=J (I Q r5)/\w.cell? ⟨g,t*9+6,Z⟩=J (I Q r6)/\w.cell? ⟨g,t*9+7,Z⟩=J (I Q r7)/\w.cell? ⟨g,t*9+8,Z⟩=J (I Q pc):=by
 obtain⟨g',cap',ek',_,_,_,_,hc⟩:=h.nN
 rw[ek] at ek'
 simp only[Value.slice.injEq,Option.some.injEq,Addr.mk.injEq,and_true,true_and] at ek'
 obtain⟨rfl,-⟩:=ek'
 have H:=fun j (hj:j<9)=>hc t ht j hj
 rw[e] at H
 exact⟨H 0 (by omega),H 1 (by omega),H 2 (by omega),H 3 (by omega),H 4 (by omega),H 5 (by omega),H 6 (by omega),H 7 (by omega),H 8 (by omega)⟩
theorem Ey.rD (h:Ey w Y k m):∃ a cap,Y.wl=F a m.ws.length cap/\m.ws.length<=cap/\cap<=maxLen/\(0<m.ws.length->∃ g,a=J ⟨g,0,Z⟩/\Y.wl.ownBlock=J g/\(∀ i,w.frozen? ⟨g,i,Z⟩=G)/\∀ i,i<m.ws.length->w.cell? ⟨g,i,Z⟩=J (I O (aF m.ws i))):=h.words.is
theorem Ey.others {g:Nat}{t:TypeId}{cs:Array Value}(h:Ey w Y k m)(hW:ab w w' (fun i=>i=g))(hb:Bk w g t cs):
 (t≠90->Bk w' Y.y 90 #[Y.cv,I Q k.lo,I Q k.un,Y.cl,Y.wl,C (J ⟨Y.x,0,Z⟩),Y.kl,I Q Y.ac])/\
 (t≠123->w'.ownsRow 0 123 8 Y.cv k.l.length (bE k.l))/\
 (t≠151->Cs 0 w' Y.cl (nP k.zs))/\
 (t≠70->eH .u32 70 w' Y.wl m.ws)/\
 (t≠158->t≠25->t≠3->Rf w' Y.x k.n k.each Y.R m.pn.free m.pn.gen m.pn.out)/\
 (t≠111->w'.ownsRow 0 111 9 Y.kl k.n (fz m.cs k.n)):=by
 refine⟨fun ht=>h.ptr.within hW (Bk.aj h.ptr hb (fun e=>ht e.symm)),fun ht=>aq h.code hW (fun g' e e2=>?_),fun ht=>h.cells.within hW (fun g' e e2=>?_),fun ht=>h.words.within hW (fun g' e e2=>?_),
  fun t1 t2 t3=>h.dV.kept hW (Bk.aj h.dV.ptr hb (fun e=>t1 e.symm)) (fun i hi e2=>Rf.dz h.dV hb t2 t3 (e2 ▸ hi)),fun ht=>aq h.cores hW (fun g' e e2=>?_)⟩
 ·obtain⟨cs',hcs⟩:=bf h.code e
  exact Bk.aj hcs hb (fun e=>ht e.symm) e2
 ·obtain⟨cs',hcs⟩:=bf h.cells e
  exact Bk.aj hcs hb (fun e=>ht e.symm) e2
 ·obtain⟨cs',hcs⟩:=h.words.bk e
  exact Bk.aj hcs hb (fun e=>ht e.symm) e2
 ·obtain⟨cs',hcs⟩:=bf h.cores e
  exact Bk.aj hcs hb (fun e=>ht e.symm) e2
theorem Ey.put (h:Ey w Y k m){t:Nat}(ht:t<k.n){c:kX}(hc:bh c.xs){g cap:Nat}(e:Y.kl=F (J ⟨g,0,Z⟩) k.n cap):Ey (ic w g (t*9) (dd c.xs c.pc)) Y k { m with cs:=fA m.cs t c }/\bC w k.n Y (ic w g (t*9) (dd c.xs c.pc)) Y:=by
 have hW:ab w (ic w g (t*9) (dd c.xs c.pc)) (fun i=>i=g):=.az (eF _ _ _) (by rintro i e;injection e with e;exact .inl e.symm)
 have hg:Y.kl.ownBlock=J g:=by rw[e];rfl
 have hk:=h.cores
 obtain⟨cs0,hb⟩:=bf hk hg
 rw[e] at hk
 have hp:=qP (dd c.xs c.pc) _ (t*9) w hk
 rw[tm h.mc.cs ht hc,<-e] at hp
 obtain⟨o1,o2,o3,o4,o5,o6⟩:=h.others hW hb
 exact⟨⟨o1 (by decide),o2 (by decide),o3 (by decide),o4 (by decide),o5 (by decide) (by decide) (by decide),h.same,hp,h.lk,⟨h.mc.ws,h.mc.len,eW h.mc.cs hc t⟩⟩,hW.wide (fun i e _=>by subst e;exact .inr (.inr (.inr (.inr (.inr (.inl hg)))))),fun _ h=>.inl h,rfl⟩
theorem Ey.word (h:Ey w Y k m){g cap:Nat}(e:Y.wl=F (J ⟨g,0,Z⟩) m.ws.length cap)(a:Nat){v:Int}(hv:0<=v/\v<4294967296):Ey (w.setCell ⟨g,a,Z⟩ (I O v)) Y k { m with ws:=m.ws.set a v }/\bC w k.n Y (w.setCell ⟨g,a,Z⟩ (I O v)) Y:=by
 have hW:ab w (w.setCell ⟨g,a,Z⟩ (I O v)) (fun i=>i=g):=(ab.refl _ _).put _ _ _ (.inl rfl)
 have hg:Y.wl.ownBlock=J g:=by rw[e];rfl
 have hk:=h.words
 obtain⟨cs0,hb⟩:=hk.bk hg
 rw[e] at hk
 have hp:=hk.put a v
 rw[<-e] at hp
 obtain⟨o1,o2,o3,o4,o5,o6⟩:=h.others hW hb
 exact⟨⟨o1 (by decide),o2 (by decide),o3 (by decide),hp,o5 (by decide) (by decide) (by decide),h.same,o6 (by decide),h.lk,⟨h.mc.ws.set _ _ hv,by rw[List.length_set];exact h.mc.len,h.mc.cs⟩⟩,hW.wide (fun i e _=>by subst e;exact .inr (.inr (.inr (.inl hg)))),fun _ h=>.inl h,rfl⟩
theorem Ey.more (h:Ey w Y k m)(v:Int):Ey (w.setCell ⟨Y.y,7,Z⟩ (I Q v)) { Y with ac:=v } k m/\bC w k.n Y (w.setCell ⟨Y.y,7,Z⟩ (I Q v)) { Y with ac:=v }:=by
 have hW:ab w (w.setCell ⟨Y.y,7,Z⟩ (I Q v)) (fun i=>i=Y.y):=(ab.refl _ _).put _ _ _ (.inl rfl)
 obtain⟨o1,o2,o3,o4,o5,o6⟩:=h.others hW h.ptr
 exact⟨⟨h.ptr.put 7 (I Q v),o2 (by decide),o3 (by decide),o4 (by decide),o5 (by decide) (by decide) (by decide),h.same,o6 (by decide),h.lk,h.mc⟩,hW.wide (fun i e _=>by subst e;exact .inl rfl),fun _ h=>.inl h,rfl⟩
theorem Ey.nodes (h:Ey w Y k m){R':RM}{pn':Pn}(hp:Rf w' Y.x k.n k.each R' pn'.free pn'.gen pn'.out)(hs:∃ fr os c,jx k.n k.each pn'.free pn'.gen pn'.out fr os c)(hst:fL w k.n Y.R w' R'):Ey w' { Y with R:=R' } k { m with pn:=pn' }/\bC w k.n Y w' { Y with R:=R' }:=by
 have hW:=hst.1
 have nh:∀ {q:Nat} {t:TypeId} {cs:Array Value},Bk w q t cs->t≠25->t≠3->¬ Y.R.Has k.n q:=fun hb h1 h2=>h.dV.dz hb h1 h2
 refine⟨⟨h.ptr.within hW (nh h.ptr (by decide) (by decide)),aq h.code hW (fun g' e=>?_),h.cells.within hW (fun g' e=>?_),h.words.within hW (fun g' e=>?_),hp,hs,aq h.cores hW (fun g' e=>?_),h.lk,⟨h.mc.ws,h.mc.len,h.mc.cs⟩⟩,hW.wide (fun i e _=>.inr (.inr (.inr (.inr (.inr (.inr e)))))),fun i hi=>?_,rfl⟩
 ·obtain⟨cs',hcs⟩:=bf h.code e
  exact nh hcs (by decide) (by decide)
 ·obtain⟨cs',hcs⟩:=bf h.cells e
  exact nh hcs (by decide) (by decide)
 ·obtain⟨cs',hcs⟩:=h.words.bk e
  exact nh hcs (by decide) (by decide)
 ·obtain⟨cs',hcs⟩:=bf h.cores e
  exact nh hcs (by decide) (by decide)
 ·rcases hi with e | e | e | e | e | e | e
  ·exact .inl (.inl e)
  ·exact .inl (.inr (.inl e))
  ·exact .inl (.inr (.inr (.inl e)))
  ·exact .inl (.inr (.inr (.inr (.inl e))))
  ·exact .inl (.inr (.inr (.inr (.inr (.inl e)))))
  ·exact .inl (.inr (.inr (.inr (.inr (.inr (.inl e))))))
  ·rcases hst.2 i e with e | e
   ·exact .inl (.inr (.inr (.inr (.inr (.inr (.inr e))))))
   ·exact .inr e
theorem pO (h:Ey w Y k m)(area x:Int)(h0:0<=x)(h1:x<4294967296):
 Calls Tryz.prog 54 #[Y.cl,I Q area,I O x] w fun e w'=>(match fc k.zs area x with
  | none=>e=.returned (I Q (-1))
  | some a=>e=.returned (I Q a))/\w.grownBy w' Z:=by
 unfold fc
 by_cases hc:0<=area/\area<k.zs.length/\x % 4096<sz k.zs area.toNat
 ·rw[if_pos hc]
  obtain⟨A,rfl⟩:=Int.eq_ofNat_of_zero_le hc.1
  have h2:=hc.2.2
  rw[Int.toNat_natCast] at h2 ⊢
  obtain⟨P,hP⟩:=Int.eq_ofNat_of_zero_le (show 0<=x % 4096 by omega)
  have:=Er h.cells h.lk.zs A P x h0 h1 (by omega) (by omega) hP
  rw[hP,Int.toNat_natCast]
  exact this
 ·rw[if_neg hc]
  exact AJ h.cells h.lk.zs area x h0 h1 (by omega)
end
def aG (b:Bool):Int:=if b then 1 else 0
def BJ (v:Value)(o:Ot):Value:=.agg #[v,I Q o.done,I Q o.addr,I Q (aG o.wrote),I Q (aG o.stay),I Q o.e]
def eP (w:World)(Y:YP)(k:Lk)(r:Mc×Ot)(e:Ending)(w':World):Prop:=
 ∃ v Y',e=.returned (BJ v r.2)/\eH .i64 3 w' v r.2.ms/\Ey w' Y' k r.1/\bC w k.n Y w' Y'
section
variable {w w':World}{Y:YP}{k:Lk}{m:Mc}
theorem zQ (h:Ey w Y k m)(t:Nat)(ht:t<k.n)(c:kX)(hc:bh c.xs)(o:Ot)(v0:Value)(hv0:v0=F Z 0 0):
 Calls Tryz.prog 48 #[C (J ⟨Y.y,0,Z⟩),I Q t,rv c.xs c.pc,BJ v0 o] w (eP w Y k (ib k m t c o)):=by
 subst hv0
 have hnn:=h.lk.n64
 have hl:=h.lk.parts.2.1
 have HR0:=fun(v:Value) W hW=>FB ⟨k.l,k.lo,k.un⟩ v c.xs c.pc t W hW hl h.lk.ok hc (by omega) (by omega)
 have hE:=fV h.lk.ok (self:=(t:Int)) (by omega) (by omega) 256 c.xs c.pc [] hc
 obtain⟨cxs,pc⟩:=c
 simp only at hc HR0 hE ⊢
 obtain⟨r0,r1,r2,r3,r4,r5,r6,r7,rfl⟩:=aC hc.1
 obtain⟨RR,hRR⟩:∃ R,R=fM (t:Int) k.l 256 [r0,r1,r2,r3,r4,r5,r6,r7] pc []:=⟨_,rfl⟩
 rw[<-hRR] at hE
 obtain⟨oms,od,oa,ow,os,oe⟩:=o
 have HR:Hid (ib k m t ⟨[r0,r1,r2,r3,r4,r5,r6,r7],pc⟩ ⟨oms,od,oa,ow,os,oe⟩=({ m with cs:=fA m.cs t ⟨RR.xs,RR.pc⟩ },⟨RR.ms,RR.done,oa,ow,os,RR.e⟩)):=Zb (by unfold ib;simp only[hRR])
 have HX:=Zb h
 obtain⟨sxs,PC,ms,D,E⟩:=RR
 simp only at hE HR
 obtain⟨s0,s1,s2,s3,s4,s5,s6,s7,rfl⟩:=aC hE.1
 have HE8:=Zb hE
 have HB:Hid (∀ W,Ey W Y k m->Calls Tryz.prog 79 #[.agg #[I Q r0,I Q r1,I Q r2,I Q r3,I Q r4,I Q r5,I Q r6,I Q r7,I Q pc],.agg #[Y.cv,I Q k.lo,I Q k.un],I Q t] W fun e w'=>∃ m5,e=.returned (.tuple #[.agg #[I Q s0,I Q s1,I Q s2,I Q s3,I Q s4,I Q s5,I Q s6,I Q s7,I Q PC],m5,I Q D,I Q E])/\eH .i64 3 w' m5 ms/\Below W.heap.size W w'):=Zb fun W hW=>by
  have h1:=HR0 _ W hW.pv.1
  rw[<-hRR] at h1
  exact h1.mono fun e w' ⟨m5,q1,q2,q3⟩=>⟨m5,q1,q2,q3⟩
 clear HR0 hE hRR hc
 rw[HR.out]
 clear HR
 unfold BJ rv
 simp only[dd,List.map_cons,List.map_nil,List.cons_append,List.nil_append]
 have HOT:Hid (∀ v:Value,BJ v ⟨ms,D,oa,ow,os,E⟩=.agg #[v,I Q D,I Q oa,I Q (aG ow),I Q (aG os),I Q E]):=Zb fun v=>rfl
 have q0:=((Rb.made w [r0,r1,r2,r3,r4,r5,r6,r7] pc).alloc (Za #[F Z 0 0,I Q od,I Q oa,I Q (aG ow),I Q (aG os),I Q oe] 64)).alloc (Za #[F Z 0 0,I Q 0,I Q 0,I Q 0,I Q 0,I Q 0] 64)
 have q1:=(Bk.made (w.alloc (Za #[I Q r0,I Q r1,I Q r2,I Q r3,I Q r4,I Q r5,I Q r6,I Q r7,I Q pc] 111)) 64 #[F Z 0 0,I Q od,I Q oa,I Q (aG ow),I Q (aG os),I Q oe]).alloc (Za #[F Z 0 0,I Q 0,I Q 0,I Q 0,I Q 0,I Q 0] 64)
 have q2:=Bk.made ((w.alloc (Za #[I Q r0,I Q r1,I Q r2,I Q r3,I Q r4,I Q r5,I Q r6,I Q r7,I Q pc] 111)).alloc (Za #[F Z 0 0,I Q od,I Q oa,I Q (aG ow),I Q (aG os),I Q oe] 64)) 64 #[F Z 0 0,I Q 0,I Q 0,I Q 0,I Q 0,I Q 0]
 simp only[World.size_alloc] at q1 q2
 simp only[dd,List.map_cons,List.map_nil,List.cons_append,List.nil_append] at q0
 have b0:Below w.heap.size w (((w.alloc (Za #[I Q r0,I Q r1,I Q r2,I Q r3,I Q r4,I Q r5,I Q r6,I Q r7,I Q pc] 111)).alloc (Za #[F Z 0 0,I Q od,I Q oa,I Q (aG ow),I Q (aG os),I Q oe] 64)).alloc (Za #[F Z 0 0,I Q 0,I Q 0,I Q 0,I Q 0,I Q 0] 64)):=(((Zc _ _).alloc (Zd _) _).alloc (by simp) _).alloc (by simp;omega) _
 generalize aG ow=WR at *
 generalize aG os=ST at *
 go_enter Tryz.func48,Tryz.ntmps48
 go_upto_region 1 with fail
 generalize ((w.alloc (Za #[I Q r0,I Q r1,I Q r2,I Q r3,I Q r4,I Q r5,I Q r6,I Q r7,I Q pc] 111)).alloc (Za #[F Z 0 0,I Q od,I Q oa,I Q WR,I Q ST,I Q oe] 64)).alloc (Za #[F Z 0 0,I Q 0,I Q 0,I Q 0,I Q 0,I Q 0] 64)=y at *
 replace q0:Rb y w.heap.size [r0,r1,r2,r3,r4,r5,r6,r7] pc:=q0
 have h2:=h.below b0
 obtain⟨aV,cV,eV⟩:=h.pv.2
 rw[eV] at HB
 have HV:=Zb eV
 clear h eV
 refine ja 12 13 111 #[I Q 0,I Q 0,I Q 0,I Q 0,I Q 0,I Q 0,I Q 0,I Q 0,I Q 0] (fun W b=>bn W b (I Q s0) (I Q s1) (I Q s2) (I Q s3) (I Q s4) (I Q s5) (I Q s6) (I Q s7) (I Q PC)) (fun W b=>Rb W b [s0,s1,s2,s3,s4,s5,s6,s7] PC) (fun vs=>{ tmps:=#[C (J ⟨Y.y,0,Z⟩),I Q (t:Int),.agg #[I Q r0,I Q r1,I Q r2,I Q r3,I Q r4,I Q r5,I Q r6,I Q r7,I Q pc],.agg #[F Z 0 0,I Q od,I Q oa,I Q WR,I Q ST,I Q oe],Ze,Ze,C (J ⟨w.heap.size,0,Z⟩),C (J ⟨w.heap.size+1,0,Z⟩),C (J ⟨w.heap.size+1+1,0,Z⟩),vs 12,vs 14,vs 15,vs 16,vs 7,vs 0,vs 1,vs 2,vs 3,vs 4,vs 5,vs 6,vs 8,vs 9,vs 10,vs 11,Ze,Ze,Ze,Ze,Ze,Ze,Ze,Ze,Ze,Ze,Ze,Ze,Ze,Ze],defers:=[] }) (lE [(6,(lF (.agg #[I Q s0,I Q s1,I Q s2,I Q s3,I Q s4,I Q s5,I Q s6,I Q s7,I Q PC]) ms D E)),(7,(lF (.agg #[I Q s0,I Q s1,I Q s2,I Q s3,I Q s4,I Q s5,I Q s6,I Q s7,I Q PC]) ms D E)),(9,(fun v W=>eH .i64 3 W v ms)),(14,(fun v W=>eH .i64 3 W v ms))] [.agg #[I Q r0,I Q r1,I Q r2,I Q r3,I Q r4,I Q r5,I Q r6,I Q r7,I Q pc],C (J ⟨Y.y,0,Z⟩),C (J ⟨Y.y,0,Z⟩),C (J ⟨Y.y,0,Z⟩),.agg #[F aV k.l.length cV,I Q k.lo,I Q k.un],I Q (t:Int),Ze,Ze,.agg #[I Q s0,I Q s1,I Q s2,I Q s3,I Q s4,I Q s5,I Q s6,I Q s7,I Q PC],Ze,I Q D,I Q E,Ze,Ze,Ze,I Q D,I Q E]) ?ghm ?ghr ?ghns ?ghlen ?glit ?gst ?gst2 ?gd1 ?gbel ?gdn ?gnew ?gsto ?gops ?gdone
 case ghm=>kernel_rfl
 case ghr=>kernel_rfl
 case ghns=>kernel_rfl
 case ghlen=>rfl
 case glit=>intro vs;rfl
 case gst=>exact dB (by
  intro p hp
  simp only[List.mem_cons,List.not_mem_nil,or_false] at hp
  rcases hp with rfl|rfl|rfl|rfl
  ·exact fun v W W2 h hb=>lF.below h hb
  ·exact fun v W W2 h hb=>lF.below h hb
  ·exact fun v W W2 h hb=>fQ h hb
  ·exact fun v W W2 h hb=>fQ h hb)
 case gst2=>
  have hk:=gN (R:=fun W W2=>∃ b,Bk W b 111 #[I Q 0,I Q 0,I Q 0,I Q 0,I Q 0,I Q 0,I Q 0,I Q 0,I Q 0]/\W2=bn W b (I Q s0) (I Q s1) (I Q s2) (I Q s3) (I Q s4) (I Q s5) (I Q s6) (I Q s7) (I Q PC)) (ps:=[(6,(lF (.agg #[I Q s0,I Q s1,I Q s2,I Q s3,I Q s4,I Q s5,I Q s6,I Q s7,I Q PC]) ms D E)),(7,(lF (.agg #[I Q s0,I Q s1,I Q s2,I Q s3,I Q s4,I Q s5,I Q s6,I Q s7,I Q PC]) ms D E)),(9,(fun v W=>eH .i64 3 W v ms)),(14,(fun v W=>eH .i64 3 W v ms))]) (l:=[.agg #[I Q r0,I Q r1,I Q r2,I Q r3,I Q r4,I Q r5,I Q r6,I Q r7,I Q pc],C (J ⟨Y.y,0,Z⟩),C (J ⟨Y.y,0,Z⟩),C (J ⟨Y.y,0,Z⟩),.agg #[F aV k.l.length cV,I Q k.lo,I Q k.un],I Q (t:Int),Ze,Ze,.agg #[I Q s0,I Q s1,I Q s2,I Q s3,I Q s4,I Q s5,I Q s6,I Q s7,I Q PC],Ze,I Q D,I Q E,Ze,Ze,Ze,I Q D,I Q E]) (by
   intro p hp
   simp only[List.mem_cons,List.not_mem_nil,or_false] at hp
   rcases hp with rfl|rfl|rfl|rfl
   ·rintro v W W2 ⟨m5,e5,h5⟩ ⟨b,hk,rfl⟩;exact⟨m5,e5,iK h5 hk (by decide) (I Q s0) (I Q s1) (I Q s2) (I Q s3) (I Q s4) (I Q s5) (I Q s6) (I Q s7) (I Q PC)⟩
   ·rintro v W W2 ⟨m5,e5,h5⟩ ⟨b,hk,rfl⟩;exact⟨m5,e5,iK h5 hk (by decide) (I Q s0) (I Q s1) (I Q s2) (I Q s3) (I Q s4) (I Q s5) (I Q s6) (I Q s7) (I Q PC)⟩
   ·rintro v W W2 h ⟨b,hk,rfl⟩;exact iK h hk (by decide) (I Q s0) (I Q s1) (I Q s2) (I Q s3) (I Q s4) (I Q s5) (I Q s6) (I Q s7) (I Q PC)
   ·rintro v W W2 h ⟨b,hk,rfl⟩;exact iK h hk (by decide) (I Q s0) (I Q s1) (I Q s2) (I Q s3) (I Q s4) (I Q s5) (I Q s6) (I Q s7) (I Q PC))
  exact fun i v W b h hb=>hk i v W _ h ⟨b,hb,rfl⟩
 case gd1=>exact fun W W2 b h hb=>Rb.below h hb
 case gbel=>exact fun W b hb h=>ba h hb (I Q s0) (I Q s1) (I Q s2) (I Q s3) (I Q s4) (I Q s5) (I Q s6) (I Q s7) (I Q PC)
 case gdn=>exact fun W b h=>bz h (I Q s0) (I Q s1) (I Q s2) (I Q s3) (I Q s4) (I Q s5) (I Q s6) (I Q s7) (I Q PC)
 case gnew=>
  intro o ho vs W hW
  injection ho with ho
  subst ho
  refine aa rfl ?_
  go_simp
  exact⟨⟨W.heap.size,rfl,hW.size,Rb.made W [0,0,0,0,0,0,0,0] 0⟩,(Zc _ _).alloc (Zd _) _⟩
 case gsto=>
  intro o ho vs W b hW hd hb hk
  injection ho with ho
  subst ho
  have ev:vs 8=.agg #[I Q s0,I Q s1,I Q s2,I Q s3,I Q s4,I Q s5,I Q s6,I Q s7,I Q PC]:=hd 8 (by decide) rfl
  have zf:=Bk.free hk
  obtain⟨z0,z1,z2,z3,z4,z5,z6,z7,z8⟩:=Rb.cells hk
  refine aM rfl ?_
  clear hd
  go_simp
  rfl
 case gops=>
  refine⟨?_,?_,?_,?_,?_,?_,?_,?_,?_,?_,?_,?_,?_,?_,?_,?_,?_,trivial⟩
  ·intro _ vs W hW hd
   refine aa rfl ?_
   have hq:=h2.below hW;have c0x:=hq.c0;rw[HV.out] at c0x;have c1x:=hq.c1;have c2x:=hq.c2;obtain⟨c0,c1,c2,c3,c4,c5,c6,c7,c8⟩:=(Rb.below q0 hW).cells;clear hq
   go_simp
   exact⟨rfl,Zc _ _⟩
  ·intro _ vs W hW hd
   refine aa rfl ?_
   go_simp
   exact⟨rfl,Zc _ _⟩
  ·intro _ vs W hW hd
   refine aa rfl ?_
   have e1:vs 1=C (J ⟨Y.y,0,Z⟩):=hd 1 (by decide) rfl
   go_simp
   exact⟨rfl,Zc _ _⟩
  ·intro _ vs W hW hd
   refine aa rfl ?_
   have e2:vs 2=C (J ⟨Y.y,0,Z⟩):=hd 2 (by decide) rfl
   go_simp
   exact⟨rfl,Zc _ _⟩
  ·intro _ vs W hW hd
   refine aa rfl ?_
   have e3:vs 3=C (J ⟨Y.y,0,Z⟩):=hd 3 (by decide) rfl
   have hq:=h2.below hW;have c0x:=hq.c0;rw[HV.out] at c0x;have c1x:=hq.c1;have c2x:=hq.c2;obtain⟨c0,c1,c2,c3,c4,c5,c6,c7,c8⟩:=(Rb.below q0 hW).cells;clear hq
   go_simp
   exact⟨rfl,Zc _ _⟩
  ·intro _ vs W hW hd
   refine aa rfl ?_
   go_simp
   exact⟨rfl,Zc _ _⟩
  ·intro _ vs W hW hd
   refine aa rfl ?_
   have e0:vs 0=.agg #[I Q r0,I Q r1,I Q r2,I Q r3,I Q r4,I Q r5,I Q r6,I Q r7,I Q pc]:=hd 0 (by decide) rfl
   have e4:vs 4=.agg #[F aV k.l.length cV,I Q k.lo,I Q k.un]:=hd 4 (by decide) rfl
   have e5:vs 5=I Q (t:Int):=hd 5 (by decide) rfl
   have HS:=Zb (HB.out W (h2.below hW))
   clear hd
   go_simp
   refine HS.out.mono ?_
   rintro e z ⟨m5,he,hm5,hz⟩
   exact⟨_,he,⟨m5,rfl,hm5⟩,hz⟩
  ·intro _ vs W hW hd
   refine aa rfl ?_
   obtain⟨m5,e6,hm5⟩:lF (.agg #[I Q s0,I Q s1,I Q s2,I Q s3,I Q s4,I Q s5,I Q s6,I Q s7,I Q PC]) ms D E (vs 6) W:=hd 6 (by decide) rfl
   clear hd
   go_simp
   exact⟨⟨m5,rfl,hm5⟩,Zc _ _⟩
  ·intro _ vs W hW hd
   refine aa rfl ?_
   obtain⟨m5,e7,hm5⟩:lF (.agg #[I Q s0,I Q s1,I Q s2,I Q s3,I Q s4,I Q s5,I Q s6,I Q s7,I Q PC]) ms D E (vs 7) W:=hd 7 (by decide) rfl
   clear hd
   go_simp
   exact⟨rfl,Zc _ _⟩
  ·intro _ vs W hW hd
   refine aa rfl ?_
   obtain⟨m5,e7,hm5⟩:lF (.agg #[I Q s0,I Q s1,I Q s2,I Q s3,I Q s4,I Q s5,I Q s6,I Q s7,I Q PC]) ms D E (vs 7) W:=hd 7 (by decide) rfl
   clear hd
   go_simp
   exact⟨hm5,Zc _ _⟩
  ·intro _ vs W hW hd
   refine aa rfl ?_
   obtain⟨m5,e7,hm5⟩:lF (.agg #[I Q s0,I Q s1,I Q s2,I Q s3,I Q s4,I Q s5,I Q s6,I Q s7,I Q PC]) ms D E (vs 7) W:=hd 7 (by decide) rfl
   clear hd
   go_simp
   exact⟨rfl,Zc _ _⟩
  ·intro _ vs W hW hd
   refine aa rfl ?_
   obtain⟨m5,e7,hm5⟩:lF (.agg #[I Q s0,I Q s1,I Q s2,I Q s3,I Q s4,I Q s5,I Q s6,I Q s7,I Q PC]) ms D E (vs 7) W:=hd 7 (by decide) rfl
   clear hd
   go_simp
   exact⟨rfl,Zc _ _⟩
  ·exact fun h=>absurd h (by decide)
  ·exact fun h=>absurd h (by decide)
  ·intro _ vs W hW hd
   refine aa rfl ?_
   have h8:eH .i64 3 W (vs 9) ms:=hd 9 (by decide) rfl
   clear hd
   go_simp
   exact⟨h8,Zc _ _⟩
  ·intro _ vs W hW hd
   refine aa rfl ?_
   have e10:vs 10=I Q D:=hd 10 (by decide) rfl
   go_simp
   exact⟨rfl,Zc _ _⟩
  ·intro _ vs W hW hd
   refine aa rfl ?_
   have e11:vs 11=I Q E:=hd 11 (by decide) rfl
   go_simp
   exact⟨rfl,Zc _ _⟩
 case gdone=>
  intro vs W b hW hf hgv hgb pb
  have f0:vs 0=.agg #[I Q r0,I Q r1,I Q r2,I Q r3,I Q r4,I Q r5,I Q r6,I Q r7,I Q pc]:=hf 0 (by decide) rfl
  have f1:vs 1=C (J ⟨Y.y,0,Z⟩):=hf 1 (by decide) rfl
  have f2:vs 2=C (J ⟨Y.y,0,Z⟩):=hf 2 (by decide) rfl
  have f3:vs 3=C (J ⟨Y.y,0,Z⟩):=hf 3 (by decide) rfl
  have f4:vs 4=.agg #[F aV k.l.length cV,I Q k.lo,I Q k.un]:=hf 4 (by decide) rfl
  have f5:vs 5=I Q (t:Int):=hf 5 (by decide) rfl
  have f8:vs 8=.agg #[I Q s0,I Q s1,I Q s2,I Q s3,I Q s4,I Q s5,I Q s6,I Q s7,I Q PC]:=hf 8 (by decide) rfl
  have f10:vs 10=I Q D:=hf 10 (by decide) rfl
  have f11:vs 11=I Q E:=hf 11 (by decide) rfl
  have f15:vs 15=I Q D:=hf 15 (by decide) rfl
  have f16:vs 16=I Q E:=hf 16 (by decide) rfl
  simp only[f0,f1,f2,f3,f4,f5,f8,f10,f11,f15,f16]
  have hm2:eH .i64 3 W (vs 14) ms:=hf 14 (by decide) rfl
  simp only[hgv]
  clear hf hgv f0 f1 f2 f3 f4 f5 f8 f10 f11 f15 f16
  generalize vs 14=m2 at *
  generalize vs 6=w6 at *
  generalize vs 7=w7 at *
  generalize vs 9=w9 at *
  have h3:=h2.below hW
  replace q1:=(hW.block _ q1.lt).trans q1
  replace q2:=(hW.block _ q2.lt).trans q2
  replace b0:=b0.trans (hW.mono b0.size)
  clear h2 q0 hW hgb
  obtain⟨gk,capk,ek,hk1,hk2,hkb,hkf,-⟩:=h3.nN
  have cx6:=h3.c6
  rw[ek] at cx6
  obtain⟨u0,u1,u2,u3,u4,u5,u6,u7,pcu,ecu⟩:=h3.bA ht
  obtain⟨c0,c1,c2,c3,c4,c5,c6,c7,c8⟩:=h3.core ht ecu ek
  obtain⟨d0,d1,d2,d3,d4,d5,d6,d7,d8⟩:=pb.cells
  unfold maxLen at hk2
  go_upto_region 2 with fail
  go_region
  obtain⟨h4,st4⟩:=h3.put ht (c:=⟨[s0,s1,s2,s3,s4,s5,s6,s7],PC⟩) HE8.out ek
  have hw4:ab W (ic W gk (t*9) (dd [s0,s1,s2,s3,s4,s5,s6,s7] PC)) (fun i=>i=gk):=.az (eF _ _ _) (by rintro i e;injection e with e;exact .inl e.symm)
  have hgl:gk<w.heap.size:=HX.out.lt (.inr (.inr (.inr (.inr (.inr (.inl hkb))))))
  have p1:=Bk.within q1 hw4 (by omega)
  have p2:=Bk.within q2 hw4 (by omega)
  have l4:=fW hm2 hw4 (by rintro b' rfl;obtain⟨cs0,hb0⟩:=bf h3.cores hkb;exact⟨_,_,hb0,by decide⟩)
  have st5:=(bC.az (n:=k.n) (Y:=Y) b0).bp st4
  generalize hv4:(((((((((W.setCell ⟨gk,(t*9),Z⟩ (I Q s0)).setCell ⟨gk,(t*9)+1,Z⟩ (I Q s1)).setCell ⟨gk,(t*9)+2,Z⟩ (I Q s2)).setCell ⟨gk,(t*9)+3,Z⟩ (I Q s3)).setCell ⟨gk,(t*9)+4,Z⟩ (I Q s4)).setCell ⟨gk,(t*9)+5,Z⟩ (I Q s5)).setCell ⟨gk,(t*9)+6,Z⟩ (I Q s6)).setCell ⟨gk,(t*9)+7,Z⟩ (I Q s7)).setCell ⟨gk,(t*9)+8,Z⟩ (I Q PC))=v4
  replace hv4:ic W gk (t*9) (dd [s0,s1,s2,s3,s4,s5,s6,s7] PC)=v4:=hv4
  rw[hv4] at h4 p1 p2 l4 st5
  clear hv4 hw4 h3 q1 q2 hm2 b0 st4 c0 c1 c2 c3 c4 c5 c6 c7 c8 d0 d1 d2 d3 d4 d5 d6 d7 d8 hkf pb cx6 hgl
  replace h4:=h4.below (Zc _ v4).drew
  replace p1:Bk v4.drew _ _ _:=p1
  replace p2:Bk v4.drew _ _ _:=p2
  replace l4:eH .i64 3 v4.drew m2 ms:=l4
  replace st5:=st5.grown (Zc _ v4).drew
  generalize v4.drew=v5 at *
  obtain⟨a9,c9,e9,-⟩:=l4.is
  subst e9
  have hOwn:∀ i,Y.Own k.n i->i<w.heap.size:=fun i hi=>HX.out.lt hi
  have hw5:ab v5 (((v5.setCell ⟨w.heap.size+1,0,Z⟩ (F a9 ms.length c9)).setCell ⟨w.heap.size+1,1,Z⟩ (I Q D)).setCell ⟨w.heap.size+1,5,Z⟩ (I Q E)) (fun i=>i=w.heap.size+1):=(((ab.refl v5 (fun i=>i=w.heap.size+1)).put _ 0 _ (.inl rfl)).put _ 1 _ (.inl rfl)).put _ 5 _ (.inl rfl)
  have p1':Bk (((v5.setCell ⟨w.heap.size+1,0,Z⟩ (F a9 ms.length c9)).setCell ⟨w.heap.size+1,1,Z⟩ (I Q D)).setCell ⟨w.heap.size+1,5,Z⟩ (I Q E)) (w.heap.size+1) 64 #[F a9 ms.length c9,I Q D,I Q oa,I Q WR,I Q ST,I Q E]:=((p1.put 0 (F a9 ms.length c9)).put 1 (I Q D)).put 5 (I Q E)
  have p2':=p2.within hw5 (by omega)
  have h6:=h4.kept hw5 (fun i hi e=>by have:=hOwn i hi;omega)
  have st6:=st5.oU hw5 (fun i e=>by omega)
  have l6:=fW l4 hw5 (by rintro b' rfl;exact⟨_,_,p1,by decide⟩)
  obtain⟨y0,y1,y2,y3,y4,y5⟩:=p1.gS
  have zf:=Bk.free p1
  go_upto_region 4 with fail
  generalize ((v5.setCell ⟨w.heap.size+1,0,Z⟩ (F a9 ms.length c9)).setCell ⟨w.heap.size+1,1,Z⟩ (I Q D)).setCell ⟨w.heap.size+1,5,Z⟩ (I Q E)=v6 at *
  clear y0 y1 y2 y3 y4 y5 zf hw5 p1 p2 h4 st5 l4
  obtain⟨y0,y1,y2,y3,y4,y5⟩:=p1'.gS
  obtain⟨x0,x1,x2,x3,x4,x5⟩:=p2'.gS
  have zf:=Bk.free p2'
  have o1:=cm p2' (F a9 ms.length c9) (I Q D) (I Q oa) (I Q WR) (I Q ST) (I Q E)
  have o2:=bd (y:=v6) (g:=w.heap.size+1+1) (F a9 ms.length c9) (I Q D) (I Q oa) (I Q WR) (I Q ST) (I Q E)
  have l7:=fW l6 o2 (by rintro b' rfl;exact⟨_,_,p2',by decide⟩)
  have h7:=h6.kept o2 (fun i hi e=>by have:=hOwn i hi;omega)
  have st7:=st6.oU o2 (fun i e=>by omega)
  clear h6 st6 l6
  go_wp2
  generalize hv9:((((((v6.setCell ⟨w.heap.size+1+1,0,Z⟩ (F a9 ms.length c9)).setCell ⟨w.heap.size+1+1,1,Z⟩ (I Q D)).setCell ⟨w.heap.size+1+1,2,Z⟩ (I Q oa)).setCell ⟨w.heap.size+1+1,3,Z⟩ (I Q WR)).setCell ⟨w.heap.size+1+1,4,Z⟩ (I Q ST)).setCell ⟨w.heap.size+1+1,5,Z⟩ (I Q E))=v9
  replace hv9:co v6 (w.heap.size+1+1) (F a9 ms.length c9) (I Q D) (I Q oa) (I Q WR) (I Q ST) (I Q E)=v9:=hv9
  rw[hv9] at o1 l7 h7 st7
  clear hv9 o2 p1' p2' y0 y1 y2 y3 y4 y5 x0 x1 x2 x3 x4 x5 zf
  obtain⟨o0,o1,o2,o3,o4,o5⟩:=o1.gS
  exact bodyPost_ret (v:=.agg #[F a9 ms.length c9,I Q D,I Q oa,I Q WR,I Q ST,I Q E]) (by simp[results,Tryz.results48,go_sem,o0,o1,o2,o3,o4,o5]) rfl ⟨F a9 ms.length c9,Y,(by rw[HOT.out]),l7,h7,st7⟩
end
section
variable {k:Lk}{m:Mc}{t:Nat}{late:Bool}{i:aN}
theorem fO (hm:iq k (m.cs t).pc=J i)(h:i.op≠22)(h':i.op≠23):dv k m t late=match fc k.zs i.a (aF (m.cs t).xs i.s.toNat) with
 | none=>(m,eL)
 | some a=>nQ k m t (m.cs t) late i a:=by
 unfold dv
 simp only[hm,if_neg h,if_neg h']
 rfl
end
structure RP where
 g:Nat
 Y:YP
 d:Nat
 lv:Value
def RP.Own (U:RP)(n i:Nat):Prop:=i=U.g\/i=U.d\/U.lv.ownBlock=J i\/U.Y.Own n i
section
variable {w w':World}{U:RP}{k:Lk}{r:Rn}
theorem Ey.pH {Y:YP}{m:Mc}{g:Nat}{t:TypeId}{cs:Array Value}(h:Ey w Y k m)(hb:Bk w g t cs)
 (t1:t≠90) (t2:t≠123) (t3:t≠151) (t4:t≠70) (t5:t≠158) (t6:t≠25) (t7:t≠3) (t8:t≠111):¬ Y.Own k.n g:=by
 rintro(e | e | e | e | e | e | e)
 ·exact Bk.aj h.ptr hb (fun e=>t1 e.symm) e.symm
 ·obtain⟨cs',hcs⟩:=bf h.code e
  exact Bk.aj hcs hb (fun e=>t2 e.symm) rfl
 ·obtain⟨cs',hcs⟩:=bf h.cells e
  exact Bk.aj hcs hb (fun e=>t3 e.symm) rfl
 ·obtain⟨cs',hcs⟩:=h.words.bk e
  exact Bk.aj hcs hb (fun e=>t4 e.symm) rfl
 ·exact Bk.aj h.dV.ptr hb (fun e=>t5 e.symm) e.symm
 ·obtain⟨cs',hcs⟩:=bf h.cores e
  exact Bk.aj hcs hb (fun e=>t8 e.symm) rfl
 ·exact Rf.dz h.dV hb t6 t7 e
end
theorem Ao (xs:List Int)(p:Int)(hx:xs.length=8)(w:World):(binOp .neq 111 (rv xs p) (rv xs p)).run Tryz.prog w=.ok (.bool G) w:=by
 obtain⟨x0,x1,x2,x3,x4,x5,x6,x7,rfl⟩:=aC hx
 unfold rv
 simp only[dd,List.map_cons,List.map_nil,List.cons_append,List.nil_append]
 have hu:=Tryz.underlying111
 have hs:=fun W=>uN x0 x1 x2 x3 x4 x5 x6 x7 9997 W
 simp only[Nat.reduceAdd] at hs
 go_simp
section
variable {w w':World}{X:XP}{Y:YP}{k:Lk}{m:Mc}
theorem Ey.many (h:Ey w Y k m)(t:Nat)(ht:t<k.n):
 Calls Tryz.prog 39 #[C (J ⟨Y.x,0,Z⟩),I Q t] w fun e w'=>e=.returned (I Q (nM k.each m.pn t))/\∃ j,w'=w.drewN j:=by
 obtain⟨fr,os,c,hs⟩:=h.same
 have hle:(m.pn.free t).length<=k.each:=by
  have h1:=hs.own t ht
  exact iQ k.each (t*k.each) _ (hs.dup t ht) (fun q hq=>⟨(h1 q hq).1,(h1 q hq).2.1⟩)
 have:=CK h.dV hs.few hs.eight t ht hle
 refine this.mono ?_
 rintro e w' ⟨rfl,h2⟩
 exact⟨by rw[show ((k.each-(m.pn.free t).length:Nat):Int)=nM k.each m.pn t by unfold nM;omega],h2⟩
theorem tL (hx:Ex w X k m)(hy:Ey w Y k m):
 Calls Tryz.prog 26 #[C (J ⟨X.x,0,Z⟩),C (J ⟨Y.y,0,Z⟩)] w fun e w'=>e=.returned (.bool true)/\Below w.heap.size w w':=by
 have hn64:=hx.lk.n64
 have hwl:m.ws.length<=8192:=by rw[hx.mc.len];exact hx.lk.few
 have hW:=Cp hx
 go_enter Tryz.func26,Tryz.ntmps26
 go_wp2_with fail
 refine hW.mono ?_
 rintro e y ⟨q,rfl,hQ,-,hq,hgr⟩
 have hb:=aO hgr
 have hx1:=hx.below hb
 have hy1:=hy.below hb
 clear hW hgr hx hy hq
 obtain⟨aw,capw,ew,hw1,hw2,hw3⟩:=hy1.rD
 unfold maxLen at hw2
 have cx4:=hy1.c4
 rw[ew] at cx4
 obtain⟨gk,capk,ek,hk1,hk2,hkb,hkf,-⟩:=hy1.nN
 unfold maxLen at hk2
 have cx6:=hy1.c6
 rw[ek] at cx6
 go_upto_region 2 with fail
 have g4:=fun g:fZ y=>g.cell cx4
 have g6:=fun g:fZ y=>g.cell cx6
 have HT:Hid (∀ g:fZ y,Calls Tryz.prog 56 #[C (J ⟨X.x,0,Z⟩)] g.x fun e y'=>e=.returned (I Q k.n)/\g.x=y'):=Zb fun g=>xe (hx1.below g.ok)
 refine ar (by kernel_rfl) (by kernel_rfl) ?_
 repeat (go_big_quiet_step ((go_at_call 56;with_reducible exact rd (HT.out _))))
 refine wpQuiet_nil ?_
 rintro z ⟨⟨_,hz⟩,rfl⟩
 have HX:=Zb (hx1.below hz)
 have HY:=Zb (hy1.below hz)
 replace hQ:=(hz.block _ hQ.lt).trans hQ
 have HB:=Zb (hb.trans (hz.mono hb.size))
 clear hx1 hy1 hb hz cx4 cx6 g4 g6 HT hw3 hkf hk1
 have HW3:Hid (∀ i,i<m.ws.length->∃ g,aw=J ⟨g,0,Z⟩/\g<z.heap.size/\z.cell? ⟨g,i,Z⟩=J (I O (aF m.ws i))):=Zb fun i hi=>by
  obtain⟨a2,cap2,e2,_,_,h3⟩:=HY.out.rD
  obtain⟨g,e3,e4,_,h5⟩:=h3 (by omega)
  rw[ew] at e2
  injection e2 with e2
  refine⟨g,by rw[e2];exact e3,HY.out.words.lt e4,h5 i hi⟩
 have HQ:=Zb hQ
 have q4:z.cell? ⟨Y.y,4,Z⟩=J (F aw m.ws.length capw):=by have:=HY.out.c4;rw[ew] at this;exact this
 clear hQ
 go_wp2
 go_loopw [30] (fun iv wr=>∃ i:Nat,i<=m.ws.length/\iv=I Q i/\Below z.heap.size z wr) (fun iv _=>m.ws.length-(intOf iv).toNat)
 case atStart=>exact⟨0,Nat.zero_le _,rfl,Zc _ _⟩
 case round=>
  clear q4
  obtain⟨i,hi,rfl,hb⟩:=hrel
  by_cases hlt:i<m.ws.length
  ·obtain⟨gw,rfl,hgl,cw⟩:=HW3.out i hlt
   have c1:=(hb.cell (p:=⟨gw,i,Z⟩) hgl).trans cw
   have q4:wr.cell? ⟨Y.y,4,Z⟩=J (F (J ⟨gw,0,Z⟩) m.ws.length capw):=by
    have:=(HY.out.below hb).c4;rw[ew] at this;exact this
   have c2:wr.cell? ⟨q,i,Z⟩=J (I O (aF m.ws i)):=by
    have h5:Bk wr q _ _:=(hb.block _ (Bk.lt HQ.out)).trans HQ.out
    have:=h5.cell i
    rw[fo _ i hlt] at this
    exact this
   have hil:(i:Int)<m.ws.length:=by omega
   clear cw
   generalize aF m.ws i=V at *
   go_upto_region 7 with fail
   go_quiet (fail)
   have hb2:=hb.trans ((⟨rfl,rfl,rfl,Zd _,fun _ _=>rfl⟩:Below wr.heap.size wr (wr.drewN nq)).mono hb.size)
   clear c1 c2 q4 hb
   generalize wr.drewN nq=wy at *
   go_wp2
   go_roundw
   case rel=>exact⟨i+1,by omega,by go_num,hb2⟩
   case measure=>simp[intOf];omega
  ·obtain rfl:i=m.ws.length:=by omega
   have q6:wr.cell? ⟨Y.y,6,Z⟩=J (F (J ⟨gk,0,Z⟩) k.n capk):=by
    have:=(HY.out.below hb).c6;rw[ek] at this;exact this
   have HX2:=Zb (HX.out.below hb)
   have HY2:=Zb (HY.out.below hb)
   have HB2:=Zb (HB.out.trans (hb.mono HB.out.size))
   clear hb HW3 HQ HB HX HY
   generalize wr=wq at *
   go_wp2
   clear q6
   go_loopw [51] (fun tv wx=>∃ t:Nat,t<=k.n/\tv=I Q t/\Below wq.heap.size wq wx) (fun tv _=>k.n-(intOf tv).toNat)
   case atStart=>exact⟨0,Nat.zero_le _,rfl,Zc _ _⟩
   case round=>
    obtain⟨t,ht,rfl,hb⟩:=hrel
    by_cases hlt:t<k.n
    ·have hX:=HX2.out.below hb
     have hY:=HY2.out.below hb
     have d6:=hY.c6
     rw[ek] at d6
     have d5:=hY.c5
     obtain⟨r0,r1,r2,r3,r4,r5,r6,r7,pc,ec⟩:=hY.bA hlt
     have h8:bh [r0,r1,r2,r3,r4,r5,r6,r7]:=by have:=hY.mc.cs t hlt;rw[ec] at this;exact this
     obtain⟨c0,c1,c2,c3,c4,c5,c6,c7,c8⟩:=hY.core hlt ec ek
     have htl:(t:Int)<k.n:=by omega
     have heq:∀ W,(binOp .neq 111 (.agg #[I Q r0,I Q r1,I Q r2,I Q r3,I Q r4,I Q r5,I Q r6,I Q r7,I Q pc]) (.agg #[I Q r0,I Q r1,I Q r2,I Q r3,I Q r4,I Q r5,I Q r6,I Q r7,I Q pc])).run Tryz.prog W=.ok (.bool G) W:=fun W=>Ao [r0,r1,r2,r3,r4,r5,r6,r7] pc rfl W
     have HC:Hid (∀ g:fZ wr,Calls Tryz.prog 58 #[C (J ⟨X.x,0,Z⟩),I Q t] g.x fun e y'=>e=.returned (.agg #[I O r0,I O r1,I O r2,I O r3,I O r4,I O r5,I O r6,I O r7,I Q pc])/\Below g.x.heap.size g.x y'):=Zb fun g=>by
      have h1:=D4 (hX.below g.ok) t hlt
      rw[ec] at h1
      exact h1
     have HR:Hid (∀ g:fZ wr,Calls Tryz.prog 57 #[.agg #[I O r0,I O r1,I O r2,I O r3,I O r4,I O r5,I O r6,I O r7,I Q pc]] g.x fun e y'=>e=.returned (.agg #[I Q r0,I Q r1,I Q r2,I Q r3,I Q r4,I Q r5,I Q r6,I Q r7,I Q pc])/\Below g.x.heap.size g.x y'):=Zb fun g=>EE [r0,r1,r2,r3,r4,r5,r6,r7] pc h8 g.x
     obtain⟨MM,hMM⟩:∃ M,M=nM k.each m.pn t:=⟨_,rfl⟩
     have HO:Hid (∀ g:fZ wr,Calls Tryz.prog 59 #[C (J ⟨X.x,0,Z⟩),I Q t] g.x fun e y'=>e=.returned (I Q MM)/\Below g.x.heap.size g.x y'):=Zb fun g=>by
      rw[hMM]
      exact(Fx (hX.below g.ok) t hlt).mono fun e y' ⟨h1,j,h2⟩=>⟨h1,h2 ▸ ⟨rfl,rfl,rfl,Zd _,fun _ _=>rfl⟩⟩
     have HM:Hid (∀ g:fZ wr,Calls Tryz.prog 39 #[C (J ⟨Y.x,0,Z⟩),I Q t] g.x fun e y'=>e=.returned (I Q MM)/\Below g.x.heap.size g.x y'):=Zb fun g=>by
      rw[hMM]
      exact((hY.below g.ok).many t hlt).mono fun e y' ⟨h1,j,h2⟩=>⟨h1,h2 ▸ ⟨rfl,rfl,rfl,Zd _,fun _ _=>rfl⟩⟩
     clear hX hY hMM h8 ec
     go_upto_region 13 with fail
     have g5:=fun g:fZ wr=>g.cell d5
     have g6:=fun g:fZ wr=>g.cell d6
     have gc0:=fun g:fZ wr=>g.cell c0
     have gc1:=fun g:fZ wr=>g.cell c1
     have gc2:=fun g:fZ wr=>g.cell c2
     have gc3:=fun g:fZ wr=>g.cell c3
     have gc4:=fun g:fZ wr=>g.cell c4
     have gc5:=fun g:fZ wr=>g.cell c5
     have gc6:=fun g:fZ wr=>g.cell c6
     have gc7:=fun g:fZ wr=>g.cell c7
     have gc8:=fun g:fZ wr=>g.cell c8
     clear d5 d6 c0 c1 c2 c3 c4 c5 c6 c7 c8
     refine ar (by kernel_rfl) (by kernel_rfl) ?_
     repeat (go_big_quiet_step (first | (go_at_call 58;with_reducible exact ag (HC.out _)) | (go_at_call 57;with_reducible exact ag (HR.out _)) | (go_at_call 59;with_reducible exact ag (HO.out _)) | (go_at_call 39;with_reducible exact ag (HM.out _))))
     refine wpQuiet_nil ?_
     rintro wz ⟨⟨_,hz⟩,rfl⟩
     have hF:=hb.trans (hz.mono hb.size)
     clear hb hz HC HR HO HM heq
     go_wp2
     go_roundw
     case rel=>exact⟨t+1,by omega,by go_num,hF⟩
     case measure=>simp[intOf];omega
    ·have hF:=HB2.out.trans (hb.mono HB2.out.size)
     go_wp2
     go_ret
     exact⟨rfl,hF⟩
end
theorem zi {k:IntKind}{t:TypeId}{w:World}{v:Value}{xs:List Int}(h:eH k t w v xs):∃ a cap,v=F a xs.length cap/\xs.length<=maxLen/\∀ i,i<xs.length->∃ g,a=J ⟨g,0,Z⟩/\w.cell? ⟨g,i,Z⟩=J (.int k (aF xs i)):=by
 obtain⟨a,cap,e,h1,h2,h3⟩:=h.is
 refine⟨a,cap,e,by omega,fun i hi=>?_⟩
 obtain⟨g,e2,e3,hf,hc⟩:=h3 (by omega)
 exact⟨g,e2,hc i hi⟩
theorem AY (w:World)(o:Ot)(a b:Value)(ha:eH .i64 3 w a o.ms)(hb:eH .i64 3 w b o.ms):
 Calls Tryz.prog 21 #[zP a o,BJ b o] w fun e w'=>e=.returned (.bool true)/\Below w.heap.size w w':=by
 obtain⟨aA,cA,rfl,hm,hA⟩:=zi ha
 obtain⟨aB,cB,rfl,_,hB⟩:=zi hb
 have HA:=Zb hA
 have HB:=Zb hB
 obtain⟨ms,dn,ad,wt,st,er⟩:=o
 unfold zP BJ
 simp only at hm HA HB ⊢
 unfold maxLen at hm
 have hw1:(decide (aG wt=1))=wt:=by cases wt <;> rfl
 have hs1:(decide (aG st=1))=st:=by cases st <;> rfl
 have hw2:(aG wt==1)=wt:=by cases wt <;> rfl
 have hs2:(aG st==1)=st:=by cases st <;> rfl
 generalize aG wt=iw at *
 generalize aG st=is at *
 obtain⟨bb,k1,k2⟩:Below w.heap.size w ((w.alloc (Za #[F aA ms.length cA,I Q dn,I Q ad,.bool wt,.bool st,I Q er] 61)).alloc (Za #[F aB ms.length cB,I Q dn,I Q ad,I Q iw,I Q is,I Q er] 64))/\Bk ((w.alloc (Za #[F aA ms.length cA,I Q dn,I Q ad,.bool wt,.bool st,I Q er] 61)).alloc (Za #[F aB ms.length cB,I Q dn,I Q ad,I Q iw,I Q is,I Q er] 64)) w.heap.size 61 #[F aA ms.length cA,I Q dn,I Q ad,.bool wt,.bool st,I Q er]/\Bk ((w.alloc (Za #[F aA ms.length cA,I Q dn,I Q ad,.bool wt,.bool st,I Q er] 61)).alloc (Za #[F aB ms.length cB,I Q dn,I Q ad,I Q iw,I Q is,I Q er] 64)) (w.heap.size+1) 64 #[F aB ms.length cB,I Q dn,I Q ad,I Q iw,I Q is,I Q er]:=by
  refine⟨((Zc _ _).alloc (Zd _) _).alloc (by simp) _,(Bk.made w _ _).alloc _,?_⟩
  have:=Bk.made (w.alloc (Za #[F aA ms.length cA,I Q dn,I Q ad,.bool wt,.bool st,I Q er] 61)) 64 #[F aB ms.length cB,I Q dn,I Q ad,I Q iw,I Q is,I Q er]
  rwa [World.size_alloc] at this
 clear ha hb hA hB
 go_enter Tryz.func21,Tryz.ntmps21
 go_upto_region 1 with fail
 generalize (w.alloc (Za #[F aA ms.length cA,I Q dn,I Q ad,.bool wt,.bool st,I Q er] 61)).alloc (Za #[F aB ms.length cB,I Q dn,I Q ad,I Q iw,I Q is,I Q er] 64)=y at *
 obtain⟨x0,x1,x2,x3,x4,x5⟩:=k1.gS
 obtain⟨z0,z1,z2,z3,z4,z5⟩:=k2.gS
 have K1:=Zb k1
 have K2:=Zb k2
 clear k1 k2
 go_wp2
 go_loopw [53] (fun x wr=>∃ (j:Nat),x=I Q j/\j<=ms.length/\Hid (Below y.heap.size y wr)) (fun x _=>ms.length-(intOf x).toNat)
 case atStart=>exact⟨0,rfl,Nat.zero_le _,Zb (Zc _ _)⟩
 case round=>
  clear x0 x1 x2 x3 x4 x5 z0 z1 z2 z3 z4 z5 hw1 hs1 hw2 hs2
  obtain⟨j,rfl,hj,HBl⟩:=hrel
  by_cases hlt:j<ms.length
  ·have hji:(j:Int)<ms.length:=by omega
   have hbl:=HBl.out
   have hbw:=bb.trans (hbl.mono bb.size)
   have x0:=(Bk.within K1.out (ay hbl) (by simp)).cell 0
   have z0:=(Bk.within K2.out (ay hbl) (by simp)).cell 0
   replace x0:wr.cell? ⟨w.heap.size,0,Z⟩=J (F aA ms.length cA):=x0
   replace z0:wr.cell? ⟨w.heap.size+1,0,Z⟩=J (F aB ms.length cB):=z0
   obtain⟨gA,rfl,cA0⟩:=HA.out j hlt
   obtain⟨gB,rfl,cB0⟩:=HB.out j hlt
   have hA1:=hbw.cell (p:=⟨gA,j,Z⟩) (World.block_lt_of_cell? w _ cA0)
   rw[cA0] at hA1
   have hB1:=hbw.cell (p:=⟨gB,j,Z⟩) (World.block_lt_of_cell? w _ cB0)
   rw[cB0] at hB1
   generalize aF ms j=v0 at *
   clear cA0 cB0
   go_upto_region 6 with fail
   go_quiet (fail)
   have HF:=Zb (hbl.trans (Below.mono ⟨rfl,rfl,rfl,Zd _,fun _ _=>rfl⟩ hbl.size:Below y.heap.size wr (wr.drewN nq)))
   generalize wr.drewN nq=v9 at *
   clear hA1 hB1 x0 z0 hbl hbw
   go_wp2
   go_roundw
   case rel=>exact⟨j+1,by go_num,by omega,HF⟩
   case measure=>simp[intOf];omega
  ·obtain rfl:j=ms.length:=by omega
   have hfin:=bb.trans (HBl.out.mono bb.size)
   go_wp2
   go_ret
   exact⟨rfl,hfin⟩
end
