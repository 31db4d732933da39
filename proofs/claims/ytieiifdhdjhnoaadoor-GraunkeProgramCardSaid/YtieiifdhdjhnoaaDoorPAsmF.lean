import Derived.Test.YtieiifdhdjhnoaaDoorPAsmE
import Derived.Test.YtieiifdhdjhnoaaDoorPAsmM
import Derived.Test.YtieiifdhdjhnoaaDoorPRuI
import Derived.Test.YtieiifdhdjhnoaaDoorPMem
import Derived.Test.YtieiifdhdjhnoaaDoorPFlow
import Derived.Test.YtieiifdhdjhnoaaDoorPAsmC
import Derived.Test.YtieiifdhdjhnoaaDoorPInstC
import Derived.Test.YtieiifdhdjhnoaaDoorPInstP
import Derived.Deep.Onto
import Derived.Deep.DeepCutAuto
import Derived.BigRegion
import Derived.Deep.Cut
import Derived.Deep.RegionHeld3
import Derived.Deep.RegionLaw
import Derived.Laws.IdiomStrings
import Derived.Deep.CutRange
import Derived.Deep.CutBlock
import Derived.Deep.LoopGhost
set_option linter.unusedVariables false
set_option maxHeartbeats 1000000
set_option maxRecDepth 100000
open Go.Value renaming int->I,slice->P,pointer->R
open Go.IntKind renaming i64->Q
open Option renaming none->O,some->Z
open Go.Obj renaming cells->U
open Go.Lib renaming hid->J
open Go renaming undef->H
namespace Go.Proofs.YtieiifdhdjhnoaaDoor
section
open Go.ChangeShapes Go.WideShapes Go.ChangeAt Go.RowKit Go.Shelf
attribute [local go_sem] Oper.semAt_some
theorem nH (s r:List UInt8)(h:Nl s)(n:Int)(ls:List (List UInt8×Int))(rs:List Rw):
 cY (s++10 :: r) n ls rs=if (cB s n ls rs).1=0 then cY r (n+1) (cB s n ls rs).2.1 (cB s n ls rs).2.2 else (cF.zero,n,(cB s n ls rs).1):=by
 rw[i8 s r h]
 unfold cB bO
 by_cases h1:lY s=true
 ·rw[if_pos h1,if_pos h1]
  by_cases h2:(ls.any fun x=>x.1==s.dropLast)=true
  ·rw[if_pos h2,if_pos h2];simp
  ·rw[if_neg h2,if_neg h2];simp
 ·rw[if_neg h1,if_neg h1]
  cases hl:bT s with
  | none=>simp
  | some q=>
   obtain⟨i,nm⟩:=q
   simp only
   by_cases h3:64<=rs.length
   ·simp[h3]
   ·simp[h3]
structure dC (ls:List (List UInt8×Int))(rs:List Rw)(k:Nat):Prop where
 lab:kO ls rs.length
 few:rs.length<=64
 names:∀ r∈rs,r.2.1.length<=16
 many:ls.length<=k
theorem lf {s:List UInt8}(h:aW s=true):s.length<=16:=by
 unfold aW at h
 simp only[Bool.and_eq_true,decide_eq_true_eq] at h
 exact h.2.1
theorem jU {s:List UInt8}{i:ay}{nm:List UInt8}(h:bT s=Z (i,nm)):nm.length<=16:=by
 unfold bT at h
 repeat' split at h
 all_goals first
  | (cases h;done)
  | (cases h;simp;done)
  | (cases h;exact lf (by rename_i hh;exact hh.2))
theorem dC.add {ls:List (List UInt8×Int)}{rs:List Rw}{k:Nat}(h:dC ls rs k)(s:List UInt8)(n:Int)(h0:(cB s n ls rs).1=0):dC (cB s n ls rs).2.1 (cB s n ls rs).2.2 (k+1):=by
 unfold cB at *
 split at h0
 ·rename_i h1
  rw[if_pos h1]
  split at h0
  ·cases h0
  ·rename_i h2
   rw[if_neg h2]
   refine⟨⟨?_,?_⟩,h.few,h.names,by have:=h.many;simp;omega⟩
   ·rw[List.map_append,List.nodup_append]
    refine⟨h.lab.1,by simp,?_⟩
    intro a ha b hb e
    simp at hb
    subst hb
    subst e
    refine h2 ?_
    unfold bO
    rw[List.any_eq_true]
    obtain⟨x,hx,e⟩:=List.mem_map.1 ha
    exact⟨x,hx,by simpa using e⟩
   ·intro x hx
    rcases List.mem_append.1 hx with hx | hx
    ·exact h.lab.2 x hx
    ·simp at hx
     subst hx
     simp
 ·rename_i h1
  rw[if_neg h1]
  cases hl:bT s with
  | none=>rw[hl] at h0;cases h0
  | some q=>
   obtain⟨i,nm⟩:=q
   rw[hl] at h0
   simp only at h0 ⊢
   split at h0
   ·cases h0
   ·rename_i h3
    rw[if_neg h3]
    refine⟨⟨h.lab.1,fun x hx=>?_⟩,by simp;omega,fun r hr=>?_,by have:=h.many;simp;omega⟩
    ·have:=h.lab.2 x hx
     simp
     omega
    ·rcases List.mem_append.1 hr with hr | hr
     ·exact h.names r hr
     ·simp at hr
      subst hr
      exact jU hl
def mW (w:World)(text:List UInt8)(e:Ending)(w':World):Prop:=
 ∃ v,e=.returned (.tuple #[v,I Q (dE text).2.1,I Q (dE text).2.2])/\Pg w' w.heap.size v (dE text).1/\Below w.heap.size w w'
theorem aP {B:Nat}{A W:World}{S:Nat->Prop}(h:af A W S)(hs:∀ b,S b->B<=b)(hB:B<=A.heap.size:=by omega):Below B A W:=⟨h.os,h.tape,h.output,h.size,fun i hi=>h.block i (by omega) (fun e=>by have:=hs i e;omega)⟩
theorem kE (w W:World)(hW:W=(((((w.alloc (U #[P O 0 0,I Q 0,I Q 0] 24)).alloc (U #[I Q 0] 3)).alloc (U #[I Q 0] 29)).alloc (.map #[] 0)).alloc (U #[P O 0 0,.map (Z (w.heap.size+1+1+1))] 50))):
 Below w.heap.size w W/\W.heap.size=w.heap.size+5/\Bk W w.heap.size 24 #[P O 0 0,I Q 0,I Q 0]/\Bk W (w.heap.size+1) 3 #[I Q 0]/\Bk W (w.heap.size+2) 29 #[I Q 0]/\∀ lo,Dr W (w.heap.size+4) (w.heap.size+3) lo [] []:=by
 have h1:=Bk.made w 24 #[P O 0 0,I Q 0,I Q 0]
 generalize e1:w.alloc (U #[P O 0 0,I Q 0,I Q 0] 24)=w1 at *
 have z1:w1.heap.size=w.heap.size+1:=by rw[<-e1];simp
 have h2:=Bk.made w1 3 #[I Q 0]
 generalize e2:w1.alloc (U #[I Q 0] 3)=w2 at *
 have z2:w2.heap.size=w.heap.size+2:=by rw[<-e2];simp[z1]
 have h3:=Bk.made w2 29 #[I Q 0]
 generalize e3:w2.alloc (U #[I Q 0] 29)=w3 at *
 have z3:w3.heap.size=w.heap.size+3:=by rw[<-e3];simp[z2]
 have h4:=cC.made w3
 generalize e4:w3.alloc (.map #[] 0)=w4 at *
 have z4:w4.heap.size=w.heap.size+4:=by rw[<-e4];simp[z3]
 have h5:=Bk.made w4 50 #[P O 0 0,.map (Z (w.heap.size+1+1+1))]
 rw[<-hW] at h5
 have k1:af w1 w2 (fun _=>False):=by rw[<-e2];exact(af.refl _ _).alloc _
 have k2:af w2 w3 (fun _=>False):=by rw[<-e3];exact(af.refl _ _).alloc _
 have k3:af w3 w4 (fun _=>False):=by rw[<-e4];exact(af.refl _ _).alloc _
 have k4:af w4 W (fun _=>False):=by rw[hW];exact(af.refl _ _).alloc _
 have k0:af w w1 (fun _=>False):=by rw[<-e1];exact(af.refl _ _).alloc _
 have k14:=((k1.cw k2 (by simp)).cw k3 (by simp)).cw k4 (by simp)
 have k24:=(k2.cw k3 (by simp)).cw k4 (by simp)
 have k34:=k3.cw k4 (by simp)
 rw[z1] at h2
 rw[z2] at h3
 rw[z3] at h4
 rw[z4] at h5
 refine⟨(k0.cw k14 (by simp)).below (by simp),by rw[hW];simp[z4],h1.within k14 (by simp),h2.within k24 (by simp),h3.within k34 (by simp),fun lo=>⟨P O 0 0,h5,h4.within k4 (by simp),World.ownsRow_nil _ _ _ _⟩⟩
def oB (w:World)(text:List UInt8)(k:Nat)(W:World):Prop:=
 ∃ (ls:List (List UInt8×Int)) (rs:List Rw) (t:List UInt8),Below w.heap.size w W/\Bk W w.heap.size 24 #[P O 0 0,I Q 0,I Q 0]/\Bk W (w.heap.size+1) 3 #[I Q 0]/\Bk W (w.heap.size+2) 29 #[I Q 0]/\
  Dr W (w.heap.size+4) (w.heap.size+3) (w.heap.size+13) ls rs/\dC ls rs k/\(az text).drop k=az t/\t.length<=text.length/\dE text=cY t ((k:Int)+1) ls rs
def oA (w:World)(text:List UInt8)(c:Code)(W:World):Prop:=
 c=.ret/\∃ ln e:Int,Below w.heap.size w W/\Bk W w.heap.size 24 #[P O 0 0,I Q 0,I Q 0]/\Bk W (w.heap.size+1) 3 #[I Q ln]/\Bk W (w.heap.size+2) 29 #[I Q e]/\dE text=(cF.zero,ln,e)
theorem lK {w:World}{text:List UInt8}:∀ k,kW (fun b=>b=w.heap.size+6\/b=w.heap.size+6+1\/w.heap.size+8<=b/\b<w.heap.size+13) (oB w text k):=by
 rintro k A B ⟨ls,rs,t,b2,q0,q1,q2,hD,hO,hdr,htl,hgo⟩ hw
 have hA:=b2.size
 exact⟨ls,rs,t,b2.trans (aP hw (by rintro b (rfl|rfl | h) <;> omega)),q0.within hw (by omega),q1.within hw (by omega),q2.within hw (by omega),hD.within hw (by omega) (by omega) (by rintro b (rfl|rfl | h) <;> omega),hO,hdr,htl,hgo⟩
theorem kF {w:World}{text:List UInt8}:∀ c,kW (fun b=>b=w.heap.size+6\/b=w.heap.size+6+1\/w.heap.size+8<=b/\b<w.heap.size+13) (oA w text c):=by
 rintro c A B ⟨rfl,ln,e,b2,q0,q1,q2,hgo⟩ hw
 have hA:=b2.size
 exact⟨rfl,ln,e,b2.trans (aP hw (by rintro b (rfl|rfl | h) <;> omega)),q0.within hw (by omega),q1.within hw (by omega),q2.within hw (by omega),hgo⟩
def kP (W:World)(g:Nat)(sl a b ln e:Value):World:=((((W.setCell ⟨g,0,O⟩ sl).setCell ⟨g,1,O⟩ a).setCell ⟨g,2,O⟩ b).setCell ⟨g+1,0,O⟩ ln).setCell ⟨g+2,0,O⟩ e
theorem fX {w W:World}{x0 x1 x2 y z:Value}(b2:Below w.heap.size w W)(q0:Bk W w.heap.size 24 #[x0,x1,x2])(q1:Bk W (w.heap.size+1) 3 #[y])(q2:Bk W (w.heap.size+2) 29 #[z])(sl a b ln e:Value):
 Below w.heap.size w (kP W w.heap.size sl a b ln e)/\Bk (kP W w.heap.size sl a b ln e) w.heap.size 24 #[sl,a,b]/\Bk (kP W w.heap.size sl a b ln e) (w.heap.size+1) 3 #[ln]/\Bk (kP W w.heap.size sl a b ln e) (w.heap.size+2) 29 #[e]/\
  af W (kP W w.heap.size sl a b ln e) (fun b=>b=w.heap.size\/b=w.heap.size+1\/b=w.heap.size+2):=by
 have h0:=dB q0 sl a b
 have k0:af W (d9 W w.heap.size sl a b) (fun b=>b=w.heap.size):=(((af.refl W (fun b=>b=w.heap.size)).put w.heap.size 0 sl (.inl rfl)).put w.heap.size 1 a (.inl rfl)).put w.heap.size 2 b (.inl rfl)
 have h1:=q1.within k0 (by omega)
 have h2:=q2.within k0 (by omega)
 have b0:=bY b2 (Nat.le_refl _) sl a b
 have e9:kP W w.heap.size sl a b ln e=((d9 W w.heap.size sl a b).setCell ⟨w.heap.size+1,0,O⟩ ln).setCell ⟨w.heap.size+2,0,O⟩ e:=rfl
 rw[e9]
 generalize d9 W w.heap.size sl a b=V at *
 refine⟨(b0.setCell (by show w.heap.size<=w.heap.size+1;omega) _).setCell (by show w.heap.size<=w.heap.size+2;omega) _,(h0.off (by show w.heap.size≠w.heap.size+1;omega) _).off (by show w.heap.size≠w.heap.size+2;omega) _,
  (h1.put 0 ln).off (by show w.heap.size+1≠w.heap.size+2;omega) _,(h2.off (by show w.heap.size+2≠w.heap.size+1;omega) _).put 0 e,?_⟩
 exact((k0.wide fun i hi _=>.inl hi).put (w.heap.size+1) 0 ln (.inl (.inr (.inl rfl)))).put (w.heap.size+2) 0 e (.inl (.inr (.inr rfl)))
theorem kB (text:List UInt8)(hl:text.length<80000)(w:World)(L:Lb w):Calls Tryd.prog 8 #[bs text] w (mW w text):=by
 refine(callsIn_wide (n:=0)).1 ?_
 refine callsIn_of_wp_marks Tryd.func8 rfl trivial ?_ rfl
 unfold bs
 simp only[Tryd.ntmps8,List.size_toArray,List.length_cons,List.length_nil,Nat.reduceAdd,Nat.reduceSub,Array.replicate_succ,Array.replicate_zero,List.push_toArray,List.append_toArray,List.nil_append,List.cons_append]
 have hmm:=@run_makeMap Tryd.prog
 have HNB:=J (fun W=>(callsIn_wide (n:=0)).2 (kz text W))
 gi_wp2
 refine⟨trivial,rfl,?_⟩
 obtain⟨b0,s0,r0,r1,r2,d0⟩:=kE w _ rfl
 generalize ((((((w.alloc (U #[P O 0 0,I Q 0,I Q 0] 24)).alloc (U #[I Q 0] 3)).alloc (U #[I Q 0] 29)).alloc (.map #[] 0)).alloc (U #[P O 0 0,.map (Z (w.heap.size+1+1+1))] 50)))=W0 at *
 refine(HNB.out _).mono ?_
 rintro e W1 ⟨rfl,rfl⟩
 have t1:=Bk.made W0 9 #[bs text]
 have h1:af W0 (W0.alloc (U #[bs text] 9)) (fun _=>False):=(af.refl _ _).alloc _
 have s1:(W0.alloc (U #[bs text] 9)).heap.size=w.heap.size+6:=by simp[s0]
 rw[s0] at t1 ⊢
 replace b0:=b0.trans (aP h1 (B:=w.heap.size) (by simp))
 replace r0:=r0.within h1 (by simp)
 replace r1:=r1.within h1 (by simp)
 replace r2:=r2.within h1 (by simp)
 replace d0:=(d0 (w.heap.size+13)).within h1 (by simp) (by simp) (by simp)
 generalize W0.alloc (U #[bs text] 9)=W1 at *
 clear h1 s0 HNB hmm W0
 gi_wp2
 have HI:=J (lK (w:=w) (text:=text))
 have HX:=J (kF (w:=w) (text:=text))
 refine ek (gf:=17) (lb:=#[R (Z ⟨w.heap.size+5,0,O⟩)]) rfl (enters_of Tryd.func17 (by kernel_rfl) rfl)
  (encs:=fun k=>#[I Q ((k:Int)+1),bs (bt text k)]) (N:=(az text).length) (T:=fun x=>w.heap.size+8<=x/\x<w.heap.size+13) (fun _=>rfl) (by omega) (by omega)
  ?seq (oB w text) (oA w text) (by rw[s1];exact HI.out) (by rw[s1];exact HX.out) ⟨[],[],text,b0,r0,r1,r2,d0,⟨⟨by simp,by simp⟩,by simp,by simp,by simp⟩,rfl,Nat.le_refl _,kG text⟩
  (fun k=>{ tmps:=#[.string ⟨text.toArray⟩,H,R (Z ⟨w.heap.size,0,O⟩),R (Z ⟨w.heap.size+1,0,O⟩),R (Z ⟨w.heap.size+2,0,O⟩),R (Z ⟨w.heap.size+4,0,O⟩),I Q ((k:Int)+1),.string ⟨(bt text k).toArray⟩,H,.map (Z (w.heap.size+3)),.agg #[P O 0 0,.map (Z (w.heap.size+3))],.string ⟨text.toArray⟩,
   .func (.func 17) #[] #[R (Z ⟨w.heap.size+5,0,O⟩)],I Q ((k:Int)+1),.string ⟨(bt text k).toArray⟩,H,H,H,H,H,H,H,H,H,H,H,H],defers:=[] }) ?assign ?body ?done ?stop
 case seq=>
  intro W4 hb4 hz4
  have hz:W4.heap.size=w.heap.size+8:=by omega
  have:=gz text (w.heap.size+5) (W1.heap.size+1) W4 ((hb4.block _ (by omega)).trans t1) (by omega)
  rw[hz] at this
  exact this
 case assign=>
  intro l2 k W K hK
  unfold bs
  gi_wp2
  exact hK
 case body=>
  rintro l2 k W hk ⟨ls,rs,t,b2,q0,q1,q2,hD,hO,hdr,htl,hgo⟩ hT
  simp only[s1] at hT ⊢
  have hsz:w.heap.size+13<=W.heap.size:=hT (w.heap.size+12) (.inr (.inr ⟨by omega,by omega⟩))
  have hne:t≠[]:=by
   rintro rfl
   have:=congrArg List.length hdr
   simp[az] at this
   omega
  have hkl:k<1000000:=Nat.lt_of_lt_of_le hk (Nat.le_trans (dJ text) (by omega))
  obtain⟨v0,v1,v2,v3,v4⟩:W.cell? ⟨w.heap.size,0,O⟩=Z (P O 0 0)/\W.cell? ⟨w.heap.size,1,O⟩=Z (I Q 0)/\W.cell? ⟨w.heap.size,2,O⟩=Z (I Q 0)/\W.cell? ⟨w.heap.size+1,0,O⟩=Z (I Q 0)/\W.cell? ⟨w.heap.size+2,0,O⟩=Z (I Q 0):=⟨q0.cell 0,q0.cell 1,q0.cell 2,q1.cell 0,q2.cell 0⟩
  have g0:=q0.free
  have g1:=q1.free 0
  have g2:=q2.free 0
  rcases dz t with hn | ⟨s,r,hn,rfl⟩
  ·have hline:bt text k=t:=by
    have:=congrArg List.head? hdr
    rw[bE t hn hne] at this
    simp[List.head?_drop] at this
    simp[bt,List.getD_eq_getElem?_getD,this]
   have hres:dE text=(cF.zero,(k:Int)+1,8):=by rw[hgo,fz t hn,if_pos hne]
   have HA:=J (CallsIn.inRound l2 ((callsIn_wide (n:=0)).2 (mP hD t (fun u e=>hn 10 (by rw[e];simp) rfl) (by omega) ((k:Int)+1))))
   rw[hline]
   obtain⟨p0,p1,p2,p3,p4⟩:=fX b2 q0 q1 q2 (P O 0 0) (I Q 0) (I Q 0) (I Q ((k:Int)+1)) (I Q 8)
   clear hgo hdr hD hO HI HX
   gi_wp2
   refine⟨trivial,rfl,HA.out.mono ?_⟩
   rintro e W5 ⟨rfl,rfl⟩
   gi_wp2
   exact⟨cv.dH p4 (fun b hb=>⟨hT b hb,by omega⟩),rfl,(k:Int)+1,8,p0,p1,p2,p3,hres⟩
  ·have hline:bt text k=s++[10]:=by
    have:=congrArg List.head? hdr
    rw[bu s r hn] at this
    simp[List.head?_drop] at this
    simp[bt,List.getD_eq_getElem?_getD,this]
   have hdr2:(az text).drop (k+1)=az r:=by
    have:=congrArg List.tail hdr
    rw[bu s r hn] at this
    simpa [List.tail_drop] using this
   have hle:s.length+(r.length+1)<=text.length:=by simpa using htl
   rw[nH s r hn] at hgo
   have HA:=J (CallsIn.inRound l2 ((callsIn_wide (n:=0)).2 (om hD hsz (L.below b2) s (by omega) ((k:Int)+1) (by have:=hO.many;omega) hO.few)))
   have HK:Hid ((cB s ((k:Int)+1) ls rs).1=0->dC (cB s ((k:Int)+1) ls rs).2.1 (cB s ((k:Int)+1) ls rs).2.2 (k+1)):=J fun e=>hO.add s _ e
   have HG:=J hgo
   rw[hline]
   clear hgo hdr hD hO HI HX
   generalize cB s ((k:Int)+1) ls rs=ad at *
   obtain⟨er,ls2,rs2⟩:=ad
   gi_wp2
   refine⟨trivial,rfl,HA.out.mono ?_⟩
   rintro e W5 ⟨rfl,hD5,hW5⟩
   simp only at hD5 hW5 HK HG ⊢
   clear HA v0 v1 v2 v3 v4 g0 g1 g2
   replace b2:=b2.trans (aP hW5 (B:=w.heap.size) (by rintro b (rfl|rfl | h) <;> omega))
   replace q0:=q0.within hW5 (by rintro(h | h | h) <;> omega)
   replace q1:=q1.within hW5 (by rintro(h | h | h) <;> omega)
   replace q2:=q2.within hW5 (by rintro(h | h | h) <;> omega)
   have hH:cv (fun b=>b=w.heap.size+6\/b=w.heap.size+6+1\/w.heap.size+8<=b/\b<w.heap.size+13) W W5:=cv.dH hW5 (fun b hb=>⟨hT b hb,by rintro(h | h | h) <;> omega⟩)
   by_cases her:er=0
   ·subst her
    gi_wp2
    refine⟨hH,ls2,rs2,r,b2,q0,q1,q2,hD5,HK.out (by trivial),hdr2,by omega,?_⟩
    rw[HG.out]
    simp
   ·have her2:(er != 0)=true:=by simpa using her
    have hres:dE text=(cF.zero,(k:Int)+1,er):=by rw[HG.out,if_neg her]
    obtain⟨v0,v1,v2,v3,v4⟩:W5.cell? ⟨w.heap.size,0,O⟩=Z (P O 0 0)/\W5.cell? ⟨w.heap.size,1,O⟩=Z (I Q 0)/\W5.cell? ⟨w.heap.size,2,O⟩=Z (I Q 0)/\W5.cell? ⟨w.heap.size+1,0,O⟩=Z (I Q 0)/\W5.cell? ⟨w.heap.size+2,0,O⟩=Z (I Q 0):=⟨q0.cell 0,q0.cell 1,q0.cell 2,q1.cell 0,q2.cell 0⟩
    have g0:=q0.free
    have g1:=q1.free 0
    have g2:=q2.free 0
    obtain⟨p0,p1,p2,p3,p4⟩:=fX b2 q0 q1 q2 (P O 0 0) (I Q 0) (I Q 0) (I Q ((k:Int)+1)) (I Q er)
    clear HK HG hD5 her
    gi_wp2
    exact⟨hH.trans (cv.dH p4 (fun b hb=>⟨Nat.lt_of_lt_of_le (hT b hb) hH.1,by omega⟩)),rfl,(k:Int)+1,er,p0,p1,p2,p3,hres⟩
 case done=>
  rintro W ⟨ls,rs,t,b2,q0,q1,q2,hD,hO,hdr,htl,hgo⟩ hd
  have ht:t=[]:=by
   rw[List.drop_of_length_le (Nat.le_refl _)] at hdr
   cases t with
   | nil=>rfl
   | cons c u=>
    exfalso
    rcases dz (c :: u) with hn | ⟨s,r,hn,e⟩
    ·rw[bE _ hn (by simp)] at hdr;cases hdr
    ·rw[e,bu s r hn] at hdr;cases hdr
  subst ht
  rw[fz [] (by unfold Nl;simp),if_neg (by simp)] at hgo
  have HC:=J ((callsIn_wide (n:=0)).2 (ol hD hO.few hO.lab hO.names))
  rw[<-hgo] at HC
  clear hgo hD hO hdr htl
  gi_wp2
  refine⟨trivial,rfl,HC.out.mono ?_⟩
  rintro e W5 ⟨v,rfl,⟨sl,rfl,hP⟩,hB⟩
  have hz:=b2.size
  have hlt:=q2.lt
  have hdl:=(Array.getElem?_eq_some_iff.1 hd).1
  replace q0:Bk W5 _ _ _:=(hB.block _ q0.lt).trans q0
  replace q1:Bk W5 _ _ _:=(hB.block _ q1.lt).trans q1
  replace q2:Bk W5 _ _ _:=(hB.block _ q2.lt).trans q2
  replace hd:=(hB.block _ hdl).trans hd
  replace b2:=b2.trans (hB.mono hz)
  obtain⟨v0,v1,v2,v3,v4⟩:W5.cell? ⟨w.heap.size,0,O⟩=Z (P O 0 0)/\W5.cell? ⟨w.heap.size,1,O⟩=Z (I Q 0)/\W5.cell? ⟨w.heap.size,2,O⟩=Z (I Q 0)/\W5.cell? ⟨w.heap.size+1,0,O⟩=Z (I Q 0)/\W5.cell? ⟨w.heap.size+1+1,0,O⟩=Z (I Q 0):=⟨q0.cell 0,q0.cell 1,q0.cell 2,q1.cell 0,q2.cell 0⟩
  have g0:=q0.free
  have g1:=q1.free 0
  have g2:W5.frozen? ⟨w.heap.size+1+1,0,O⟩=false:=q2.free 0
  obtain⟨sa,scap,rfl,_,_,_⟩:=bj hP
  rw[s1] at hd
  have HR:Hid (mW w text=fun e w'=>∃ v,e=.returned (.tuple #[v,I Q (dE text).2.1,I Q (dE text).2.2])/\Pg w' w.heap.size v (dE text).1/\Below w.heap.size w w'):=J rfl
  generalize dE text=res at *
  obtain⟨⟨l,plo,pun⟩,ln,er⟩:=res
  simp only at hP q0 q1 q2 v0 v1 v2 v3 v4 g0 g1 g2 hd b2 ⊢
  obtain⟨p0,p1,p2,p3,p4⟩:=fX b2 q0 q1 q2 (P sa l.length scap) (I Q plo) (I Q pun) (I Q ln) (I Q er)
  have hP2:=aB hP p4 (fun b e e2=>by
   obtain⟨cs,hcs⟩:=bo hP e
   rcases e2 with rfl|rfl|rfl
   ·exact Bk.bi hcs q0 (by decide) rfl
   ·exact Bk.bi hcs q1 (by decide) rfl
   ·exact Bk.bi hcs q2 (by decide) rfl)
  have hd2:=(p4.block _ (Array.getElem?_eq_some_iff.1 hd).1 (by omega)).trans hd
  replace hP2:=World.ownsRow.mono (base':=w.heap.size) hP2 hz
  gi_wp2
  generalize hv:((((W5.setCell ⟨w.heap.size,0,O⟩ (P sa l.length scap)).setCell ⟨w.heap.size,1,O⟩ (I Q plo)).setCell ⟨w.heap.size,2,O⟩ (I Q pun)).setCell ⟨w.heap.size+1,0,O⟩ (I Q ln)).setCell ⟨w.heap.size+1+1,0,O⟩ (I Q er)=V
  replace hv:kP W5 w.heap.size (P sa l.length scap) (I Q plo) (I Q pun) (I Q ln) (I Q er)=V:=hv
  rw[hv] at p0 p1 p2 p3 p4 hP2 hd2
  refine⟨by simp,.inl ⟨_,_,rfl,run_takeDeferred hd2,?_⟩⟩
  have hpo:=aM V (w.heap.size+6) (.deferred O) (fun b=>b=w.heap.size+6) rfl
  replace p1:=p1.within hpo (by omega)
  replace p2:=p2.within hpo (by omega)
  replace p3:=p3.within hpo (by omega)
  replace hP2:=aB hP2 hpo (fun b e e2=>by
   obtain⟨cs,hcs⟩:=bo hP2 e
   rw[e2] at hcs
   unfold Bk at hcs
   rw[hd2] at hcs
   cases hcs)
  replace p0:=p0.trans (aP hpo (B:=w.heap.size) (by rintro b rfl;omega) p0.size)
  generalize V.putObj (w.heap.size+6) (.deferred O)=V2 at *
  obtain⟨y0,y1,y2,y3,y4⟩:V2.cell? ⟨w.heap.size,0,O⟩=Z (P sa l.length scap)/\V2.cell? ⟨w.heap.size,1,O⟩=Z (I Q plo)/\V2.cell? ⟨w.heap.size,2,O⟩=Z (I Q pun)/\V2.cell? ⟨w.heap.size+1,0,O⟩=Z (I Q ln)/\V2.cell? ⟨w.heap.size+1+1,0,O⟩=Z (I Q er):=⟨p1.cell 0,p1.cell 1,p1.cell 2,p2.cell 0,p3.cell 0⟩
  refine⟨.tuple #[.agg #[P sa l.length scap,I Q plo,I Q pun],I Q ln,I Q er],by simp[results,Tryd.results8,go_sem,y0,y1,y2,y3,y4],?_⟩
  rw[HR.out]
  exact⟨_,rfl,⟨_,rfl,hP2⟩,p0⟩
 case stop=>
  rintro c W ⟨rfl,ln,er,b2,q0,q1,q2,hgo⟩ hd
  gi_wp2
  refine⟨by simp,.inl ⟨_,_,rfl,run_takeDeferred hd,?_⟩⟩
  have hpo:=aM W W1.heap.size (.deferred O) (fun b=>b=W1.heap.size) rfl
  replace q0:=q0.within hpo (by omega)
  replace q1:=q1.within hpo (by omega)
  replace q2:=q2.within hpo (by omega)
  have p0:=b2.trans (aP hpo (B:=w.heap.size) (by rintro b rfl;omega) b2.size)
  generalize W.putObj W1.heap.size (.deferred O)=V2 at *
  obtain⟨y0,y1,y2,y3,y4⟩:V2.cell? ⟨w.heap.size,0,O⟩=Z (P O 0 0)/\V2.cell? ⟨w.heap.size,1,O⟩=Z (I Q 0)/\V2.cell? ⟨w.heap.size,2,O⟩=Z (I Q 0)/\V2.cell? ⟨w.heap.size+1,0,O⟩=Z (I Q ln)/\V2.cell? ⟨w.heap.size+1+1,0,O⟩=Z (I Q er):=⟨q0.cell 0,q0.cell 1,q0.cell 2,q1.cell 0,q2.cell 0⟩
  refine⟨.tuple #[.agg #[P O 0 0,I Q 0,I Q 0],I Q ln,I Q er],by simp[results,Tryd.results8,go_sem,y0,y1,y2,y3,y4],?_⟩
  unfold mW
  rw[hgo]
  exact⟨_,rfl,⟨_,rfl,World.ownsRow_nil _ _ _ _⟩,p0⟩
end
section
open Go.ChangeShapes Go.WideShapes Go.ChangeAt Go.RowKit
theorem mJ (w:World)(L:Lb w):Calls Tryd.prog 8 #[bs dk] w (lX m6 w):=by
 have h:=kB dk lm w L
 unfold mW at h
 rw[nG] at h
 exact h
theorem jA (N:Nat)(h1:1<=N)(h64:N<=64)(w:World)(L:Lb w):
 Calls Tryd.prog 4 #[I Q N] w (mV w (ov N) (nT N) (eZ N)):=
 ll N w h1 h64 (fun V hV=>mJ V (L.below hV))
theorem nF (x0:Int)(hn:1<=x0/\x0<=64):∃ k init r7,x0=((k:Lk).n:Int)/\(⟨k.l,k.lo,k.un⟩:cF)=m6/\
 (∀ V,Lb V->Calls Tryd.prog 4 #[I Q x0] V (mV V k init r7)):=by
 obtain⟨h1,h64⟩:=hn
 obtain⟨N,rfl⟩:∃ N:Nat,x0=N:=⟨x0.toNat,by omega⟩
 exact⟨(ov N),(nT N),(eZ N),rfl,rfl,fun V L=>jA N (by omega) (by omega) V L⟩
theorem lq (w:World)(L:Lb w):Calls Tryd.prog 5 #[] w fun e w'=>e=.returned (.bool true)/\Below w.heap.size w w':=by
 have HP:=J (jA 2 (by decide) (by decide) w L)
 go_enter Tryd.func5,Tryd.ntmps5
 go_wp2_with fail
 refine HP.out.mono ?_
 rintro e x ⟨v,rfl,hsv,hx⟩
 obtain⟨aL,cL,aS,cS,aI,cI,aR,cR,rfl⟩:=nW hsv
 clear hsv
 rw[show (ov 2).l.length=17 from rfl,show (ov 2).lo=0 from rfl,show (ov 2).un=11 from rfl,show (ov 2).zs.length=2 from rfl,ga,show (eZ 2).length=2 from rfl,show (ov 2).each=0 from rfl]
 have hb:Below w.heap.size w (x.alloc (U #[P aL 17 cL,I Q 0,I Q 11,P aS 2 cS,P aI (2+2) cI,I Q 0,P aR 2 cR] 28)):=hx.alloc hx.size _
 have hK:=Bk.made x 28 #[P aL 17 cL,I Q 0,I Q 11,P aS 2 cS,P aI (2+2) cI,I Q 0,P aR 2 cR]
 clear HP hx
 go_upto_region 2 with fail
 generalize x.heap.size=q at *
 generalize x.alloc (U #[P aL 17 cL,I Q 0,I Q 11,P aS 2 cS,P aI (2+2) cI,I Q 0,P aR 2 cR] 28)=y at *
 obtain⟨y0,y6⟩:y.cell? ⟨q,0,O⟩=Z (P aL 17 cL)/\y.cell? ⟨q,6,O⟩=Z (P aR 2 cR):=⟨hK.cell 0,hK.cell 6⟩
 clear hK
 go_wp2
 go_ret
 exact⟨rfl,hb⟩
end
