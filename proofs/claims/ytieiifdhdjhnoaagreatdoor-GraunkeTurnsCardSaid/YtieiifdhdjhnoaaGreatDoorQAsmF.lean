import Derived.Test.YtieiifdhdjhnoaaGreatDoorQAsmE
import Derived.Test.YtieiifdhdjhnoaaGreatDoorQAsmM
import Derived.Test.YtieiifdhdjhnoaaGreatDoorQAsmD
import Derived.Test.YtieiifdhdjhnoaaGreatDoorQPoolRefE
import Derived.Test.YtieiifdhdjhnoaaGreatDoorQRunM
import Derived.Test.YtieiifdhdjhnoaaGreatDoorQArR
import Derived.Test.YtieiifdhdjhnoaaGreatDoorQCoreV
import Derived.Test.YtieiifdhdjhnoaaGreatDoorQWdA
import Derived.Deep.Onto
import Derived.Deep.QuietTactic
set_option linter.unusedVariables false
set_option maxHeartbeats 4000000
set_option maxRecDepth 100000
open Go.Value renaming int->I,slice->G,pointer->F
open Go.IntKind renaming i64->Q
open Option renaming none->O,some->Z
open Bool renaming false->J
open Go.Obj renaming cells->C
open Go.Lib renaming hid->Za
open Go.RowKit.Below renaming refl->Zb
open Nat renaming le_refl->Zc
open Go renaming undef->Zd
namespace Go.Proofs.YtieiifdhdjhnoaaGreatDoor
section
open Go.ChangeShapes Go.WideShapes Go.ChangeAt Go.RowKit Go.Shelf
attribute [local go_sem] Oper.semAt_some
theorem E1 (s r:List UInt8)(h:Nl s)(n:Int)(ls:List (List UInt8×Int))(rs:List Rw):
 ij (s++10 :: r) n ls rs=if (iE s n ls rs).1=0 then ij r (n+1) (iE s n ls rs).2.1 (iE s n ls rs).2.2 else (gp.zero,n,(iE s n ls rs).1):=by
 rw[fm s r h]
 unfold iE fK
 by_cases h1:rO s=true
 ·rw[if_pos h1,if_pos h1]
  by_cases h2:(ls.any fun x=>x.1==s.dropLast)=true
  ·rw[if_pos h2,if_pos h2];simp
  ·rw[if_neg h2,if_neg h2];simp
 ·rw[if_neg h1,if_neg h1]
  cases hl:ee s with
  | none=>simp
  | some q=>
   obtain⟨i,nm⟩:=q
   simp only
   by_cases h3:64<=rs.length
   ·simp[h3]
   ·simp[h3]
structure lp (ls:List (List UInt8×Int))(rs:List Rw)(k:Nat):Prop where
 lab:zx ls rs.length
 few:rs.length<=64
 names:∀ r∈rs,r.2.1.length<=16
 many:ls.length<=k
theorem Ap {s:List UInt8}(h:cE s=true):s.length<=16:=by
 unfold cE at h
 simp only[Bool.and_eq_true,decide_eq_true_eq] at h
 exact h.2.1
theorem xO {s:List UInt8}{i:aU}{nm:List UInt8}(h:ee s=Z (i,nm)):nm.length<=16:=by
 unfold ee at h
 repeat' split at h
 all_goals first
  | (cases h;done)
  | (cases h;simp;done)
  | (cases h;exact Ap (by rename_i hh;exact hh.2))
theorem lp.add {ls:List (List UInt8×Int)}{rs:List Rw}{k:Nat}(h:lp ls rs k)(s:List UInt8)(n:Int)(h0:(iE s n ls rs).1=0):lp (iE s n ls rs).2.1 (iE s n ls rs).2.2 (k+1):=by
 unfold iE at *
 split at h0
 ·rename_i h1
  rw[if_pos h1]
  split at h0
  ·cases h0
  ·rename_i h2
   rw[if_neg h2]
   refine⟨⟨?_,?_⟩,h.few,h.names,by have:=h.many;simp;omega⟩
   ·rw[List.map_append,List.nodup_append]
    refine⟨h.lab.1,by simp,?_⟩
    intro a ha b hb e
    simp at hb
    subst hb
    subst e
    refine h2 ?_
    unfold fK
    rw[List.any_eq_true]
    obtain⟨x,hx,e⟩:=List.mem_map.1 ha
    exact⟨x,hx,by simpa using e⟩
   ·intro x hx
    rcases List.mem_append.1 hx with hx | hx
    ·exact h.lab.2 x hx
    ·simp at hx
     subst hx
     simp
 ·rename_i h1
  rw[if_neg h1]
  cases hl:ee s with
  | none=>rw[hl] at h0;cases h0
  | some q=>
   obtain⟨i,nm⟩:=q
   rw[hl] at h0
   simp only at h0 ⊢
   split at h0
   ·cases h0
   ·rename_i h3
    rw[if_neg h3]
    refine⟨⟨h.lab.1,fun x hx=>?_⟩,by simp;omega,fun r hr=>?_,by have:=h.many;simp;omega⟩
    ·have:=h.lab.2 x hx
     simp
     omega
    ·rcases List.mem_append.1 hr with hr | hr
     ·exact h.names r hr
     ·simp at hr
      subst hr
      exact xO hl
def DE (w:World)(text:List UInt8)(e:Ending)(w':World):Prop:=
 ∃ v,e=.returned (.tuple #[v,I Q (eQ text).2.1,I Q (eQ text).2.2])/\Pg w' w.heap.size v (eQ text).1/\Below w.heap.size w w'
theorem cz {B:Nat}{A W:World}{S:Nat->Prop}(h:ag A W S)(hs:∀ b,S b->B<=b)(hB:B<=A.heap.size:=by omega):Below B A W:=⟨h.os,h.tape,h.output,h.size,fun i hi=>h.block i (by omega) (fun e=>by have:=hs i e;omega)⟩
theorem yW (w W:World)(hW:W=(((((w.alloc (C #[G O 0 0,I Q 0,I Q 0] 24)).alloc (C #[I Q 0] 3)).alloc (C #[I Q 0] 29)).alloc (.map #[] 0)).alloc (C #[G O 0 0,.map (Z (w.heap.size+1+1+1))] 135))):
 Below w.heap.size w W/\W.heap.size=w.heap.size+5/\Bk W w.heap.size 24 #[G O 0 0,I Q 0,I Q 0]/\Bk W (w.heap.size+1) 3 #[I Q 0]/\Bk W (w.heap.size+2) 29 #[I Q 0]/\∀ lo,Dr W (w.heap.size+4) (w.heap.size+3) lo [] []:=by
 have h1:=Bk.made w 24 #[G O 0 0,I Q 0,I Q 0]
 generalize e1:w.alloc (C #[G O 0 0,I Q 0,I Q 0] 24)=w1 at *
 have z1:w1.heap.size=w.heap.size+1:=by rw[<-e1];simp
 have h2:=Bk.made w1 3 #[I Q 0]
 generalize e2:w1.alloc (C #[I Q 0] 3)=w2 at *
 have z2:w2.heap.size=w.heap.size+2:=by rw[<-e2];simp[z1]
 have h3:=Bk.made w2 29 #[I Q 0]
 generalize e3:w2.alloc (C #[I Q 0] 29)=w3 at *
 have z3:w3.heap.size=w.heap.size+3:=by rw[<-e3];simp[z2]
 have h4:=iF.made w3
 generalize e4:w3.alloc (.map #[] 0)=w4 at *
 have z4:w4.heap.size=w.heap.size+4:=by rw[<-e4];simp[z3]
 have h5:=Bk.made w4 135 #[G O 0 0,.map (Z (w.heap.size+1+1+1))]
 rw[<-hW] at h5
 have k1:ag w1 w2 (fun _=>False):=by rw[<-e2];exact(ag.refl _ _).alloc _
 have k2:ag w2 w3 (fun _=>False):=by rw[<-e3];exact(ag.refl _ _).alloc _
 have k3:ag w3 w4 (fun _=>False):=by rw[<-e4];exact(ag.refl _ _).alloc _
 have k4:ag w4 W (fun _=>False):=by rw[hW];exact(ag.refl _ _).alloc _
 have k0:ag w w1 (fun _=>False):=by rw[<-e1];exact(ag.refl _ _).alloc _
 have k14:=((k1.aJ k2 (by simp)).aJ k3 (by simp)).aJ k4 (by simp)
 have k24:=(k2.aJ k3 (by simp)).aJ k4 (by simp)
 have k34:=k3.aJ k4 (by simp)
 rw[z1] at h2
 rw[z2] at h3
 rw[z3] at h4
 rw[z4] at h5
 refine⟨(k0.aJ k14 (by simp)).below (by simp),by rw[hW];simp[z4],h1.within k14 (by simp),h2.within k24 (by simp),h3.within k34 (by simp),fun lo=>⟨G O 0 0,h5,h4.within k4 (by simp),World.ownsRow_nil _ _ _ _⟩⟩
def Gw (w:World)(text:List UInt8)(k:Nat)(W:World):Prop:=
 ∃ (ls:List (List UInt8×Int)) (rs:List Rw) (t:List UInt8),Below w.heap.size w W/\Bk W w.heap.size 24 #[G O 0 0,I Q 0,I Q 0]/\Bk W (w.heap.size+1) 3 #[I Q 0]/\Bk W (w.heap.size+2) 29 #[I Q 0]/\
  Dr W (w.heap.size+4) (w.heap.size+3) (w.heap.size+13) ls rs/\lp ls rs k/\(bG text).drop k=bG t/\t.length<=text.length/\eQ text=ij t ((k:Int)+1) ls rs
def Gv (w:World)(text:List UInt8)(c:Code)(W:World):Prop:=
 c=.ret/\∃ ln e:Int,Below w.heap.size w W/\Bk W w.heap.size 24 #[G O 0 0,I Q 0,I Q 0]/\Bk W (w.heap.size+1) 3 #[I Q ln]/\Bk W (w.heap.size+2) 29 #[I Q e]/\eQ text=(gp.zero,ln,e)
theorem A6 {w:World}{text:List UInt8}:∀ k,zN (fun b=>b=w.heap.size+6\/b=w.heap.size+6+1\/w.heap.size+8<=b/\b<w.heap.size+13) (Gw w text k):=by
 rintro k A B ⟨ls,rs,t,b2,q0,q1,q2,hD,hO,hdr,htl,hgo⟩ hw
 have hA:=b2.size
 exact⟨ls,rs,t,b2.trans (cz hw (by rintro b (rfl|rfl | h) <;> omega)),q0.within hw (by omega),q1.within hw (by omega),q2.within hw (by omega),hD.within hw (by omega) (by omega) (by rintro b (rfl|rfl | h) <;> omega),hO,hdr,htl,hgo⟩
theorem yX {w:World}{text:List UInt8}:∀ c,zN (fun b=>b=w.heap.size+6\/b=w.heap.size+6+1\/w.heap.size+8<=b/\b<w.heap.size+13) (Gv w text c):=by
 rintro c A B ⟨rfl,ln,e,b2,q0,q1,q2,hgo⟩ hw
 have hA:=b2.size
 exact⟨rfl,ln,e,b2.trans (cz hw (by rintro b (rfl|rfl | h) <;> omega)),q0.within hw (by omega),q1.within hw (by omega),q2.within hw (by omega),hgo⟩
def my (W:World)(g:Nat)(sl a b ln e:Value):World:=((((W.setCell ⟨g,0,O⟩ sl).setCell ⟨g,1,O⟩ a).setCell ⟨g,2,O⟩ b).setCell ⟨g+1,0,O⟩ ln).setCell ⟨g+2,0,O⟩ e
theorem qQ {w W:World}{x0 x1 x2 y z:Value}(b2:Below w.heap.size w W)(q0:Bk W w.heap.size 24 #[x0,x1,x2])(q1:Bk W (w.heap.size+1) 3 #[y])(q2:Bk W (w.heap.size+2) 29 #[z])(sl a b ln e:Value):
 Below w.heap.size w (my W w.heap.size sl a b ln e)/\Bk (my W w.heap.size sl a b ln e) w.heap.size 24 #[sl,a,b]/\Bk (my W w.heap.size sl a b ln e) (w.heap.size+1) 3 #[ln]/\Bk (my W w.heap.size sl a b ln e) (w.heap.size+2) 29 #[e]/\
  ag W (my W w.heap.size sl a b ln e) (fun b=>b=w.heap.size\/b=w.heap.size+1\/b=w.heap.size+2):=by
 have h0:=eu q0 sl a b
 have k0:ag W (dF W w.heap.size sl a b) (fun b=>b=w.heap.size):=(((ag.refl W (fun b=>b=w.heap.size)).put w.heap.size 0 sl (.inl rfl)).put w.heap.size 1 a (.inl rfl)).put w.heap.size 2 b (.inl rfl)
 have h1:=q1.within k0 (by omega)
 have h2:=q2.within k0 (by omega)
 have b0:=bP b2 (Zc _) sl a b
 have e9:my W w.heap.size sl a b ln e=((dF W w.heap.size sl a b).setCell ⟨w.heap.size+1,0,O⟩ ln).setCell ⟨w.heap.size+2,0,O⟩ e:=rfl
 rw[e9]
 generalize dF W w.heap.size sl a b=V at *
 refine⟨(b0.setCell (by show w.heap.size<=w.heap.size+1;omega) _).setCell (by show w.heap.size<=w.heap.size+2;omega) _,(h0.off (by show w.heap.size≠w.heap.size+1;omega) _).off (by show w.heap.size≠w.heap.size+2;omega) _,
  (h1.put 0 ln).off (by show w.heap.size+1≠w.heap.size+2;omega) _,(h2.off (by show w.heap.size+2≠w.heap.size+1;omega) _).put 0 e,?_⟩
 exact((k0.wide fun i hi _=>.inl hi).put (w.heap.size+1) 0 ln (.inl (.inr (.inl rfl)))).put (w.heap.size+2) 0 e (.inl (.inr (.inr rfl)))
theorem yT (text:List UInt8)(hl:text.length<80000)(w:World)(L:Lb w):Calls Tryz.prog 27 #[bs text] w (DE w text):=by
 refine(callsIn_wide (n:=0)).1 ?_
 refine callsIn_of_wp_marks Tryz.func27 rfl trivial ?_ rfl
 unfold bs
 simp only[Tryz.ntmps27,List.size_toArray,List.length_cons,List.length_nil,Nat.reduceAdd,Nat.reduceSub,Array.replicate_succ,Array.replicate_zero,List.push_toArray,List.append_toArray,List.nil_append,List.cons_append]
 have hmm:=@run_makeMap Tryz.prog
 have HNB:=Za (fun W=>(callsIn_wide (n:=0)).2 (yR text W))
 gi_wp2
 refine⟨trivial,rfl,?_⟩
 obtain⟨b0,s0,r0,r1,r2,d0⟩:=yW w _ rfl
 generalize ((((((w.alloc (C #[G O 0 0,I Q 0,I Q 0] 24)).alloc (C #[I Q 0] 3)).alloc (C #[I Q 0] 29)).alloc (.map #[] 0)).alloc (C #[G O 0 0,.map (Z (w.heap.size+1+1+1))] 135)))=W0 at *
 refine(HNB.out _).mono ?_
 rintro e W1 ⟨rfl,rfl⟩
 have t1:=Bk.made W0 9 #[bs text]
 have h1:ag W0 (W0.alloc (C #[bs text] 9)) (fun _=>False):=(ag.refl _ _).alloc _
 have s1:(W0.alloc (C #[bs text] 9)).heap.size=w.heap.size+6:=by simp[s0]
 rw[s0] at t1 ⊢
 replace b0:=b0.trans (cz h1 (B:=w.heap.size) (by simp))
 replace r0:=r0.within h1 (by simp)
 replace r1:=r1.within h1 (by simp)
 replace r2:=r2.within h1 (by simp)
 replace d0:=(d0 (w.heap.size+13)).within h1 (by simp) (by simp) (by simp)
 generalize W0.alloc (C #[bs text] 9)=W1 at *
 clear h1 s0 HNB hmm W0
 gi_wp2
 have HI:=Za (A6 (w:=w) (text:=text))
 have HX:=Za (yX (w:=w) (text:=text))
 refine m7 (gf:=94) (lb:=#[F (Z ⟨w.heap.size+5,0,O⟩)]) rfl (enters_of Tryz.func94 (by kernel_rfl) rfl)
  (encs:=fun k=>#[I Q ((k:Int)+1),bs (eG text k)]) (N:=(bG text).length) (T:=fun x=>w.heap.size+8<=x/\x<w.heap.size+13) (fun _=>rfl) (by omega) (by omega)
  ?seq (Gw w text) (Gv w text) (by rw[s1];exact HI.out) (by rw[s1];exact HX.out) ⟨[],[],text,b0,r0,r1,r2,d0,⟨⟨by simp,by simp⟩,by simp,by simp,by simp⟩,rfl,Zc _,p9 text⟩
  (fun k=>{ tmps:=#[.string ⟨text.toArray⟩,Zd,F (Z ⟨w.heap.size,0,O⟩),F (Z ⟨w.heap.size+1,0,O⟩),F (Z ⟨w.heap.size+2,0,O⟩),F (Z ⟨w.heap.size+4,0,O⟩),I Q ((k:Int)+1),.string ⟨(eG text k).toArray⟩,Zd,.map (Z (w.heap.size+3)),.agg #[G O 0 0,.map (Z (w.heap.size+3))],.string ⟨text.toArray⟩,
   .func (.func 94) #[] #[F (Z ⟨w.heap.size+5,0,O⟩)],I Q ((k:Int)+1),.string ⟨(eG text k).toArray⟩,Zd,Zd,Zd,Zd,Zd,Zd,Zd,Zd,Zd,Zd,Zd,Zd],defers:=[] }) ?assign ?body ?done ?stop
 case seq=>
  intro W4 hb4 hz4
  have hz:W4.heap.size=w.heap.size+8:=by omega
  have:=ss text (w.heap.size+5) (W1.heap.size+1) W4 ((hb4.block _ (by omega)).trans t1) (by omega)
  rw[hz] at this
  exact this
 case assign=>
  intro l2 k W K hK
  unfold bs
  gi_wp2
  exact hK
 case body=>
  rintro l2 k W hk ⟨ls,rs,t,b2,q0,q1,q2,hD,hO,hdr,htl,hgo⟩ hT
  simp only[s1] at hT ⊢
  have hsz:w.heap.size+13<=W.heap.size:=hT (w.heap.size+12) (.inr (.inr ⟨by omega,by omega⟩))
  have hne:t≠[]:=by
   rintro rfl
   have:=congrArg List.length hdr
   simp[bG] at this
   omega
  have hkl:k<1000000:=Nat.lt_of_lt_of_le hk (Nat.le_trans (lL text) (by omega))
  obtain⟨v0,v1,v2,v3,v4⟩:W.cell? ⟨w.heap.size,0,O⟩=Z (G O 0 0)/\W.cell? ⟨w.heap.size,1,O⟩=Z (I Q 0)/\W.cell? ⟨w.heap.size,2,O⟩=Z (I Q 0)/\W.cell? ⟨w.heap.size+1,0,O⟩=Z (I Q 0)/\W.cell? ⟨w.heap.size+2,0,O⟩=Z (I Q 0):=⟨q0.cell 0,q0.cell 1,q0.cell 2,q1.cell 0,q2.cell 0⟩
  have g0:=q0.free
  have g1:=q1.free 0
  have g2:=q2.free 0
  rcases kP t with hn | ⟨s,r,hn,rfl⟩
  ·have hline:eG text k=t:=by
    have:=congrArg List.head? hdr
    rw[fh t hn hne] at this
    simp[List.head?_drop] at this
    simp[eG,List.getD_eq_getElem?_getD,this]
   have hres:eQ text=(gp.zero,(k:Int)+1,8):=by rw[hgo,jy t hn,if_pos hne]
   have HA:=Za (CallsIn.inRound l2 ((callsIn_wide (n:=0)).2 (Dq hD t (fun u e=>hn 10 (by rw[e];simp) rfl) (by omega) ((k:Int)+1))))
   rw[hline]
   obtain⟨p0,p1,p2,p3,p4⟩:=qQ b2 q0 q1 q2 (G O 0 0) (I Q 0) (I Q 0) (I Q ((k:Int)+1)) (I Q 8)
   clear hgo hdr hD hO HI HX
   gi_wp2
   refine⟨trivial,rfl,HA.out.mono ?_⟩
   rintro e W5 ⟨rfl,rfl⟩
   gi_wp2
   exact⟨gU.lJ p4 (fun b hb=>⟨hT b hb,by omega⟩),rfl,(k:Int)+1,8,p0,p1,p2,p3,hres⟩
  ·have hline:eG text k=s++[10]:=by
    have:=congrArg List.head? hdr
    rw[eK s r hn] at this
    simp[List.head?_drop] at this
    simp[eG,List.getD_eq_getElem?_getD,this]
   have hdr2:(bG text).drop (k+1)=bG r:=by
    have:=congrArg List.tail hdr
    rw[eK s r hn] at this
    simpa [List.tail_drop] using this
   have hle:s.length+(r.length+1)<=text.length:=by simpa using htl
   rw[E1 s r hn] at hgo
   have HA:=Za (CallsIn.inRound l2 ((callsIn_wide (n:=0)).2 (Gb hD hsz (L.below b2) s (by omega) ((k:Int)+1) (by have:=hO.many;omega) hO.few)))
   have HK:Hid ((iE s ((k:Int)+1) ls rs).1=0->lp (iE s ((k:Int)+1) ls rs).2.1 (iE s ((k:Int)+1) ls rs).2.2 (k+1)):=Za fun e=>hO.add s _ e
   have HG:=Za hgo
   rw[hline]
   clear hgo hdr hD hO HI HX
   generalize iE s ((k:Int)+1) ls rs=ad at *
   obtain⟨er,ls2,rs2⟩:=ad
   gi_wp2
   refine⟨trivial,rfl,HA.out.mono ?_⟩
   rintro e W5 ⟨rfl,hD5,hW5⟩
   simp only at hD5 hW5 HK HG ⊢
   clear HA v0 v1 v2 v3 v4 g0 g1 g2
   replace b2:=b2.trans (cz hW5 (B:=w.heap.size) (by rintro b (rfl|rfl | h) <;> omega))
   replace q0:=q0.within hW5 (by rintro(h | h | h) <;> omega)
   replace q1:=q1.within hW5 (by rintro(h | h | h) <;> omega)
   replace q2:=q2.within hW5 (by rintro(h | h | h) <;> omega)
   have hH:gU (fun b=>b=w.heap.size+6\/b=w.heap.size+6+1\/w.heap.size+8<=b/\b<w.heap.size+13) W W5:=gU.lJ hW5 (fun b hb=>⟨hT b hb,by rintro(h | h | h) <;> omega⟩)
   by_cases her:er=0
   ·subst her
    gi_wp2
    refine⟨hH,ls2,rs2,r,b2,q0,q1,q2,hD5,HK.out (by trivial),hdr2,by omega,?_⟩
    rw[HG.out]
    simp
   ·have her2:(er != 0)=true:=by simpa using her
    have hres:eQ text=(gp.zero,(k:Int)+1,er):=by rw[HG.out,if_neg her]
    obtain⟨v0,v1,v2,v3,v4⟩:W5.cell? ⟨w.heap.size,0,O⟩=Z (G O 0 0)/\W5.cell? ⟨w.heap.size,1,O⟩=Z (I Q 0)/\W5.cell? ⟨w.heap.size,2,O⟩=Z (I Q 0)/\W5.cell? ⟨w.heap.size+1,0,O⟩=Z (I Q 0)/\W5.cell? ⟨w.heap.size+2,0,O⟩=Z (I Q 0):=⟨q0.cell 0,q0.cell 1,q0.cell 2,q1.cell 0,q2.cell 0⟩
    have g0:=q0.free
    have g1:=q1.free 0
    have g2:=q2.free 0
    obtain⟨p0,p1,p2,p3,p4⟩:=qQ b2 q0 q1 q2 (G O 0 0) (I Q 0) (I Q 0) (I Q ((k:Int)+1)) (I Q er)
    clear HK HG hD5 her
    gi_wp2
    exact⟨hH.trans (gU.lJ p4 (fun b hb=>⟨Nat.lt_of_lt_of_le (hT b hb) hH.1,by omega⟩)),rfl,(k:Int)+1,er,p0,p1,p2,p3,hres⟩
 case done=>
  rintro W ⟨ls,rs,t,b2,q0,q1,q2,hD,hO,hdr,htl,hgo⟩ hd
  have ht:t=[]:=by
   rw[List.drop_of_length_le (Zc _)] at hdr
   cases t with
   | nil=>rfl
   | cons c u=>
    exfalso
    rcases kP (c :: u) with hn | ⟨s,r,hn,e⟩
    ·rw[fh _ hn (by simp)] at hdr;cases hdr
    ·rw[e,eK s r hn] at hdr;cases hdr
  subst ht
  rw[jy [] (by unfold Nl;simp),if_neg (by simp)] at hgo
  have HC:=Za ((callsIn_wide (n:=0)).2 (Ga hD hO.few hO.lab hO.names))
  rw[<-hgo] at HC
  clear hgo hD hO hdr htl
  gi_wp2
  refine⟨trivial,rfl,HC.out.mono ?_⟩
  rintro e W5 ⟨v,rfl,⟨sl,rfl,hP⟩,hB⟩
  have hz:=b2.size
  have hlt:=q2.lt
  have oD:=(Array.getElem?_eq_some_iff.1 hd).1
  replace q0:Bk W5 _ _ _:=(hB.block _ q0.lt).trans q0
  replace q1:Bk W5 _ _ _:=(hB.block _ q1.lt).trans q1
  replace q2:Bk W5 _ _ _:=(hB.block _ q2.lt).trans q2
  replace hd:=(hB.block _ oD).trans hd
  replace b2:=b2.trans (hB.mono hz)
  obtain⟨v0,v1,v2,v3,v4⟩:W5.cell? ⟨w.heap.size,0,O⟩=Z (G O 0 0)/\W5.cell? ⟨w.heap.size,1,O⟩=Z (I Q 0)/\W5.cell? ⟨w.heap.size,2,O⟩=Z (I Q 0)/\W5.cell? ⟨w.heap.size+1,0,O⟩=Z (I Q 0)/\W5.cell? ⟨w.heap.size+1+1,0,O⟩=Z (I Q 0):=⟨q0.cell 0,q0.cell 1,q0.cell 2,q1.cell 0,q2.cell 0⟩
  have g0:=q0.free
  have g1:=q1.free 0
  have g2:W5.frozen? ⟨w.heap.size+1+1,0,O⟩=J:=q2.free 0
  obtain⟨sa,scap,rfl,_,_,_⟩:=aX hP
  rw[s1] at hd
  have HR:Hid (DE w text=fun e w'=>∃ v,e=.returned (.tuple #[v,I Q (eQ text).2.1,I Q (eQ text).2.2])/\Pg w' w.heap.size v (eQ text).1/\Below w.heap.size w w'):=Za rfl
  generalize eQ text=res at *
  obtain⟨⟨l,plo,pun⟩,ln,er⟩:=res
  simp only at hP q0 q1 q2 v0 v1 v2 v3 v4 g0 g1 g2 hd b2 ⊢
  obtain⟨p0,p1,p2,p3,p4⟩:=qQ b2 q0 q1 q2 (G sa l.length scap) (I Q plo) (I Q pun) (I Q ln) (I Q er)
  have hP2:=ar hP p4 (fun b e e2=>by
   obtain⟨cs,hcs⟩:=aY hP e
   rcases e2 with rfl|rfl|rfl
   ·exact Bk.av hcs q0 (by decide) rfl
   ·exact Bk.av hcs q1 (by decide) rfl
   ·exact Bk.av hcs q2 (by decide) rfl)
  have hd2:=(p4.block _ (Array.getElem?_eq_some_iff.1 hd).1 (by omega)).trans hd
  replace hP2:=World.ownsRow.mono (base':=w.heap.size) hP2 hz
  gi_wp2
  generalize hv:((((W5.setCell ⟨w.heap.size,0,O⟩ (G sa l.length scap)).setCell ⟨w.heap.size,1,O⟩ (I Q plo)).setCell ⟨w.heap.size,2,O⟩ (I Q pun)).setCell ⟨w.heap.size+1,0,O⟩ (I Q ln)).setCell ⟨w.heap.size+1+1,0,O⟩ (I Q er)=V
  replace hv:my W5 w.heap.size (G sa l.length scap) (I Q plo) (I Q pun) (I Q ln) (I Q er)=V:=hv
  rw[hv] at p0 p1 p2 p3 p4 hP2 hd2
  refine⟨by simp,.inl ⟨_,_,rfl,run_takeDeferred hd2,?_⟩⟩
  have hpo:=cK V (w.heap.size+6) (.deferred O) (fun b=>b=w.heap.size+6) rfl
  replace p1:=p1.within hpo (by omega)
  replace p2:=p2.within hpo (by omega)
  replace p3:=p3.within hpo (by omega)
  replace hP2:=ar hP2 hpo (fun b e e2=>by
   obtain⟨cs,hcs⟩:=aY hP2 e
   rw[e2] at hcs
   unfold Bk at hcs
   rw[hd2] at hcs
   cases hcs)
  replace p0:=p0.trans (cz hpo (B:=w.heap.size) (by rintro b rfl;omega) p0.size)
  generalize V.putObj (w.heap.size+6) (.deferred O)=V2 at *
  obtain⟨y0,y1,y2,y3,y4⟩:V2.cell? ⟨w.heap.size,0,O⟩=Z (G sa l.length scap)/\V2.cell? ⟨w.heap.size,1,O⟩=Z (I Q plo)/\V2.cell? ⟨w.heap.size,2,O⟩=Z (I Q pun)/\V2.cell? ⟨w.heap.size+1,0,O⟩=Z (I Q ln)/\V2.cell? ⟨w.heap.size+1+1,0,O⟩=Z (I Q er):=⟨p1.cell 0,p1.cell 1,p1.cell 2,p2.cell 0,p3.cell 0⟩
  refine⟨.tuple #[.agg #[G sa l.length scap,I Q plo,I Q pun],I Q ln,I Q er],by simp[results,Tryz.results27,go_sem,y0,y1,y2,y3,y4],?_⟩
  rw[HR.out]
  exact⟨_,rfl,⟨_,rfl,hP2⟩,p0⟩
 case stop=>
  rintro c W ⟨rfl,ln,er,b2,q0,q1,q2,hgo⟩ hd
  gi_wp2
  refine⟨by simp,.inl ⟨_,_,rfl,run_takeDeferred hd,?_⟩⟩
  have hpo:=cK W W1.heap.size (.deferred O) (fun b=>b=W1.heap.size) rfl
  replace q0:=q0.within hpo (by omega)
  replace q1:=q1.within hpo (by omega)
  replace q2:=q2.within hpo (by omega)
  have p0:=b2.trans (cz hpo (B:=w.heap.size) (by rintro b rfl;omega) b2.size)
  generalize W.putObj W1.heap.size (.deferred O)=V2 at *
  obtain⟨y0,y1,y2,y3,y4⟩:V2.cell? ⟨w.heap.size,0,O⟩=Z (G O 0 0)/\V2.cell? ⟨w.heap.size,1,O⟩=Z (I Q 0)/\V2.cell? ⟨w.heap.size,2,O⟩=Z (I Q 0)/\V2.cell? ⟨w.heap.size+1,0,O⟩=Z (I Q ln)/\V2.cell? ⟨w.heap.size+1+1,0,O⟩=Z (I Q er):=⟨q0.cell 0,q0.cell 1,q0.cell 2,q1.cell 0,q2.cell 0⟩
  refine⟨.tuple #[.agg #[G O 0 0,I Q 0,I Q 0],I Q ln,I Q er],by simp[results,Tryz.results27,go_sem,y0,y1,y2,y3,y4],?_⟩
  unfold DE
  rw[hgo]
  exact⟨_,rfl,⟨_,rfl,World.ownsRow_nil _ _ _ _⟩,p0⟩
end
section
open Go.ChangeShapes Go.WideShapes Go.ChangeAt Go.RowKit
section
variable {w wr w2:World}{p x n each each' c:Nat}{M M2:PM}{R R2:RM}{free:Nat->List Nat}{gen out:List Int}{fr:Nat->List Int}{os:Int->Bool}{hv:Value}{had:List Int}
theorem Rf.bk (h:Rf w x n each R free gen out){i:Nat}(k:R.Has n i):∃ t cs,Bk w i t cs/\(t=25\/t=3):=by
 rcases k with e | e | e | ⟨s,hs,e⟩
 ·obtain⟨cs,hc⟩:=h.row.bk e;exact⟨_,cs,hc,.inl rfl⟩
 ·obtain⟨cs,hc⟩:=h.gens.bk e;exact⟨_,cs,hc,.inr rfl⟩
 ·obtain⟨cs,hc⟩:=h.outs.bk e;exact⟨_,cs,hc,.inr rfl⟩
 ·obtain⟨cs,hc⟩:=(h.frees s hs).bk e;exact⟨_,cs,hc,.inr rfl⟩
theorem Rf.fX (h:Rf w x n each R free gen out){q:Nat}{t:TypeId}{cs:Array Value}(k:Bk w q t cs)(h1:t≠25)(h2:t≠3):¬ R.Has n q:=fun e=>by
 obtain⟨t',cs',hc,ht⟩:=h.bk e
 have:t=t':=by unfold Bk at k hc;rw[k] at hc;injection hc with hc;injection hc
 subst this
 rcases ht with e | e
 ·exact h1 e
 ·exact h2 e
theorem Pl.off (hp:Pl w p n each M fr os c)(hr:Rf w x n each' R free gen out){i:Nat}(k:M.Has n i):¬ R.Has n i:=fun e=>by
 obtain⟨t,cs,hc,ht⟩:=hr.bk e
 rcases ht with rfl|rfl
 ·exact hp.fX hc (by decide) (by decide) k
 ·exact hp.fX hc (by decide) (by decide) k
theorem Rf.stays (hr:Rf w x n each' R free gen out)(hp:Pl w p n each M fr os c)(s:i8 w n M w2 M2):Rf w2 x n each' R free gen out:=
 hr.kept s.2.1 (hp.fX hr.ptr (by decide) (by decide)) (fun _ hi e=>hp.off hr e hi)
end
def rH (x:List UInt8×Int):List Value:=[bs x.1,I Q x.2]
theorem Aw (x:List UInt8×Int):(rH x).length=2:=rfl
def mD (ls:List (List UInt8×Int)):List Value:=ls.flatMap rH
theorem uM (ls:List (List UInt8×Int))(x:List UInt8×Int):mD (ls++[x])=mD ls++rH x:=by simp[mD]
theorem tj {ls:List (List UInt8×Int)}{k:Nat}{x:List UInt8×Int}(h:ls[k]?=Z x){j:Nat}(hj:j<2):(mD ls)[k*2+j]?=(rH x)[j]?:=mX rH 2 Aw ls k j x h hj
theorem Av (x:List UInt8×Int):∀ u∈rH x,u.oneCell'=true:=by
 intro u hu
 simp only[rH,List.mem_cons,List.not_mem_nil,or_false] at hu
 rcases hu with rfl|rfl <;> rfl
theorem CK:(Tryz.prog.info? 145).map (fun i=>(i.zero,i.size,i.bytes))=Z (Z (.agg #[bs [],I Q 0]),2,24):=by kernel_rfl
theorem B7:(Tryz.prog.info? 9).map (fun i=>(i.zero,i.size,i.bytes))=Z (Z (bs []),1,16):=by kernel_rfl
theorem C8:(Tryz.prog.info? 3).map (fun i=>(i.zero,i.size,i.bytes))=Z (Z (I Q 0),1,8):=by kernel_rfl
structure pf (w W:World)(is:List aU)(ls:List (List UInt8×Int))(ns:List (List UInt8))(ks:List Int)(vi vl vn vk:Value):Prop where
 b:Below w.heap.size w W
 r:Bk W w.heap.size 34 #[G O 0 0,I Q 0,I Q 0]
 o:Bk W (w.heap.size+1) 34 #[vi,I Q 0,I Q 0]
 i:W.ownsRow w.heap.size 123 8 vi is.length (bu is)
 l:W.ownsRow w.heap.size 145 2 vl ls.length (mD ls)
 n:W.ownsRow w.heap.size 9 1 vn ns.length (ns.map bs)
 k:W.ownsRow w.heap.size 3 1 vk ks.length (ks.map (Value.int .i64))
section
variable {w W X w':World}{is:List aU}{ls:List (List UInt8×Int)}{ns:List (List UInt8)}{ks:List Int}{vi vl vn vk v':Value}
theorem bJ {base n size n2 size2 base2:Nat}{t t2:TypeId}{v v2:Value}{xs ys:List Value}(h:W.ownsRow base t size v n xs)(h2:W.ownsRow base2 t2 size2 v2 n2 ys)(ht:t≠t2):∀ g,v.ownBlock=Z g->¬ Z g=v2.ownBlock:=fun g e e2=>by
 obtain⟨cs,hc⟩:=aY h e
 obtain⟨D2,hc2⟩:=aY h2 e2.symm
 exact Bk.av hc hc2 ht rfl
theorem cg {base n size g:Nat}{t t2:TypeId}{v:Value}{xs:List Value}{cs:Array Value}(h:W.ownsRow base t size v n xs)(h2:Bk W g t2 cs)(ht:t≠t2):¬ Z g=v.ownBlock:=fun e=>by
 obtain⟨D2,hc2⟩:=aY h e.symm
 exact Bk.av hc2 h2 ht rfl
theorem pf.below (h:pf w W is ls ns ks vi vl vn vk)(hb:Below W.heap.size W X):pf w X is ls ns ks vi vl vn vk:=
 ⟨h.b.trans (hb.mono h.b.size),(hb.block _ h.r.lt).trans h.r,(hb.block _ h.o.lt).trans h.o,ar h.i (af hb) (by simp),ar h.l (af hb) (by simp),ar h.n (af hb) (by simp),ar h.k (af hb) (by simp)⟩
theorem g9 {v:Value}(hX:Below W.heap.size W X)(hg:X.grownBy w' v.ownBlock):ag W w' (fun b=>Z b=v.ownBlock):=
 ((af hX).wide (by simp)).aJ (.aT (S:=fun b=>Z b=v.ownBlock) hg (by rintro i e;exact .inl e.symm)) (by rintro i e;exact .inl e)
theorem gZ {v:Value}{base n size:Nat}{t:TypeId}{xs:List Value}(hb:Below base w W)(hs:base<=W.heap.size)(h:W.ownsRow base t size v n xs)(hW:ag W w' (fun b=>Z b=v.ownBlock)):Below base w w':=
 hb.trans (cz hW (B:=base) (fun b e=>(World.ownsRow.lt h b e.symm).1) hs)
theorem pf.lab (h:pf w W is ls ns ks vi vl vn vk)(hX:Below W.heap.size W X)(hg:X.grownBy w' vl.ownBlock){x:List UInt8×Int}(ho:w'.ownsRow w.heap.size 145 2 v' (ls.length+1) (mD ls++rH x)):pf w w' is (ls++[x]) ns ks vi v' vn vk:=by
 have hW:=g9 hX hg
 exact⟨gZ h.b h.b.size h.l hW,h.r.within hW (cg h.l h.r (by decide)),h.o.within hW (cg h.l h.o (by decide)),ar h.i hW (bJ h.i h.l (by decide)),by rw[uM,List.length_append];exact ho,ar h.n hW (bJ h.n h.l (by decide)),ar h.k hW (bJ h.k h.l (by decide))⟩
theorem pf.Hg (h:pf w W is ls ns ks vi vl vn vk)(hX:Below W.heap.size W X)(hg:X.grownBy w' vn.ownBlock){x:List UInt8}(ho:w'.ownsRow w.heap.size 9 1 v' (ns.length+1) (ns.map bs++[bs x])):pf w w' is ls (ns++[x]) ks vi vl v' vk:=by
 have hW:=g9 hX hg
 exact⟨gZ h.b h.b.size h.n hW,h.r.within hW (cg h.n h.r (by decide)),h.o.within hW (cg h.n h.o (by decide)),ar h.i hW (bJ h.i h.n (by decide)),ar h.l hW (bJ h.l h.n (by decide)),by rw[List.map_append,List.length_append];exact ho,ar h.k hW (bJ h.k h.n (by decide))⟩
theorem pf.Hi (h:pf w W is ls ns ks vi vl vn vk)(hX:Below W.heap.size W X)(hg:X.grownBy w' vk.ownBlock){x:Int}(ho:w'.ownsRow w.heap.size 3 1 v' (ks.length+1) (ks.map (Value.int .i64)++[I Q x])):pf w w' is ls ns (ks++[x]) vi vl vn v':=by
 have hW:=g9 hX hg
 exact⟨gZ h.b h.b.size h.k hW,h.r.within hW (cg h.k h.r (by decide)),h.o.within hW (cg h.k h.o (by decide)),ar h.i hW (bJ h.i h.k (by decide)),ar h.l hW (bJ h.l h.k (by decide)),ar h.n hW (bJ h.n h.k (by decide)),by rw[List.map_append,List.length_append];exact ho⟩
theorem pf.mid (h:pf w W is ls ns ks vi vl vn vk)(hX:Below W.heap.size W X)(hg:X.grownBy w' vi.ownBlock):Bk w' (w.heap.size+1) 34 #[vi,I Q 0,I Q 0]:=
 h.o.within (g9 hX hg) (cg h.i h.o (by decide))
theorem pf.ins (h:pf w W is ls ns ks vi vl vn vk)(hX:Below W.heap.size W X)(hg:X.grownBy w' vi.ownBlock){x:aU}(ho:w'.ownsRow w.heap.size 123 8 v' (is.length+1) (bu is++jJ x)):pf w (w'.setCell ⟨w.heap.size+1,0,O⟩ v') (is++[x]) ls ns ks v' vl vn vk:=by
 have hW:=g9 hX hg
 have hB:=gZ h.b h.b.size h.i hW
 have h2:ag w' (w'.setCell ⟨w.heap.size+1,0,O⟩ v') (fun b=>b=w.heap.size+1):=(ag.refl w' _).put _ _ _ (.inl rfl)
 have hr:=h.r.within hW (cg h.i h.r (by decide))
 have hO:=h.o.within hW (cg h.i h.o (by decide))
 have hl:=ar h.l hW (bJ h.l h.i (by decide))
 have hn:=ar h.n hW (bJ h.n h.i (by decide))
 have hk:=ar h.k hW (bJ h.k h.i (by decide))
 refine⟨hB.setCell (by show w.heap.size<=w.heap.size+1;omega) _,hr.within h2 (by omega),hO.put 0 v',?_,ar hl h2 ?_,ar hn h2 ?_,ar hk h2 ?_⟩
 ·rw[jS,List.length_append]
  refine ar ho h2 ?_
  rintro g e rfl
  exact cg ho hO (by decide) e.symm
 ·rintro g e rfl
  exact cg hl hO (by decide) e.symm
 ·rintro g e rfl
  exact cg hn hO (by decide) e.symm
 ·rintro g e rfl
  exact cg hk hO (by decide) e.symm
theorem pf.zp (h:pf w W is ls ns ks vi vl vn vk):∃ a cap,vl=G a ls.length cap/\ls.length<=cap/\cap<=maxLen/\BX W a ls:=by
 obtain⟨a,cap,rfl,h1,h2,hg⟩:=aX h.l
 refine⟨a,cap,rfl,h1,h2,fun j x hx=>?_⟩
 have hj:=(List.getElem?_eq_some_iff.1 hx).1
 obtain⟨g,rfl,_,_,hlt,_,hc⟩:=hg (by omega)
 refine⟨g,rfl,hlt,?_,?_⟩
 ·have:=hc (j*2) (by omega)
  rw[this]
  have:=tj hx (j:=0) (by omega)
  rw[Nat.add_zero] at this
  rw[this]
  rfl
 ·have:=hc (j*2+1) (by omega)
  rw[this,tj hx (j:=1) (by omega)]
  rfl
end
theorem vI {W:World}{base n m cap:Nat}{t:TypeId}{a:Option Addr}{xs:List Value}(h:W.ownsRow base t 1 (G a m cap) n xs){j:Nat}{u:Value}(hj:xs[j]?=Z u):∃ g,a=Z ⟨g,0,O⟩/\g<W.heap.size/\W.cell? ⟨g,j,O⟩=Z u:=by
 have hl:=h.1
 have hlt:=(List.getElem?_eq_some_iff.1 hj).1
 obtain⟨a2,cap2,e,_,_,hg⟩:=aX h
 simp only[Value.slice.injEq] at e
 obtain⟨rfl,-,-⟩:=e
 obtain⟨g,rfl,_,_,hgl,_,hc⟩:=hg (by omega)
 exact⟨g,rfl,hgl,by rw[hc j (by omega),hj]⟩
theorem pC:∀ (l:List aU) (j:Nat) (i:aU) (p:Int),l[j]?=Z i->bu (l.set j { i with pl:=p })=(bu l).set (j*8+7) (I Q p)
 | [],j,i,p,h=>by simp at h
 | x :: l,0,i,p,h=>by
  simp at h
  subst h
  rfl
 | x :: l,j+1,i,p,h=>by
  have ih:=pC l j i p (by simpa using h)
  have e:(j+1)*8+7=8+(j*8+7):=by omega
  show jJ x++bu (l.set j { i with pl:=p })=(jJ x++bu l).set ((j+1)*8+7) _
  rw[ih,e,List.set_append_right _ _ (by rw[ou];omega),ou]
  congr 2
  omega
theorem pf.place {w W:World}{is:List aU}{ls:List (List UInt8×Int)}{ns:List (List UInt8)}{ks:List Int}{vl vn vk:Value}{a:Option Addr}{n cap:Nat}(h:pf w W is ls ns ks (G a n cap) vl vn vk){j:Nat}{i:aU}(hj:is[j]?=Z i):∃ g,a=Z ⟨g,0,O⟩/\g<W.heap.size/\w.heap.size<=g/\W.cell? ⟨g,j*8+7,O⟩=Z (I Q i.pl)/\(∀ o,W.frozen? ⟨g,o,O⟩=J):=by
 have hlt:=(List.getElem?_eq_some_iff.1 hj).1
 obtain⟨a2,cap2,e,_,_,hg⟩:=aX h.i
 simp only[Value.slice.injEq] at e
 obtain⟨rfl,-,-⟩:=e
 obtain⟨g,rfl,_,hge,hgl,hf,hc⟩:=hg (by omega)
 refine⟨g,rfl,hgl,hge,?_,hf⟩
 rw[hc _ (by omega),sR hj (by omega)]
 rfl
theorem pf.G9 {w W:World}{is:List aU}{ls:List (List UInt8×Int)}{ns:List (List UInt8)}{ks:List Int}{vl vn vk:Value}{g n cap:Nat}(h:pf w W is ls ns ks (G (Z ⟨g,0,O⟩) n cap) vl vn vk){j:Nat}{i:aU}(hj:is[j]?=Z i)(p:Int):
 pf w (W.setCell ⟨g,j*8+7,O⟩ (I Q p)) (is.set j { i with pl:=p }) ls ns ks (G (Z ⟨g,0,O⟩) n cap) vl vn vk:=by
 have hn:n=is.length:=by
  obtain⟨a2,cap2,e,_,_,_⟩:=aX h.i
  simp only[Value.slice.injEq] at e
  exact e.2.1
 subst hn
 have h2:ag W (W.setCell ⟨g,j*8+7,O⟩ (I Q p)) (fun b=>Z b=(Value.slice (Z ⟨g,0,O⟩) is.length cap).ownBlock):=(ag.refl W _).put _ _ _ (.inl rfl)
 refine⟨gZ h.b h.b.size h.i h2,h.r.within h2 (cg h.i h.r (by decide)),h.o.within h2 (cg h.i h.o (by decide)),?_,ar h.l h2 (bJ h.l h.i (by decide)),ar h.n h2 (bJ h.n h.i (by decide)),ar h.k h2 (bJ h.k h.i (by decide))⟩
 rw[pC is j i p hj,List.length_set]
 exact(World.ownsRow.stored h.i (j*8+7) (I Q p)).1
structure sH (text:List UInt8)(fr k ln:Nat)(ls:List (List UInt8×Int))(rs:List (aU×List UInt8×Int)):Prop where
 fk:fr<=k
 lk:ln<=k
 few:rs.length<=64
 many:ls.length<=k
 no:Nl ((text.take k).drop fr)
 go:eQ text=ij (text.drop fr) ((ln:Int)+1) ls rs
section
variable {text:List UInt8}{fr k ln:Nat}{ls:List (List UInt8×Int)}{rs:List (aU×List UInt8×Int)}
theorem AX (h:fr<=k)(hk:k<text.length):(text.take (k+1)).drop fr=(text.take k).drop fr++[text[k]]:=by
 have e:text.take (k+1)=text.take k++[text[k]]:=by simp
 rw[e,List.drop_append,List.length_take,Nat.min_eq_left (by omega),show fr-k=0 by omega]
 rfl
theorem yL (h:fr<=k)(hk:k<text.length):text.drop fr=(text.take k).drop fr++text[k] :: text.drop (k+1):=by
 have e:text=text.take k++text[k] :: text.drop (k+1):=by
  rw[List.getElem_cons_drop hk,List.take_append_drop]
 have e2:text.drop fr=(text.take k++text[k] :: text.drop (k+1)).drop fr:=congrArg (List.drop fr) e
 rw[e2,List.drop_append,List.length_take,Nat.min_eq_left (by omega),show fr-k=0 by omega]
 rfl
theorem sH.on (h:sH text fr k ln ls rs)(hk:k<text.length)(hc:text[k]≠10):sH text fr (k+1) ln ls rs:=by
 refine⟨by have:=h.fk;omega,by have:=h.lk;omega,h.few,by have:=h.many;omega,?_,h.go⟩
 rw[AX h.fk hk]
 exact Nl.app h.no (fun c hc'=>by simp at hc';subst hc';exact hc)
theorem sH.line (h:sH text fr k ln ls rs)(hk:k<text.length)(hc:text[k]=10):eQ text=ij ((text.take k).drop fr++10 :: text.drop (k+1)) ((ln:Int)+1) ls rs:=by
 rw[h.go,yL h.fk hk,hc]
theorem sH.next (h:sH text fr k ln ls rs)(hk:k<text.length){ls2:List (List UInt8×Int)}{rs2:List (aU×List UInt8×Int)}(hf:rs2.length<=64)(hm:ls2.length<=ls.length+1)(hg:eQ text=ij (text.drop (k+1)) ((ln:Int)+1+1) ls2 rs2):sH text (k+1) (k+1) (ln+1) ls2 rs2:=by
 refine⟨Zc _,by have:=h.lk;omega,hf,by have:=h.many;omega,?_,by rw[hg];push_cast;rfl⟩
 intro c hc
 rw[List.drop_of_length_le (by simp;omega)] at hc
 cases hc
theorem sH.FG (h:sH text fr k ln ls rs)(hk:k<text.length)(hc:text[k]=10)(hl:rO ((text.take k).drop fr)=true)(ha:(ls.any fun x=>x.1==((text.take k).drop fr).dropLast)=true):eQ text=(gp.zero,(ln:Int)+1,2):=by
 rw[h.line hk hc,fm _ _ h.no,if_pos hl,if_pos ha]
theorem sH.label (h:sH text fr k ln ls rs)(hk:k<text.length)(hc:text[k]=10)(hl:rO ((text.take k).drop fr)=true)(ha:(ls.any fun x=>x.1==((text.take k).drop fr).dropLast)=J):sH text (k+1) (k+1) (ln+1) (ls++[(((text.take k).drop fr).dropLast,(rs.length:Int))]) rs:=
 h.next hk h.few (by simp) (by rw[h.line hk hc,fm _ _ h.no,if_pos hl,if_neg (by rw[ha];simp)])
theorem sH.none_ (h:sH text fr k ln ls rs)(hk:k<text.length)(hc:text[k]=10)(hl:rO ((text.take k).drop fr)=J)(hn:ee ((text.take k).drop fr)=O):eQ text=(gp.zero,(ln:Int)+1,8):=by
 rw[h.line hk hc,fm _ _ h.no,if_neg (by rw[hl];simp),hn]
theorem sH.Fq (h:sH text fr k ln ls rs)(hk:k<text.length)(hc:text[k]=10)(hl:rO ((text.take k).drop fr)=J){i:aU}{nm:List UInt8}(hn:ee ((text.take k).drop fr)=Z (i,nm))(hb:64<=rs.length):eQ text=(gp.zero,(ln:Int)+1,9):=by
 rw[h.line hk hc,fm _ _ h.no,if_neg (by rw[hl];simp),hn]
 simp only
 rw[if_pos hb]
theorem sH.row (h:sH text fr k ln ls rs)(hk:k<text.length)(hc:text[k]=10)(hl:rO ((text.take k).drop fr)=J){i:aU}{nm:List UInt8}(hn:ee ((text.take k).drop fr)=Z (i,nm))(hb:rs.length<64):sH text (k+1) (k+1) (ln+1) ls (rs++[(i,nm,(ln:Int)+1)]):=
 h.next hk (by simp;omega) (by omega) (by
  rw[h.line hk hc,fm _ _ h.no,if_neg (by rw[hl];simp),hn]
  simp only
  rw[if_neg (by omega)])
theorem sH.short (h:sH text fr text.length ln ls rs)(hf:fr<text.length):eQ text=(gp.zero,(ln:Int)+1,8):=by
 have hn:=h.no
 rw[List.take_length] at hn
 rw[h.go,jy _ hn,if_pos (by intro e;have:=congrArg List.length e;simp at this;omega)]
theorem sH.end_ (h:sH text fr text.length ln ls rs)(hf:¬ fr<text.length):eQ text=dU ls rs:=by
 have hn:=h.no
 rw[List.take_length] at hn
 rw[h.go,jy _ hn,if_neg (by rw[List.drop_of_length_le (by omega)];simp)]
end
def BY (w:World)(text:List UInt8)(e:Ending)(w':World):Prop:=
 ∃ v,e=.returned (.tuple #[v,I Q (eQ text).2.1,I Q (eQ text).2.2])/\(∃ sl,v=.agg #[sl,I Q (eQ text).1.lo,I Q (eQ text).1.un]/\w'.ownsRow w.heap.size 123 8 sl (eQ text).1.l.length (bu (eQ text).1.l))/\Below w.heap.size w w'
theorem iK {w w':World}{text:List UInt8}{n e:Int}(h:eQ text=(gp.zero,n,e))(hb:Below w.heap.size w w'):BY w text (.returned (.tuple #[.agg #[G O 0 0,I Q 0,I Q 0],I Q n,I Q e])) w':=by
 unfold BY
 rw[h]
 exact⟨_,rfl,⟨_,rfl,World.ownsRow_nil _ _ _ _⟩,hb⟩
def fH (cs:Nat->zE)(n:Nat):List Value:=(List.range n).flatMap fun t=>dE (cs t).xs (cs t).pc
theorem nY {xs:List Int}{pc:Int}(h:xs.length=8):(dE xs pc).length=9:=by simp[dE,h]
section
variable {cs:Nat->zE}{n:Nat}
theorem nw (h:∀ t,t<n->cX (cs t).xs):(fH cs n).length=n*9:=by
 unfold fH
 rw[tE _ 9 _ (fun t ht=>nY (h t (List.mem_range.1 ht)).1),List.length_range]
theorem lQ (h:∀ t,t<n->cX (cs t).xs){t j:Nat}(ht:t<n)(hj:j<9):(fH cs n)[t*9+j]?=(dE (cs t).xs (cs t).pc)[j]?:=
 tF _ 9 _ (fun t ht=>nY (h t (List.mem_range.1 ht)).1) t j t (by simp[ht]) hj
theorem vr (h:∀ t,t<n->cX (cs t).xs){t:Nat}(ht:t<n){c:zE}(hc:cX c.xs):putL (fH cs n) (t*9) (dE c.xs c.pc)=fH (bp cs t c) n:=by
 have h2:=m9 (n:=n) h hc t
 apply List.ext_getElem?
 intro i
 have hl:=nw h
 have hl2:=nw h2
 have hcl:=nY (pc:=c.pc) hc.1
 have hle:t*9+9<=n*9:=by omega
 rw[v8 _ _ _ _ (by rw[hcl,hl];exact hle),hcl]
 by_cases hi:i<n*9
 ·obtain⟨s,j,hs,hj,rfl⟩:∃ s j,s<n/\j<9/\i=s*9+j:=⟨i / 9,i % 9,by omega,by omega,by omega⟩
  rw[lQ h2 hs hj,lQ h hs hj]
  by_cases e:s=t
  ·subst e
   rw[if_pos (by omega),aK,show s*9+j-s*9=j by omega]
  ·rw[if_neg (by omega),ax e]
 ·rw[if_neg (by omega),List.getElem?_eq_none (by omega),List.getElem?_eq_none (by omega)]
theorem sA (cs:Nat->zE)(n:Nat):fH cs n++dE (cs n).xs (cs n).pc=fH cs (n+1):=by
 unfold fH
 rw[List.range_succ,List.flatMap_append]
 simp
end
theorem sU {base n cap sz g:Nat}{t:TypeId}:∀ (vs xs:List Value) (o:Nat) (w:World),w.ownsRow base t sz (G (Z ⟨g,0,O⟩) n cap) n xs->(rF w g o vs).ownsRow base t sz (G (Z ⟨g,0,O⟩) n cap) n (putL xs o vs)
 | [],xs,o,w,h=>h
 | v :: vs,xs,o,w,h=>sU vs _ (o+1) _ (World.ownsRow.stored h o v).1
theorem oh {w:World}{base n sz:Nat}{t:TypeId}{v:Value}{xs:List Value}(h:w.ownsRow base t sz v n xs):w.ownsRow 0 t sz v n xs:=World.ownsRow.mono (base':=0) h (Nat.zero_le _)
structure YP where
 y:Nat
 cv:Value
 cl:Value
 wl:Value
 x:Nat
 kl:Value
 ac:Int
 R:RM
def YP.Own (Y:YP)(n i:Nat):Prop:=i=Y.y\/Y.cv.ownBlock=Z i\/Y.cl.ownBlock=Z i\/Y.wl.ownBlock=Z i\/i=Y.x\/Y.kl.ownBlock=Z i\/Y.R.Has n i
structure Ey (w:World)(Y:YP)(k:Lk)(m:Mc):Prop where
 ptr:Bk w Y.y 90 #[Y.cv,I Q k.lo,I Q k.un,Y.cl,Y.wl,F (Z ⟨Y.x,0,O⟩),Y.kl,I Q Y.ac]
 code:w.ownsRow 0 123 8 Y.cv k.l.length (bu k.l)
 cells:Cs 0 w Y.cl (oX k.zs)
 words:ef .u32 70 w Y.wl m.ws
 gy:Rf w Y.x k.n k.each Y.R m.pn.free m.pn.gen m.pn.out
 same:∃ fr os c,rM k.n k.each m.pn.free m.pn.gen m.pn.out fr os c
 cores:w.ownsRow 0 111 9 Y.kl k.n (fH m.cs k.n)
 lk:gH k
 mc:GY k m
def br (w:World)(n:Nat)(Y:YP)(w':World)(Y':YP):Prop:=ag w w' (Y.Own n)/\(∀ i,Y'.Own n i->Y.Own n i\/w.heap.size<=i)/\Y'.y=Y.y
section
variable {w w':World}{Y:YP}{k:Lk}{m:Mc}
theorem br.refl (w:World)(n:Nat)(Y:YP):br w n Y w Y:=⟨ag.refl _ _,fun _ h=>.inl h,rfl⟩
theorem br.aJ {n:Nat}{w'':World}{Y' Y'':YP}(h:br w n Y w' Y')(k:br w' n Y' w'' Y''):br w n Y w'' Y'':=
 ⟨h.1.aJ k.1 h.2.1,fun i hi=>by
  rcases k.2.1 i hi with e | e
  ·exact h.2.1 i e
  ·exact .inr (Nat.le_trans h.1.size e),k.2.2.trans h.2.2⟩
theorem br.grown {n:Nat}{Y':YP}{w'':World}(h:br w n Y w' Y')(k:Below w'.heap.size w' w''):br w n Y w'' Y':=
 h.aJ ⟨(af k).wide (by simp),fun _ h=>.inl h,rfl⟩
theorem br.aT {n:Nat}(k:Below w.heap.size w w'):br w n Y w' Y:=(br.refl w n Y).grown k
theorem br.BU {v:World}{N:Nat}{Y':YP}{S:Nat->Prop}(h:br v N Y w Y')(hw:ag w w' S)(hs:∀ i,S i->v.heap.size<=i):br v N Y w' Y':=
 ⟨h.1.aJ hw (fun i e=>.inr (hs i e)),h.2⟩
theorem Ey.kept {S:Nat->Prop}(h:Ey w Y k m)(hw:ag w w' S)(hn:∀ i,Y.Own k.n i->¬ S i):Ey w' Y k m:=by
 unfold YP.Own at hn
 exact⟨h.ptr.within hw (hn _ (.inl rfl)),ar h.code hw (fun g e=>hn g (.inr (.inl e))),h.cells.within hw (fun g e=>hn g (.inr (.inr (.inl e)))),h.words.within hw (fun g e=>hn g (.inr (.inr (.inr (.inl e))))),
  h.gy.kept hw (hn _ (.inr (.inr (.inr (.inr (.inl rfl)))))) (fun i hi=>hn i (.inr (.inr (.inr (.inr (.inr (.inr hi))))))),h.same,ar h.cores hw (fun g e=>hn g (.inr (.inr (.inr (.inr (.inr (.inl e))))))),h.lk,h.mc⟩
theorem Ey.below (h:Ey w Y k m)(hb:Below w.heap.size w w'):Ey w' Y k m:=h.kept (af hb) (by simp)
theorem Ey.lt (h:Ey w Y k m){i:Nat}(hi:Y.Own k.n i):i<w.heap.size:=by
 rcases hi with rfl | e | e | e | rfl | e | e
 ·exact h.ptr.lt
 ·exact(World.ownsRow.lt h.code i e).2
 ·exact(h.cells.lt e).2
 ·exact h.words.lt e
 ·exact h.gy.ptr.lt
 ·exact(World.ownsRow.lt h.cores i e).2
 ·exact h.gy.lt e
theorem Ey.c0 (h:Ey w Y k m):w.cell? ⟨Y.y,0,O⟩=Z Y.cv:=by rw[h.ptr.cell];rfl
theorem Ey.c1 (h:Ey w Y k m):w.cell? ⟨Y.y,1,O⟩=Z (I Q k.lo):=by rw[h.ptr.cell];rfl
theorem Ey.c2 (h:Ey w Y k m):w.cell? ⟨Y.y,2,O⟩=Z (I Q k.un):=by rw[h.ptr.cell];rfl
theorem Ey.c3 (h:Ey w Y k m):w.cell? ⟨Y.y,3,O⟩=Z Y.cl:=by rw[h.ptr.cell];rfl
theorem Ey.c4 (h:Ey w Y k m):w.cell? ⟨Y.y,4,O⟩=Z Y.wl:=by rw[h.ptr.cell];rfl
theorem Ey.c5 (h:Ey w Y k m):w.cell? ⟨Y.y,5,O⟩=Z (F (Z ⟨Y.x,0,O⟩)):=by rw[h.ptr.cell];rfl
theorem Ey.c6 (h:Ey w Y k m):w.cell? ⟨Y.y,6,O⟩=Z Y.kl:=by rw[h.ptr.cell];rfl
theorem Ey.c7 (h:Ey w Y k m):w.cell? ⟨Y.y,7,O⟩=Z (I Q Y.ac):=by rw[h.ptr.cell];rfl
theorem Ey.pv (h:Ey w Y k m):Pv w (.agg #[Y.cv,I Q k.lo,I Q k.un]) ⟨k.l,k.lo,k.un⟩/\∃ a cap,Y.cv=G a k.l.length cap:=by
 obtain⟨a,cap,e,h1,h2,_⟩:=aX h.code
 exact⟨rC (c:=⟨k.l,k.lo,k.un⟩) h.code,a,cap,e⟩
theorem Ey.qk (h:Ey w Y k m):∃ g cap,Y.kl=G (Z ⟨g,0,O⟩) k.n cap/\k.n<=cap/\cap<=maxLen/\Y.kl.ownBlock=Z g/\(∀ i,w.frozen? ⟨g,i,O⟩=J)/\∀ t,t<k.n->∀ j,j<9->w.cell? ⟨g,t*9+j,O⟩=(dE (m.cs t).xs (m.cs t).pc)[j]?:=by
 obtain⟨a,cap,e,h1,h2,h3⟩:=aX h.cores
 obtain⟨g,rfl,e2,_,_,hf,hc⟩:=h3 h.lk.n1
 refine⟨g,cap,e,h1,h2,e2,hf,fun t ht j hj=>?_⟩
 rw[hc _ (by omega),lQ h.mc.cs ht hj]
theorem Ey.eb (h:Ey w Y k m){t:Nat}(ht:t<k.n):∃ r0 r1 r2 r3 r4 r5 r6 r7 pc,m.cs t=⟨[r0,r1,r2,r3,r4,r5,r6,r7],pc⟩:=by
 obtain⟨r0,r1,r2,r3,r4,r5,r6,r7,e⟩:=cG (h.mc.cs t ht).1
 exact⟨r0,r1,r2,r3,r4,r5,r6,r7,(m.cs t).pc,by rw[<-e]⟩
theorem Ey.core (h:Ey w Y k m){t:Nat}(ht:t<k.n){r0 r1 r2 r3 r4 r5 r6 r7 pc:Int}(e:m.cs t=⟨[r0,r1,r2,r3,r4,r5,r6,r7],pc⟩){g cap:Nat}(ek:Y.kl=G (Z ⟨g,0,O⟩) k.n cap):
 w.cell? ⟨g,t*9,O⟩=Z (I Q r0)/\w.cell? ⟨g,t*9+1,O⟩=Z (I Q r1)/\w.cell? ⟨g,t*9+2,O⟩=Z (I Q r2)/\w.cell? ⟨g,t*9+3,O⟩=Z (I Q r3)/\w.cell? ⟨g,t*9+4,O⟩=Z (I Q r4)/\w.cell? ⟨g,t*9+5,O⟩=Z (I Q r5)/\w.cell? ⟨g,t*9+6,O⟩=Z (I Q r6)/\w.cell? ⟨g,t*9+7,O⟩=Z (I Q r7)/\w.cell? ⟨g,t*9+8,O⟩=Z (I Q pc):=by
 obtain⟨g',cap',ek',_,_,_,_,hc⟩:=h.qk
 rw[ek] at ek'
 simp only[Value.slice.injEq,Option.some.injEq,Addr.mk.injEq,and_true,true_and] at ek'
 obtain⟨rfl,-⟩:=ek'
 have H:=fun j (hj:j<9)=>hc t ht j hj
 rw[e] at H
 exact⟨H 0 (by omega),H 1 (by omega),H 2 (by omega),H 3 (by omega),H 4 (by omega),H 5 (by omega),H 6 (by omega),H 7 (by omega),H 8 (by omega)⟩
theorem Ey.zy (h:Ey w Y k m):∃ a cap,Y.wl=G a m.ws.length cap/\m.ws.length<=cap/\cap<=maxLen/\(0<m.ws.length->∃ g,a=Z ⟨g,0,O⟩/\Y.wl.ownBlock=Z g/\(∀ i,w.frozen? ⟨g,i,O⟩=J)/\∀ i,i<m.ws.length->w.cell? ⟨g,i,O⟩=Z (I .u32 (aD m.ws i))):=h.words.is
theorem Ey.others {g:Nat}{t:TypeId}{cs:Array Value}(h:Ey w Y k m)(hW:ag w w' (fun i=>i=g))(hb:Bk w g t cs):
 (t≠90->Bk w' Y.y 90 #[Y.cv,I Q k.lo,I Q k.un,Y.cl,Y.wl,F (Z ⟨Y.x,0,O⟩),Y.kl,I Q Y.ac])/\
 (t≠123->w'.ownsRow 0 123 8 Y.cv k.l.length (bu k.l))/\
 (t≠151->Cs 0 w' Y.cl (oX k.zs))/\
 (t≠70->ef .u32 70 w' Y.wl m.ws)/\
 (t≠158->t≠25->t≠3->Rf w' Y.x k.n k.each Y.R m.pn.free m.pn.gen m.pn.out)/\
 (t≠111->w'.ownsRow 0 111 9 Y.kl k.n (fH m.cs k.n)):=by
 refine⟨fun ht=>h.ptr.within hW (Bk.av h.ptr hb (fun e=>ht e.symm)),fun ht=>ar h.code hW (fun g' e e2=>?_),fun ht=>h.cells.within hW (fun g' e e2=>?_),fun ht=>h.words.within hW (fun g' e e2=>?_),
  fun t1 t2 t3=>h.gy.kept hW (Bk.av h.gy.ptr hb (fun e=>t1 e.symm)) (fun i hi e2=>Rf.fX h.gy hb t2 t3 (e2 ▸ hi)),fun ht=>ar h.cores hW (fun g' e e2=>?_)⟩
 ·obtain⟨cs',hcs⟩:=aY h.code e
  exact Bk.av hcs hb (fun e=>ht e.symm) e2
 ·obtain⟨cs',hcs⟩:=aY h.cells e
  exact Bk.av hcs hb (fun e=>ht e.symm) e2
 ·obtain⟨cs',hcs⟩:=h.words.bk e
  exact Bk.av hcs hb (fun e=>ht e.symm) e2
 ·obtain⟨cs',hcs⟩:=aY h.cores e
  exact Bk.av hcs hb (fun e=>ht e.symm) e2
theorem Ey.put (h:Ey w Y k m){t:Nat}(ht:t<k.n){c:zE}(hc:cX c.xs){g cap:Nat}(e:Y.kl=G (Z ⟨g,0,O⟩) k.n cap):Ey (rF w g (t*9) (dE c.xs c.pc)) Y k { m with cs:=bp m.cs t c }/\br w k.n Y (rF w g (t*9) (dE c.xs c.pc)) Y:=by
 have hW:ag w (rF w g (t*9) (dE c.xs c.pc)) (fun i=>i=g):=.aT (lH _ _ _) (by rintro i e;injection e with e;exact .inl e.symm)
 have hg:Y.kl.ownBlock=Z g:=by rw[e];rfl
 have hk:=h.cores
 obtain⟨cs0,hb⟩:=aY hk hg
 rw[e] at hk
 have hp:=sU (dE c.xs c.pc) _ (t*9) w hk
 rw[vr h.mc.cs ht hc,<-e] at hp
 obtain⟨o1,o2,o3,o4,o5,o6⟩:=h.others hW hb
 exact⟨⟨o1 (by decide),o2 (by decide),o3 (by decide),o4 (by decide),o5 (by decide) (by decide) (by decide),h.same,hp,h.lk,⟨h.mc.ws,h.mc.len,m9 h.mc.cs hc t⟩⟩,hW.wide (fun i e _=>by subst e;exact .inr (.inr (.inr (.inr (.inr (.inl hg)))))),fun _ h=>.inl h,rfl⟩
theorem Ey.word (h:Ey w Y k m){g cap:Nat}(e:Y.wl=G (Z ⟨g,0,O⟩) m.ws.length cap)(a:Nat){v:Int}(hv:0<=v/\v<4294967296):Ey (w.setCell ⟨g,a,O⟩ (I .u32 v)) Y k { m with ws:=m.ws.set a v }/\br w k.n Y (w.setCell ⟨g,a,O⟩ (I .u32 v)) Y:=by
 have hW:ag w (w.setCell ⟨g,a,O⟩ (I .u32 v)) (fun i=>i=g):=(ag.refl _ _).put _ _ _ (.inl rfl)
 have hg:Y.wl.ownBlock=Z g:=by rw[e];rfl
 have hk:=h.words
 obtain⟨cs0,hb⟩:=hk.bk hg
 rw[e] at hk
 have hp:=hk.put a v
 rw[<-e] at hp
 obtain⟨o1,o2,o3,o4,o5,o6⟩:=h.others hW hb
 exact⟨⟨o1 (by decide),o2 (by decide),o3 (by decide),hp,o5 (by decide) (by decide) (by decide),h.same,o6 (by decide),h.lk,⟨h.mc.ws.set _ _ hv,by rw[List.length_set];exact h.mc.len,h.mc.cs⟩⟩,hW.wide (fun i e _=>by subst e;exact .inr (.inr (.inr (.inl hg)))),fun _ h=>.inl h,rfl⟩
theorem Ey.more (h:Ey w Y k m)(v:Int):Ey (w.setCell ⟨Y.y,7,O⟩ (I Q v)) { Y with ac:=v } k m/\br w k.n Y (w.setCell ⟨Y.y,7,O⟩ (I Q v)) { Y with ac:=v }:=by
 have hW:ag w (w.setCell ⟨Y.y,7,O⟩ (I Q v)) (fun i=>i=Y.y):=(ag.refl _ _).put _ _ _ (.inl rfl)
 obtain⟨o1,o2,o3,o4,o5,o6⟩:=h.others hW h.ptr
 exact⟨⟨h.ptr.put 7 (I Q v),o2 (by decide),o3 (by decide),o4 (by decide),o5 (by decide) (by decide) (by decide),h.same,o6 (by decide),h.lk,h.mc⟩,hW.wide (fun i e _=>by subst e;exact .inl rfl),fun _ h=>.inl h,rfl⟩
theorem Ey.nodes (h:Ey w Y k m){R':RM}{pn':Pn}(hp:Rf w' Y.x k.n k.each R' pn'.free pn'.gen pn'.out)(hs:∃ fr os c,rM k.n k.each pn'.free pn'.gen pn'.out fr os c)(hst:fU w k.n Y.R w' R'):Ey w' { Y with R:=R' } k { m with pn:=pn' }/\br w k.n Y w' { Y with R:=R' }:=by
 have hW:=hst.1
 have nh:∀ {q:Nat} {t:TypeId} {cs:Array Value},Bk w q t cs->t≠25->t≠3->¬ Y.R.Has k.n q:=fun hb h1 h2=>h.gy.fX hb h1 h2
 refine⟨⟨h.ptr.within hW (nh h.ptr (by decide) (by decide)),ar h.code hW (fun g' e=>?_),h.cells.within hW (fun g' e=>?_),h.words.within hW (fun g' e=>?_),hp,hs,ar h.cores hW (fun g' e=>?_),h.lk,⟨h.mc.ws,h.mc.len,h.mc.cs⟩⟩,hW.wide (fun i e _=>.inr (.inr (.inr (.inr (.inr (.inr e)))))),fun i hi=>?_,rfl⟩
 ·obtain⟨cs',hcs⟩:=aY h.code e
  exact nh hcs (by decide) (by decide)
 ·obtain⟨cs',hcs⟩:=aY h.cells e
  exact nh hcs (by decide) (by decide)
 ·obtain⟨cs',hcs⟩:=h.words.bk e
  exact nh hcs (by decide) (by decide)
 ·obtain⟨cs',hcs⟩:=aY h.cores e
  exact nh hcs (by decide) (by decide)
 ·rcases hi with e | e | e | e | e | e | e
  ·exact .inl (.inl e)
  ·exact .inl (.inr (.inl e))
  ·exact .inl (.inr (.inr (.inl e)))
  ·exact .inl (.inr (.inr (.inr (.inl e))))
  ·exact .inl (.inr (.inr (.inr (.inr (.inl e)))))
  ·exact .inl (.inr (.inr (.inr (.inr (.inr (.inl e))))))
  ·rcases hst.2 i e with e | e
   ·exact .inl (.inr (.inr (.inr (.inr (.inr (.inr e))))))
   ·exact .inr e
theorem rd (h:Ey w Y k m)(area x:Int)(h0:0<=x)(h1:x<4294967296):
 Calls Tryz.prog 54 #[Y.cl,I Q area,I .u32 x] w fun e w'=>(match gC k.zs area x with
  | none=>e=.returned (I Q (-1))
  | some a=>e=.returned (I Q a))/\w.grownBy w' O:=by
 unfold gC
 by_cases hc:0<=area/\area<k.zs.length/\x % 4096<sz k.zs area.toNat
 ·rw[if_pos hc]
  obtain⟨A,rfl⟩:=Int.eq_ofNat_of_zero_le hc.1
  have h2:=hc.2.2
  rw[Int.toNat_natCast] at h2 ⊢
  obtain⟨P,hP⟩:=Int.eq_ofNat_of_zero_le (show 0<=x % 4096 by omega)
  have:=FQ h.cells h.lk.zs A P x h0 h1 (by omega) (by omega) hP
  rw[hP,Int.toNat_natCast]
  exact this
 ·rw[if_neg hc]
  exact Cy h.cells h.lk.zs area x h0 h1 (by omega)
end
def aH (b:Bool):Int:=if b then 1 else 0
def ro (v:Value)(o:Ot):Value:=.agg #[v,I Q o.done,I Q o.addr,I Q (aH o.wrote),I Q (aH o.stay),I Q o.e]
def eF (w:World)(Y:YP)(k:Lk)(r:Mc×Ot)(e:Ending)(w':World):Prop:=
 ∃ v Y',e=.returned (ro v r.2)/\ef .i64 3 w' v r.2.ms/\Ey w' Y' k r.1/\br w k.n Y w' Y'
section
variable {w w':World}{Y:YP}{k:Lk}{m:Mc}
theorem BQ (h:Ey w Y k m)(t:Nat)(ht:t<k.n)(c:zE)(hc:cX c.xs)(o:Ot)(v0:Value)(hv0:v0=G O 0 0):
 Calls Tryz.prog 48 #[F (Z ⟨Y.y,0,O⟩),I Q t,rv c.xs c.pc,ro v0 o] w (eF w Y k (iD k m t c o)):=by
 subst hv0
 have hnn:=h.lk.n64
 have hl:=h.lk.parts.2.1
 have HR0:=fun(v:Value) W hW=>GO ⟨k.l,k.lo,k.un⟩ v c.xs c.pc t W hW hl h.lk.ok hc (by omega) (by omega)
 have hE:=nj h.lk.ok (self:=(t:Int)) (by omega) (by omega) 256 c.xs c.pc [] hc
 obtain⟨cxs,pc⟩:=c
 simp only at hc HR0 hE ⊢
 obtain⟨r0,r1,r2,r3,r4,r5,r6,r7,rfl⟩:=cG hc.1
 obtain⟨RR,hRR⟩:∃ R,R=iN (t:Int) k.l 256 [r0,r1,r2,r3,r4,r5,r6,r7] pc []:=⟨_,rfl⟩
 rw[<-hRR] at hE
 obtain⟨oms,od,oa,ow,os,oe⟩:=o
 have HR:Hid (iD k m t ⟨[r0,r1,r2,r3,r4,r5,r6,r7],pc⟩ ⟨oms,od,oa,ow,os,oe⟩=({ m with cs:=bp m.cs t ⟨RR.xs,RR.pc⟩ },⟨RR.ms,RR.done,oa,ow,os,RR.e⟩)):=Za (by unfold iD;simp only[hRR])
 have HX:=Za h
 obtain⟨sxs,PC,ms,D,E⟩:=RR
 simp only at hE HR
 obtain⟨s0,s1,s2,s3,s4,s5,s6,s7,rfl⟩:=cG hE.1
 have HE8:=Za hE
 have HB:Hid (∀ W,Ey W Y k m->Calls Tryz.prog 79 #[.agg #[I Q r0,I Q r1,I Q r2,I Q r3,I Q r4,I Q r5,I Q r6,I Q r7,I Q pc],.agg #[Y.cv,I Q k.lo,I Q k.un],I Q t] W fun e w'=>∃ m5,e=.returned (.tuple #[.agg #[I Q s0,I Q s1,I Q s2,I Q s3,I Q s4,I Q s5,I Q s6,I Q s7,I Q PC],m5,I Q D,I Q E])/\ef .i64 3 w' m5 ms/\Below W.heap.size W w'):=Za fun W hW=>by
  have h1:=HR0 _ W hW.pv.1
  rw[<-hRR] at h1
  exact h1.mono fun e w' ⟨m5,q1,q2,q3⟩=>⟨m5,q1,q2,q3⟩
 clear HR0 hE hRR hc
 rw[HR.out]
 clear HR
 unfold ro rv
 simp only[dE,List.map_cons,List.map_nil,List.cons_append,List.nil_append]
 have HOT:Hid (∀ v:Value,ro v ⟨ms,D,oa,ow,os,E⟩=.agg #[v,I Q D,I Q oa,I Q (aH ow),I Q (aH os),I Q E]):=Za fun v=>rfl
 have q0:=((Rb.made w [r0,r1,r2,r3,r4,r5,r6,r7] pc).alloc (C #[G O 0 0,I Q od,I Q oa,I Q (aH ow),I Q (aH os),I Q oe] 64)).alloc (C #[G O 0 0,I Q 0,I Q 0,I Q 0,I Q 0,I Q 0] 64)
 have q1:=(Bk.made (w.alloc (C #[I Q r0,I Q r1,I Q r2,I Q r3,I Q r4,I Q r5,I Q r6,I Q r7,I Q pc] 111)) 64 #[G O 0 0,I Q od,I Q oa,I Q (aH ow),I Q (aH os),I Q oe]).alloc (C #[G O 0 0,I Q 0,I Q 0,I Q 0,I Q 0,I Q 0] 64)
 have q2:=Bk.made ((w.alloc (C #[I Q r0,I Q r1,I Q r2,I Q r3,I Q r4,I Q r5,I Q r6,I Q r7,I Q pc] 111)).alloc (C #[G O 0 0,I Q od,I Q oa,I Q (aH ow),I Q (aH os),I Q oe] 64)) 64 #[G O 0 0,I Q 0,I Q 0,I Q 0,I Q 0,I Q 0]
 simp only[World.size_alloc] at q1 q2
 simp only[dE,List.map_cons,List.map_nil,List.cons_append,List.nil_append] at q0
 have b0:Below w.heap.size w (((w.alloc (C #[I Q r0,I Q r1,I Q r2,I Q r3,I Q r4,I Q r5,I Q r6,I Q r7,I Q pc] 111)).alloc (C #[G O 0 0,I Q od,I Q oa,I Q (aH ow),I Q (aH os),I Q oe] 64)).alloc (C #[G O 0 0,I Q 0,I Q 0,I Q 0,I Q 0,I Q 0] 64)):=(((Zb _ _).alloc (Zc _) _).alloc (by simp) _).alloc (by simp;omega) _
 generalize aH ow=WR at *
 generalize aH os=ST at *
 go_enter Tryz.func48,Tryz.ntmps48
 go_upto_region 1 with fail
 generalize ((w.alloc (C #[I Q r0,I Q r1,I Q r2,I Q r3,I Q r4,I Q r5,I Q r6,I Q r7,I Q pc] 111)).alloc (C #[G O 0 0,I Q od,I Q oa,I Q WR,I Q ST,I Q oe] 64)).alloc (C #[G O 0 0,I Q 0,I Q 0,I Q 0,I Q 0,I Q 0] 64)=y at *
 replace q0:Rb y w.heap.size [r0,r1,r2,r3,r4,r5,r6,r7] pc:=q0
 have h2:=h.below b0
 obtain⟨aV,cV,eV⟩:=h.pv.2
 rw[eV] at HB
 have HV:=Za eV
 clear h eV
 refine oL 12 13 111 #[I Q 0,I Q 0,I Q 0,I Q 0,I Q 0,I Q 0,I Q 0,I Q 0,I Q 0] (fun W b=>gu W b (I Q s0) (I Q s1) (I Q s2) (I Q s3) (I Q s4) (I Q s5) (I Q s6) (I Q s7) (I Q PC)) (fun W b=>Rb W b [s0,s1,s2,s3,s4,s5,s6,s7] PC) (fun vs=>{ tmps:=#[F (Z ⟨Y.y,0,O⟩),I Q (t:Int),.agg #[I Q r0,I Q r1,I Q r2,I Q r3,I Q r4,I Q r5,I Q r6,I Q r7,I Q pc],.agg #[G O 0 0,I Q od,I Q oa,I Q WR,I Q ST,I Q oe],Zd,Zd,F (Z ⟨w.heap.size,0,O⟩),F (Z ⟨w.heap.size+1,0,O⟩),F (Z ⟨w.heap.size+1+1,0,O⟩),vs 12,vs 14,vs 15,vs 16,vs 7,vs 0,vs 1,vs 2,vs 3,vs 4,vs 5,vs 6,vs 8,vs 9,vs 10,vs 11,Zd,Zd,Zd,Zd,Zd,Zd,Zd,Zd,Zd,Zd,Zd,Zd,Zd,Zd],defers:=[] }) (nD [(6,(mA (.agg #[I Q s0,I Q s1,I Q s2,I Q s3,I Q s4,I Q s5,I Q s6,I Q s7,I Q PC]) ms D E)),(7,(mA (.agg #[I Q s0,I Q s1,I Q s2,I Q s3,I Q s4,I Q s5,I Q s6,I Q s7,I Q PC]) ms D E)),(9,(fun v W=>ef .i64 3 W v ms)),(14,(fun v W=>ef .i64 3 W v ms))] [.agg #[I Q r0,I Q r1,I Q r2,I Q r3,I Q r4,I Q r5,I Q r6,I Q r7,I Q pc],F (Z ⟨Y.y,0,O⟩),F (Z ⟨Y.y,0,O⟩),F (Z ⟨Y.y,0,O⟩),.agg #[G aV k.l.length cV,I Q k.lo,I Q k.un],I Q (t:Int),Zd,Zd,.agg #[I Q s0,I Q s1,I Q s2,I Q s3,I Q s4,I Q s5,I Q s6,I Q s7,I Q PC],Zd,I Q D,I Q E,Zd,Zd,Zd,I Q D,I Q E]) ?ghm ?ghr ?ghns ?ghlen ?glit ?gst ?gst2 ?gd1 ?gbel ?gdn ?gnew ?gsto ?gops ?gdone
 case ghm=>kernel_rfl
 case ghr=>kernel_rfl
 case ghns=>kernel_rfl
 case ghlen=>rfl
 case glit=>intro vs;rfl
 case gst=>exact dW (by
  intro p hp
  simp only[List.mem_cons,List.not_mem_nil,or_false] at hp
  rcases hp with rfl|rfl|rfl|rfl
  ·exact fun v W W2 h hb=>mA.below h hb
  ·exact fun v W W2 h hb=>mA.below h hb
  ·exact fun v W W2 h hb=>ju h hb
  ·exact fun v W W2 h hb=>ju h hb)
 case gst2=>
  have hk:=jq (R:=fun W W2=>∃ b,Bk W b 111 #[I Q 0,I Q 0,I Q 0,I Q 0,I Q 0,I Q 0,I Q 0,I Q 0,I Q 0]/\W2=gu W b (I Q s0) (I Q s1) (I Q s2) (I Q s3) (I Q s4) (I Q s5) (I Q s6) (I Q s7) (I Q PC)) (ps:=[(6,(mA (.agg #[I Q s0,I Q s1,I Q s2,I Q s3,I Q s4,I Q s5,I Q s6,I Q s7,I Q PC]) ms D E)),(7,(mA (.agg #[I Q s0,I Q s1,I Q s2,I Q s3,I Q s4,I Q s5,I Q s6,I Q s7,I Q PC]) ms D E)),(9,(fun v W=>ef .i64 3 W v ms)),(14,(fun v W=>ef .i64 3 W v ms))]) (l:=[.agg #[I Q r0,I Q r1,I Q r2,I Q r3,I Q r4,I Q r5,I Q r6,I Q r7,I Q pc],F (Z ⟨Y.y,0,O⟩),F (Z ⟨Y.y,0,O⟩),F (Z ⟨Y.y,0,O⟩),.agg #[G aV k.l.length cV,I Q k.lo,I Q k.un],I Q (t:Int),Zd,Zd,.agg #[I Q s0,I Q s1,I Q s2,I Q s3,I Q s4,I Q s5,I Q s6,I Q s7,I Q PC],Zd,I Q D,I Q E,Zd,Zd,Zd,I Q D,I Q E]) (by
   intro p hp
   simp only[List.mem_cons,List.not_mem_nil,or_false] at hp
   rcases hp with rfl|rfl|rfl|rfl
   ·rintro v W W2 ⟨m5,e5,h5⟩ ⟨b,hk,rfl⟩;exact⟨m5,e5,kN h5 hk (by decide) (I Q s0) (I Q s1) (I Q s2) (I Q s3) (I Q s4) (I Q s5) (I Q s6) (I Q s7) (I Q PC)⟩
   ·rintro v W W2 ⟨m5,e5,h5⟩ ⟨b,hk,rfl⟩;exact⟨m5,e5,kN h5 hk (by decide) (I Q s0) (I Q s1) (I Q s2) (I Q s3) (I Q s4) (I Q s5) (I Q s6) (I Q s7) (I Q PC)⟩
   ·rintro v W W2 h ⟨b,hk,rfl⟩;exact kN h hk (by decide) (I Q s0) (I Q s1) (I Q s2) (I Q s3) (I Q s4) (I Q s5) (I Q s6) (I Q s7) (I Q PC)
   ·rintro v W W2 h ⟨b,hk,rfl⟩;exact kN h hk (by decide) (I Q s0) (I Q s1) (I Q s2) (I Q s3) (I Q s4) (I Q s5) (I Q s6) (I Q s7) (I Q PC))
  exact fun i v W b h hb=>hk i v W _ h ⟨b,hb,rfl⟩
 case gd1=>exact fun W W2 b h hb=>Rb.below h hb
 case gbel=>exact fun W b hb h=>fg h hb (I Q s0) (I Q s1) (I Q s2) (I Q s3) (I Q s4) (I Q s5) (I Q s6) (I Q s7) (I Q PC)
 case gdn=>exact fun W b h=>jE h (I Q s0) (I Q s1) (I Q s2) (I Q s3) (I Q s4) (I Q s5) (I Q s6) (I Q s7) (I Q PC)
 case gnew=>
  intro o ho vs W hW
  injection ho with ho
  subst ho
  refine aa rfl ?_
  go_simp
  exact⟨⟨W.heap.size,rfl,hW.size,Rb.made W [0,0,0,0,0,0,0,0] 0⟩,(Zb _ _).alloc (Zc _) _⟩
 case gsto=>
  intro o ho vs W b hW hd hb hk
  injection ho with ho
  subst ho
  have ev:vs 8=.agg #[I Q s0,I Q s1,I Q s2,I Q s3,I Q s4,I Q s5,I Q s6,I Q s7,I Q PC]:=hd 8 (by decide) rfl
  have zf:=Bk.free hk
  obtain⟨z0,z1,z2,z3,z4,z5,z6,z7,z8⟩:=Rb.cells hk
  refine bh rfl ?_
  clear hd
  go_simp
  rfl
 case gops=>
  refine⟨?_,?_,?_,?_,?_,?_,?_,?_,?_,?_,?_,?_,?_,?_,?_,?_,?_,trivial⟩
  ·intro _ vs W hW hd
   refine aa rfl ?_
   have hq:=h2.below hW;have c0x:=hq.c0;rw[HV.out] at c0x;have c1x:=hq.c1;have c2x:=hq.c2;obtain⟨c0,c1,c2,c3,c4,c5,c6,c7,c8⟩:=(Rb.below q0 hW).cells;clear hq
   go_simp
   exact⟨rfl,Zb _ _⟩
  ·intro _ vs W hW hd
   refine aa rfl ?_
   go_simp
   exact⟨rfl,Zb _ _⟩
  ·intro _ vs W hW hd
   refine aa rfl ?_
   have e1:vs 1=F (Z ⟨Y.y,0,O⟩):=hd 1 (by decide) rfl
   go_simp
   exact⟨rfl,Zb _ _⟩
  ·intro _ vs W hW hd
   refine aa rfl ?_
   have e2:vs 2=F (Z ⟨Y.y,0,O⟩):=hd 2 (by decide) rfl
   go_simp
   exact⟨rfl,Zb _ _⟩
  ·intro _ vs W hW hd
   refine aa rfl ?_
   have e3:vs 3=F (Z ⟨Y.y,0,O⟩):=hd 3 (by decide) rfl
   have hq:=h2.below hW;have c0x:=hq.c0;rw[HV.out] at c0x;have c1x:=hq.c1;have c2x:=hq.c2;obtain⟨c0,c1,c2,c3,c4,c5,c6,c7,c8⟩:=(Rb.below q0 hW).cells;clear hq
   go_simp
   exact⟨rfl,Zb _ _⟩
  ·intro _ vs W hW hd
   refine aa rfl ?_
   go_simp
   exact⟨rfl,Zb _ _⟩
  ·intro _ vs W hW hd
   refine aa rfl ?_
   have e0:vs 0=.agg #[I Q r0,I Q r1,I Q r2,I Q r3,I Q r4,I Q r5,I Q r6,I Q r7,I Q pc]:=hd 0 (by decide) rfl
   have e4:vs 4=.agg #[G aV k.l.length cV,I Q k.lo,I Q k.un]:=hd 4 (by decide) rfl
   have e5:vs 5=I Q (t:Int):=hd 5 (by decide) rfl
   have HS:=Za (HB.out W (h2.below hW))
   clear hd
   go_simp
   refine HS.out.mono ?_
   rintro e z ⟨m5,he,hm5,hz⟩
   exact⟨_,he,⟨m5,rfl,hm5⟩,hz⟩
  ·intro _ vs W hW hd
   refine aa rfl ?_
   obtain⟨m5,e6,hm5⟩:mA (.agg #[I Q s0,I Q s1,I Q s2,I Q s3,I Q s4,I Q s5,I Q s6,I Q s7,I Q PC]) ms D E (vs 6) W:=hd 6 (by decide) rfl
   clear hd
   go_simp
   exact⟨⟨m5,rfl,hm5⟩,Zb _ _⟩
  ·intro _ vs W hW hd
   refine aa rfl ?_
   obtain⟨m5,e7,hm5⟩:mA (.agg #[I Q s0,I Q s1,I Q s2,I Q s3,I Q s4,I Q s5,I Q s6,I Q s7,I Q PC]) ms D E (vs 7) W:=hd 7 (by decide) rfl
   clear hd
   go_simp
   exact⟨rfl,Zb _ _⟩
  ·intro _ vs W hW hd
   refine aa rfl ?_
   obtain⟨m5,e7,hm5⟩:mA (.agg #[I Q s0,I Q s1,I Q s2,I Q s3,I Q s4,I Q s5,I Q s6,I Q s7,I Q PC]) ms D E (vs 7) W:=hd 7 (by decide) rfl
   clear hd
   go_simp
   exact⟨hm5,Zb _ _⟩
  ·intro _ vs W hW hd
   refine aa rfl ?_
   obtain⟨m5,e7,hm5⟩:mA (.agg #[I Q s0,I Q s1,I Q s2,I Q s3,I Q s4,I Q s5,I Q s6,I Q s7,I Q PC]) ms D E (vs 7) W:=hd 7 (by decide) rfl
   clear hd
   go_simp
   exact⟨rfl,Zb _ _⟩
  ·intro _ vs W hW hd
   refine aa rfl ?_
   obtain⟨m5,e7,hm5⟩:mA (.agg #[I Q s0,I Q s1,I Q s2,I Q s3,I Q s4,I Q s5,I Q s6,I Q s7,I Q PC]) ms D E (vs 7) W:=hd 7 (by decide) rfl
   clear hd
   go_simp
   exact⟨rfl,Zb _ _⟩
  ·exact fun h=>absurd h (by decide)
  ·exact fun h=>absurd h (by decide)
  ·intro _ vs W hW hd
   refine aa rfl ?_
   have h8:ef .i64 3 W (vs 9) ms:=hd 9 (by decide) rfl
   clear hd
   go_simp
   exact⟨h8,Zb _ _⟩
  ·intro _ vs W hW hd
   refine aa rfl ?_
   have e10:vs 10=I Q D:=hd 10 (by decide) rfl
   go_simp
   exact⟨rfl,Zb _ _⟩
  ·intro _ vs W hW hd
   refine aa rfl ?_
   have e11:vs 11=I Q E:=hd 11 (by decide) rfl
   go_simp
   exact⟨rfl,Zb _ _⟩
 case gdone=>
  intro vs W b hW hf hgv hgb pb
  have f0:vs 0=.agg #[I Q r0,I Q r1,I Q r2,I Q r3,I Q r4,I Q r5,I Q r6,I Q r7,I Q pc]:=hf 0 (by decide) rfl
  have f1:vs 1=F (Z ⟨Y.y,0,O⟩):=hf 1 (by decide) rfl
  have f2:vs 2=F (Z ⟨Y.y,0,O⟩):=hf 2 (by decide) rfl
  have f3:vs 3=F (Z ⟨Y.y,0,O⟩):=hf 3 (by decide) rfl
  have f4:vs 4=.agg #[G aV k.l.length cV,I Q k.lo,I Q k.un]:=hf 4 (by decide) rfl
  have f5:vs 5=I Q (t:Int):=hf 5 (by decide) rfl
  have f8:vs 8=.agg #[I Q s0,I Q s1,I Q s2,I Q s3,I Q s4,I Q s5,I Q s6,I Q s7,I Q PC]:=hf 8 (by decide) rfl
  have f10:vs 10=I Q D:=hf 10 (by decide) rfl
  have f11:vs 11=I Q E:=hf 11 (by decide) rfl
  have f15:vs 15=I Q D:=hf 15 (by decide) rfl
  have f16:vs 16=I Q E:=hf 16 (by decide) rfl
  simp only[f0,f1,f2,f3,f4,f5,f8,f10,f11,f15,f16]
  have hm2:ef .i64 3 W (vs 14) ms:=hf 14 (by decide) rfl
  simp only[hgv]
  clear hf hgv f0 f1 f2 f3 f4 f5 f8 f10 f11 f15 f16
  generalize vs 14=m2 at *
  generalize vs 6=w6 at *
  generalize vs 7=w7 at *
  generalize vs 9=w9 at *
  have h3:=h2.below hW
  replace q1:=(hW.block _ q1.lt).trans q1
  replace q2:=(hW.block _ q2.lt).trans q2
  replace b0:=b0.trans (hW.mono b0.size)
  clear h2 q0 hW hgb
  obtain⟨gk,capk,ek,hk1,hk2,hkb,hkf,-⟩:=h3.qk
  have cx6:=h3.c6
  rw[ek] at cx6
  obtain⟨u0,u1,u2,u3,u4,u5,u6,u7,pcu,ecu⟩:=h3.eb ht
  obtain⟨c0,c1,c2,c3,c4,c5,c6,c7,c8⟩:=h3.core ht ecu ek
  obtain⟨d0,d1,d2,d3,d4,d5,d6,d7,d8⟩:=pb.cells
  unfold maxLen at hk2
  go_upto_region 2 with fail
  go_region
  obtain⟨h4,st4⟩:=h3.put ht (c:=⟨[s0,s1,s2,s3,s4,s5,s6,s7],PC⟩) HE8.out ek
  have hw4:ag W (rF W gk (t*9) (dE [s0,s1,s2,s3,s4,s5,s6,s7] PC)) (fun i=>i=gk):=.aT (lH _ _ _) (by rintro i e;injection e with e;exact .inl e.symm)
  have hgl:gk<w.heap.size:=HX.out.lt (.inr (.inr (.inr (.inr (.inr (.inl hkb))))))
  have p1:=Bk.within q1 hw4 (by omega)
  have p2:=Bk.within q2 hw4 (by omega)
  have l4:=iw hm2 hw4 (by rintro b' rfl;obtain⟨cs0,hb0⟩:=aY h3.cores hkb;exact⟨_,_,hb0,by decide⟩)
  have st5:=(br.aT (n:=k.n) (Y:=Y) b0).aJ st4
  generalize hv4:(((((((((W.setCell ⟨gk,(t*9),O⟩ (I Q s0)).setCell ⟨gk,(t*9)+1,O⟩ (I Q s1)).setCell ⟨gk,(t*9)+2,O⟩ (I Q s2)).setCell ⟨gk,(t*9)+3,O⟩ (I Q s3)).setCell ⟨gk,(t*9)+4,O⟩ (I Q s4)).setCell ⟨gk,(t*9)+5,O⟩ (I Q s5)).setCell ⟨gk,(t*9)+6,O⟩ (I Q s6)).setCell ⟨gk,(t*9)+7,O⟩ (I Q s7)).setCell ⟨gk,(t*9)+8,O⟩ (I Q PC))=v4
  replace hv4:rF W gk (t*9) (dE [s0,s1,s2,s3,s4,s5,s6,s7] PC)=v4:=hv4
  rw[hv4] at h4 p1 p2 l4 st5
  clear hv4 hw4 h3 q1 q2 hm2 b0 st4 c0 c1 c2 c3 c4 c5 c6 c7 c8 d0 d1 d2 d3 d4 d5 d6 d7 d8 hkf pb cx6 hgl
  replace h4:=h4.below (Zb _ v4).drew
  replace p1:Bk v4.drew _ _ _:=p1
  replace p2:Bk v4.drew _ _ _:=p2
  replace l4:ef .i64 3 v4.drew m2 ms:=l4
  replace st5:=st5.grown (Zb _ v4).drew
  generalize v4.drew=v5 at *
  obtain⟨a9,c9,e9,-⟩:=l4.is
  subst e9
  have hOwn:∀ i,Y.Own k.n i->i<w.heap.size:=fun i hi=>HX.out.lt hi
  have hw5:ag v5 (((v5.setCell ⟨w.heap.size+1,0,O⟩ (G a9 ms.length c9)).setCell ⟨w.heap.size+1,1,O⟩ (I Q D)).setCell ⟨w.heap.size+1,5,O⟩ (I Q E)) (fun i=>i=w.heap.size+1):=(((ag.refl v5 (fun i=>i=w.heap.size+1)).put _ 0 _ (.inl rfl)).put _ 1 _ (.inl rfl)).put _ 5 _ (.inl rfl)
  have p1':Bk (((v5.setCell ⟨w.heap.size+1,0,O⟩ (G a9 ms.length c9)).setCell ⟨w.heap.size+1,1,O⟩ (I Q D)).setCell ⟨w.heap.size+1,5,O⟩ (I Q E)) (w.heap.size+1) 64 #[G a9 ms.length c9,I Q D,I Q oa,I Q WR,I Q ST,I Q E]:=((p1.put 0 (G a9 ms.length c9)).put 1 (I Q D)).put 5 (I Q E)
  have p2':=p2.within hw5 (by omega)
  have h6:=h4.kept hw5 (fun i hi e=>by have:=hOwn i hi;omega)
  have st6:=st5.BU hw5 (fun i e=>by omega)
  have l6:=iw l4 hw5 (by rintro b' rfl;exact⟨_,_,p1,by decide⟩)
  obtain⟨y0,y1,y2,y3,y4,y5⟩:=p1.pd
  have zf:=Bk.free p1
  go_upto_region 4 with fail
  generalize ((v5.setCell ⟨w.heap.size+1,0,O⟩ (G a9 ms.length c9)).setCell ⟨w.heap.size+1,1,O⟩ (I Q D)).setCell ⟨w.heap.size+1,5,O⟩ (I Q E)=v6 at *
  clear y0 y1 y2 y3 y4 y5 zf hw5 p1 p2 h4 st5 l4
  obtain⟨y0,y1,y2,y3,y4,y5⟩:=p1'.pd
  obtain⟨x0,x1,x2,x3,x4,x5⟩:=p2'.pd
  have zf:=Bk.free p2'
  have o1:=ep p2' (G a9 ms.length c9) (I Q D) (I Q oa) (I Q WR) (I Q ST) (I Q E)
  have o2:=bK (y:=v6) (g:=w.heap.size+1+1) (G a9 ms.length c9) (I Q D) (I Q oa) (I Q WR) (I Q ST) (I Q E)
  have l7:=iw l6 o2 (by rintro b' rfl;exact⟨_,_,p2',by decide⟩)
  have h7:=h6.kept o2 (fun i hi e=>by have:=hOwn i hi;omega)
  have st7:=st6.BU o2 (fun i e=>by omega)
  clear h6 st6 l6
  go_wp2
  generalize hv9:((((((v6.setCell ⟨w.heap.size+1+1,0,O⟩ (G a9 ms.length c9)).setCell ⟨w.heap.size+1+1,1,O⟩ (I Q D)).setCell ⟨w.heap.size+1+1,2,O⟩ (I Q oa)).setCell ⟨w.heap.size+1+1,3,O⟩ (I Q WR)).setCell ⟨w.heap.size+1+1,4,O⟩ (I Q ST)).setCell ⟨w.heap.size+1+1,5,O⟩ (I Q E))=v9
  replace hv9:eH v6 (w.heap.size+1+1) (G a9 ms.length c9) (I Q D) (I Q oa) (I Q WR) (I Q ST) (I Q E)=v9:=hv9
  rw[hv9] at o1 l7 h7 st7
  clear hv9 o2 p1' p2' y0 y1 y2 y3 y4 y5 x0 x1 x2 x3 x4 x5 zf
  obtain⟨o0,o1,o2,o3,o4,o5⟩:=o1.pd
  exact bodyPost_ret (v:=.agg #[G a9 ms.length c9,I Q D,I Q oa,I Q WR,I Q ST,I Q E]) (by simp[results,Tryz.results48,go_sem,o0,o1,o2,o3,o4,o5]) rfl ⟨G a9 ms.length c9,Y,(by rw[HOT.out]),l7,h7,st7⟩
end
section
variable {k:Lk}{m:Mc}{t:Nat}{late:Bool}{i:aU}
theorem fV (hm:ke k (m.cs t).pc=Z i)(h:i.op≠22)(h':i.op≠23):bC k m t late=match gC k.zs i.a (aD (m.cs t).xs i.s.toNat) with
 | none=>(m,jK)
 | some a=>oY k m t (m.cs t) late i a:=by
 unfold bC
 simp only[hm,if_neg h,if_neg h']
 rfl
end
def ml (a:Nat->Int)(n:Nat):List Int:=(List.range n).map a
theorem kR (a:Nat->Int)(n:Nat):(ml a n).length=n:=by simp[ml]
theorem wN (a:Nat->Int){n t:Nat}(h:t<n):aD (ml a n) t=a t:=by
 rw[kb (by rw[kR];exact h)]
 simp[ml]
theorem tR (a:Nat->Int){n t:Nat}(h:t<n)(v:Int):(ml a n).set t v=ml (bp a t v) n:=by
 apply List.ext_getElem
 ·simp[ml]
 ·intro i h1 h2
  simp only[List.length_set,kR] at h1
  rw[List.getElem_set]
  by_cases e:t=i
  ·subst e;simp[ml,bp]
  ·rw[if_neg e]
   have e2:¬ i=t:=fun h=>e h.symm
   simp[ml,bp,e2]
structure RP where
 g:Nat
 Y:YP
 d:Nat
 lv:Value
def RP.Own (U:RP)(n i:Nat):Prop:=i=U.g\/i=U.d\/U.lv.ownBlock=Z i\/U.Y.Own n i
def Fh (b:Bool):Int:=if b then 1 else 0
structure Ru (w:World)(U:RP)(k:Lk)(r:Rn):Prop where
 ptr:Bk w U.g 85 #[F (Z ⟨U.Y.y,0,O⟩),G (Z ⟨U.d,0,O⟩) k.n k.n,U.lv,I Q (Fh r.bad)]
 acts:qq w U.d k.n (ml r.act k.n)
 ja:BP 0 93 w U.lv r.l
 ey:Ey w U.Y k r.m
 dy:¬ U.Y.Own k.n U.d
def bi (w:World)(n:Nat)(U:RP)(w':World)(U':RP):Prop:=ag w w' (U.Own n)/\(∀ i,U'.Own n i->U.Own n i\/w.heap.size<=i)/\U'.g=U.g/\U'.d=U.d
section
variable {w w':World}{U:RP}{k:Lk}{r:Rn}
theorem bi.refl (w:World)(n:Nat)(U:RP):bi w n U w U:=⟨ag.refl _ _,fun _ h=>.inl h,rfl,rfl⟩
theorem bi.aJ {n:Nat}{w'':World}{U' U'':RP}(h:bi w n U w' U')(k:bi w' n U' w'' U''):bi w n U w'' U'':=
 ⟨h.1.aJ k.1 h.2.1,fun i hi=>by
  rcases k.2.1 i hi with e | e
  ·exact h.2.1 i e
  ·exact .inr (Nat.le_trans h.1.size e),k.2.2.1.trans h.2.2.1,k.2.2.2.trans h.2.2.2⟩
theorem bi.grown {n:Nat}{U':RP}{w'':World}(h:bi w n U w' U')(k:Below w'.heap.size w' w''):bi w n U w'' U':=
 h.aJ ⟨(af k).wide (by simp),fun _ h=>.inl h,rfl,rfl⟩
theorem Ey.iI {Y:YP}{m:Mc}{g:Nat}{t:TypeId}{cs:Array Value}(h:Ey w Y k m)(hb:Bk w g t cs)
 (t1:t≠90) (t2:t≠123) (t3:t≠151) (t4:t≠70) (t5:t≠158) (t6:t≠25) (t7:t≠3) (t8:t≠111):¬ Y.Own k.n g:=by
 rintro(e | e | e | e | e | e | e)
 ·exact Bk.av h.ptr hb (fun e=>t1 e.symm) e.symm
 ·obtain⟨cs',hcs⟩:=aY h.code e
  exact Bk.av hcs hb (fun e=>t2 e.symm) rfl
 ·obtain⟨cs',hcs⟩:=aY h.cells e
  exact Bk.av hcs hb (fun e=>t3 e.symm) rfl
 ·obtain⟨cs',hcs⟩:=h.words.bk e
  exact Bk.av hcs hb (fun e=>t4 e.symm) rfl
 ·exact Bk.av h.gy.ptr hb (fun e=>t5 e.symm) e.symm
 ·obtain⟨cs',hcs⟩:=aY h.cores e
  exact Bk.av hcs hb (fun e=>t8 e.symm) rfl
 ·exact Rf.fX h.gy hb t6 t7 e
theorem Ru.gY (h:Ru w U k r):¬ U.Y.Own k.n U.g:=h.ey.iI h.ptr (by decide) (by decide) (by decide) (by decide) (by decide) (by decide) (by decide) (by decide)
theorem Ru.gd (h:Ru w U k r):U.g≠U.d:=by
 obtain⟨cs,hb,_⟩:=h.acts.bk
 exact Bk.av h.ptr hb (by decide)
theorem Ru.lY (h:Ru w U k r){b:Nat}(e:U.lv.ownBlock=Z b):¬ U.Y.Own k.n b:=by
 obtain⟨cs,hb⟩:=aY h.ja e
 exact h.ey.iI hb (by decide) (by decide) (by decide) (by decide) (by decide) (by decide) (by decide) (by decide)
theorem Ru.lg (h:Ru w U k r):U.lv.ownBlock≠Z U.g:=fun e=>by
 obtain⟨cs,hb⟩:=aY h.ja e
 exact Bk.av h.ptr hb (by decide) rfl
theorem Ru.ld (h:Ru w U k r):U.lv.ownBlock≠Z U.d:=fun e=>by
 obtain⟨cs,hb⟩:=aY h.ja e
 obtain⟨D2,hb2,_⟩:=h.acts.bk
 exact Bk.av hb2 hb (by decide) rfl
theorem Ru.lt (h:Ru w U k r){i:Nat}(hi:U.Own k.n i):i<w.heap.size:=by
 rcases hi with rfl|rfl | e | e
 ·exact h.ptr.lt
 ·exact h.acts.lt
 ·exact(World.ownsRow.lt h.ja i e).2
 ·exact h.ey.lt e
theorem Ru.kept {S:Nat->Prop}(h:Ru w U k r)(hw:ag w w' S)(hn:∀ i,U.Own k.n i->¬ S i):Ru w' U k r:=
 ⟨h.ptr.within hw (hn _ (.inl rfl)),h.acts.within hw (hn _ (.inr (.inl rfl))),h.ja.within hw (fun g e=>hn g (.inr (.inr (.inl e)))),h.ey.kept hw (fun i hi=>hn i (.inr (.inr (.inr hi)))),h.dy⟩
theorem Ru.below (h:Ru w U k r)(hb:Below w.heap.size w w'):Ru w' U k r:=h.kept (af hb) (by simp)
theorem Ru.c0 (h:Ru w U k r):w.cell? ⟨U.g,0,O⟩=Z (F (Z ⟨U.Y.y,0,O⟩)):=h.ptr.cell 0
theorem Ru.c1 (h:Ru w U k r):w.cell? ⟨U.g,1,O⟩=Z (G (Z ⟨U.d,0,O⟩) k.n k.n):=h.ptr.cell 1
theorem Ru.c2 (h:Ru w U k r):w.cell? ⟨U.g,2,O⟩=Z U.lv:=h.ptr.cell 2
theorem Ru.c3 (h:Ru w U k r):w.cell? ⟨U.g,3,O⟩=Z (I Q (Fh r.bad)):=h.ptr.cell 3
theorem Ru.act (h:Ru w U k r){t:Nat}(ht:t<k.n):w.cell? ⟨U.d,t,O⟩=Z (I Q (r.act t)):=by
 have:=h.acts.at_ (i:=t) (by rw[kR];exact ht)
 rwa [wN r.act ht] at this
theorem Ru.vF (h:Ru w U k r):Ru (w.setCell ⟨U.g,3,O⟩ (I Q 1)) U k { r with bad:=true }/\bi w k.n U (w.setCell ⟨U.g,3,O⟩ (I Q 1)) U:=by
 have hw:ag w (w.setCell ⟨U.g,3,O⟩ (I Q 1)) (fun b=>b=U.g):=(ag.refl w (fun b=>b=U.g)).put U.g 3 _ (.inl rfl)
 refine⟨⟨?_,h.acts.within hw (fun e=>h.gd e.symm),h.ja.within hw (fun g e e2=>h.lg (by rw[e,e2])),h.ey.kept hw (fun i hi e=>h.gY (e ▸ hi)),h.dy⟩,hw.wide (fun i e _=>.inl e),fun _ h=>.inl h,rfl,rfl⟩
 have:=h.ptr.put 3 (I Q 1)
 simp only[List.setIfInBounds_toArray,List.set_cons_zero,List.set_cons_succ] at this
 exact this
theorem Ru.mp (h:Ru w U k r){t:Nat}(ht:t<k.n)(v:Int):Ru (w.setCell ⟨U.d,t,O⟩ (I Q v)) U k { r with act:=bp r.act t v }/\bi w k.n U (w.setCell ⟨U.d,t,O⟩ (I Q v)) U:=by
 have hw:ag w (w.setCell ⟨U.d,t,O⟩ (I Q v)) (fun b=>b=U.d):=(ag.refl w (fun b=>b=U.d)).put U.d t _ (.inl rfl)
 refine⟨⟨h.ptr.within hw h.gd,?_,h.ja.within hw (fun g e e2=>h.ld (by rw[e,e2])),h.ey.kept hw (fun i hi e=>h.dy (e ▸ hi)),h.dy⟩,hw.wide (fun i e _=>.inr (.inl e)),fun _ h=>.inl h,rfl,rfl⟩
 have:=h.acts.put t v
 rw[tR r.act ht] at this
 exact this
theorem Ru.putL {w2:World}{lv':Value}{l':List En}(h:Ru w U k r)(hg:ag w w2 (fun b=>U.lv.ownBlock=Z b))(hl:BP 0 93 w2 lv' l')(ho:∀ g,lv'.ownBlock=Z g->U.lv.ownBlock=Z g\/w.heap.size<=g):
 Ru (w2.setCell ⟨U.g,2,O⟩ lv') { U with lv:=lv' } k { r with l:=l' }/\bi w k.n U (w2.setCell ⟨U.g,2,O⟩ lv') { U with lv:=lv' }:=by
 have hw:ag w2 (w2.setCell ⟨U.g,2,O⟩ lv') (fun b=>b=U.g):=(ag.refl w2 (fun b=>b=U.g)).put U.g 2 _ (.inl rfl)
 have hlg:lv'.ownBlock≠Z U.g:=fun e=>by
  rcases ho _ e with e2 | e2
  ·exact h.lg e2
  ·have:=h.ptr.lt;omega
 refine⟨⟨?_,(h.acts.within hg h.ld).within hw (fun e=>h.gd e.symm),hl.within hw (fun g e e2=>hlg (by rw[e,e2])),(h.ey.kept hg (fun i hi e=>h.lY e hi)).kept hw (fun i hi e=>h.gY (e ▸ hi)),h.dy⟩,?_,?_,rfl,rfl⟩
 ·have:=(h.ptr.within hg h.lg).put 2 lv'
  simpa only[List.setIfInBounds_toArray,List.set_cons_zero,List.set_cons_succ] using this
 ·exact(hg.wide (S':=U.Own k.n) (fun i e _=>.inr (.inr (.inl e)))).aJ hw (fun i e=>.inl (.inl e))
 ·rintro i (e | e | e | e)
  ·exact .inl (.inl e)
  ·exact .inl (.inr (.inl e))
  ·rcases ho i e with e2 | e2
   ·exact .inl (.inr (.inr (.inl e2)))
   ·exact .inr e2
  ·exact .inl (.inr (.inr (.inr e)))
theorem Ru.zo {Y':YP}{m':Mc}(h:Ru w U k r)(hy:Ey w' Y' k m')(hs:br w k.n U.Y w' Y'):Ru w' { U with Y:=Y' } k { r with m:=m' }/\bi w k.n U w' { U with Y:=Y' }:=by
 have hw:=hs.1
 refine⟨⟨?_,h.acts.within hw h.dy,h.ja.within hw (fun g e=>h.lY e),hy,fun e=>?_⟩,hw.wide (fun i e _=>.inr (.inr (.inr e))),?_,rfl,rfl⟩
 ·have:=h.ptr.within hw h.gY
  show Bk w' U.g _ #[F (Z ⟨Y'.y,0,O⟩),_,_,_]
  rw[hs.2.2];exact this
 ·rcases hs.2.1 _ e with e2 | e2
  ·exact h.dy e2
  ·have:=h.acts.lt
   have e3:w.heap.size<=U.d:=e2
   omega
 ·rintro i (e | e | e | e)
  ·exact .inl (.inl e)
  ·exact .inl (.inr (.inl e))
  ·exact .inl (.inr (.inr (.inl e)))
  ·rcases hs.2.1 i e with e2 | e2
   ·exact .inl (.inr (.inr (.inr e2)))
   ·exact .inr e2
end
def vz (w:World)(U:RP)(k:Lk)(r:Rn)(w':World):Prop:=∃ U',Ru w' U' k r/\bi w k.n U w' U'
section
variable {w w':World}{Y:YP}{k:Lk}{m:Mc}
theorem eF.mono {k:Lk}{v0 v1:World}{Y0 Y1:YP}{r:Mc×Ot}{e:Ending}{w':World}(h:eF v1 Y1 k r e w')(s:br v0 k.n Y0 v1 Y1):eF v0 Y0 k r e w':=by
 obtain⟨v,Y',h1,h2,h3,h4⟩:=h
 exact⟨v,Y',h1,h2,h3,s.aJ h4⟩
theorem dj {q:Nat}{t:TypeId}{cs:Array Value}{v:Value}{r:Mc×Ot}{Y':YP}{W W':World}(hl:ef .i64 3 W v r.2.ms)(h:Ey W Y' k r.1)(s:br w k.n Y W Y')(hq:Bk W q t cs)(ht:t≠3)(hw:ag W W' (fun i=>i=q))(hn:w.heap.size<=q)(hfar:∀ i,Y'.Own k.n i->i≠q):
 eF w Y k r (.returned (ro v r.2)) W':=
 ⟨v,Y',rfl,iw hl hw (by rintro b' rfl;exact⟨_,_,hq,ht⟩),h.kept hw (fun i hi e=>hfar i hi e),s.BU hw (fun i e=>by omega)⟩
theorem Bb (h:Ey w Y k m)(t:Nat)(ht:t<k.n)(un:Bool):
 Calls Tryz.prog 23 #[F (Z ⟨Y.y,0,O⟩),I Q t,I Q (aH un)] w (eF w Y k (bn k m t un)):=by
 have hnn:=h.lk.n64
 obtain⟨r0,r1,r2,r3,r4,r5,r6,r7,pc,ec⟩:=h.eb ht
 have hc8:cX [r0,r1,r2,r3,r4,r5,r6,r7]:=by have:=h.mc.cs t ht;rw[ec] at this;exact this
 have HRun:Hid (∀ W,Ey W Y k m->Calls Tryz.prog 48 #[F (Z ⟨Y.y,0,O⟩),I Q t,.agg #[I Q r0,I Q r1,I Q r2,I Q r3,I Q r4,I Q r5,I Q r6,I Q r7,I Q (if un then k.un else k.lo)],.agg #[G O 0 0,I Q 0,I Q (-1),I Q 0,I Q 0,I Q 0]] W (eF W Y k (bn k m t un))):=Za fun W hW=>by
  have:=BQ hW t ht ⟨[r0,r1,r2,r3,r4,r5,r6,r7],if un then k.un else k.lo⟩ hc8 ⟨[],0,-1,J,J,0⟩ _ rfl
  unfold bn
  rw[ec]
  exact this
 obtain⟨BB,hBB⟩:∃ B,B=bn k m t un:=⟨_,rfl⟩
 rw[<-hBB] at HRun ⊢
 clear hBB
 have HX:=Za h
 have q0:=Bk.made w 64 #[G O 0 0,I Q 0,I Q 0,I Q 0,I Q 0,I Q 0]
 have b0:Below w.heap.size w (w.alloc (C #[G O 0 0,I Q 0,I Q 0,I Q 0,I Q 0,I Q 0] 64)):=(Zb _ _).alloc (Zc _) _
 have s0:(w.alloc (C #[G O 0 0,I Q 0,I Q 0,I Q 0,I Q 0,I Q 0] 64)).heap.size=w.heap.size+1:=by simp
 go_enter Tryz.func23,Tryz.ntmps23
 go_upto_region 1 with fail
 generalize w.alloc (C #[G O 0 0,I Q 0,I Q 0,I Q 0,I Q 0,I Q 0] 64)=y at *
 have h2:=h.below b0
 obtain⟨gk,capk,ek,hk1,hk2,hkb,hkf,-⟩:=h2.qk
 unfold maxLen at hk2
 have cx6:=h2.c6
 rw[ek] at cx6
 obtain⟨c0,c1,c2,c3,c4,c5,c6,c7,c8⟩:=h2.core ht ec ek
 go_upto_region 2 with fail
 have q1:=Rb.made y [r0,r1,r2,r3,r4,r5,r6,r7] pc
 rw[s0] at q1
 simp only[dE,List.map_cons,List.map_nil,List.cons_append,List.nil_append] at q1
 have b1:Below y.heap.size y (y.alloc (C #[I Q r0,I Q r1,I Q r2,I Q r3,I Q r4,I Q r5,I Q r6,I Q r7,I Q pc] 111)):=(Zb _ _).alloc (Zc _) _
 replace q0:=(b1.block _ q0.lt).trans q0
 have h3:=h2.below b1
 replace b0:=b0.trans (b1.mono b0.size)
 have HS0:=Za s0
 clear c0 c1 c2 c3 c4 c5 c6 c7 c8 cx6 h2 b1 hkf s0 h
 generalize y.alloc (C #[I Q r0,I Q r1,I Q r2,I Q r3,I Q r4,I Q r5,I Q r6,I Q r7,I Q pc] 111)=z at *
 have hOwn:Hid (∀ i,Y.Own k.n i->i<w.heap.size):=Za fun i hi=>HX.out.lt hi
 have k1:=h3.c1
 have k2:=h3.c2
 obtain⟨c0,c1,c2,c3,c4,c5,c6,c7,c8⟩:=Rb.cells q1
 have zf:=Bk.free q1
 have ne1:Y.y≠w.heap.size+1:=by have:=hOwn.out _ (.inl rfl);omega
 have q2:Rb (z.setCell ⟨w.heap.size+1,8,O⟩ (I Q k.lo)) (w.heap.size+1) [r0,r1,r2,r3,r4,r5,r6,r7] k.lo:=Rb.zi q1 rfl k.lo
 have hw1:ag z (z.setCell ⟨w.heap.size+1,8,O⟩ (I Q k.lo)) (fun i=>i=w.heap.size+1):=(ag.refl z (fun i=>i=w.heap.size+1)).put _ _ _ (.inl rfl)
 have h4:=h3.kept hw1 (fun i hi e=>by have:=hOwn.out i hi;omega)
 have q02:=Bk.within q0 hw1 (by omega)
 have b2:=b0.setCell (p:=⟨w.heap.size+1,8,O⟩) (by show w.heap.size<=w.heap.size+1;omega) (I Q k.lo)
 cases un with
 | false=>
  simp only[Bool.false_eq_true,if_false] at HRun
  unfold aH
  simp only[Bool.false_eq_true,if_false]
  go_upto_region 5 with fail
  clear c0 c1 c2 c3 c4 c5 c6 c7 c8 zf k1 k2 h3 q0 b0 q1 hw1
  generalize z.setCell ⟨w.heap.size+1,8,O⟩ (I Q k.lo)=v at *
  obtain⟨c0,c1,c2,c3,c4,c5,c6,c7,c8⟩:=Rb.cells q2
  have hR:=HRun.out v h4
  have st:=br.aT (n:=k.n) (Y:=Y) b2
  have hf0:∀ i,Y.Own k.n i->i≠w.heap.size:=fun i hi e=>by have:=hOwn.out _ hi;omega
  have hlt:w.heap.size<v.heap.size:=by have:=Bk.lt q2;omega
  go_wp2_with fail
  refine hR.mono ?_
  rintro e v5 ⟨mv,Y',rfl,hl5,h5,hs5⟩
  obtain⟨a9,c9,e9,-⟩:=hl5.is
  subst e9
  have q5:=Bk.within q02 hs5.1 (fun e=>hf0 _ e rfl)
  have st5:=st.aJ hs5
  have hfar:∀ i,Y'.Own k.n i->i≠w.heap.size:=fun i hi e=>by
   rcases hs5.2.1 i hi with e2 | e2
   ·exact hf0 i e2 e
   ·omega
  unfold ro
  obtain⟨x0,x1,x2,x3,x4,x5⟩:=q5.pd
  have zf:=Bk.free q5
  have o1:=ep q5 (G a9 BB.2.ms.length c9) (I Q BB.2.done) (I Q BB.2.addr) (I Q (aH BB.2.wrote)) (I Q (aH BB.2.stay)) (I Q BB.2.e)
  have o2:=bK (y:=v5) (g:=w.heap.size) (G a9 BB.2.ms.length c9) (I Q BB.2.done) (I Q BB.2.addr) (I Q (aH BB.2.wrote)) (I Q (aH BB.2.stay)) (I Q BB.2.e)
  have hC:=Za (dj (Y:=Y) (r:=BB) hl5 h5 st5 q5 (by decide) o2 (Zc _) hfar)
  clear q02 hl5 h5 hs5 st5 st o2 hR q2 c0 c1 c2 c3 c4 c5 c6 c7 c8 h4 HRun
  go_wp2_with (refine bodyPost_ret (v:=.agg #[G a9 BB.2.ms.length c9,I Q BB.2.done,I Q BB.2.addr,I Q (aH BB.2.wrote),I Q (aH BB.2.stay),I Q BB.2.e]) (w:=eH v5 w.heap.size (G a9 BB.2.ms.length c9) (I Q BB.2.done) (I Q BB.2.addr) (I Q (aH BB.2.wrote)) (I Q (aH BB.2.stay)) (I Q BB.2.e)) ?hres rfl ?hpost)
  case hpost=>exact hC.out
  case hres=>
   generalize eH v5 w.heap.size (G a9 BB.2.ms.length c9) (I Q BB.2.done) (I Q BB.2.addr) (I Q (aH BB.2.wrote)) (I Q (aH BB.2.stay)) (I Q BB.2.e)=v9 at *
   obtain⟨o0,o1,o2,o3,o4,o5⟩:=o1.pd
   simp[results,Tryz.results23,go_sem,o0,o1,o2,o3,o4,o5]
 | true=>
  simp only[if_true] at HRun
  unfold aH
  simp only[if_true]
  have zf2:=Bk.free q2
  go_upto_region 4 with fail
  clear c0 c1 c2 c3 c4 c5 c6 c7 c8 zf k1 k2 h3 q0 b0 q1 hw1
  generalize z.setCell ⟨w.heap.size+1,8,O⟩ (I Q k.lo)=z2 at *
  have k2:=h4.c2
  obtain⟨c0,c1,c2,c3,c4,c5,c6,c7,c8⟩:=Rb.cells q2
  have q3:Rb (z2.setCell ⟨w.heap.size+1,8,O⟩ (I Q k.un)) (w.heap.size+1) [r0,r1,r2,r3,r4,r5,r6,r7] k.un:=Rb.zi q2 rfl k.un
  have hw1:ag z2 (z2.setCell ⟨w.heap.size+1,8,O⟩ (I Q k.un)) (fun i=>i=w.heap.size+1):=(ag.refl z2 (fun i=>i=w.heap.size+1)).put _ _ _ (.inl rfl)
  have h5:=h4.kept hw1 (fun i hi e=>by have:=hOwn.out i hi;omega)
  replace q02:=Bk.within q02 hw1 (by omega)
  replace b2:=b2.setCell (p:=⟨w.heap.size+1,8,O⟩) (by show w.heap.size<=w.heap.size+1;omega) (I Q k.un)
  go_upto_region 5 with fail
  clear c0 c1 c2 c3 c4 c5 c6 c7 c8 zf2 k2 h4 q2 hw1
  generalize z2.setCell ⟨w.heap.size+1,8,O⟩ (I Q k.un)=v at *
  obtain⟨c0,c1,c2,c3,c4,c5,c6,c7,c8⟩:=Rb.cells q3
  have hR:=HRun.out v h5
  have st:=br.aT (n:=k.n) (Y:=Y) b2
  have hf0:∀ i,Y.Own k.n i->i≠w.heap.size:=fun i hi e=>by have:=hOwn.out _ hi;omega
  have hlt:w.heap.size<v.heap.size:=by have:=Bk.lt q3;omega
  have h4:=h5
  have q2:=q3
  clear h5 q3
  go_wp2_with fail
  refine hR.mono ?_
  rintro e v5 ⟨mv,Y',rfl,hl5,h5,hs5⟩
  obtain⟨a9,c9,e9,-⟩:=hl5.is
  subst e9
  have q5:=Bk.within q02 hs5.1 (fun e=>hf0 _ e rfl)
  have st5:=st.aJ hs5
  have hfar:∀ i,Y'.Own k.n i->i≠w.heap.size:=fun i hi e=>by
   rcases hs5.2.1 i hi with e2 | e2
   ·exact hf0 i e2 e
   ·omega
  unfold ro
  obtain⟨x0,x1,x2,x3,x4,x5⟩:=q5.pd
  have zf:=Bk.free q5
  have o1:=ep q5 (G a9 BB.2.ms.length c9) (I Q BB.2.done) (I Q BB.2.addr) (I Q (aH BB.2.wrote)) (I Q (aH BB.2.stay)) (I Q BB.2.e)
  have o2:=bK (y:=v5) (g:=w.heap.size) (G a9 BB.2.ms.length c9) (I Q BB.2.done) (I Q BB.2.addr) (I Q (aH BB.2.wrote)) (I Q (aH BB.2.stay)) (I Q BB.2.e)
  have hC:=Za (dj (Y:=Y) (r:=BB) hl5 h5 st5 q5 (by decide) o2 (Zc _) hfar)
  clear q02 hl5 h5 hs5 st5 st o2 hR q2 c0 c1 c2 c3 c4 c5 c6 c7 c8 h4 HRun
  go_wp2_with (refine bodyPost_ret (v:=.agg #[G a9 BB.2.ms.length c9,I Q BB.2.done,I Q BB.2.addr,I Q (aH BB.2.wrote),I Q (aH BB.2.stay),I Q BB.2.e]) (w:=eH v5 w.heap.size (G a9 BB.2.ms.length c9) (I Q BB.2.done) (I Q BB.2.addr) (I Q (aH BB.2.wrote)) (I Q (aH BB.2.stay)) (I Q BB.2.e)) ?hres rfl ?hpost)
  case hpost=>exact hC.out
  case hres=>
   generalize eH v5 w.heap.size (G a9 BB.2.ms.length c9) (I Q BB.2.done) (I Q BB.2.addr) (I Q (aH BB.2.wrote)) (I Q (aH BB.2.stay)) (I Q BB.2.e)=v9 at *
   obtain⟨o0,o1,o2,o3,o4,o5⟩:=o1.pd
   simp[results,Tryz.results23,go_sem,o0,o1,o2,o3,o4,o5]
end
end
