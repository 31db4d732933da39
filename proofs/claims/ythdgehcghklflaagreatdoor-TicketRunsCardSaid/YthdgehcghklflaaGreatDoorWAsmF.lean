import Derived.Test.YthdgehcghklflaaGreatDoorWAsmE
import Derived.Test.YthdgehcghklflaaGreatDoorWAsmM
import Derived.Test.YthdgehcghklflaaGreatDoorWRuD
import Derived.Test.YthdgehcghklflaaGreatDoorWEyN
import Derived.Test.YthdgehcghklflaaGreatDoorWRecs
import Derived.Test.YthdgehcghklflaaGreatDoorWMem
import Derived.Test.YthdgehcghklflaaGreatDoorWEyT
import Derived.Test.YthdgehcghklflaaGreatDoorWEyD3
import Derived.Test.YthdgehcghklflaaGreatDoorWEyE2
import Derived.Test.YthdgehcghklflaaGreatDoorWEyE5
import Derived.Test.YthdgehcghklflaaGreatDoorWEyE6
import Derived.Test.YthdgehcghklflaaGreatDoorWEyF
import Derived.Test.YthdgehcghklflaaGreatDoorWExC
import Derived.Test.YthdgehcghklflaaGreatDoorWAsmD
import Derived.Test.YthdgehcghklflaaGreatDoorWPrgM
import Derived.Deep.Onto
import Derived.BigQuiet
import Derived.Deep.CutBlock
import Derived.Deep.QuietTactic
import Derived.Deep.DeepCutAuto
import Derived.ProofKit
import Derived.OpenShut
import Derived.Lib.SmallJoins
import Derived.ArgAppend
set_option linter.unusedVariables false
set_option maxHeartbeats 1000000
set_option maxRecDepth 100000
open Go.Value renaming int->I,slice->U,pointer->J
open Go.IntKind renaming i64->Q
open Option renaming none->O,some->Z
open Bool renaming false->P,true->R
open Go.Obj renaming cells->H
open Go.Lib renaming hid->G
open Nat renaming le_refl->F
open Go renaming undef->E
namespace Go.Proofs.YthdgehcghklflaaGreatDoor
section
open Go.ChangeShapes Go.WideShapes Go.ChangeAt Go.RowKit Go.Shelf
attribute [local go_sem] Oper.semAt_some
theorem CX (s r:List UInt8)(h:Nl s)(n:Int)(ls:List (List UInt8×Int))(rs:List Rw):
 gO (s++10 :: r) n ls rs=if (gW s n ls rs).1=0 then gO r (n+1) (gW s n ls rs).2.1 (gW s n ls rs).2.2 else (fC.zero,n,(gW s n ls rs).1):=by
 rw[eW s r h]
 unfold gW fy
 by_cases h1:p7 s=R
 ·rw[if_pos h1,if_pos h1]
  by_cases h2:(ls.any fun x=>x.1==s.dropLast)=R
  ·rw[if_pos h2,if_pos h2];simp
  ·rw[if_neg h2,if_neg h2];simp
 ·rw[if_neg h1,if_neg h1]
  cases hl:dX s with
  | none=>simp
  | some q=>
   obtain⟨i,nm⟩:=q
   simp only
   by_cases h3:64<=rs.length
   ·simp[h3]
   ·simp[h3]
structure jO (ls:List (List UInt8×Int))(rs:List Rw)(k:Nat):Prop where
 lab:wG ls rs.length
 few:rs.length<=64
 names:∀ r∈rs,r.2.1.length<=16
 many:ls.length<=k
theorem xE {s:List UInt8}(h:cj s=R):s.length<=16:=by
 unfold cj at h
 simp only[Bool.and_eq_true,decide_eq_true_eq] at h
 exact h.2.1
theorem vf {s:List UInt8}{i:aJ}{nm:List UInt8}(h:dX s=Z (i,nm)):nm.length<=16:=by
 unfold dX at h
 repeat' split at h
 all_goals first
  | (cases h;done)
  | (cases h;simp;done)
  | (cases h;exact xE (by rename_i hh;exact hh.2))
theorem jO.add {ls:List (List UInt8×Int)}{rs:List Rw}{k:Nat}(h:jO ls rs k)(s:List UInt8)(n:Int)(h0:(gW s n ls rs).1=0):jO (gW s n ls rs).2.1 (gW s n ls rs).2.2 (k+1):=by
 unfold gW at *
 split at h0
 ·rename_i h1
  rw[if_pos h1]
  split at h0
  ·cases h0
  ·rename_i h2
   rw[if_neg h2]
   refine⟨⟨?_,?_⟩,h.few,h.names,by have:=h.many;simp;omega⟩
   ·rw[List.map_append,List.nodup_append]
    refine⟨h.lab.1,by simp,?_⟩
    intro a ha b hb e
    simp at hb
    subst hb
    subst e
    refine h2 ?_
    unfold fy
    rw[List.any_eq_true]
    obtain⟨x,hx,e⟩:=List.mem_map.1 ha
    exact⟨x,hx,by simpa using e⟩
   ·intro x hx
    rcases List.mem_append.1 hx with hx | hx
    ·exact h.lab.2 x hx
    ·simp at hx
     subst hx
     simp
 ·rename_i h1
  rw[if_neg h1]
  cases hl:dX s with
  | none=>rw[hl] at h0;cases h0
  | some q=>
   obtain⟨i,nm⟩:=q
   rw[hl] at h0
   simp only at h0 ⊢
   split at h0
   ·cases h0
   ·rename_i h3
    rw[if_neg h3]
    refine⟨⟨h.lab.1,fun x hx=>?_⟩,by simp;omega,fun r hr=>?_,by have:=h.many;simp;omega⟩
    ·have:=h.lab.2 x hx
     simp
     omega
    ·rcases List.mem_append.1 hr with hr | hr
     ·exact h.names r hr
     ·simp at hr
      subst hr
      exact vf hl
def Bv (w:World)(text:List UInt8)(e:Ending)(w':World):Prop:=
 ∃ v,e=.returned (.tuple #[v,I Q (ez text).2.1,I Q (ez text).2.2])/\Pg w' w.heap.size v (ez text).1/\Below w.heap.size w w'
theorem cr {B:Nat}{A W:World}{S:Nat->Prop}(h:ab A W S)(hs:∀ b,S b->B<=b)(hB:B<=A.heap.size:=by omega):Below B A W:=⟨h.os,h.tape,h.output,h.size,fun i hi=>h.block i (by omega) (fun e=>by have:=hs i e;omega)⟩
theorem vZ (w W:World)(hW:W=(((((w.alloc (H #[U O 0 0,I Q 0,I Q 0] 25)).alloc (H #[I Q 0] 3)).alloc (H #[I Q 0] 30)).alloc (.map #[] 0)).alloc (H #[U O 0 0,.map (Z (w.heap.size+1+1+1))] 137))):
 Below w.heap.size w W/\W.heap.size=w.heap.size+5/\Bk W w.heap.size 25 #[U O 0 0,I Q 0,I Q 0]/\Bk W (w.heap.size+1) 3 #[I Q 0]/\Bk W (w.heap.size+2) 30 #[I Q 0]/\∀ lo,Dr W (w.heap.size+4) (w.heap.size+3) lo [] []:=by
 have h1:=Bk.made w 25 #[U O 0 0,I Q 0,I Q 0]
 generalize e1:w.alloc (H #[U O 0 0,I Q 0,I Q 0] 25)=w1 at *
 have z1:w1.heap.size=w.heap.size+1:=by rw[<-e1];simp
 have h2:=Bk.made w1 3 #[I Q 0]
 generalize e2:w1.alloc (H #[I Q 0] 3)=w2 at *
 have z2:w2.heap.size=w.heap.size+2:=by rw[<-e2];simp[z1]
 have h3:=Bk.made w2 30 #[I Q 0]
 generalize e3:w2.alloc (H #[I Q 0] 30)=w3 at *
 have z3:w3.heap.size=w.heap.size+3:=by rw[<-e3];simp[z2]
 have h4:=gX.made w3
 generalize e4:w3.alloc (.map #[] 0)=w4 at *
 have z4:w4.heap.size=w.heap.size+4:=by rw[<-e4];simp[z3]
 have h5:=Bk.made w4 137 #[U O 0 0,.map (Z (w.heap.size+1+1+1))]
 rw[<-hW] at h5
 have k1:ab w1 w2 (fun _=>False):=by rw[<-e2];exact(ab.refl _ _).alloc _
 have k2:ab w2 w3 (fun _=>False):=by rw[<-e3];exact(ab.refl _ _).alloc _
 have k3:ab w3 w4 (fun _=>False):=by rw[<-e4];exact(ab.refl _ _).alloc _
 have k4:ab w4 W (fun _=>False):=by rw[hW];exact(ab.refl _ _).alloc _
 have k0:ab w w1 (fun _=>False):=by rw[<-e1];exact(ab.refl _ _).alloc _
 have k14:=((k1.bz k2 (by simp)).bz k3 (by simp)).bz k4 (by simp)
 have k24:=(k2.bz k3 (by simp)).bz k4 (by simp)
 have k34:=k3.bz k4 (by simp)
 rw[z1] at h2
 rw[z2] at h3
 rw[z3] at h4
 rw[z4] at h5
 refine⟨(k0.bz k14 (by simp)).below (by simp),by rw[hW];simp[z4],h1.within k14 (by simp),h2.within k24 (by simp),h3.within k34 (by simp),fun lo=>⟨U O 0 0,h5,h4.within k4 (by simp),World.ownsRow_nil _ _ _ _⟩⟩
def ED (w:World)(text:List UInt8)(k:Nat)(W:World):Prop:=
 ∃ (ls:List (List UInt8×Int)) (rs:List Rw) (t:List UInt8),Below w.heap.size w W/\Bk W w.heap.size 25 #[U O 0 0,I Q 0,I Q 0]/\Bk W (w.heap.size+1) 3 #[I Q 0]/\Bk W (w.heap.size+2) 30 #[I Q 0]/\
  Dr W (w.heap.size+4) (w.heap.size+3) (w.heap.size+13) ls rs/\jO ls rs k/\(bD text).drop k=bD t/\t.length<=text.length/\ez text=gO t ((k:Int)+1) ls rs
def EC (w:World)(text:List UInt8)(c:Code)(W:World):Prop:=
 c=.ret/\∃ ln e:Int,Below w.heap.size w W/\Bk W w.heap.size 25 #[U O 0 0,I Q 0,I Q 0]/\Bk W (w.heap.size+1) 3 #[I Q ln]/\Bk W (w.heap.size+2) 30 #[I Q e]/\ez text=(fC.zero,ln,e)
theorem yC {w:World}{text:List UInt8}:∀ k,wQ (fun b=>b=w.heap.size+6\/b=w.heap.size+6+1\/w.heap.size+8<=b/\b<w.heap.size+13) (ED w text k):=by
 rintro k A B ⟨ls,rs,t,b2,q0,q1,q2,hD,hO,hdr,htl,hgo⟩ hw
 have hA:=b2.size
 exact⟨ls,rs,t,b2.trans (cr hw (by rintro b (rfl|rfl | h) <;> omega)),q0.within hw (by omega),q1.within hw (by omega),q2.within hw (by omega),hD.within hw (by omega) (by omega) (by rintro b (rfl|rfl | h) <;> omega),hO,hdr,htl,hgo⟩
theorem wb {w:World}{text:List UInt8}:∀ c,wQ (fun b=>b=w.heap.size+6\/b=w.heap.size+6+1\/w.heap.size+8<=b/\b<w.heap.size+13) (EC w text c):=by
 rintro c A B ⟨rfl,ln,e,b2,q0,q1,q2,hgo⟩ hw
 have hA:=b2.size
 exact⟨rfl,ln,e,b2.trans (cr hw (by rintro b (rfl|rfl | h) <;> omega)),q0.within hw (by omega),q1.within hw (by omega),q2.within hw (by omega),hgo⟩
def kZ (W:World)(g:Nat)(sl a b ln e:Value):World:=((((W.setCell ⟨g,0,O⟩ sl).setCell ⟨g,1,O⟩ a).setCell ⟨g,2,O⟩ b).setCell ⟨g+1,0,O⟩ ln).setCell ⟨g+2,0,O⟩ e
theorem pw {w W:World}{x0 x1 x2 y z:Value}(b2:Below w.heap.size w W)(q0:Bk W w.heap.size 25 #[x0,x1,x2])(q1:Bk W (w.heap.size+1) 3 #[y])(q2:Bk W (w.heap.size+2) 30 #[z])(sl a b ln e:Value):
 Below w.heap.size w (kZ W w.heap.size sl a b ln e)/\Bk (kZ W w.heap.size sl a b ln e) w.heap.size 25 #[sl,a,b]/\Bk (kZ W w.heap.size sl a b ln e) (w.heap.size+1) 3 #[ln]/\Bk (kZ W w.heap.size sl a b ln e) (w.heap.size+2) 30 #[e]/\
  ab W (kZ W w.heap.size sl a b ln e) (fun b=>b=w.heap.size\/b=w.heap.size+1\/b=w.heap.size+2):=by
 have h0:=dY q0 sl a b
 have k0:ab W (dB W w.heap.size sl a b) (fun b=>b=w.heap.size):=(((ab.refl W (fun b=>b=w.heap.size)).put w.heap.size 0 sl (.inl rfl)).put w.heap.size 1 a (.inl rfl)).put w.heap.size 2 b (.inl rfl)
 have h1:=q1.within k0 (by omega)
 have h2:=q2.within k0 (by omega)
 have b0:=bP b2 (F _) sl a b
 have e9:kZ W w.heap.size sl a b ln e=((dB W w.heap.size sl a b).setCell ⟨w.heap.size+1,0,O⟩ ln).setCell ⟨w.heap.size+2,0,O⟩ e:=rfl
 rw[e9]
 generalize dB W w.heap.size sl a b=V at *
 refine⟨(b0.setCell (by show w.heap.size<=w.heap.size+1;omega) _).setCell (by show w.heap.size<=w.heap.size+2;omega) _,(h0.off (by show w.heap.size≠w.heap.size+1;omega) _).off (by show w.heap.size≠w.heap.size+2;omega) _,
  (h1.put 0 ln).off (by show w.heap.size+1≠w.heap.size+2;omega) _,(h2.off (by show w.heap.size+2≠w.heap.size+1;omega) _).put 0 e,?_⟩
 exact((k0.wide fun i hi _=>.inl hi).put (w.heap.size+1) 0 ln (.inl (.inr (.inl rfl)))).put (w.heap.size+2) 0 e (.inl (.inr (.inr rfl)))
theorem vW (text:List UInt8)(hl:text.length<80000)(w:World)(L:Lb w):Calls Tryz.prog 27 #[bs text] w (Bv w text):=by
 refine(callsIn_wide (n:=0)).1 ?_
 refine callsIn_of_wp_marks Tryz.func27 rfl trivial ?_ rfl
 unfold bs
 simp only[Tryz.ntmps27,List.size_toArray,List.length_cons,List.length_nil,Nat.reduceAdd,Nat.reduceSub,Array.replicate_succ,Array.replicate_zero,List.push_toArray,List.append_toArray,List.nil_append,List.cons_append]
 have hmm:=@run_makeMap Tryz.prog
 have HNB:=G (fun W=>(callsIn_wide (n:=0)).2 (vU text W))
 gi_wp2
 refine⟨trivial,rfl,?_⟩
 obtain⟨b0,s0,r0,r1,r2,d0⟩:=vZ w _ rfl
 generalize ((((((w.alloc (H #[U O 0 0,I Q 0,I Q 0] 25)).alloc (H #[I Q 0] 3)).alloc (H #[I Q 0] 30)).alloc (.map #[] 0)).alloc (H #[U O 0 0,.map (Z (w.heap.size+1+1+1))] 137)))=W0 at *
 refine(HNB.out _).mono ?_
 rintro e W1 ⟨rfl,rfl⟩
 have t1:=Bk.made W0 9 #[bs text]
 have h1:ab W0 (W0.alloc (H #[bs text] 9)) (fun _=>False):=(ab.refl _ _).alloc _
 have s1:(W0.alloc (H #[bs text] 9)).heap.size=w.heap.size+6:=by simp[s0]
 rw[s0] at t1 ⊢
 replace b0:=b0.trans (cr h1 (B:=w.heap.size) (by simp))
 replace r0:=r0.within h1 (by simp)
 replace r1:=r1.within h1 (by simp)
 replace r2:=r2.within h1 (by simp)
 replace d0:=(d0 (w.heap.size+13)).within h1 (by simp) (by simp) (by simp)
 generalize W0.alloc (H #[bs text] 9)=W1 at *
 clear h1 s0 HNB hmm W0
 gi_wp2
 have HI:=G (yC (w:=w) (text:=text))
 have HX:=G (wb (w:=w) (text:=text))
 refine lV (gf:=93) (lb:=#[J (Z ⟨w.heap.size+5,0,O⟩)]) rfl (enters_of Tryz.func93 (by kernel_rfl) rfl)
  (encs:=fun k=>#[I Q ((k:Int)+1),bs (em text k)]) (N:=(bD text).length) (T:=fun x=>w.heap.size+8<=x/\x<w.heap.size+13) (fun _=>rfl) (by omega) (by omega)
  ?seq (ED w text) (EC w text) (by rw[s1];exact HI.out) (by rw[s1];exact HX.out) ⟨[],[],text,b0,r0,r1,r2,d0,⟨⟨by simp,by simp⟩,by simp,by simp,by simp⟩,rfl,F _,oG text⟩
  (fun k=>{ tmps:=#[.string ⟨text.toArray⟩,E,J (Z ⟨w.heap.size,0,O⟩),J (Z ⟨w.heap.size+1,0,O⟩),J (Z ⟨w.heap.size+2,0,O⟩),J (Z ⟨w.heap.size+4,0,O⟩),I Q ((k:Int)+1),.string ⟨(em text k).toArray⟩,E,.map (Z (w.heap.size+3)),.agg #[U O 0 0,.map (Z (w.heap.size+3))],.string ⟨text.toArray⟩,
   .func (.func 93) #[] #[J (Z ⟨w.heap.size+5,0,O⟩)],I Q ((k:Int)+1),.string ⟨(em text k).toArray⟩,E,E,E,E,E,E,E,E,E,E,E,E],defers:=[] }) ?assign ?body ?done ?stop
 case seq=>
  intro W4 hb4 hz4
  have hz:W4.heap.size=w.heap.size+8:=by omega
  have:=qn text (w.heap.size+5) (W1.heap.size+1) W4 ((hb4.block _ (by omega)).trans t1) (by omega)
  rw[hz] at this
  exact this
 case assign=>
  intro l2 k W K hK
  unfold bs
  gi_wp2
  exact hK
 case body=>
  rintro l2 k W hk ⟨ls,rs,t,b2,q0,q1,q2,hD,hO,hdr,htl,hgo⟩ hT
  simp only[s1] at hT ⊢
  have hsz:w.heap.size+13<=W.heap.size:=hT (w.heap.size+12) (.inr (.inr ⟨by omega,by omega⟩))
  have hne:t≠[]:=by
   rintro rfl
   have:=congrArg List.length hdr
   simp[bD] at this
   omega
  have hkl:k<1000000:=Nat.lt_of_lt_of_le hk (Nat.le_trans (ki text) (by omega))
  obtain⟨v0,v1,v2,v3,v4⟩:W.cell? ⟨w.heap.size,0,O⟩=Z (U O 0 0)/\W.cell? ⟨w.heap.size,1,O⟩=Z (I Q 0)/\W.cell? ⟨w.heap.size,2,O⟩=Z (I Q 0)/\W.cell? ⟨w.heap.size+1,0,O⟩=Z (I Q 0)/\W.cell? ⟨w.heap.size+2,0,O⟩=Z (I Q 0):=⟨q0.cell 0,q0.cell 1,q0.cell 2,q1.cell 0,q2.cell 0⟩
  have g0:=q0.free
  have g1:=q1.free 0
  have g2:=q2.free 0
  rcases jE t with hn | ⟨s,r,hn,rfl⟩
  ·have hline:em text k=t:=by
    have:=congrArg List.head? hdr
    rw[eU t hn hne] at this
    simp[List.head?_drop] at this
    simp[em,List.getD_eq_getElem?_getD,this]
   have hres:ez text=(fC.zero,(k:Int)+1,8):=by rw[hgo,iH t hn,if_pos hne]
   have HA:=G (CallsIn.inRound l2 ((callsIn_wide (n:=0)).2 (A8 hD t (fun u e=>hn 10 (by rw[e];simp) rfl) (by omega) ((k:Int)+1))))
   rw[hline]
   obtain⟨p0,p1,p2,p3,p4⟩:=pw b2 q0 q1 q2 (U O 0 0) (I Q 0) (I Q 0) (I Q ((k:Int)+1)) (I Q 8)
   clear hgo hdr hD hO HI HX
   gi_wp2
   refine⟨trivial,rfl,HA.out.mono ?_⟩
   rintro e W5 ⟨rfl,rfl⟩
   gi_wp2
   exact⟨gF.ke p4 (fun b hb=>⟨hT b hb,by omega⟩),rfl,(k:Int)+1,8,p0,p1,p2,p3,hres⟩
  ·have hline:em text k=s++[10]:=by
    have:=congrArg List.head? hdr
    rw[eC s r hn] at this
    simp[List.head?_drop] at this
    simp[em,List.getD_eq_getElem?_getD,this]
   have hdr2:(bD text).drop (k+1)=bD r:=by
    have:=congrArg List.tail hdr
    rw[eC s r hn] at this
    simpa [List.tail_drop] using this
   have hle:s.length+(r.length+1)<=text.length:=by simpa using htl
   rw[CX s r hn] at hgo
   have HA:=G (CallsIn.inRound l2 ((callsIn_wide (n:=0)).2 (Ek hD hsz (L.below b2) s (by omega) ((k:Int)+1) (by have:=hO.many;omega) hO.few)))
   have HK:Hid ((gW s ((k:Int)+1) ls rs).1=0->jO (gW s ((k:Int)+1) ls rs).2.1 (gW s ((k:Int)+1) ls rs).2.2 (k+1)):=G fun e=>hO.add s _ e
   have HG:=G hgo
   rw[hline]
   clear hgo hdr hD hO HI HX
   generalize gW s ((k:Int)+1) ls rs=ad at *
   obtain⟨er,ls2,rs2⟩:=ad
   gi_wp2
   refine⟨trivial,rfl,HA.out.mono ?_⟩
   rintro e W5 ⟨rfl,hD5,hW5⟩
   simp only at hD5 hW5 HK HG ⊢
   clear HA v0 v1 v2 v3 v4 g0 g1 g2
   replace b2:=b2.trans (cr hW5 (B:=w.heap.size) (by rintro b (rfl|rfl | h) <;> omega))
   replace q0:=q0.within hW5 (by rintro(h | h | h) <;> omega)
   replace q1:=q1.within hW5 (by rintro(h | h | h) <;> omega)
   replace q2:=q2.within hW5 (by rintro(h | h | h) <;> omega)
   have hH:gF (fun b=>b=w.heap.size+6\/b=w.heap.size+6+1\/w.heap.size+8<=b/\b<w.heap.size+13) W W5:=gF.ke hW5 (fun b hb=>⟨hT b hb,by rintro(h | h | h) <;> omega⟩)
   by_cases her:er=0
   ·subst her
    gi_wp2
    refine⟨hH,ls2,rs2,r,b2,q0,q1,q2,hD5,HK.out (by trivial),hdr2,by omega,?_⟩
    rw[HG.out]
    simp
   ·have her2:(er != 0)=R:=by simpa using her
    have hres:ez text=(fC.zero,(k:Int)+1,er):=by rw[HG.out,if_neg her]
    obtain⟨v0,v1,v2,v3,v4⟩:W5.cell? ⟨w.heap.size,0,O⟩=Z (U O 0 0)/\W5.cell? ⟨w.heap.size,1,O⟩=Z (I Q 0)/\W5.cell? ⟨w.heap.size,2,O⟩=Z (I Q 0)/\W5.cell? ⟨w.heap.size+1,0,O⟩=Z (I Q 0)/\W5.cell? ⟨w.heap.size+2,0,O⟩=Z (I Q 0):=⟨q0.cell 0,q0.cell 1,q0.cell 2,q1.cell 0,q2.cell 0⟩
    have g0:=q0.free
    have g1:=q1.free 0
    have g2:=q2.free 0
    obtain⟨p0,p1,p2,p3,p4⟩:=pw b2 q0 q1 q2 (U O 0 0) (I Q 0) (I Q 0) (I Q ((k:Int)+1)) (I Q er)
    clear HK HG hD5 her
    gi_wp2
    exact⟨hH.trans (gF.ke p4 (fun b hb=>⟨Nat.lt_of_lt_of_le (hT b hb) hH.1,by omega⟩)),rfl,(k:Int)+1,er,p0,p1,p2,p3,hres⟩
 case done=>
  rintro W ⟨ls,rs,t,b2,q0,q1,q2,hD,hO,hdr,htl,hgo⟩ hd
  have ht:t=[]:=by
   rw[List.drop_of_length_le (F _)] at hdr
   cases t with
   | nil=>rfl
   | cons c u=>
    exfalso
    rcases jE (c :: u) with hn | ⟨s,r,hn,e⟩
    ·rw[eU _ hn (by simp)] at hdr;cases hdr
    ·rw[e,eC s r hn] at hdr;cases hdr
  subst ht
  rw[iH [] (by unfold Nl;simp),if_neg (by simp)] at hgo
  have HC:=G ((callsIn_wide (n:=0)).2 (Ej hD hO.few hO.lab hO.names))
  rw[<-hgo] at HC
  clear hgo hD hO hdr htl
  gi_wp2
  refine⟨trivial,rfl,HC.out.mono ?_⟩
  rintro e W5 ⟨v,rfl,⟨sl,rfl,hP⟩,hB⟩
  have hz:=b2.size
  have hlt:=q2.lt
  have lw:=(Array.getElem?_eq_some_iff.1 hd).1
  replace q0:Bk W5 _ _ _:=(hB.block _ q0.lt).trans q0
  replace q1:Bk W5 _ _ _:=(hB.block _ q1.lt).trans q1
  replace q2:Bk W5 _ _ _:=(hB.block _ q2.lt).trans q2
  replace hd:=(hB.block _ lw).trans hd
  replace b2:=b2.trans (hB.mono hz)
  obtain⟨v0,v1,v2,v3,v4⟩:W5.cell? ⟨w.heap.size,0,O⟩=Z (U O 0 0)/\W5.cell? ⟨w.heap.size,1,O⟩=Z (I Q 0)/\W5.cell? ⟨w.heap.size,2,O⟩=Z (I Q 0)/\W5.cell? ⟨w.heap.size+1,0,O⟩=Z (I Q 0)/\W5.cell? ⟨w.heap.size+1+1,0,O⟩=Z (I Q 0):=⟨q0.cell 0,q0.cell 1,q0.cell 2,q1.cell 0,q2.cell 0⟩
  have g0:=q0.free
  have g1:=q1.free 0
  have g2:W5.frozen? ⟨w.heap.size+1+1,0,O⟩=P:=q2.free 0
  obtain⟨sa,scap,rfl,_,_,_⟩:=bp hP
  rw[s1] at hd
  have HR:Hid (Bv w text=fun e w'=>∃ v,e=.returned (.tuple #[v,I Q (ez text).2.1,I Q (ez text).2.2])/\Pg w' w.heap.size v (ez text).1/\Below w.heap.size w w'):=G rfl
  generalize ez text=res at *
  obtain⟨⟨l,plo,pun⟩,ln,er⟩:=res
  simp only at hP q0 q1 q2 v0 v1 v2 v3 v4 g0 g1 g2 hd b2 ⊢
  obtain⟨p0,p1,p2,p3,p4⟩:=pw b2 q0 q1 q2 (U sa l.length scap) (I Q plo) (I Q pun) (I Q ln) (I Q er)
  have hP2:=aq hP p4 (fun b e e2=>by
   obtain⟨cs,hcs⟩:=aZ hP e
   rcases e2 with rfl|rfl|rfl
   ·exact Bk.aj hcs q0 (by decide) rfl
   ·exact Bk.aj hcs q1 (by decide) rfl
   ·exact Bk.aj hcs q2 (by decide) rfl)
  have hd2:=(p4.block _ (Array.getElem?_eq_some_iff.1 hd).1 (by omega)).trans hd
  replace hP2:=World.ownsRow.mono (base':=w.heap.size) hP2 hz
  gi_wp2
  generalize hv:((((W5.setCell ⟨w.heap.size,0,O⟩ (U sa l.length scap)).setCell ⟨w.heap.size,1,O⟩ (I Q plo)).setCell ⟨w.heap.size,2,O⟩ (I Q pun)).setCell ⟨w.heap.size+1,0,O⟩ (I Q ln)).setCell ⟨w.heap.size+1+1,0,O⟩ (I Q er)=V
  replace hv:kZ W5 w.heap.size (U sa l.length scap) (I Q plo) (I Q pun) (I Q ln) (I Q er)=V:=hv
  rw[hv] at p0 p1 p2 p3 p4 hP2 hd2
  refine⟨by simp,.inl ⟨_,_,rfl,run_takeDeferred hd2,?_⟩⟩
  have hpo:=cG V (w.heap.size+6) (.deferred O) (fun b=>b=w.heap.size+6) rfl
  replace p1:=p1.within hpo (by omega)
  replace p2:=p2.within hpo (by omega)
  replace p3:=p3.within hpo (by omega)
  replace hP2:=aq hP2 hpo (fun b e e2=>by
   obtain⟨cs,hcs⟩:=aZ hP2 e
   rw[e2] at hcs
   unfold Bk at hcs
   rw[hd2] at hcs
   cases hcs)
  replace p0:=p0.trans (cr hpo (B:=w.heap.size) (by rintro b rfl;omega) p0.size)
  generalize V.putObj (w.heap.size+6) (.deferred O)=V2 at *
  obtain⟨y0,y1,y2,y3,y4⟩:V2.cell? ⟨w.heap.size,0,O⟩=Z (U sa l.length scap)/\V2.cell? ⟨w.heap.size,1,O⟩=Z (I Q plo)/\V2.cell? ⟨w.heap.size,2,O⟩=Z (I Q pun)/\V2.cell? ⟨w.heap.size+1,0,O⟩=Z (I Q ln)/\V2.cell? ⟨w.heap.size+1+1,0,O⟩=Z (I Q er):=⟨p1.cell 0,p1.cell 1,p1.cell 2,p2.cell 0,p3.cell 0⟩
  refine⟨.tuple #[.agg #[U sa l.length scap,I Q plo,I Q pun],I Q ln,I Q er],by simp[results,Tryz.results27,go_sem,y0,y1,y2,y3,y4],?_⟩
  rw[HR.out]
  exact⟨_,rfl,⟨_,rfl,hP2⟩,p0⟩
 case stop=>
  rintro c W ⟨rfl,ln,er,b2,q0,q1,q2,hgo⟩ hd
  gi_wp2
  refine⟨by simp,.inl ⟨_,_,rfl,run_takeDeferred hd,?_⟩⟩
  have hpo:=cG W W1.heap.size (.deferred O) (fun b=>b=W1.heap.size) rfl
  replace q0:=q0.within hpo (by omega)
  replace q1:=q1.within hpo (by omega)
  replace q2:=q2.within hpo (by omega)
  have p0:=b2.trans (cr hpo (B:=w.heap.size) (by rintro b rfl;omega) b2.size)
  generalize W.putObj W1.heap.size (.deferred O)=V2 at *
  obtain⟨y0,y1,y2,y3,y4⟩:V2.cell? ⟨w.heap.size,0,O⟩=Z (U O 0 0)/\V2.cell? ⟨w.heap.size,1,O⟩=Z (I Q 0)/\V2.cell? ⟨w.heap.size,2,O⟩=Z (I Q 0)/\V2.cell? ⟨w.heap.size+1,0,O⟩=Z (I Q ln)/\V2.cell? ⟨w.heap.size+1+1,0,O⟩=Z (I Q er):=⟨q0.cell 0,q0.cell 1,q0.cell 2,q1.cell 0,q2.cell 0⟩
  refine⟨.tuple #[.agg #[U O 0 0,I Q 0,I Q 0],I Q ln,I Q er],by simp[results,Tryz.results27,go_sem,y0,y1,y2,y3,y4],?_⟩
  unfold Bv
  rw[hgo]
  exact⟨_,rfl,⟨_,rfl,World.ownsRow_nil _ _ _ _⟩,p0⟩
end
section
open Go.ChangeShapes Go.WideShapes Go.ChangeAt Go.RowKit
structure Du where
 kd:Int
 t:Int
 L:Int
def Du.op (x:Du):EH:=⟨x.kd,x.t,decide (x.L≠0)⟩
def rA (base:Nat)(w:World)(a:Option Addr)(l:List Du):Prop:=
 0<l.length->∃ b off,a=Z ⟨b,off,O⟩/\b<base/\∀ i x,l[i]?=Z x->w.cell? ⟨b,off+i*3,O⟩=Z (I Q x.kd)/\w.cell? ⟨b,off+i*3+1,O⟩=Z (I Q x.t)/\w.cell? ⟨b,off+i*3+2,O⟩=Z (I Q x.L)
theorem rA.within {base:Nat}{w w':World}{a:Option Addr}{l:List Du}{S:Nat->Prop}(h:rA base w a l)(hw:ab w w' S)(hb:base<=w.heap.size)(hs:∀ i,S i->base<=i):rA base w' a l:=by
 intro h0
 obtain⟨b,off,e,h1,h2⟩:=h h0
 have hk:∀ j,w'.cell? ⟨b,j,O⟩=w.cell? ⟨b,j,O⟩:=fun j=>by
  have:=hw.block b (Nat.lt_of_lt_of_le h1 hb) (fun e=>by have:=hs b e;omega)
  unfold World.cell?
  simp only[this]
 refine⟨b,off,e,h1,fun i x hx=>?_⟩
 obtain⟨c0,c1,c2⟩:=h2 i x hx
 exact⟨(hk _).trans c0,(hk _).trans c1,(hk _).trans c2⟩
def iK (i:aJ):Bool:=decide (i.op≠16) && (decide (i.op≠18) && (decide (i.op≠19) && (decide (i.op≠22) && (decide (i.op≠23) && (decide (i.op≠21) || decide (i.pl<0))))))
theorem rN {k:Lk}(hq:k.l.all iK=R):zi k:=by
 intro w Y m t L h ht
 cases hm:gV k (m.cs t).pc with
 | none=>
  rw[nR hm]
  exact Dz h t ht _ hm
 | some i=>
  have hop:=(h.lk.Dq hm).op
  have hi:iK i=R:=List.all_eq_true.1 hq i (List.mem_of_getElem? (fg hm).2.2.1)
  simp only[iK,Bool.and_eq_true,Bool.or_eq_true,decide_eq_true_eq] at hi
  obtain⟨h16,h18,h19,h22,h23,h21p⟩:=hi
  cases hf:fz k.zs i.a (aG (m.cs t).xs i.s.toNat) with
  | none=>exact zL h t ht _ L hm ⟨h22,h23⟩ hf
  | some A=>
   by_cases h17:i.op=17
   ·exact zM h t ht _ L hm h17 hf
   by_cases h20:i.op=20
   ·exact BW h t ht _ L hm h20 hf
   have h21:i.op=21:=by omega
   have hl:i.pl<0:=by
    rcases h21p with e | e
    ·exact absurd h21 e
    ·exact e
   cases hh:(decide (aG m.ws A=aG (m.cs t).xs i.t.toNat) != decide (i.k=1)) with
   | true=>exact p9 h t ht _ L hm h21 hf hh
   | false=>
    exact oT h t ht L hm h21 hf hh (.inr hl)
structure zD (w:World)(k:Lk)(X:XP)(Y:YP)(m1 m2:Mc)(W:World):Prop where
 ex:Ex W X k m1
 ey:Ey W Y k m2
 bel:Below w.heap.size w W
 ap:∀ i,X.Own k.n i->¬ Y.Own k.n i
 gx:∀ i,X.Own k.n i->w.heap.size<=i
 gy:∀ i,Y.Own k.n i->w.heap.size<=i
section
variable {w W W':World}{k:Lk}{X X':XP}{Y Y':YP}{m1 m2 m':Mc}
theorem zD.below (h:zD w k X Y m1 m2 W)(hb:Below W.heap.size W W'):zD w k X Y m1 m2 W':=⟨h.ex.below hb,h.ey.below hb,h.bel.trans (hb.mono h.bel.size),h.ap,h.gx,h.gy⟩
theorem zD.x (h:zD w k X Y m1 m2 W)(e:Ex W' X' k m')(s:bh W k.n X W' X'):zD w k X' Y m' m2 W':=by
 obtain⟨b1,b2⟩:=qd h.bel h.gx s
 refine⟨e,h.ey.kept s.1 (fun i hi hx=>h.ap i (XP.iN hx) hi),b1,fun i hi hy=>?_,b2,h.gy⟩
 rcases s.2.1 i hi with q | q
 ·exact h.ap i q hy
 ·have:=h.ey.lt hy;omega
theorem zD.y (h:zD w k X Y m1 m2 W)(e:Ey W' Y' k m')(s:bA W k.n Y W' Y'):zD w k X Y' m1 m' W':=by
 refine⟨h.ex.kept s.1 (fun i hi hy=>h.ap i hi hy),e,⟨s.1.os.trans h.bel.os,s.1.tape.trans h.bel.tape,s.1.output.trans h.bel.output,Nat.le_trans h.bel.size s.1.size,fun i hi=>(s.1.block i (Nat.lt_of_lt_of_le hi h.bel.size) (fun e=>by have:=h.gy i e;omega)).trans (h.bel.block i hi)⟩,fun i hi hy=>?_,h.gx,fun i hi=>?_⟩
 ·rcases s.2.1 i hy with q | q
  ·exact h.ap i hi q
  ·have:=h.ex.lt hi;omega
 ·rcases s.2.1 i hi with q | q
  ·exact h.gy i q
  ·exact Nat.le_trans h.bel.size q
end
def pY (x:List UInt8×Int):List Value:=[bs x.1,I Q x.2]
theorem xJ (x:List UInt8×Int):(pY x).length=2:=rfl
def lr (ls:List (List UInt8×Int)):List Value:=ls.flatMap pY
theorem sD (ls:List (List UInt8×Int))(x:List UInt8×Int):lr (ls++[x])=lr ls++pY x:=by simp[lr]
theorem qR {ls:List (List UInt8×Int)}{k:Nat}{x:List UInt8×Int}(h:ls[k]?=Z x){j:Nat}(hj:j<2):(lr ls)[k*2+j]?=(pY x)[j]?:=lQ pY 2 xJ ls k j x h hj
theorem xI (x:List UInt8×Int):∀ u∈pY x,u.oneCell'=R:=by
 intro u hu
 simp only[pY,List.mem_cons,List.not_mem_nil,or_false] at hu
 rcases hu with rfl|rfl <;> rfl
theorem AB:(Tryz.prog.info? 147).map (fun i=>(i.zero,i.size,i.bytes))=Z (Z (.agg #[bs [],I Q 0]),2,24):=by kernel_rfl
theorem zT:(Tryz.prog.info? 9).map (fun i=>(i.zero,i.size,i.bytes))=Z (Z (bs []),1,16):=by kernel_rfl
theorem AV:(Tryz.prog.info? 3).map (fun i=>(i.zero,i.size,i.bytes))=Z (Z (I Q 0),1,8):=by kernel_rfl
structure nF (w W:World)(is:List aJ)(ls:List (List UInt8×Int))(ns:List (List UInt8))(ks:List Int)(vi vl vn vk:Value):Prop where
 b:Below w.heap.size w W
 r:Bk W w.heap.size 35 #[U O 0 0,I Q 0,I Q 0]
 o:Bk W (w.heap.size+1) 35 #[vi,I Q 0,I Q 0]
 i:W.ownsRow w.heap.size 125 8 vi is.length (bH is)
 l:W.ownsRow w.heap.size 147 2 vl ls.length (lr ls)
 n:W.ownsRow w.heap.size 9 1 vn ns.length (ns.map bs)
 k:W.ownsRow w.heap.size 3 1 vk ks.length (ks.map (Value.int .i64))
section
variable {w W X w':World}{is:List aJ}{ls:List (List UInt8×Int)}{ns:List (List UInt8)}{ks:List Int}{vi vl vn vk v':Value}
theorem bF {base n size n2 size2 base2:Nat}{t t2:TypeId}{v v2:Value}{xs ys:List Value}(h:W.ownsRow base t size v n xs)(h2:W.ownsRow base2 t2 size2 v2 n2 ys)(ht:t≠t2):∀ g,v.ownBlock=Z g->¬ Z g=v2.ownBlock:=fun g e e2=>by
 obtain⟨cs,hc⟩:=aZ h e
 obtain⟨Fo,hc2⟩:=aZ h2 e2.symm
 exact Bk.aj hc hc2 ht rfl
theorem cc {base n size g:Nat}{t t2:TypeId}{v:Value}{xs:List Value}{cs:Array Value}(h:W.ownsRow base t size v n xs)(h2:Bk W g t2 cs)(ht:t≠t2):¬ Z g=v.ownBlock:=fun e=>by
 obtain⟨Fo,hc2⟩:=aZ h e.symm
 exact Bk.aj hc2 h2 ht rfl
theorem nF.below (h:nF w W is ls ns ks vi vl vn vk)(hb:Below W.heap.size W X):nF w X is ls ns ks vi vl vn vk:=
 ⟨h.b.trans (hb.mono h.b.size),(hb.block _ h.r.lt).trans h.r,(hb.block _ h.o.lt).trans h.o,aq h.i (av hb) (by simp),aq h.l (av hb) (by simp),aq h.n (av hb) (by simp),aq h.k (av hb) (by simp)⟩
theorem gM {v:Value}(hX:Below W.heap.size W X)(hg:X.grownBy w' v.ownBlock):ab W w' (fun b=>Z b=v.ownBlock):=
 ((av hX).wide (by simp)).bz (.ay (S:=fun b=>Z b=v.ownBlock) hg (by rintro i e;exact .inl e.symm)) (by rintro i e;exact .inl e)
theorem gK {v:Value}{base n size:Nat}{t:TypeId}{xs:List Value}(hb:Below base w W)(hs:base<=W.heap.size)(h:W.ownsRow base t size v n xs)(hW:ab W w' (fun b=>Z b=v.ownBlock)):Below base w w':=
 hb.trans (cr hW (B:=base) (fun b e=>(World.ownsRow.lt h b e.symm).1) hs)
theorem nF.lab (h:nF w W is ls ns ks vi vl vn vk)(hX:Below W.heap.size W X)(hg:X.grownBy w' vl.ownBlock){x:List UInt8×Int}(ho:w'.ownsRow w.heap.size 147 2 v' (ls.length+1) (lr ls++pY x)):nF w w' is (ls++[x]) ns ks vi v' vn vk:=by
 have hW:=gM hX hg
 exact⟨gK h.b h.b.size h.l hW,h.r.within hW (cc h.l h.r (by decide)),h.o.within hW (cc h.l h.o (by decide)),aq h.i hW (bF h.i h.l (by decide)),by rw[sD,List.length_append];exact ho,aq h.n hW (bF h.n h.l (by decide)),aq h.k hW (bF h.k h.l (by decide))⟩
theorem nF.FE (h:nF w W is ls ns ks vi vl vn vk)(hX:Below W.heap.size W X)(hg:X.grownBy w' vn.ownBlock){x:List UInt8}(ho:w'.ownsRow w.heap.size 9 1 v' (ns.length+1) (ns.map bs++[bs x])):nF w w' is ls (ns++[x]) ks vi vl v' vk:=by
 have hW:=gM hX hg
 exact⟨gK h.b h.b.size h.n hW,h.r.within hW (cc h.n h.r (by decide)),h.o.within hW (cc h.n h.o (by decide)),aq h.i hW (bF h.i h.n (by decide)),aq h.l hW (bF h.l h.n (by decide)),by rw[List.map_append,List.length_append];exact ho,aq h.k hW (bF h.k h.n (by decide))⟩
theorem nF.FG (h:nF w W is ls ns ks vi vl vn vk)(hX:Below W.heap.size W X)(hg:X.grownBy w' vk.ownBlock){x:Int}(ho:w'.ownsRow w.heap.size 3 1 v' (ks.length+1) (ks.map (Value.int .i64)++[I Q x])):nF w w' is ls ns (ks++[x]) vi vl vn v':=by
 have hW:=gM hX hg
 exact⟨gK h.b h.b.size h.k hW,h.r.within hW (cc h.k h.r (by decide)),h.o.within hW (cc h.k h.o (by decide)),aq h.i hW (bF h.i h.k (by decide)),aq h.l hW (bF h.l h.k (by decide)),aq h.n hW (bF h.n h.k (by decide)),by rw[List.map_append,List.length_append];exact ho⟩
theorem nF.mid (h:nF w W is ls ns ks vi vl vn vk)(hX:Below W.heap.size W X)(hg:X.grownBy w' vi.ownBlock):Bk w' (w.heap.size+1) 35 #[vi,I Q 0,I Q 0]:=
 h.o.within (gM hX hg) (cc h.i h.o (by decide))
theorem nF.ins (h:nF w W is ls ns ks vi vl vn vk)(hX:Below W.heap.size W X)(hg:X.grownBy w' vi.ownBlock){x:aJ}(ho:w'.ownsRow w.heap.size 125 8 v' (is.length+1) (bH is++ja x)):nF w (w'.setCell ⟨w.heap.size+1,0,O⟩ v') (is++[x]) ls ns ks v' vl vn vk:=by
 have hW:=gM hX hg
 have hB:=gK h.b h.b.size h.i hW
 have h2:ab w' (w'.setCell ⟨w.heap.size+1,0,O⟩ v') (fun b=>b=w.heap.size+1):=(ab.refl w' _).put _ _ _ (.inl rfl)
 have hr:=h.r.within hW (cc h.i h.r (by decide))
 have hO:=h.o.within hW (cc h.i h.o (by decide))
 have hl:=aq h.l hW (bF h.l h.i (by decide))
 have hn:=aq h.n hW (bF h.n h.i (by decide))
 have hk:=aq h.k hW (bF h.k h.i (by decide))
 refine⟨hB.setCell (by show w.heap.size<=w.heap.size+1;omega) _,hr.within h2 (by omega),hO.put 0 v',?_,aq hl h2 ?_,aq hn h2 ?_,aq hk h2 ?_⟩
 ·rw[mf,List.length_append]
  refine aq ho h2 ?_
  rintro g e rfl
  exact cc ho hO (by decide) e.symm
 ·rintro g e rfl
  exact cc hl hO (by decide) e.symm
 ·rintro g e rfl
  exact cc hn hO (by decide) e.symm
 ·rintro g e rfl
  exact cc hk hO (by decide) e.symm
theorem nF.wC (h:nF w W is ls ns ks vi vl vn vk):∃ a cap,vl=U a ls.length cap/\ls.length<=cap/\cap<=maxLen/\zH W a ls:=by
 obtain⟨a,cap,rfl,h1,h2,hg⟩:=bp h.l
 refine⟨a,cap,rfl,h1,h2,fun j x hx=>?_⟩
 have hj:=(List.getElem?_eq_some_iff.1 hx).1
 obtain⟨g,rfl,_,_,hlt,_,hc⟩:=hg (by omega)
 refine⟨g,rfl,hlt,?_,?_⟩
 ·have:=hc (j*2) (by omega)
  rw[this]
  have:=qR hx (j:=0) (by omega)
  rw[Nat.add_zero] at this
  rw[this]
  rfl
 ·have:=hc (j*2+1) (by omega)
  rw[this,qR hx (j:=1) (by omega)]
  rfl
end
theorem tB {W:World}{base n m cap:Nat}{t:TypeId}{a:Option Addr}{xs:List Value}(h:W.ownsRow base t 1 (U a m cap) n xs){j:Nat}{u:Value}(hj:xs[j]?=Z u):∃ g,a=Z ⟨g,0,O⟩/\g<W.heap.size/\W.cell? ⟨g,j,O⟩=Z u:=by
 have hl:=h.1
 have hlt:=(List.getElem?_eq_some_iff.1 hj).1
 obtain⟨a2,cap2,e,_,_,hg⟩:=bp h
 simp only[Value.slice.injEq] at e
 obtain⟨rfl,-,-⟩:=e
 obtain⟨g,rfl,_,_,hgl,_,hc⟩:=hg (by omega)
 exact⟨g,rfl,hgl,by rw[hc j (by omega),hj]⟩
theorem nU:∀ (l:List aJ) (j:Nat) (i:aJ) (p:Int),l[j]?=Z i->bH (l.set j { i with pl:=p })=(bH l).set (j*8+7) (I Q p)
 | [],j,i,p,h=>by simp at h
 | x :: l,0,i,p,h=>by
  simp at h
  subst h
  rfl
 | x :: l,j+1,i,p,h=>by
  have ih:=nU l j i p (by simpa using h)
  have e:(j+1)*8+7=8+(j*8+7):=by omega
  show ja x++bH (l.set j { i with pl:=p })=(ja x++bH l).set ((j+1)*8+7) _
  rw[ih,e,List.set_append_right _ _ (by rw[jD];omega),jD]
  congr 2
  omega
theorem nF.place {w W:World}{is:List aJ}{ls:List (List UInt8×Int)}{ns:List (List UInt8)}{ks:List Int}{vl vn vk:Value}{a:Option Addr}{n cap:Nat}(h:nF w W is ls ns ks (U a n cap) vl vn vk){j:Nat}{i:aJ}(hj:is[j]?=Z i):∃ g,a=Z ⟨g,0,O⟩/\g<W.heap.size/\w.heap.size<=g/\W.cell? ⟨g,j*8+7,O⟩=Z (I Q i.pl)/\(∀ o,W.frozen? ⟨g,o,O⟩=P):=by
 have hlt:=(List.getElem?_eq_some_iff.1 hj).1
 obtain⟨a2,cap2,e,_,_,hg⟩:=bp h.i
 simp only[Value.slice.injEq] at e
 obtain⟨rfl,-,-⟩:=e
 obtain⟨g,rfl,_,hge,hgl,hf,hc⟩:=hg (by omega)
 refine⟨g,rfl,hgl,hge,?_,hf⟩
 rw[hc _ (by omega),mV hj (by omega)]
 rfl
theorem nF.Fw {w W:World}{is:List aJ}{ls:List (List UInt8×Int)}{ns:List (List UInt8)}{ks:List Int}{vl vn vk:Value}{g n cap:Nat}(h:nF w W is ls ns ks (U (Z ⟨g,0,O⟩) n cap) vl vn vk){j:Nat}{i:aJ}(hj:is[j]?=Z i)(p:Int):
 nF w (W.setCell ⟨g,j*8+7,O⟩ (I Q p)) (is.set j { i with pl:=p }) ls ns ks (U (Z ⟨g,0,O⟩) n cap) vl vn vk:=by
 have hn:n=is.length:=by
  obtain⟨a2,cap2,e,_,_,_⟩:=bp h.i
  simp only[Value.slice.injEq] at e
  exact e.2.1
 subst hn
 have h2:ab W (W.setCell ⟨g,j*8+7,O⟩ (I Q p)) (fun b=>Z b=(Value.slice (Z ⟨g,0,O⟩) is.length cap).ownBlock):=(ab.refl W _).put _ _ _ (.inl rfl)
 refine⟨gK h.b h.b.size h.i h2,h.r.within h2 (cc h.i h.r (by decide)),h.o.within h2 (cc h.i h.o (by decide)),?_,aq h.l h2 (bF h.l h.i (by decide)),aq h.n h2 (bF h.n h.i (by decide)),aq h.k h2 (bF h.k h.i (by decide))⟩
 rw[nU is j i p hj,List.length_set]
 exact(World.ownsRow.stored h.i (j*8+7) (I Q p)).1
-- bytes of a text,up to an end of line
structure qv (text:List UInt8)(fr k ln:Nat)(ls:List (List UInt8×Int))(rs:List (aJ×List UInt8×Int)):Prop where
 fk:fr<=k
 lk:ln<=k
 few:rs.length<=64
 many:ls.length<=k
 no:Nl ((text.take k).drop fr)
 go:ez text=gO (text.drop fr) ((ln:Int)+1) ls rs
section
variable {text:List UInt8}{fr k ln:Nat}{ls:List (List UInt8×Int)}{rs:List (aJ×List UInt8×Int)}
theorem yl (h:fr<=k)(hk:k<text.length):(text.take (k+1)).drop fr=(text.take k).drop fr++[text[k]]:=by
 have e:text.take (k+1)=text.take k++[text[k]]:=by simp
 rw[e,List.drop_append,List.length_take,Nat.min_eq_left (by omega),show fr-k=0 by omega]
 rfl
theorem vQ (h:fr<=k)(hk:k<text.length):text.drop fr=(text.take k).drop fr++text[k] :: text.drop (k+1):=by
 have e:text=text.take k++text[k] :: text.drop (k+1):=by
  rw[List.getElem_cons_drop hk,List.take_append_drop]
 have e2:text.drop fr=(text.take k++text[k] :: text.drop (k+1)).drop fr:=congrArg (List.drop fr) e
 rw[e2,List.drop_append,List.length_take,Nat.min_eq_left (by omega),show fr-k=0 by omega]
 rfl
theorem qv.on (h:qv text fr k ln ls rs)(hk:k<text.length)(hc:text[k]≠10):qv text fr (k+1) ln ls rs:=by
 refine⟨by have:=h.fk;omega,by have:=h.lk;omega,h.few,by have:=h.many;omega,?_,h.go⟩
 rw[yl h.fk hk]
 exact Nl.app h.no (fun c hc'=>by simp at hc';subst hc';exact hc)
theorem qv.line (h:qv text fr k ln ls rs)(hk:k<text.length)(hc:text[k]=10):ez text=gO ((text.take k).drop fr++10 :: text.drop (k+1)) ((ln:Int)+1) ls rs:=by
 rw[h.go,vQ h.fk hk,hc]
theorem qv.next (h:qv text fr k ln ls rs)(hk:k<text.length){ls2:List (List UInt8×Int)}{rs2:List (aJ×List UInt8×Int)}(hf:rs2.length<=64)(hm:ls2.length<=ls.length+1)(hg:ez text=gO (text.drop (k+1)) ((ln:Int)+1+1) ls2 rs2):qv text (k+1) (k+1) (ln+1) ls2 rs2:=by
 refine⟨F _,by have:=h.lk;omega,hf,by have:=h.many;omega,?_,by rw[hg];push_cast;rfl⟩
 intro c hc
 rw[List.drop_of_length_le (by simp;omega)] at hc
 cases hc
theorem qv.DN (h:qv text fr k ln ls rs)(hk:k<text.length)(hc:text[k]=10)(hl:p7 ((text.take k).drop fr)=R)(ha:(ls.any fun x=>x.1==((text.take k).drop fr).dropLast)=R):ez text=(fC.zero,(ln:Int)+1,2):=by
 rw[h.line hk hc,eW _ _ h.no,if_pos hl,if_pos ha]
theorem qv.label (h:qv text fr k ln ls rs)(hk:k<text.length)(hc:text[k]=10)(hl:p7 ((text.take k).drop fr)=R)(ha:(ls.any fun x=>x.1==((text.take k).drop fr).dropLast)=P):qv text (k+1) (k+1) (ln+1) (ls++[(((text.take k).drop fr).dropLast,(rs.length:Int))]) rs:=
 h.next hk h.few (by simp) (by rw[h.line hk hc,eW _ _ h.no,if_pos hl,if_neg (by rw[ha];simp)])
theorem qv.none_ (h:qv text fr k ln ls rs)(hk:k<text.length)(hc:text[k]=10)(hl:p7 ((text.take k).drop fr)=P)(hn:dX ((text.take k).drop fr)=O):ez text=(fC.zero,(ln:Int)+1,8):=by
 rw[h.line hk hc,eW _ _ h.no,if_neg (by rw[hl];simp),hn]
theorem qv.Dt (h:qv text fr k ln ls rs)(hk:k<text.length)(hc:text[k]=10)(hl:p7 ((text.take k).drop fr)=P){i:aJ}{nm:List UInt8}(hn:dX ((text.take k).drop fr)=Z (i,nm))(hb:64<=rs.length):ez text=(fC.zero,(ln:Int)+1,9):=by
 rw[h.line hk hc,eW _ _ h.no,if_neg (by rw[hl];simp),hn]
 simp only
 rw[if_pos hb]
theorem qv.row (h:qv text fr k ln ls rs)(hk:k<text.length)(hc:text[k]=10)(hl:p7 ((text.take k).drop fr)=P){i:aJ}{nm:List UInt8}(hn:dX ((text.take k).drop fr)=Z (i,nm))(hb:rs.length<64):qv text (k+1) (k+1) (ln+1) ls (rs++[(i,nm,(ln:Int)+1)]):=
 h.next hk (by simp;omega) (by omega) (by
  rw[h.line hk hc,eW _ _ h.no,if_neg (by rw[hl];simp),hn]
  simp only
  rw[if_neg (by omega)])
theorem qv.short (h:qv text fr text.length ln ls rs)(hf:fr<text.length):ez text=(fC.zero,(ln:Int)+1,8):=by
 have hn:=h.no
 rw[List.take_length] at hn
 rw[h.go,iH _ hn,if_pos (by intro e;have:=congrArg List.length e;simp at this;omega)]
theorem qv.end_ (h:qv text fr text.length ln ls rs)(hf:¬ fr<text.length):ez text=dO ls rs:=by
 have hn:=h.no
 rw[List.take_length] at hn
 rw[h.go,iH _ hn,if_neg (by rw[List.drop_of_length_le (by omega)];simp)]
end
def zJ (w:World)(text:List UInt8)(e:Ending)(w':World):Prop:=
 ∃ v,e=.returned (.tuple #[v,I Q (ez text).2.1,I Q (ez text).2.2])/\(∃ sl,v=.agg #[sl,I Q (ez text).1.lo,I Q (ez text).1.un]/\w'.ownsRow w.heap.size 125 8 sl (ez text).1.l.length (bH (ez text).1.l))/\Below w.heap.size w w'
theorem g8 {w w':World}{text:List UInt8}{n e:Int}(h:ez text=(fC.zero,n,e))(hb:Below w.heap.size w w'):zJ w text (.returned (.tuple #[.agg #[U O 0 0,I Q 0,I Q 0],I Q n,I Q e])) w':=by
 unfold zJ
 rw[h]
 exact⟨_,rfl,⟨_,rfl,World.ownsRow_nil _ _ _ _⟩,hb⟩
def BM (r:Rn):Nat->Bool
 | 0=>P
 | j+1=>BM r j || (r.act j != 0)
def Bs (k:Lk)(r:Rn)(j:Nat):Rn:=(List.range j).foldl (Ce k) r
def Ev (k:Lk):Nat->Rn->Bool×Rn
 | 0,r=>(P,r)
 | f+1,r=>if BM (Bs k r k.n) k.n=P then (R,Bs k r k.n) else Ev k f (Bs k r k.n)
attribute [local irreducible] Ev Bs
end
section
open Go.ChangeShapes Go.WideShapes Go.ChangeAt Go.RowKit
theorem Ex.pz {w:World}{k:Lk}{X:XP}{m:Mc}{g:Nat}{t:TypeId}{cs:Array Value}(h:Ex w X k m)(hb:Bk w g t cs)
 (t1:t≠105) (t2:t≠119) (t3:t≠108) (t4:t≠169) (t5:t≠223) (t6:t≠227) (t7:t≠3) (t8:t≠174) (t9:t≠175) (ta:t≠255) (tb:t≠22):¬ X.Own k.n g:=by
 obtain⟨fr,os,c,hp,hs⟩:=h.d9
 rintro(e | e | e | e | e | e | e | e | e | e)
 ·exact Bk.aj h.ptr hb (fun e=>t1 e.symm) e.symm
 ·obtain⟨cs',hcs⟩:=aZ h.code e
  exact Bk.aj hcs hb (fun e=>t2 e.symm) rfl
 ·exact Bk.aj h.cores hb (fun e=>t3 e.symm) e.symm
 ·exact Bk.aj h.mem.ptr hb (fun e=>t4 e.symm) e.symm
 ·exact Bk.aj h.mem.cel.ptr hb (fun e=>t5 e.symm) e.symm
 ·exact Bk.aj h.mem.cel.row hb (fun e=>t6 e.symm) e.symm
 ·exact Bk.aj h.mem.row hb (fun e=>t7 e.symm) e.symm
 ·exact Bk.aj hp.ptr hb (fun e=>t8 e.symm) e.symm
 ·exact Bk.aj hp.row hb (fun e=>t9 e.symm) e.symm
 ·exact hp.dN hb ta tb e
theorem EX {w:World}{k:Lk}{Y:YP}{m:Mc}{g:Nat}{cs:Array Value}(h:Ey w Y k m)(hb:Bk w g 61 cs):¬ Y.Own k.n g:=by
 rintro(e | e | e | e | e | e | e)
 ·exact Bk.aj h.ptr hb (by decide) e.symm
 ·obtain⟨cs',hcs⟩:=aZ h.code e
  exact Bk.aj hcs hb (by decide) rfl
 ·obtain⟨cs',hcs⟩:=aZ h.cells e
  exact Bk.aj hcs hb (by decide) rfl
 ·obtain⟨cs',hcs⟩:=h.words.bk e
  exact Bk.aj hcs hb (by decide) rfl
 ·exact Bk.aj h.d9.ptr hb (by decide) e.symm
 ·obtain⟨cs',hcs⟩:=aZ h.cores e
  exact Bk.aj hcs hb (by decide) rfl
 ·exact Rf.dN h.d9 hb (by decide) (by decide) e
theorem xz {k:Lk}(hq:k.l.all iK=R)(hk:mz k){pc:Int}{i:aJ}(hm:gV k pc=Z i):i.op=17\/i.op=20\/i.op=21:=by
 have hop:=(hk.Dq hm).op
 have hi:iK i=R:=List.all_eq_true.1 hq i (List.mem_of_getElem? (fg hm).2.2.1)
 simp only[iK,Bool.and_eq_true,Bool.or_eq_true,decide_eq_true_eq] at hi
 obtain⟨h16,h18,h19,h22,h23,_⟩:=hi
 omega
section
variable {w w5 w7 z0:World}{k:Lk}{X:XP}{Y:YP}{m m1 m2:Mc}{qb:Nat}{cs:Array Value}
theorem zO (bw:Below w.heap.size w w5)(hX:Ex w5 X k m1)(hXO:∀ i,X.Own k.n i->w.heap.size<=i)(hY:Ey w7 Y k m2)(h7:Below w5.heap.size w5 w7)
 (hYO:∀ i,Y.Own k.n i->w.heap.size<=i/\(Y.cv.ownBlock=Z i\/w5.heap.size<=i)):zD w k X Y m1 m2 w7:=by
 refine⟨hX.below h7,hY,bw.trans (h7.mono bw.size),fun i hi hy=>?_,hXO,fun i hi=>(hYO i hi).1⟩
 rcases(hYO i hy).2 with e | e
 ·obtain⟨cs,hcs⟩:=aZ hY.code e
  exact(hX.below h7).pz hcs (by decide) (by decide) (by decide) (by decide) (by decide) (by decide) (by decide) (by decide) (by decide) (by decide) (by decide) hi
 ·have:=hX.lt hi;omega
def iQ (w z0:World)(k:Lk)(X:XP)(Y:YP)(m m':Mc)(qb:Nat)(cs:Array Value)(j:Nat)(V:World):Prop:=
 Bk V qb 61 cs/\z0.heap.size<=V.heap.size/\(match j with
  | 0=>Below z0.heap.size z0 V
  | 1=>∃ M3,zD w k { X with M:=M3 } Y m' m V
  | _=>∃ M3 Y4,Y4.y=Y.y/\zD w k { X with M:=M3 } Y4 m' m' V)
theorem iQ.below {m':Mc}{j:Nat}{V V2:World}(h:iQ w z0 k X Y m m' qb cs j V)(hb:Below V.heap.size V V2):iQ w z0 k X Y m m' qb cs j V2:=by
 obtain⟨h1,h2,h3⟩:=h
 refine⟨(hb.block _ h1.lt).trans h1,Nat.le_trans h2 hb.size,?_⟩
 match j,h3 with
 | 0,h=>exact h.trans (hb.mono h2)
 | 1,⟨M3,h⟩=>exact⟨M3,h.below hb⟩
 | _+2,⟨M3,Y4,e,h⟩=>exact⟨M3,Y4,e,h.below hb⟩
def wJ (z0:World)(j:Nat)(V V':World):Prop:=j<2/\ab V V' (fun i=>i<z0.heap.size)
def iq (z0:World)(o:Ot)(_:Nat)(v:Value)(V:World):Prop:=∃ a,v=zC a o/\dF z0.heap.size V a o.ms
def ip (o:Ot)(j:Nat)(v:Value)(V:World):Prop:=2<=j/\∃ b,v=Bj b o/\eG .i64 3 V b o.ms
theorem iq.below {o:Ot}{j:Nat}{v:Value}{V V2:World}(h:iq z0 o j v V)(hb:Below V.heap.size V V2):iq z0 o j v V2:=by
 obtain⟨a,e,h⟩:=h
 exact⟨a,e,h.within (av hb) (by simp)⟩
theorem ip.below {o:Ot}{j:Nat}{v:Value}{V V2:World}(h:ip o j v V)(hb:Below V.heap.size V V2):ip o j v V2:=by
 obtain⟨h2,b,e,h⟩:=h
 exact⟨h2,b,e,h.within (av hb) (by simp)⟩
theorem iq.keep {o:Ot}{j:Nat}{v:Value}{V V2:World}(h:iq z0 o j v V)(hs:wJ z0 j V V2):iq z0 o (j+1) v V2:=by
 obtain⟨a,e,h⟩:=h
 exact⟨a,e,h.within hs.2 (fun g e hg=>by have:=h.2 g e;omega)⟩
theorem ip.keep {o:Ot}{j:Nat}{v:Value}{V V2:World}(h:ip o j v V)(hs:wJ z0 j V V2):ip o (j+1) v V2:=by
 have h1:=h.1
 have h2:=hs.1
 omega
theorem zn {f:FuncId}{args:Array Value}{r:Mc×Ot}(h:zD w k X Y m m z0)(hC:∀ V,Ex V X k m->Calls Tryz.prog f args V (zI V X k r))(V:World)(hV:iQ w z0 k X Y m r.1 qb cs 0 V):
 Calls Tryz.prog f args V (fun e zz=>∃ v,e=.returned v/\iq z0 r.2 1 v zz/\iQ w z0 k X Y m r.1 qb cs 1 zz/\wJ z0 0 V zz):=by
 obtain⟨hq,hz,hb⟩:=hV
 have hT:=h.below hb
 refine(hC V hT.ex).mono ?_
 rintro e zz ⟨a,M3,rfl,hl,hx,hs⟩
 exact⟨_,rfl,⟨a,rfl,hl.mono hz⟩,⟨Bk.within hq hs.1 (fun e=>hT.ex.pz hq (by decide) (by decide) (by decide) (by decide) (by decide) (by decide) (by decide) (by decide) (by decide) (by decide) (by decide) (XP.iN e)),Nat.le_trans hz hs.1.size,M3,hT.x hx hs⟩,by omega,hs.1.wide (fun i hi _=>h.ex.lt (XP.iN hi))⟩
theorem zm {f:FuncId}{args:Array Value}{m':Mc}{o:Ot}(h:zD w k X Y m m z0)(hC:∀ V,Ey V Y k m->Calls Tryz.prog f args V (fB V Y k (m',o)))(V:World)(hV:iQ w z0 k X Y m m' qb cs 1 V):
 Calls Tryz.prog f args V (fun e zz=>∃ v,e=.returned v/\ip o 2 v zz/\iQ w z0 k X Y m m' qb cs 2 zz/\wJ z0 1 V zz):=by
 obtain⟨hq,hz,M3,hT⟩:=hV
 refine(hC V hT.ey).mono ?_
 rintro e zz ⟨b,Y4,rfl,hl,hy,hs⟩
 exact⟨_,rfl,⟨F _,b,rfl,hl⟩,⟨Bk.within hq hs.1 (EX hT.ey hq),Nat.le_trans hz hs.1.size,M3,Y4,hs.2.2,hT.y hy hs⟩,by omega,hs.1.wide (fun i hi _=>h.ey.lt hi)⟩
theorem mO {o:Ot}{j:Nat}{a b:Value}{V:World}(ha:iq z0 o j a V)(hb:ip o j b V):Calls Tryz.prog 21 #[a,b] V fun e w'=>e=.returned (.bool R)/\Below V.heap.size V w':=by
 obtain⟨a,rfl,ha⟩:=ha
 obtain⟨_,b,rfl,hb⟩:=hb
 exact AC V o a b ha.1 hb
end
end
