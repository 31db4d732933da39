import Derived.Test.YtieiifdhdjhnoaaGreatDoorQRuB
import Derived.Test.YtieiifdhdjhnoaaGreatDoorQInstB
import Derived.Test.YtieiifdhdjhnoaaGreatDoorQRunM
import Derived.BigQuiet
set_option linter.unusedVariables false
set_option maxHeartbeats 8000000
set_option maxRecDepth 100000
open Go.Value renaming int->I,slice->P,pointer->S
open Go.IntKind renaming i64->Q
open Option renaming none->N,some->O
open Bool renaming false->Z,true->V
open Go.Lib renaming hid->T
open Go.RowKit.Below renaming refl->R
open Go renaming undef->K
namespace Go.Proofs.YtieiifdhdjhnoaaGreatDoor
open Go.ChangeShapes Go.WideShapes Go.ChangeAt Go.RowKit
theorem jT {B:Type _}:∀ {ps:List (Nat×B)} {i:Nat} {p:B},ps.lookup i=O p->(i,p)∈ps
 | [],i,p,h=>by cases h
 | (k,q) :: ps,i,p,h=>by
  rw[List.lookup_cons] at h
  by_cases e:i=k
  ·subst e;simp at h;subst h;exact List.mem_cons_self
  ·have e2:(i==k)=Z:=by simpa using e
   rw[e2] at h
   exact List.mem_cons_of_mem _ (jT h)
def qj (ps:List (Nat×(Nat->Value->World->Prop)))(l:List Value)(i k:Nat)(v:Value)(W:World):Prop:=match ps.lookup i with
 | some p=>p k v W
 | none=>v=l.getD i K
theorem fy {ps:List (Nat×(Nat->Value->World->Prop))}{l:List Value}(h:∀ x∈ps,∀ k v W W',x.2 k v W->Below W.heap.size W W'->x.2 k v W'):∀ i k v W W',qj ps l i k v W->Below W.heap.size W W'->qj ps l i k v W':=by
 intro i k v W W' hm hb
 unfold qj at *
 cases hl:ps.lookup i with
 | none=>rw[hl] at hm;exact hm
 | some p=>
  rw[hl] at hm
  exact h (i,p) (jT hl) k v W W' hm hb
theorem g8 {ps:List (Nat×(Nat->Value->World->Prop))}{l:List Value}{k:Nat}{W W':World}(h:∀ x∈ps,∀ v,x.2 k v W->x.2 (k+1) v W'):∀ i v,qj ps l i k v W->qj ps l i (k+1) v W':=by
 intro i v hm
 unfold qj at *
 cases hl:ps.lookup i with
 | none=>rw[hl] at hm;exact hm
 | some p=>
  rw[hl] at hm
  exact h (i,p) (jT hl) v hm
section
variable {w:World}{U:RP}{k:Lk}{r:Rn}
theorem Am {t:Nat}{late:Bool}(ht:t<k.n)(hb:r.bad=Z)(ha:r.act t=0):dN k r ⟨1,t,late⟩=bA { enter { r with act:=bp r.act t 1 } 1 t with m:=(bn k r.m t Z).1 } t (bn k r.m t Z).2:=by
 unfold dN
 rw[if_neg (fun e=>by
  rcases e with e | e | e
  ·have e2:(t:Int)<0:=e
   omega
  ·have e2:(k.n:Int)<=(t:Int):=e
   omega
  ·rw[hb] at e;cases e)]
 simp only[Int.toNat_natCast,if_true,if_pos ha]
 rfl
theorem uI {t:Nat}{late:Bool}(ht:t<k.n)(hb:r.bad=Z)(ha:r.act t=2):dN k r ⟨2,t,late⟩=bA { enter { r with act:=bp r.act t 3 } 8 t with m:=(bn k r.m t V).1 } t (bn k r.m t V).2:=by
 unfold dN
 rw[if_neg (fun e=>by
  rcases e with e | e | e
  ·have e2:(t:Int)<0:=e
   omega
  ·have e2:(k.n:Int)<=(t:Int):=e
   omega
  ·rw[hb] at e;cases e)]
 simp only[Int.toNat_natCast,if_pos ha]
 rfl
theorem sW {kd:Int}{t:Nat}{late:Bool}(ht:t<k.n)(hb:r.bad=Z)(k1:kd≠1)(k2:kd≠2)(ha:r.act t=1\/r.act t=3):dN k r ⟨kd,t,late⟩=bA { r with m:=(bC k r.m t late).1 } t (bC k r.m t late).2:=by
 unfold dN
 rw[if_neg (fun e=>by
  rcases e with e | e | e
  ·have e2:(t:Int)<0:=e
   omega
  ·have e2:(k.n:Int)<=(t:Int):=e
   omega
  ·rw[hb] at e;cases e)]
 simp only[Int.toNat_natCast,if_neg k1,if_neg k2,if_pos ha]
theorem xG {t:Nat}{late:Bool}(ha:r.act t≠0):dN k r ⟨1,t,late⟩=r:=by
 unfold dN
 split
 ·rfl
 ·simp only[Int.toNat_natCast,if_true,if_neg ha]
theorem xF {t:Nat}{late:Bool}(ha:r.act t≠2):dN k r ⟨2,t,late⟩=r:=by
 unfold dN
 split
 ·rfl
 ·simp only[Int.toNat_natCast,if_neg ha];rfl
theorem xD {kd:Int}{t:Nat}{late:Bool}(k1:kd≠1)(k2:kd≠2)(h1:r.act t≠1)(h3:r.act t≠3):dN k r ⟨kd,t,late⟩=r:=by
 unfold dN
 split
 ·rfl
 ·simp only[Int.toNat_natCast]
  rw[if_neg (fun e=>e.elim h1 h3)]
theorem qS {o:ki}(h:o.t<0\/(k.n:Int)<=o.t\/r.bad=V):dN k r o=r:=by
 unfold dN
 rw[if_pos h]
theorem G0 (h:Ru w U k r)(kd t' L:Int)(late:Bool)(hL:decide (L≠0)=late)(hl:r.l.length+258<100000000)(hs:gG k):
 Calls Tryz.prog 36 #[S (O ⟨U.g,0,N⟩),.agg #[I Q kd,I Q t',I Q L]] w fun e w'=>e=.returned (.tuple #[])/\vz w U k (dN k r ⟨kd,t',late⟩) w':=by
 have HSK:=T hs
 clear hs
 have hbz:Below w.heap.size w (w.alloc (.cells #[I Q kd,I Q t',I Q L] 58)):=(R _ _).alloc (Nat.le_refl _) _
 have hB:=Bk.made w 58 #[I Q kd,I Q t',I Q L]
 have hR:=h.below hbz
 have HUZ:Hid (∀ u,vz (w.alloc (.cells #[I Q kd,I Q t',I Q L] 58)) U k (dN k r ⟨kd,t',late⟩) u->vz w U k (dN k r ⟨kd,t',late⟩) u):=T (fun u ⟨U',h1,h2⟩=>⟨U',h1,((bi.refl w k.n U).grown hbz).aJ h2⟩)
 have HL:=T hl
 have HLt:=T hL
 clear hl hL
 have HLK:=T h.ey.lk
 go_enter Tryz.func36,Tryz.ntmps36
 go_upto_region 1 with fail
 clear h hbz
 generalize w.alloc (.cells #[I Q kd,I Q t',I Q L] 58)=z at *
 generalize w.heap.size=b at *
 have hS:=bi.refl z k.n U
 obtain⟨e0,e1,e2⟩:=hB.iS
 have hc1:=hR.c1
 have c3:=hR.c3
 by_cases h0:t'<0
 ·have d0:decide (t'<0)=V:=decide_eq_true h0
  go_upto_region 1 with fail
  go_quiet (fail)
  replace hS:=hS.grown (aj z nq)
  replace hR:=hR.below (aj z nq)
  replace hB:=Bk.within hB (af (aj z nq)) (by simp)
  clear e0 e1 e2 hc1 c3
  generalize z.drewN nq=v1 at *
  obtain⟨e0,e1,e2⟩:=hB.iS
  have hc1:=hR.c1
  have c3:=hR.c3
  have hfin:=HUZ.out _ (by rw[qS (.inl h0)];exact⟨_,hR,hS⟩)
  clear hR hS hB HUZ e0 e1 e2 hc1 c3
  go_wp2
  refine bodyPost_ret (results_none rfl _ _ _) rfl ?_
  exact⟨rfl,hfin⟩
 have d0:decide (t'<0)=Z:=decide_eq_false h0
 by_cases h1:(k.n:Int)<=t'
 ·have d1:decide (t'>=(k.n:Int))=V:=decide_eq_true h1
  have d1':decide ((k.n:Int)<=t')=V:=decide_eq_true h1
  go_upto_region 1 with fail
  go_quiet (fail)
  replace hS:=hS.grown (aj z nq)
  replace hR:=hR.below (aj z nq)
  replace hB:=Bk.within hB (af (aj z nq)) (by simp)
  clear e0 e1 e2 hc1 c3
  generalize z.drewN nq=v1 at *
  obtain⟨e0,e1,e2⟩:=hB.iS
  have hc1:=hR.c1
  have c3:=hR.c3
  have hfin:=HUZ.out _ (by rw[qS (.inr (.inl h1))];exact⟨_,hR,hS⟩)
  clear hR hS hB HUZ e0 e1 e2 hc1 c3
  go_wp2
  refine bodyPost_ret (results_none rfl _ _ _) rfl ?_
  exact⟨rfl,hfin⟩
 have d1:decide (t'>=(k.n:Int))=Z:=decide_eq_false h1
 have d1':decide ((k.n:Int)<=t')=Z:=decide_eq_false h1
 cases hbad:r.bad with
 | true=>
  rw[hbad] at c3
  replace c3:z.cell? ⟨U.g,3,N⟩=O (I Q 1):=c3
  go_upto_region 1 with fail
  go_quiet (fail)
  replace hS:=hS.grown (aj z nq)
  replace hR:=hR.below (aj z nq)
  replace hB:=Bk.within hB (af (aj z nq)) (by simp)
  clear e0 e1 e2 hc1 c3
  generalize z.drewN nq=v1 at *
  obtain⟨e0,e1,e2⟩:=hB.iS
  have hc1:=hR.c1
  have c3:=hR.c3
  have hfin:=HUZ.out _ (by rw[qS (.inr (.inr hbad))];exact⟨_,hR,hS⟩)
  clear hR hS hB HUZ e0 e1 e2 hc1 c3
  go_wp2
  refine bodyPost_ret (results_none rfl _ _ _) rfl ?_
  exact⟨rfl,hfin⟩
 | false=>
  rw[hbad] at c3
  replace c3:z.cell? ⟨U.g,3,N⟩=O (I Q 0):=c3
  obtain⟨t,rfl⟩:∃ t:Nat,t'=t:=⟨t'.toNat,by omega⟩
  have ht:t<k.n:=by omega
  have HT:=T ht
  have hti:(t:Int)<(k.n:Int):=by omega
  have hx:=hR.act ht
  go_upto_region 1 with fail
  go_quiet (fail)
  replace hS:=hS.grown (aj z nq)
  replace hR:=hR.below (aj z nq)
  replace hB:=Bk.within hB (af (aj z nq)) (by simp)
  clear e0 e1 e2 hc1 c3 hx
  generalize z.drewN nq=v1 at *
  obtain⟨e0,e1,e2⟩:=hB.iS
  have hc1:=hR.c1
  have c3:=hR.c3
  have hx:=hR.act HT.out
  rw[hbad] at c3
  replace c3:v1.cell? ⟨U.g,3,N⟩=O (I Q 0):=c3
  clear h0 h1 ht
  cases q1:(kd==1) with
  | true=>
   have e1k:kd=1:=eq_of_beq q1
   cases a0:(r.act t==0) with
   | true=>
    have HOP:Hid (dN k r ⟨kd,t,late⟩=bA { enter { r with act:=bp r.act t 1 } 1 t with m:=(bn k r.m t Z).1 } t (bn k r.m t Z).2):=T (by rw[e1k];exact Am HT.out hbad (eq_of_beq a0))
    clear e1k
    go_upto_region 2 with fail
    go_quiet (fail)
    replace hS:=hS.grown (aj v1 nq)
    replace hR:=hR.below (aj v1 nq)
    replace hB:=Bk.within hB (af (aj v1 nq)) (by simp)
    clear e0 e1 e2 hc1 c3 hx
    generalize v1.drewN nq=v2 at *
    obtain⟨e0,e1,e2⟩:=hB.iS
    have hc1:=hR.c1
    have c3:=hR.c3
    have hx:=hR.act HT.out
    rw[hbad] at c3
    replace c3:v2.cell? ⟨U.g,3,N⟩=O (I Q 0):=c3
    have hf:=hR.acts.free t
    go_upto_region 3 with fail
    go_region
    have hput:=hR.mp HT.out 1
    have hs3:=hS.aJ hput.2
    have hw3:ag v2 (v2.setCell ⟨U.d,t,N⟩ (I Q 1)) (fun b=>b=U.d):=(ag.refl v2 (fun b=>b=U.d)).put U.d t _ (.inl rfl)
    have hbd:b≠U.d:=by obtain⟨cs,hb,_⟩:=hR.acts.bk;exact Bk.av hB hb (by decide)
    have hB3:=Bk.within (Bk.within hB hw3 hbd) (af (R _ _).drew) (by simp)
    have hR3:=hput.1.below (R _ _).drew
    have hS3:=hs3.grown (R _ _).drew
    clear hput hs3 hw3 hbd hR hS hB e0 e1 e2 hc1 c3 hx hf
    generalize (v2.setCell ⟨U.d,t,N⟩ (I Q 1)).drew=y at *
    obtain⟨e0,e1,e2⟩:=hB3.iS
    have HEn:=T (j8 hR3 1 t (by have:=HL.out;simp only;omega))
    have HB3:Hid (∀ y2,ag y y2 (fun i=>i=U.g\/U.lv.ownBlock=O i)->Bk y2 b 58 #[I Q kd,I Q t,I Q L]):=T (fun y2 hw=>Bk.within hB3 hw (fun e=>by
     rcases e with e | e
     ·exact Bk.av hB3 hR3.ptr (by decide) e
     ·obtain⟨D2,hb2⟩:=aY hR3.ja e
      exact Bk.av hB3 hb2 (by decide) rfl))
    clear hR3 hB3
    go_upto_region 5 with (refine HEn.out.mono ?_;rintro e y2 ⟨rfl,U2,hE⟩;have hR:=hE.ru;have hS:=hS3.aJ hE.st;have hB:=HB3.out y2 hE.few;clear hE hS3 e0 e1 e2)
    have hg:U2.g=U.g:=hS.2.2.1
    have HCB:Hid (∀ W,Below y2.heap.size y2 W->Calls Tryz.prog 23 #[S (O ⟨U2.Y.y,0,N⟩),I Q t,I Q 0] W (eF W U2.Y k (bn k r.m t Z))):=T (fun W hb=>Bb (hR.below hb).ey t HT.out Z)
    have hms:=kQ HLK.out (m:=r.m) (t:=t) Z
    obtain⟨X,hX⟩:∃ X,X=(bn k r.m t Z):=⟨_,rfl⟩
    rw[<-hX] at HCB HOP hms
    clear hX
    have HST:Hid (∀ W W2 Y',Below y2.heap.size y2 W->Ey W2 Y' k X.1->br W k.n U2.Y W2 Y'->Bk W2 b 58 #[I Q kd,I Q t,I Q L]/\∃ U',Ru W2 U' k { enter { r with act:=bp r.act t 1 } 1 t with m:=X.1 }/\bi y2 k.n U2 W2 U'):=T (fun W W2 Y' hb he hs=>by
     have hRW:=hR.below hb
     have hp:=hRW.zo he hs
     have hBW:=Bk.within hB (af hb) (by simp)
     exact⟨Bk.within hBW hs.1 (hRW.ey.iI hBW (by decide) (by decide) (by decide) (by decide) (by decide) (by decide) (by decide) (by decide)),_,hp.1,((bi.refl y2 k.n U2).grown hb).aJ hp.2⟩)
    have HCA:Hid (∀ W U' mv,Ru W U' k { enter { r with act:=bp r.act t 1 } 1 t with m:=X.1 }->bi y2 k.n U2 W U'->ef .i64 3 W mv X.2.ms->Calls Tryz.prog 69 #[S (O ⟨U.g,0,N⟩),I Q t,ro mv X.2] W fun e w'=>e=.returned (.tuple #[])/\vz y2 U2 k (bA { enter { r with act:=bp r.act t 1 } 1 t with m:=X.1 } t X.2) w'):=T (fun W U' mv hr hs hl=>by
     have hgg:U'.g=U.g:=hs.2.2.1.trans hg
     have hc:=zn hr t HT.out X.2 mv hl hms.1 (by have h1:=hms.2;have h2:=HL.out;simp only[enter,List.length_append,List.length_cons,List.length_nil];omega)
     rw[hgg] at hc
     exact hc.mono (fun e w' ⟨h1,U'',h2,h3⟩=>⟨h1,U'',h2,hs.aJ h3⟩))
    have HFIN:Hid (∀ W,vz y2 U2 k (bA { enter { r with act:=bp r.act t 1 } 1 t with m:=X.1 } t X.2) W->vz w U k (dN k r ⟨kd,t,late⟩) W):=T (fun W ⟨U'',h2,h3⟩=>HUZ.out W (by rw[HOP.out];exact⟨U'',h2,hS.aJ h3⟩))
    have HCE:Hid (∀ W,Below y2.heap.size y2 W->(W.cell? ⟨b,0,N⟩=O (I Q kd)/\W.cell? ⟨b,1,N⟩=O (I Q t)/\W.cell? ⟨b,2,N⟩=O (I Q L))/\W.cell? ⟨U.g,0,N⟩=O (S (O ⟨U2.Y.y,0,N⟩))):=T (fun W hb=>by
     have hBW:=Bk.within hB (af hb) (by simp)
     have h0:=(hR.below hb).c0
     rw[hg] at h0
     exact⟨⟨hBW.cell 0,hBW.cell 1,hBW.cell 2⟩,h0⟩)
    clear hR hS hB hms HUZ HOP hg hbad
    refine dH [9,10] (fun kk W=>match kk with | 0=>Below y2.heap.size y2 W | 1=>Bk W b 58 #[I Q kd,I Q t,I Q L]/\∃ U',Ru W U' k { enter { r with act:=bp r.act t 1 } 1 t with m:=X.1 }/\bi y2 k.n U2 W U' | _=>vz y2 U2 k (bA { enter { r with act:=bp r.act t 1 } 1 t with m:=X.1 } t X.2) W) (fun _ _ _=>True) (fun vs=>{ tmps:=#[S (O ⟨U.g,0,N⟩),.agg #[I Q kd,I Q (t:Int),I Q L],K,S (O ⟨b,0,N⟩),S (O ⟨b,1,N⟩),I Q (t:Int),.bool Z,.bool Z,S (O ⟨b,1,N⟩),I Q (t:Int),S (O ⟨U.g,0,N⟩),S (O ⟨U.g,0,N⟩),S (O ⟨U.g,1,N⟩),P (O ⟨U.d,0,N⟩) k.n k.n,I Q (k.n:Int),.bool Z,.bool Z,.bool Z,S (O ⟨U.g,0,N⟩),S (O ⟨U.g,0,N⟩),S (O ⟨U.g,3,N⟩),I Q 0,.bool Z,.bool Z,.bool V,S (O ⟨b,0,N⟩),I Q kd,.bool V,.bool V,S (O ⟨U.g,0,N⟩),S (O ⟨U.g,0,N⟩),S (O ⟨U.g,1,N⟩),P (O ⟨U.d,0,N⟩) k.n k.n,S (O ⟨b,1,N⟩),I Q (t:Int),S (O ⟨U.d,t,N⟩),I Q (r.act t),.bool V,.bool V,S (O ⟨U.g,0,N⟩),S (O ⟨U.g,0,N⟩),S (O ⟨U.g,1,N⟩),P (O ⟨U.d,0,N⟩) k.n k.n,S (O ⟨b,1,N⟩),I Q (t:Int),S (O ⟨U.d,t,N⟩),S (O ⟨U.g,0,N⟩),S (O ⟨b,1,N⟩),I Q (t:Int),.tuple #[],vs 0,vs 1,vs 2,vs 3,vs 4,vs 5,vs 6,vs 7,vs 8,vs 9,vs 10,K,K,K,K,K,K,K,K,K,K,K,K,K,K,K,K,K,K,K,K,K,K,K,K,K,K,K,K,K,K,K,K,K,K,K,K,K,K,K,K,K,K,K,K,K,K,K,K,K,K,K,K,K,K,K,K,K,K,K,K,K,K,K,K,K,K,K,K,K,K,K,K,K,K,K,K,K,K,K,K,K],defers:=[] }) (qj [(9,fun kk v W=>match kk with | 0=>False | 1=>∃ mv,v=ro mv X.2/\ef .i64 3 W mv X.2.ms | _=>True),(10,fun _ _ _=>True)] [S (O ⟨U.g,0,N⟩),S (O ⟨b,1,N⟩),I Q t,S (O ⟨U.g,0,N⟩),S (O ⟨U.g,0,N⟩),S (O ⟨U.g,0,N⟩),S (O ⟨U2.Y.y,0,N⟩),S (O ⟨b,1,N⟩),I Q t,K,K]) ?ghm ?ghr ?ghc ?ghnd ?ghlit ?gh0 ?ghW ?ghF ?ghS ?gops ?gdone
    case ghm=>kernel_rfl
    case ghr=>kernel_rfl
    case ghc=>kernel_rfl
    case ghnd=>decide
    case ghlit=>intro vs;rfl
    case gh0=>exact R _ _
    case ghW=>exact fun kk W W2 h hb=>match kk,h with
     | 0,h=>Below.trans h (hb.mono (Below.size h))
     | 1,⟨h1,U9,h2,h3⟩=>⟨Bk.within h1 (af hb) (by simp),U9,h2.below hb,h3.grown hb⟩
     | _+2,⟨U9,h2,h3⟩=>⟨U9,h2.below hb,h3.grown hb⟩
    case ghF=>exact fy (by
     intro p0 hp
     simp only[List.mem_cons,List.not_mem_nil,or_false] at hp
     rcases hp with rfl|rfl
     ·exact fun kk v W W2 h hb=>match kk,h with
      | 0,h=>h
      | 1,⟨mv,h1,h2⟩=>⟨mv,h1,h2.within (af hb) (by simp)⟩
      | _+2,_=>trivial
     ·exact fun _ _ _ _ _ _=>trivial)
    case ghS=>exact fun kk W W2 _ _=>g8 (by
     intro p0 hp
     simp only[List.mem_cons,List.not_mem_nil,or_false] at hp
     rcases hp with rfl|rfl
     ·exact fun v h=>match kk,h with
      | 0,h=>h.elim
      | _+1,_=>trivial
     ·exact fun _ _=>trivial)
    case gops=>
     refine⟨?_,?_,?_,?_,?_,?_,?_,?_,?_,?_,?_,trivial⟩
     ·intro vs W kk h1 h2 hW hd
      refine aa rfl ?_
      clear hd
      go_simp
      exact⟨rfl,R _ _⟩
     ·intro vs W kk h1 h2 hW hd
      refine aa rfl ?_
      clear hd
      go_simp
      exact⟨rfl,R _ _⟩
     ·intro vs W kk h1 h2 hW hd
      refine aa rfl ?_
      have e1:vs 1=S (O ⟨b,1,N⟩):=hd 1 (by decide)
      have h2b:kk<=1:=h2
      obtain⟨z0,z1,z2⟩:W.cell? ⟨b,0,N⟩=O (I Q kd)/\W.cell? ⟨b,1,N⟩=O (I Q t)/\W.cell? ⟨b,2,N⟩=O (I Q L):=by
       rcases(show kk=0\/kk=1 by omega) with rfl|rfl
       ·exact(HCE.out W hW).1
       ·have h1b:=hW.1
        exact⟨h1b.cell 0,h1b.cell 1,h1b.cell 2⟩
      clear h2b
      clear hd
      go_simp
      exact⟨rfl,R _ _⟩
     ·intro vs W kk h1 h2 hW hd
      refine aa rfl ?_
      clear hd
      go_simp
      exact⟨rfl,R _ _⟩
     ·intro vs W kk h1 h2 hW hd
      refine aa rfl ?_
      have e3:vs 3=S (O ⟨U.g,0,N⟩):=hd 3 (by decide)
      clear hd
      go_simp
      exact⟨rfl,R _ _⟩
     ·intro vs W kk h1 h2 hW hd
      refine aa rfl ?_
      have e4:vs 4=S (O ⟨U.g,0,N⟩):=hd 4 (by decide)
      clear hd
      go_simp
      exact⟨rfl,R _ _⟩
     ·intro vs W kk h1 h2 hW hd
      obtain rfl:kk=0:=Nat.le_zero.1 h2
      refine aa rfl ?_
      have e5:vs 5=S (O ⟨U.g,0,N⟩):=hd 5 (by decide)
      obtain⟨⟨z0,z1,z2⟩,zc⟩:=HCE.out W hW
      clear hd
      go_simp
      exact⟨rfl,R _ _⟩
     ·intro vs W kk h1 h2 hW hd
      refine aa rfl ?_
      clear hd
      go_simp
      exact⟨rfl,R _ _⟩
     ·intro vs W kk h1 h2 hW hd
      obtain rfl:kk=0:=Nat.le_zero.1 h2
      refine aa rfl ?_
      have e7:vs 7=S (O ⟨b,1,N⟩):=hd 7 (by decide)
      obtain⟨⟨z0,z1,z2⟩,zc⟩:=HCE.out W hW
      clear hd
      go_simp
      exact⟨rfl,R _ _⟩
     ·intro vs W hW hd
      have e6:vs 6=S (O ⟨U2.Y.y,0,N⟩):=hd 6 (by decide)
      have e8:vs 8=I Q t:=hd 8 (by decide)
      refine bh rfl ?_
      have hcb:=HCB.out W hW
      clear hd
      go_simp
      refine hcb.mono ?_
      rintro e W2 ⟨mv,Y9,rfl,hl9,he9,hs9⟩
      obtain⟨hb9,hr9⟩:=HST.out W W2 Y9 hW he9 hs9
      refine⟨_,rfl,?_⟩
      have a1:∃ mv2,ro mv X.2=ro mv2 X.2/\ef .i64 3 W2 mv2 X.2.ms:=⟨mv,rfl,hl9⟩
      have a2:=And.intro hb9 hr9
      exact And.intro a1 a2
     ·intro vs W hW hd
      have e0:vs 0=S (O ⟨U.g,0,N⟩):=hd 0 (by decide)
      have e2:vs 2=I Q t:=hd 2 (by decide)
      obtain⟨hb9,U9,hr9,hu9⟩:=hW
      obtain⟨mv,e9,hl9⟩:=hd 9 (by decide)
      have hca:=HCA.out W U9 mv hr9 hu9 hl9
      refine bh rfl ?_
      clear hd hb9 hr9 hu9 hl9
      go_simp
      refine hca.mono ?_
      rintro e W2 ⟨rfl,hf9⟩
      refine⟨_,rfl,?_⟩
      exact And.intro trivial hf9
    case gdone=>
     intro vs W hW hf
     have hfin:=HFIN.out W hW
     clear hf hW HFIN HCE HCA HST HCB
     go_end0
     exact⟨rfl,hfin⟩
   | false=>
    have q2:(kd==2)=Z:=by rw[e1k];rfl
    have q1':(kd != 1)=Z:=by rw[e1k];rfl
    have HOP:Hid (dN k r ⟨kd,t,late⟩=r):=T (by rw[e1k];exact xG (ne_of_beq_false a0))
    clear e1k
    go_upto_region 2 with fail
    go_quiet (fail)
    replace hS:=hS.grown (aj v1 nq)
    replace hR:=hR.below (aj v1 nq)
    replace hB:=Bk.within hB (af (aj v1 nq)) (by simp)
    clear e0 e1 e2 hc1 c3 hx
    generalize v1.drewN nq=v2 at *
    obtain⟨e0,e1,e2⟩:=hB.iS
    have hc1:=hR.c1
    have c3:=hR.c3
    have hx:=hR.act HT.out
    rw[hbad] at c3
    replace c3:v2.cell? ⟨U.g,3,N⟩=O (I Q 0):=c3
    go_upto_region 6 with fail
    go_quiet (fail)
    replace hS:=hS.grown (aj v2 nq)
    replace hR:=hR.below (aj v2 nq)
    replace hB:=Bk.within hB (af (aj v2 nq)) (by simp)
    clear e0 e1 e2 hc1 c3 hx
    generalize v2.drewN nq=v3 at *
    obtain⟨e0,e1,e2⟩:=hB.iS
    have hc1:=hR.c1
    have c3:=hR.c3
    have hx:=hR.act HT.out
    rw[hbad] at c3
    replace c3:v3.cell? ⟨U.g,3,N⟩=O (I Q 0):=c3
    go_upto_region 10 with fail
    go_quiet (fail)
    replace hS:=hS.grown (aj v3 nq)
    replace hR:=hR.below (aj v3 nq)
    replace hB:=Bk.within hB (af (aj v3 nq)) (by simp)
    clear e0 e1 e2 hc1 c3 hx
    generalize v3.drewN nq=v4 at *
    obtain⟨e0,e1,e2⟩:=hB.iS
    have hc1:=hR.c1
    have c3:=hR.c3
    have hx:=hR.act HT.out
    rw[hbad] at c3
    replace c3:v4.cell? ⟨U.g,3,N⟩=O (I Q 0):=c3
    have hfin:=HUZ.out _ (by rw[HOP.out];exact⟨_,hR,hS⟩)
    clear hR hS hB HUZ e0 e1 e2 hc1 c3 hx
    go_wp2
    go_end0
    exact⟨rfl,hfin⟩
  | false=>
   have e1k:kd≠1:=ne_of_beq_false q1
   have q1':(kd != 1)=V:=bne_iff_ne.2 e1k
   go_upto_region 2 with fail
   go_quiet (fail)
   replace hS:=hS.grown (aj v1 nq)
   replace hR:=hR.below (aj v1 nq)
   replace hB:=Bk.within hB (af (aj v1 nq)) (by simp)
   clear e0 e1 e2 hc1 c3 hx
   generalize v1.drewN nq=v2 at *
   obtain⟨e0,e1,e2⟩:=hB.iS
   have hc1:=hR.c1
   have c3:=hR.c3
   have hx:=hR.act HT.out
   rw[hbad] at c3
   replace c3:v2.cell? ⟨U.g,3,N⟩=O (I Q 0):=c3
   cases q2:(kd==2) with
   | true=>
    have e2k:kd=2:=eq_of_beq q2
    cases a2:(r.act t==2) with
    | true=>
     have HOP:Hid (dN k r ⟨kd,t,late⟩=bA { enter { r with act:=bp r.act t 3 } 8 t with m:=(bn k r.m t V).1 } t (bn k r.m t V).2):=T (by rw[e2k];exact uI HT.out hbad (eq_of_beq a2))
     clear e1k e2k
     go_upto_region 6 with fail
     go_quiet (fail)
     replace hS:=hS.grown (aj v2 nq)
     replace hR:=hR.below (aj v2 nq)
     replace hB:=Bk.within hB (af (aj v2 nq)) (by simp)
     clear e0 e1 e2 hc1 c3 hx
     generalize v2.drewN nq=v3 at *
     obtain⟨e0,e1,e2⟩:=hB.iS
     have hc1:=hR.c1
     have c3:=hR.c3
     have hx:=hR.act HT.out
     rw[hbad] at c3
     replace c3:v3.cell? ⟨U.g,3,N⟩=O (I Q 0):=c3
     have hf:=hR.acts.free t
     go_upto_region 7 with fail
     go_region
     have hput:=hR.mp HT.out 3
     have hs3:=hS.aJ hput.2
     have hw3:ag v3 (v3.setCell ⟨U.d,t,N⟩ (I Q 3)) (fun b=>b=U.d):=(ag.refl v3 (fun b=>b=U.d)).put U.d t _ (.inl rfl)
     have hbd:b≠U.d:=by obtain⟨cs,hb,_⟩:=hR.acts.bk;exact Bk.av hB hb (by decide)
     have hB3:=Bk.within (Bk.within hB hw3 hbd) (af (R _ _).drew) (by simp)
     have hR3:=hput.1.below (R _ _).drew
     have hS3:=hs3.grown (R _ _).drew
     clear hput hs3 hw3 hbd hR hS hB e0 e1 e2 hc1 c3 hx hf
     generalize (v3.setCell ⟨U.d,t,N⟩ (I Q 3)).drew=y at *
     obtain⟨e0,e1,e2⟩:=hB3.iS
     have HEn:=T (j8 hR3 8 t (by have:=HL.out;simp only;omega))
     have HB3:Hid (∀ y2,ag y y2 (fun i=>i=U.g\/U.lv.ownBlock=O i)->Bk y2 b 58 #[I Q kd,I Q t,I Q L]):=T (fun y2 hw=>Bk.within hB3 hw (fun e=>by
      rcases e with e | e
      ·exact Bk.av hB3 hR3.ptr (by decide) e
      ·obtain⟨D2,hb2⟩:=aY hR3.ja e
       exact Bk.av hB3 hb2 (by decide) rfl))
     clear hR3 hB3
     go_upto_region 9 with (refine HEn.out.mono ?_;rintro e y2 ⟨rfl,U2,hE⟩;have hR:=hE.ru;have hS:=hS3.aJ hE.st;have hB:=HB3.out y2 hE.few;clear hE hS3 e0 e1 e2)
     have hg:U2.g=U.g:=hS.2.2.1
     have HCB:Hid (∀ W,Below y2.heap.size y2 W->Calls Tryz.prog 23 #[S (O ⟨U2.Y.y,0,N⟩),I Q t,I Q 1] W (eF W U2.Y k (bn k r.m t V))):=T (fun W hb=>Bb (hR.below hb).ey t HT.out V)
     have hms:=kQ HLK.out (m:=r.m) (t:=t) V
     obtain⟨X,hX⟩:∃ X,X=(bn k r.m t V):=⟨_,rfl⟩
     rw[<-hX] at HCB HOP hms
     clear hX
     have HST:Hid (∀ W W2 Y',Below y2.heap.size y2 W->Ey W2 Y' k X.1->br W k.n U2.Y W2 Y'->Bk W2 b 58 #[I Q kd,I Q t,I Q L]/\∃ U',Ru W2 U' k { enter { r with act:=bp r.act t 3 } 8 t with m:=X.1 }/\bi y2 k.n U2 W2 U'):=T (fun W W2 Y' hb he hs=>by
      have hRW:=hR.below hb
      have hp:=hRW.zo he hs
      have hBW:=Bk.within hB (af hb) (by simp)
      exact⟨Bk.within hBW hs.1 (hRW.ey.iI hBW (by decide) (by decide) (by decide) (by decide) (by decide) (by decide) (by decide) (by decide)),_,hp.1,((bi.refl y2 k.n U2).grown hb).aJ hp.2⟩)
     have HCA:Hid (∀ W U' mv,Ru W U' k { enter { r with act:=bp r.act t 3 } 8 t with m:=X.1 }->bi y2 k.n U2 W U'->ef .i64 3 W mv X.2.ms->Calls Tryz.prog 69 #[S (O ⟨U.g,0,N⟩),I Q t,ro mv X.2] W fun e w'=>e=.returned (.tuple #[])/\vz y2 U2 k (bA { enter { r with act:=bp r.act t 3 } 8 t with m:=X.1 } t X.2) w'):=T (fun W U' mv hr hs hl=>by
      have hgg:U'.g=U.g:=hs.2.2.1.trans hg
      have hc:=zn hr t HT.out X.2 mv hl hms.1 (by have h1:=hms.2;have h2:=HL.out;simp only[enter,List.length_append,List.length_cons,List.length_nil];omega)
      rw[hgg] at hc
      exact hc.mono (fun e w' ⟨h1,U'',h2,h3⟩=>⟨h1,U'',h2,hs.aJ h3⟩))
     have HFIN:Hid (∀ W,vz y2 U2 k (bA { enter { r with act:=bp r.act t 3 } 8 t with m:=X.1 } t X.2) W->vz w U k (dN k r ⟨kd,t,late⟩) W):=T (fun W ⟨U'',h2,h3⟩=>HUZ.out W (by rw[HOP.out];exact⟨U'',h2,hS.aJ h3⟩))
     have HCE:Hid (∀ W,Below y2.heap.size y2 W->(W.cell? ⟨b,0,N⟩=O (I Q kd)/\W.cell? ⟨b,1,N⟩=O (I Q t)/\W.cell? ⟨b,2,N⟩=O (I Q L))/\W.cell? ⟨U.g,0,N⟩=O (S (O ⟨U2.Y.y,0,N⟩))):=T (fun W hb=>by
      have hBW:=Bk.within hB (af hb) (by simp)
      have h0:=(hR.below hb).c0
      rw[hg] at h0
      exact⟨⟨hBW.cell 0,hBW.cell 1,hBW.cell 2⟩,h0⟩)
     clear hR hS hB hms HUZ HOP hg hbad
     refine dH [9,10] (fun kk W=>match kk with | 0=>Below y2.heap.size y2 W | 1=>Bk W b 58 #[I Q kd,I Q t,I Q L]/\∃ U',Ru W U' k { enter { r with act:=bp r.act t 3 } 8 t with m:=X.1 }/\bi y2 k.n U2 W U' | _=>vz y2 U2 k (bA { enter { r with act:=bp r.act t 3 } 8 t with m:=X.1 } t X.2) W) (fun _ _ _=>True) (fun vs=>{ tmps:=#[S (O ⟨U.g,0,N⟩),.agg #[I Q kd,I Q (t:Int),I Q L],K,S (O ⟨b,0,N⟩),S (O ⟨b,1,N⟩),I Q (t:Int),.bool Z,.bool Z,S (O ⟨b,1,N⟩),I Q (t:Int),S (O ⟨U.g,0,N⟩),S (O ⟨U.g,0,N⟩),S (O ⟨U.g,1,N⟩),P (O ⟨U.d,0,N⟩) k.n k.n,I Q (k.n:Int),.bool Z,.bool Z,.bool Z,S (O ⟨U.g,0,N⟩),S (O ⟨U.g,0,N⟩),S (O ⟨U.g,3,N⟩),I Q 0,.bool Z,.bool Z,.bool Z,S (O ⟨b,0,N⟩),I Q kd,.bool Z,.bool Z,K,K,K,K,K,K,K,K,K,.bool Z,K,K,K,K,K,K,K,K,K,K,K,K,K,K,K,K,K,K,K,K,K,K,.bool V,S (O ⟨b,0,N⟩),I Q kd,.bool V,.bool V,S (O ⟨U.g,0,N⟩),S (O ⟨U.g,0,N⟩),S (O ⟨U.g,1,N⟩),P (O ⟨U.d,0,N⟩) k.n k.n,S (O ⟨b,1,N⟩),I Q (t:Int),S (O ⟨U.d,t,N⟩),I Q (r.act t),.bool V,.bool V,S (O ⟨U.g,0,N⟩),S (O ⟨U.g,0,N⟩),S (O ⟨U.g,1,N⟩),P (O ⟨U.d,0,N⟩) k.n k.n,S (O ⟨b,1,N⟩),I Q (t:Int),S (O ⟨U.d,t,N⟩),S (O ⟨U.g,0,N⟩),S (O ⟨b,1,N⟩),I Q (t:Int),.tuple #[],vs 0,vs 1,vs 2,vs 3,vs 4,vs 5,vs 6,vs 7,vs 8,vs 9,vs 10,K,K,K,K,K,K,K,K,K,K,K,K,K,K,K,K,K,K,K,K,K,K,K,K,K,K,K,K,K,K,K,K,K,K,K,K,K,K,K,K,K,K,K,K],defers:=[] }) (qj [(9,fun kk v W=>match kk with | 0=>False | 1=>∃ mv,v=ro mv X.2/\ef .i64 3 W mv X.2.ms | _=>True),(10,fun _ _ _=>True)] [S (O ⟨U.g,0,N⟩),S (O ⟨b,1,N⟩),I Q t,S (O ⟨U.g,0,N⟩),S (O ⟨U.g,0,N⟩),S (O ⟨U.g,0,N⟩),S (O ⟨U2.Y.y,0,N⟩),S (O ⟨b,1,N⟩),I Q t,K,K]) ?ghm ?ghr ?ghc ?ghnd ?ghlit ?gh0 ?ghW ?ghF ?ghS ?gops ?gdone
     case ghm=>kernel_rfl
     case ghr=>kernel_rfl
     case ghc=>kernel_rfl
     case ghnd=>decide
     case ghlit=>intro vs;rfl
     case gh0=>exact R _ _
     case ghW=>exact fun kk W W2 h hb=>match kk,h with
      | 0,h=>Below.trans h (hb.mono (Below.size h))
      | 1,⟨h1,U9,h2,h3⟩=>⟨Bk.within h1 (af hb) (by simp),U9,h2.below hb,h3.grown hb⟩
      | _+2,⟨U9,h2,h3⟩=>⟨U9,h2.below hb,h3.grown hb⟩
     case ghF=>exact fy (by
      intro p0 hp
      simp only[List.mem_cons,List.not_mem_nil,or_false] at hp
      rcases hp with rfl|rfl
      ·exact fun kk v W W2 h hb=>match kk,h with
       | 0,h=>h
       | 1,⟨mv,h1,h2⟩=>⟨mv,h1,h2.within (af hb) (by simp)⟩
       | _+2,_=>trivial
      ·exact fun _ _ _ _ _ _=>trivial)
     case ghS=>exact fun kk W W2 _ _=>g8 (by
      intro p0 hp
      simp only[List.mem_cons,List.not_mem_nil,or_false] at hp
      rcases hp with rfl|rfl
      ·exact fun v h=>match kk,h with
       | 0,h=>h.elim
       | _+1,_=>trivial
      ·exact fun _ _=>trivial)
     case gops=>
      refine⟨?_,?_,?_,?_,?_,?_,?_,?_,?_,?_,?_,trivial⟩
      ·intro vs W kk h1 h2 hW hd
       refine aa rfl ?_
       clear hd
       go_simp
       exact⟨rfl,R _ _⟩
      ·intro vs W kk h1 h2 hW hd
       refine aa rfl ?_
       clear hd
       go_simp
       exact⟨rfl,R _ _⟩
      ·intro vs W kk h1 h2 hW hd
       refine aa rfl ?_
       have e1:vs 1=S (O ⟨b,1,N⟩):=hd 1 (by decide)
       have h2b:kk<=1:=h2
       obtain⟨z0,z1,z2⟩:W.cell? ⟨b,0,N⟩=O (I Q kd)/\W.cell? ⟨b,1,N⟩=O (I Q t)/\W.cell? ⟨b,2,N⟩=O (I Q L):=by
        rcases(show kk=0\/kk=1 by omega) with rfl|rfl
        ·exact(HCE.out W hW).1
        ·have h1b:=hW.1
         exact⟨h1b.cell 0,h1b.cell 1,h1b.cell 2⟩
       clear h2b
       clear hd
       go_simp
       exact⟨rfl,R _ _⟩
      ·intro vs W kk h1 h2 hW hd
       refine aa rfl ?_
       clear hd
       go_simp
       exact⟨rfl,R _ _⟩
      ·intro vs W kk h1 h2 hW hd
       refine aa rfl ?_
       have e3:vs 3=S (O ⟨U.g,0,N⟩):=hd 3 (by decide)
       clear hd
       go_simp
       exact⟨rfl,R _ _⟩
      ·intro vs W kk h1 h2 hW hd
       refine aa rfl ?_
       have e4:vs 4=S (O ⟨U.g,0,N⟩):=hd 4 (by decide)
       clear hd
       go_simp
       exact⟨rfl,R _ _⟩
      ·intro vs W kk h1 h2 hW hd
       obtain rfl:kk=0:=Nat.le_zero.1 h2
       refine aa rfl ?_
       have e5:vs 5=S (O ⟨U.g,0,N⟩):=hd 5 (by decide)
       obtain⟨⟨z0,z1,z2⟩,zc⟩:=HCE.out W hW
       clear hd
       go_simp
       exact⟨rfl,R _ _⟩
      ·intro vs W kk h1 h2 hW hd
       refine aa rfl ?_
       clear hd
       go_simp
       exact⟨rfl,R _ _⟩
      ·intro vs W kk h1 h2 hW hd
       obtain rfl:kk=0:=Nat.le_zero.1 h2
       refine aa rfl ?_
       have e7:vs 7=S (O ⟨b,1,N⟩):=hd 7 (by decide)
       obtain⟨⟨z0,z1,z2⟩,zc⟩:=HCE.out W hW
       clear hd
       go_simp
       exact⟨rfl,R _ _⟩
      ·intro vs W hW hd
       have e6:vs 6=S (O ⟨U2.Y.y,0,N⟩):=hd 6 (by decide)
       have e8:vs 8=I Q t:=hd 8 (by decide)
       refine bh rfl ?_
       have hcb:=HCB.out W hW
       clear hd
       go_simp
       refine hcb.mono ?_
       rintro e W2 ⟨mv,Y9,rfl,hl9,he9,hs9⟩
       obtain⟨hb9,hr9⟩:=HST.out W W2 Y9 hW he9 hs9
       refine⟨_,rfl,?_⟩
       have a1:∃ mv2,ro mv X.2=ro mv2 X.2/\ef .i64 3 W2 mv2 X.2.ms:=⟨mv,rfl,hl9⟩
       have a2:=And.intro hb9 hr9
       exact And.intro a1 a2
      ·intro vs W hW hd
       have e0:vs 0=S (O ⟨U.g,0,N⟩):=hd 0 (by decide)
       have e2:vs 2=I Q t:=hd 2 (by decide)
       obtain⟨hb9,U9,hr9,hu9⟩:=hW
       obtain⟨mv,e9,hl9⟩:=hd 9 (by decide)
       have hca:=HCA.out W U9 mv hr9 hu9 hl9
       refine bh rfl ?_
       clear hd hb9 hr9 hu9 hl9
       go_simp
       refine hca.mono ?_
       rintro e W2 ⟨rfl,hf9⟩
       refine⟨_,rfl,?_⟩
       exact And.intro trivial hf9
     case gdone=>
      intro vs W hW hf
      have hfin:=HFIN.out W hW
      clear hf hW HFIN HCE HCA HST HCB
      go_end0
      exact⟨rfl,hfin⟩
    | false=>
     have q2':(kd != 2)=Z:=by rw[e2k];rfl
     have HOP:Hid (dN k r ⟨kd,t,late⟩=r):=T (by rw[e2k];exact xF (ne_of_beq_false a2))
     clear e1k e2k
     go_upto_region 6 with fail
     go_quiet (fail)
     replace hS:=hS.grown (aj v2 nq)
     replace hR:=hR.below (aj v2 nq)
     replace hB:=Bk.within hB (af (aj v2 nq)) (by simp)
     clear e0 e1 e2 hc1 c3 hx
     generalize v2.drewN nq=v3 at *
     obtain⟨e0,e1,e2⟩:=hB.iS
     have hc1:=hR.c1
     have c3:=hR.c3
     have hx:=hR.act HT.out
     rw[hbad] at c3
     replace c3:v3.cell? ⟨U.g,3,N⟩=O (I Q 0):=c3
     go_upto_region 10 with fail
     go_quiet (fail)
     replace hS:=hS.grown (aj v3 nq)
     replace hR:=hR.below (aj v3 nq)
     replace hB:=Bk.within hB (af (aj v3 nq)) (by simp)
     clear e0 e1 e2 hc1 c3 hx
     generalize v3.drewN nq=v4 at *
     obtain⟨e0,e1,e2⟩:=hB.iS
     have hc1:=hR.c1
     have c3:=hR.c3
     have hx:=hR.act HT.out
     rw[hbad] at c3
     replace c3:v4.cell? ⟨U.g,3,N⟩=O (I Q 0):=c3
     have hfin:=HUZ.out _ (by rw[HOP.out];exact⟨_,hR,hS⟩)
     clear hR hS hB HUZ e0 e1 e2 hc1 c3 hx
     go_wp2
     go_end0
     exact⟨rfl,hfin⟩
   | false=>
    have e2k:kd≠2:=ne_of_beq_false q2
    have q2':(kd != 2)=V:=bne_iff_ne.2 e2k
    go_upto_region 6 with fail
    go_quiet (fail)
    replace hS:=hS.grown (aj v2 nq)
    replace hR:=hR.below (aj v2 nq)
    replace hB:=Bk.within hB (af (aj v2 nq)) (by simp)
    clear e0 e1 e2 hc1 c3 hx
    generalize v2.drewN nq=v3 at *
    obtain⟨e0,e1,e2⟩:=hB.iS
    have hc1:=hR.c1
    have c3:=hR.c3
    have hx:=hR.act HT.out
    rw[hbad] at c3
    replace c3:v3.cell? ⟨U.g,3,N⟩=O (I Q 0):=c3
    cases a1:(r.act t==1) with
    | true=>
     have HOP:Hid (dN k r ⟨kd,t,late⟩=bA { r with m:=(bC k r.m t late).1 } t (bC k r.m t late).2):=T (sW HT.out hbad e1k e2k (.inl (eq_of_beq a1)))
     clear e1k e2k
     go_upto_region 10 with fail
     go_quiet (fail)
     replace hS:=hS.grown (aj v3 nq)
     replace hR:=hR.below (aj v3 nq)
     replace hB:=Bk.within hB (af (aj v3 nq)) (by simp)
     clear e0 e1 e2 hc1 c3 hx
     generalize v3.drewN nq=v4 at *
     obtain⟨e0,e1,e2⟩:=hB.iS
     have hc1:=hR.c1
     have c3:=hR.c3
     have hx:=hR.act HT.out
     rw[hbad] at c3
     replace c3:v4.cell? ⟨U.g,3,N⟩=O (I Q 0):=c3
     go_upto_region 11 with fail
     have hg:U.g=U.g:=hS.2.2.1
     have HCB:Hid (∀ W,Below v4.heap.size v4 W->Calls Tryz.prog 25 #[S (O ⟨U.Y.y,0,N⟩),I Q t,I Q L] W (eF W U.Y k (bC k r.m t late))):=T (fun W hb=>by have h1:=HSK.out W _ _ t L (hR.below hb).ey HT.out;rw[HLt.out] at h1;exact h1)
     have hms:=qN HLK.out (m:=r.m) (t:=t) late
     obtain⟨X,hX⟩:∃ X,X=(bC k r.m t late):=⟨_,rfl⟩
     rw[<-hX] at HCB HOP hms
     clear hX
     have HST:Hid (∀ W W2 Y',Below v4.heap.size v4 W->Ey W2 Y' k X.1->br W k.n U.Y W2 Y'->Bk W2 b 58 #[I Q kd,I Q t,I Q L]/\∃ U',Ru W2 U' k { r with m:=X.1 }/\bi v4 k.n U W2 U'):=T (fun W W2 Y' hb he hs=>by
      have hRW:=hR.below hb
      have hp:=hRW.zo he hs
      have hBW:=Bk.within hB (af hb) (by simp)
      exact⟨Bk.within hBW hs.1 (hRW.ey.iI hBW (by decide) (by decide) (by decide) (by decide) (by decide) (by decide) (by decide) (by decide)),_,hp.1,((bi.refl v4 k.n U).grown hb).aJ hp.2⟩)
     have HCA:Hid (∀ W U' mv,Ru W U' k { r with m:=X.1 }->bi v4 k.n U W U'->ef .i64 3 W mv X.2.ms->Calls Tryz.prog 69 #[S (O ⟨U.g,0,N⟩),I Q t,ro mv X.2] W fun e w'=>e=.returned (.tuple #[])/\vz v4 U k (bA { r with m:=X.1 } t X.2) w'):=T (fun W U' mv hr hs hl=>by
      have hgg:U'.g=U.g:=hs.2.2.1.trans hg
      have hc:=zn hr t HT.out X.2 mv hl hms.1 (by have h1:=hms.2;have h2:=HL.out;simp only;omega)
      rw[hgg] at hc
      exact hc.mono (fun e w' ⟨h1,U'',h2,h3⟩=>⟨h1,U'',h2,hs.aJ h3⟩))
     have HFIN:Hid (∀ W,vz v4 U k (bA { r with m:=X.1 } t X.2) W->vz w U k (dN k r ⟨kd,t,late⟩) W):=T (fun W ⟨U'',h2,h3⟩=>HUZ.out W (by rw[HOP.out];exact⟨U'',h2,hS.aJ h3⟩))
     have HCE:Hid (∀ W,Below v4.heap.size v4 W->(W.cell? ⟨b,0,N⟩=O (I Q kd)/\W.cell? ⟨b,1,N⟩=O (I Q t)/\W.cell? ⟨b,2,N⟩=O (I Q L))/\W.cell? ⟨U.g,0,N⟩=O (S (O ⟨U.Y.y,0,N⟩))):=T (fun W hb=>by
      have hBW:=Bk.within hB (af hb) (by simp)
      have h0:=(hR.below hb).c0
      rw[hg] at h0
      exact⟨⟨hBW.cell 0,hBW.cell 1,hBW.cell 2⟩,h0⟩)
     clear hR hS hB hms HUZ HOP hg hbad
     refine dH [11,12] (fun kk W=>match kk with | 0=>Below v4.heap.size v4 W | 1=>Bk W b 58 #[I Q kd,I Q t,I Q L]/\∃ U',Ru W U' k { r with m:=X.1 }/\bi v4 k.n U W U' | _=>vz v4 U k (bA { r with m:=X.1 } t X.2) W) (fun _ _ _=>True) (fun vs=>{ tmps:=#[S (O ⟨U.g,0,N⟩),.agg #[I Q kd,I Q (t:Int),I Q L],K,S (O ⟨b,0,N⟩),S (O ⟨b,1,N⟩),I Q (t:Int),.bool Z,.bool Z,S (O ⟨b,1,N⟩),I Q (t:Int),S (O ⟨U.g,0,N⟩),S (O ⟨U.g,0,N⟩),S (O ⟨U.g,1,N⟩),P (O ⟨U.d,0,N⟩) k.n k.n,I Q (k.n:Int),.bool Z,.bool Z,.bool Z,S (O ⟨U.g,0,N⟩),S (O ⟨U.g,0,N⟩),S (O ⟨U.g,3,N⟩),I Q 0,.bool Z,.bool Z,.bool Z,S (O ⟨b,0,N⟩),I Q kd,.bool Z,.bool Z,K,K,K,K,K,K,K,K,K,.bool Z,K,K,K,K,K,K,K,K,K,K,K,K,K,K,K,K,K,K,K,K,K,K,.bool Z,S (O ⟨b,0,N⟩),I Q kd,.bool Z,.bool Z,K,K,K,K,K,K,K,K,K,.bool Z,K,K,K,K,K,K,K,K,K,K,K,K,K,K,K,K,K,K,K,K,K,K,.bool V,S (O ⟨b,0,N⟩),I Q kd,.bool V,.bool V,S (O ⟨b,0,N⟩),I Q kd,.bool V,.bool V,.bool V,S (O ⟨U.g,0,N⟩),S (O ⟨U.g,0,N⟩),S (O ⟨U.g,1,N⟩),P (O ⟨U.d,0,N⟩) k.n k.n,S (O ⟨b,1,N⟩),I Q (t:Int),S (O ⟨U.d,t,N⟩),I Q (r.act t),.bool V,.bool V,K,K,K,K,K,K,K,K,K,.bool V,.bool V,vs 0,vs 1,vs 2,vs 3,vs 4,vs 5,vs 6,vs 7,vs 8,vs 9,vs 10,vs 11,vs 12],defers:=[] }) (qj [(11,fun kk v W=>match kk with | 0=>False | 1=>∃ mv,v=ro mv X.2/\ef .i64 3 W mv X.2.ms | _=>True),(12,fun _ _ _=>True)] [S (O ⟨U.g,0,N⟩),S (O ⟨b,1,N⟩),I Q t,S (O ⟨U.g,0,N⟩),S (O ⟨U.g,0,N⟩),S (O ⟨U.g,0,N⟩),S (O ⟨U.Y.y,0,N⟩),S (O ⟨b,1,N⟩),I Q t,S (O ⟨b,2,N⟩),I Q L,K,K]) ?ghm ?ghr ?ghc ?ghnd ?ghlit ?gh0 ?ghW ?ghF ?ghS ?gops ?gdone
     case ghm=>kernel_rfl
     case ghr=>kernel_rfl
     case ghc=>kernel_rfl
     case ghnd=>decide
     case ghlit=>intro vs;rfl
     case gh0=>exact R _ _
     case ghW=>exact fun kk W W2 h hb=>match kk,h with
      | 0,h=>Below.trans h (hb.mono (Below.size h))
      | 1,⟨h1,U9,h2,h3⟩=>⟨Bk.within h1 (af hb) (by simp),U9,h2.below hb,h3.grown hb⟩
      | _+2,⟨U9,h2,h3⟩=>⟨U9,h2.below hb,h3.grown hb⟩
     case ghF=>exact fy (by
      intro p0 hp
      simp only[List.mem_cons,List.not_mem_nil,or_false] at hp
      rcases hp with rfl|rfl
      ·exact fun kk v W W2 h hb=>match kk,h with
       | 0,h=>h
       | 1,⟨mv,h1,h2⟩=>⟨mv,h1,h2.within (af hb) (by simp)⟩
       | _+2,_=>trivial
      ·exact fun _ _ _ _ _ _=>trivial)
     case ghS=>exact fun kk W W2 _ _=>g8 (by
      intro p0 hp
      simp only[List.mem_cons,List.not_mem_nil,or_false] at hp
      rcases hp with rfl|rfl
      ·exact fun v h=>match kk,h with
       | 0,h=>h.elim
       | _+1,_=>trivial
      ·exact fun _ _=>trivial)
     case gops=>
      refine⟨?_,?_,?_,?_,?_,?_,?_,?_,?_,?_,?_,?_,?_,trivial⟩
      ·intro vs W kk h1 h2 hW hd
       refine aa rfl ?_
       clear hd
       go_simp
       exact⟨rfl,R _ _⟩
      ·intro vs W kk h1 h2 hW hd
       refine aa rfl ?_
       clear hd
       go_simp
       exact⟨rfl,R _ _⟩
      ·intro vs W kk h1 h2 hW hd
       refine aa rfl ?_
       have e1:vs 1=S (O ⟨b,1,N⟩):=hd 1 (by decide)
       have h2b:kk<=1:=h2
       obtain⟨z0,z1,z2⟩:W.cell? ⟨b,0,N⟩=O (I Q kd)/\W.cell? ⟨b,1,N⟩=O (I Q t)/\W.cell? ⟨b,2,N⟩=O (I Q L):=by
        rcases(show kk=0\/kk=1 by omega) with rfl|rfl
        ·exact(HCE.out W hW).1
        ·have h1b:=hW.1
         exact⟨h1b.cell 0,h1b.cell 1,h1b.cell 2⟩
       clear h2b
       clear hd
       go_simp
       exact⟨rfl,R _ _⟩
      ·intro vs W kk h1 h2 hW hd
       refine aa rfl ?_
       clear hd
       go_simp
       exact⟨rfl,R _ _⟩
      ·intro vs W kk h1 h2 hW hd
       refine aa rfl ?_
       have e3:vs 3=S (O ⟨U.g,0,N⟩):=hd 3 (by decide)
       clear hd
       go_simp
       exact⟨rfl,R _ _⟩
      ·intro vs W kk h1 h2 hW hd
       refine aa rfl ?_
       have e4:vs 4=S (O ⟨U.g,0,N⟩):=hd 4 (by decide)
       clear hd
       go_simp
       exact⟨rfl,R _ _⟩
      ·intro vs W kk h1 h2 hW hd
       obtain rfl:kk=0:=Nat.le_zero.1 h2
       refine aa rfl ?_
       have e5:vs 5=S (O ⟨U.g,0,N⟩):=hd 5 (by decide)
       obtain⟨⟨z0,z1,z2⟩,zc⟩:=HCE.out W hW
       clear hd
       go_simp
       exact⟨rfl,R _ _⟩
      ·intro vs W kk h1 h2 hW hd
       refine aa rfl ?_
       clear hd
       go_simp
       exact⟨rfl,R _ _⟩
      ·intro vs W kk h1 h2 hW hd
       obtain rfl:kk=0:=Nat.le_zero.1 h2
       refine aa rfl ?_
       have e7:vs 7=S (O ⟨b,1,N⟩):=hd 7 (by decide)
       obtain⟨⟨z0,z1,z2⟩,zc⟩:=HCE.out W hW
       clear hd
       go_simp
       exact⟨rfl,R _ _⟩
      ·intro vs W kk h1 h2 hW hd
       refine aa rfl ?_
       clear hd
       go_simp
       exact⟨rfl,R _ _⟩
      ·intro vs W kk h1 h2 hW hd
       obtain rfl:kk=0:=Nat.le_zero.1 h2
       refine aa rfl ?_
       have e9:vs 9=S (O ⟨b,2,N⟩):=hd 9 (by decide)
       obtain⟨⟨z0,z1,z2⟩,zc⟩:=HCE.out W hW
       clear hd
       go_simp
       exact⟨rfl,R _ _⟩
      ·intro vs W hW hd
       have e6:vs 6=S (O ⟨U.Y.y,0,N⟩):=hd 6 (by decide)
       have e8:vs 8=I Q t:=hd 8 (by decide)
       have e10:vs 10=I Q L:=hd 10 (by decide)
       refine bh rfl ?_
       have hcb:=HCB.out W hW
       clear hd
       go_simp
       refine hcb.mono ?_
       rintro e W2 ⟨mv,Y9,rfl,hl9,he9,hs9⟩
       obtain⟨hb9,hr9⟩:=HST.out W W2 Y9 hW he9 hs9
       refine⟨_,rfl,?_⟩
       have a1:∃ mv2,ro mv X.2=ro mv2 X.2/\ef .i64 3 W2 mv2 X.2.ms:=⟨mv,rfl,hl9⟩
       have a2:=And.intro hb9 hr9
       exact And.intro a1 a2
      ·intro vs W hW hd
       have e0:vs 0=S (O ⟨U.g,0,N⟩):=hd 0 (by decide)
       have e2:vs 2=I Q t:=hd 2 (by decide)
       obtain⟨hb9,U9,hr9,hu9⟩:=hW
       obtain⟨mv,e11,hl9⟩:=hd 11 (by decide)
       have hca:=HCA.out W U9 mv hr9 hu9 hl9
       refine bh rfl ?_
       clear hd hb9 hr9 hu9 hl9
       go_simp
       refine hca.mono ?_
       rintro e W2 ⟨rfl,hf9⟩
       refine⟨_,rfl,?_⟩
       exact And.intro trivial hf9
     case gdone=>
      intro vs W hW hf
      have hfin:=HFIN.out W hW
      clear hf hW HFIN HCE HCA HST HCB
      go_end0
      exact⟨rfl,hfin⟩
    | false=>
     cases a3:(r.act t==3) with
     | true=>
      have HOP:Hid (dN k r ⟨kd,t,late⟩=bA { r with m:=(bC k r.m t late).1 } t (bC k r.m t late).2):=T (sW HT.out hbad e1k e2k (.inr (eq_of_beq a3)))
      clear e1k e2k
      go_upto_region 10 with fail
      go_quiet (fail)
      replace hS:=hS.grown (aj v3 nq)
      replace hR:=hR.below (aj v3 nq)
      replace hB:=Bk.within hB (af (aj v3 nq)) (by simp)
      clear e0 e1 e2 hc1 c3 hx
      generalize v3.drewN nq=v4 at *
      obtain⟨e0,e1,e2⟩:=hB.iS
      have hc1:=hR.c1
      have c3:=hR.c3
      have hx:=hR.act HT.out
      rw[hbad] at c3
      replace c3:v4.cell? ⟨U.g,3,N⟩=O (I Q 0):=c3
      go_upto_region 11 with fail
      have hg:U.g=U.g:=hS.2.2.1
      have HCB:Hid (∀ W,Below v4.heap.size v4 W->Calls Tryz.prog 25 #[S (O ⟨U.Y.y,0,N⟩),I Q t,I Q L] W (eF W U.Y k (bC k r.m t late))):=T (fun W hb=>by have h1:=HSK.out W _ _ t L (hR.below hb).ey HT.out;rw[HLt.out] at h1;exact h1)
      have hms:=qN HLK.out (m:=r.m) (t:=t) late
      obtain⟨X,hX⟩:∃ X,X=(bC k r.m t late):=⟨_,rfl⟩
      rw[<-hX] at HCB HOP hms
      clear hX
      have HST:Hid (∀ W W2 Y',Below v4.heap.size v4 W->Ey W2 Y' k X.1->br W k.n U.Y W2 Y'->Bk W2 b 58 #[I Q kd,I Q t,I Q L]/\∃ U',Ru W2 U' k { r with m:=X.1 }/\bi v4 k.n U W2 U'):=T (fun W W2 Y' hb he hs=>by
       have hRW:=hR.below hb
       have hp:=hRW.zo he hs
       have hBW:=Bk.within hB (af hb) (by simp)
       exact⟨Bk.within hBW hs.1 (hRW.ey.iI hBW (by decide) (by decide) (by decide) (by decide) (by decide) (by decide) (by decide) (by decide)),_,hp.1,((bi.refl v4 k.n U).grown hb).aJ hp.2⟩)
      have HCA:Hid (∀ W U' mv,Ru W U' k { r with m:=X.1 }->bi v4 k.n U W U'->ef .i64 3 W mv X.2.ms->Calls Tryz.prog 69 #[S (O ⟨U.g,0,N⟩),I Q t,ro mv X.2] W fun e w'=>e=.returned (.tuple #[])/\vz v4 U k (bA { r with m:=X.1 } t X.2) w'):=T (fun W U' mv hr hs hl=>by
       have hgg:U'.g=U.g:=hs.2.2.1.trans hg
       have hc:=zn hr t HT.out X.2 mv hl hms.1 (by have h1:=hms.2;have h2:=HL.out;simp only;omega)
       rw[hgg] at hc
       exact hc.mono (fun e w' ⟨h1,U'',h2,h3⟩=>⟨h1,U'',h2,hs.aJ h3⟩))
      have HFIN:Hid (∀ W,vz v4 U k (bA { r with m:=X.1 } t X.2) W->vz w U k (dN k r ⟨kd,t,late⟩) W):=T (fun W ⟨U'',h2,h3⟩=>HUZ.out W (by rw[HOP.out];exact⟨U'',h2,hS.aJ h3⟩))
      have HCE:Hid (∀ W,Below v4.heap.size v4 W->(W.cell? ⟨b,0,N⟩=O (I Q kd)/\W.cell? ⟨b,1,N⟩=O (I Q t)/\W.cell? ⟨b,2,N⟩=O (I Q L))/\W.cell? ⟨U.g,0,N⟩=O (S (O ⟨U.Y.y,0,N⟩))):=T (fun W hb=>by
       have hBW:=Bk.within hB (af hb) (by simp)
       have h0:=(hR.below hb).c0
       rw[hg] at h0
       exact⟨⟨hBW.cell 0,hBW.cell 1,hBW.cell 2⟩,h0⟩)
      clear hR hS hB hms HUZ HOP hg hbad
      refine dH [11,12] (fun kk W=>match kk with | 0=>Below v4.heap.size v4 W | 1=>Bk W b 58 #[I Q kd,I Q t,I Q L]/\∃ U',Ru W U' k { r with m:=X.1 }/\bi v4 k.n U W U' | _=>vz v4 U k (bA { r with m:=X.1 } t X.2) W) (fun _ _ _=>True) (fun vs=>{ tmps:=#[S (O ⟨U.g,0,N⟩),.agg #[I Q kd,I Q (t:Int),I Q L],K,S (O ⟨b,0,N⟩),S (O ⟨b,1,N⟩),I Q (t:Int),.bool Z,.bool Z,S (O ⟨b,1,N⟩),I Q (t:Int),S (O ⟨U.g,0,N⟩),S (O ⟨U.g,0,N⟩),S (O ⟨U.g,1,N⟩),P (O ⟨U.d,0,N⟩) k.n k.n,I Q (k.n:Int),.bool Z,.bool Z,.bool Z,S (O ⟨U.g,0,N⟩),S (O ⟨U.g,0,N⟩),S (O ⟨U.g,3,N⟩),I Q 0,.bool Z,.bool Z,.bool Z,S (O ⟨b,0,N⟩),I Q kd,.bool Z,.bool Z,K,K,K,K,K,K,K,K,K,.bool Z,K,K,K,K,K,K,K,K,K,K,K,K,K,K,K,K,K,K,K,K,K,K,.bool Z,S (O ⟨b,0,N⟩),I Q kd,.bool Z,.bool Z,K,K,K,K,K,K,K,K,K,.bool Z,K,K,K,K,K,K,K,K,K,K,K,K,K,K,K,K,K,K,K,K,K,K,.bool V,S (O ⟨b,0,N⟩),I Q kd,.bool V,.bool V,S (O ⟨b,0,N⟩),I Q kd,.bool V,.bool V,.bool V,S (O ⟨U.g,0,N⟩),S (O ⟨U.g,0,N⟩),S (O ⟨U.g,1,N⟩),P (O ⟨U.d,0,N⟩) k.n k.n,S (O ⟨b,1,N⟩),I Q (t:Int),S (O ⟨U.d,t,N⟩),I Q (r.act t),.bool Z,.bool Z,S (O ⟨U.g,0,N⟩),S (O ⟨U.g,0,N⟩),S (O ⟨U.g,1,N⟩),P (O ⟨U.d,0,N⟩) k.n k.n,S (O ⟨b,1,N⟩),I Q (t:Int),S (O ⟨U.d,t,N⟩),I Q (r.act t),.bool V,.bool V,.bool V,vs 0,vs 1,vs 2,vs 3,vs 4,vs 5,vs 6,vs 7,vs 8,vs 9,vs 10,vs 11,vs 12],defers:=[] }) (qj [(11,fun kk v W=>match kk with | 0=>False | 1=>∃ mv,v=ro mv X.2/\ef .i64 3 W mv X.2.ms | _=>True),(12,fun _ _ _=>True)] [S (O ⟨U.g,0,N⟩),S (O ⟨b,1,N⟩),I Q t,S (O ⟨U.g,0,N⟩),S (O ⟨U.g,0,N⟩),S (O ⟨U.g,0,N⟩),S (O ⟨U.Y.y,0,N⟩),S (O ⟨b,1,N⟩),I Q t,S (O ⟨b,2,N⟩),I Q L,K,K]) ?ghm ?ghr ?ghc ?ghnd ?ghlit ?gh0 ?ghW ?ghF ?ghS ?gops ?gdone
      case ghm=>kernel_rfl
      case ghr=>kernel_rfl
      case ghc=>kernel_rfl
      case ghnd=>decide
      case ghlit=>intro vs;rfl
      case gh0=>exact R _ _
      case ghW=>exact fun kk W W2 h hb=>match kk,h with
       | 0,h=>Below.trans h (hb.mono (Below.size h))
       | 1,⟨h1,U9,h2,h3⟩=>⟨Bk.within h1 (af hb) (by simp),U9,h2.below hb,h3.grown hb⟩
       | _+2,⟨U9,h2,h3⟩=>⟨U9,h2.below hb,h3.grown hb⟩
      case ghF=>exact fy (by
       intro p0 hp
       simp only[List.mem_cons,List.not_mem_nil,or_false] at hp
       rcases hp with rfl|rfl
       ·exact fun kk v W W2 h hb=>match kk,h with
        | 0,h=>h
        | 1,⟨mv,h1,h2⟩=>⟨mv,h1,h2.within (af hb) (by simp)⟩
        | _+2,_=>trivial
       ·exact fun _ _ _ _ _ _=>trivial)
      case ghS=>exact fun kk W W2 _ _=>g8 (by
       intro p0 hp
       simp only[List.mem_cons,List.not_mem_nil,or_false] at hp
       rcases hp with rfl|rfl
       ·exact fun v h=>match kk,h with
        | 0,h=>h.elim
        | _+1,_=>trivial
       ·exact fun _ _=>trivial)
      case gops=>
       refine⟨?_,?_,?_,?_,?_,?_,?_,?_,?_,?_,?_,?_,?_,trivial⟩
       ·intro vs W kk h1 h2 hW hd
        refine aa rfl ?_
        clear hd
        go_simp
        exact⟨rfl,R _ _⟩
       ·intro vs W kk h1 h2 hW hd
        refine aa rfl ?_
        clear hd
        go_simp
        exact⟨rfl,R _ _⟩
       ·intro vs W kk h1 h2 hW hd
        refine aa rfl ?_
        have e1:vs 1=S (O ⟨b,1,N⟩):=hd 1 (by decide)
        have h2b:kk<=1:=h2
        obtain⟨z0,z1,z2⟩:W.cell? ⟨b,0,N⟩=O (I Q kd)/\W.cell? ⟨b,1,N⟩=O (I Q t)/\W.cell? ⟨b,2,N⟩=O (I Q L):=by
         rcases(show kk=0\/kk=1 by omega) with rfl|rfl
         ·exact(HCE.out W hW).1
         ·have h1b:=hW.1
          exact⟨h1b.cell 0,h1b.cell 1,h1b.cell 2⟩
        clear h2b
        clear hd
        go_simp
        exact⟨rfl,R _ _⟩
       ·intro vs W kk h1 h2 hW hd
        refine aa rfl ?_
        clear hd
        go_simp
        exact⟨rfl,R _ _⟩
       ·intro vs W kk h1 h2 hW hd
        refine aa rfl ?_
        have e3:vs 3=S (O ⟨U.g,0,N⟩):=hd 3 (by decide)
        clear hd
        go_simp
        exact⟨rfl,R _ _⟩
       ·intro vs W kk h1 h2 hW hd
        refine aa rfl ?_
        have e4:vs 4=S (O ⟨U.g,0,N⟩):=hd 4 (by decide)
        clear hd
        go_simp
        exact⟨rfl,R _ _⟩
       ·intro vs W kk h1 h2 hW hd
        obtain rfl:kk=0:=Nat.le_zero.1 h2
        refine aa rfl ?_
        have e5:vs 5=S (O ⟨U.g,0,N⟩):=hd 5 (by decide)
        obtain⟨⟨z0,z1,z2⟩,zc⟩:=HCE.out W hW
        clear hd
        go_simp
        exact⟨rfl,R _ _⟩
       ·intro vs W kk h1 h2 hW hd
        refine aa rfl ?_
        clear hd
        go_simp
        exact⟨rfl,R _ _⟩
       ·intro vs W kk h1 h2 hW hd
        obtain rfl:kk=0:=Nat.le_zero.1 h2
        refine aa rfl ?_
        have e7:vs 7=S (O ⟨b,1,N⟩):=hd 7 (by decide)
        obtain⟨⟨z0,z1,z2⟩,zc⟩:=HCE.out W hW
        clear hd
        go_simp
        exact⟨rfl,R _ _⟩
       ·intro vs W kk h1 h2 hW hd
        refine aa rfl ?_
        clear hd
        go_simp
        exact⟨rfl,R _ _⟩
       ·intro vs W kk h1 h2 hW hd
        obtain rfl:kk=0:=Nat.le_zero.1 h2
        refine aa rfl ?_
        have e9:vs 9=S (O ⟨b,2,N⟩):=hd 9 (by decide)
        obtain⟨⟨z0,z1,z2⟩,zc⟩:=HCE.out W hW
        clear hd
        go_simp
        exact⟨rfl,R _ _⟩
       ·intro vs W hW hd
        have e6:vs 6=S (O ⟨U.Y.y,0,N⟩):=hd 6 (by decide)
        have e8:vs 8=I Q t:=hd 8 (by decide)
        have e10:vs 10=I Q L:=hd 10 (by decide)
        refine bh rfl ?_
        have hcb:=HCB.out W hW
        clear hd
        go_simp
        refine hcb.mono ?_
        rintro e W2 ⟨mv,Y9,rfl,hl9,he9,hs9⟩
        obtain⟨hb9,hr9⟩:=HST.out W W2 Y9 hW he9 hs9
        refine⟨_,rfl,?_⟩
        have a1:∃ mv2,ro mv X.2=ro mv2 X.2/\ef .i64 3 W2 mv2 X.2.ms:=⟨mv,rfl,hl9⟩
        have a2:=And.intro hb9 hr9
        exact And.intro a1 a2
       ·intro vs W hW hd
        have e0:vs 0=S (O ⟨U.g,0,N⟩):=hd 0 (by decide)
        have e2:vs 2=I Q t:=hd 2 (by decide)
        obtain⟨hb9,U9,hr9,hu9⟩:=hW
        obtain⟨mv,e11,hl9⟩:=hd 11 (by decide)
        have hca:=HCA.out W U9 mv hr9 hu9 hl9
        refine bh rfl ?_
        clear hd hb9 hr9 hu9 hl9
        go_simp
        refine hca.mono ?_
        rintro e W2 ⟨rfl,hf9⟩
        refine⟨_,rfl,?_⟩
        exact And.intro trivial hf9
      case gdone=>
       intro vs W hW hf
       have hfin:=HFIN.out W hW
       clear hf hW HFIN HCE HCA HST HCB
       go_end0
       exact⟨rfl,hfin⟩
     | false=>
      have HOP:Hid (dN k r ⟨kd,t,late⟩=r):=T (xD e1k e2k (ne_of_beq_false a1) (ne_of_beq_false a3))
      clear e1k e2k
      go_upto_region 10 with fail
      go_quiet (fail)
      replace hS:=hS.grown (aj v3 nq)
      replace hR:=hR.below (aj v3 nq)
      replace hB:=Bk.within hB (af (aj v3 nq)) (by simp)
      clear e0 e1 e2 hc1 c3 hx
      generalize v3.drewN nq=v4 at *
      obtain⟨e0,e1,e2⟩:=hB.iS
      have hc1:=hR.c1
      have c3:=hR.c3
      have hx:=hR.act HT.out
      rw[hbad] at c3
      replace c3:v4.cell? ⟨U.g,3,N⟩=O (I Q 0):=c3
      have hfin:=HUZ.out _ (by rw[HOP.out];exact⟨_,hR,hS⟩)
      clear hR hS hB HUZ e0 e1 e2 hc1 c3 hx
      go_wp2
      go_end0
      exact⟨rfl,hfin⟩
end
