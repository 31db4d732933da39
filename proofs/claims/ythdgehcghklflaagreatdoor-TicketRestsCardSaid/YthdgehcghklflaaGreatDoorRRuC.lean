import Derived.Test.YthdgehcghklflaaGreatDoorRAsmD
import Derived.Deep.DeepCutAuto
import Derived.Deep.CutBlock
set_option linter.unusedVariables false
set_option maxHeartbeats 4000000
set_option maxRecDepth 100000
open Go.Value renaming int->I,slice->V
open Go.IntKind renaming i64->Q
open Option renaming none->N,some->O
open Bool renaming false->Z
open Go.Lib renaming hid->P
namespace Go.Proofs.YthdgehcghklflaaGreatDoor
open Go.ChangeShapes Go.WideShapes Go.ChangeAt Go.RowKit
def Ob (w:World)(b:Nat)(v:Value)(o:Ot):Prop:=Bk w b 67 #[v,I Q o.done,I Q o.addr,I Q (aH o.wrote),I Q (aH o.stay),I Q o.e]
def fC (t:Nat)(ms:List Int):List En:=ms.map fun k=>⟨ik k,(t:Int),0⟩
theorem qD (t:Nat)(ms:List Int)(j:Nat)(h:j<ms.length):fC t (ms.take (j+1))=fC t (ms.take j)++[⟨ik (aG ms j),(t:Int),0⟩]:=by
 unfold fC
 rw[py ms j h,List.map_append,pX h];rfl
theorem sV (r:Rn)(t:Nat)(ms:List Int):{ r with l:=r.l++fC t (ms.take ms.length) }=eJ r t ms:=by
 unfold eJ fC;rw[List.take_length]
theorem Br (x y a b:Int):((x=a)↔(y=b))↔((x==a) != (y==b))=Z:=by
 cases h1:(x==a) with
 | true=>
  have e1:=eq_of_beq h1
  cases h2:(y==b) with
  | true=>have e2:=eq_of_beq h2;exact⟨fun _=>rfl,fun _=>⟨fun _=>e2,fun _=>e1⟩⟩
  | false=>have e2:=ne_of_beq_false h2;exact⟨fun h=>absurd (h.1 e1) e2,fun h=>by cases h⟩
 | false=>
  have e1:=ne_of_beq_false h1
  cases h2:(y==b) with
  | true=>have e2:=eq_of_beq h2;exact⟨fun h=>absurd (h.2 e2) e1,fun h=>by cases h⟩
  | false=>have e2:=ne_of_beq_false h2;exact⟨fun _=>rfl,fun _=>⟨fun h=>absurd h e1,fun h=>absurd h e2⟩⟩
theorem AX (x:Int)(h0:0<=x)(h5:x<5):∀ W:World,Sem.run Tryz.prog (Instr.index 211 (.agg #[I Q 0,I Q 2,I Q 3,I Q 4,I Q 9]) (I Q x)) W=.ok (I Q (ik x)) W:=by
 intro W
 have hx:x=0\/x=1\/x=2\/x=3\/x=4:=by omega
 rcases hx with rfl|rfl|rfl|rfl|rfl <;> rfl
section
variable {w:World}{U:RP}{k:Lk}{r:Rn}
theorem xi (h:Ru w U k r)(t:Nat)(ht:t<k.n)(o:Ot)(mv:Value)(hm:dQ .i64 3 w mv o.ms)(hmk:∀ x∈o.ms,0<=x/\x<5)(hl:r.l.length+o.ms.length+1<1000000000):
 Calls Tryz.prog 68 #[.pointer (O ⟨U.g,0,N⟩),I Q t,qj mv o] w fun e w'=>e=.returned (.tuple #[])/\tM w U k (bm r t o) w':=by
 have hbz:Below w.heap.size w (w.alloc (.cells #[mv,I Q o.done,I Q o.addr,I Q (aH o.wrote),I Q (aH o.stay),I Q o.e] 67)):=(Below.refl _ _).alloc (Nat.le_refl _) _
 have hOb:Ob (w.alloc (.cells #[mv,I Q o.done,I Q o.addr,I Q (aH o.wrote),I Q (aH o.stay),I Q o.e] 67)) w.heap.size mv o:=Bk.made _ _ _
 have hz:=h.below hbz
 have hmz:=hm.within (af hbz) (fun _ _ h=>h)
 have HUZ:Hid (∀ u,tM (w.alloc (.cells #[mv,I Q o.done,I Q o.addr,I Q (aH o.wrote),I Q (aH o.stay),I Q o.e] 67)) U k (bm r t o) u->tM w U k (bm r t o) u):=P (fun u ⟨U',h1,h2⟩=>⟨U',h1,((bd.refl w k.n U).grown hbz).aO h2⟩)
 have HCR:Hid (bm r t o=(let r:=eJ r t o.ms
  if o.e≠0\/(0<=o.done/\¬ ((o.done=2)↔(r.act t=3))) then { r with bad:=true }
  else if o.done=0 then { enter r 6 t with act:=cb r.act t 0 }
  else if o.done=1 then { enter r 5 t with act:=cb r.act t 2 }
  else if o.done=2 then { enter r 10 t with act:=cb r.act t 0 }
  else if o.done=3 then { enter r 7 t with act:=cb r.act t 0 }
  else r)):=P rfl
 generalize bm r t o=CR at *
 have HMK:=P hmk
 have HNx:=P (fun j h=>qD t o.ms j h)
 have HAll:=P (sV r t o.ms)
 have HL:=P hl
 have HT:=P ht
 unfold qj
 obtain⟨am,cm,rfl,hm1,hm2,_⟩:=hm.is
 obtain⟨ms,dn,ad,wr_,sy,er⟩:=o
 simp only at *
 clear h hmk hm hl
 go_enter Tryz.func68,Tryz.ntmps68
 go_upto_region 1 with fail
 have hbl:w.heap.size<(w.alloc (.cells #[V am ms.length cm,I Q dn,I Q ad,I Q (aH wr_),I Q (aH sy),I Q er] 67)).heap.size:=Bk.lt hOb
 generalize w.alloc (.cells #[V am ms.length cm,I Q dn,I Q ad,I Q (aH wr_),I Q (aH sy),I Q er] 67)=z at *
 generalize w.heap.size=b at *
 simp only[maxLen] at hm2
 have HZ:=P hz
 have HM:=P hmz
 have HB:=P hOb
 obtain⟨e0,e1,e5⟩:z.cell? ⟨b,0,N⟩=O (V am ms.length cm)/\z.cell? ⟨b,1,N⟩=O (I Q dn)/\z.cell? ⟨b,5,N⟩=O (I Q er):=⟨hOb.cell 0,hOb.cell 1,hOb.cell 5⟩
 clear hz hmz hOb hbz
 go_wp2
 go_loopw [11] (fun x wr=>∃ (j:Nat) (U':RP),x=I Q j/\j<=ms.length/\Hid (Ru wr U' k { r with l:=r.l++fC t (ms.take j) }/\bd z k.n U wr U')/\Hid (dQ .i64 3 wr (V am ms.length cm) ms)/\Hid (Ob wr b (V am ms.length cm) ⟨ms,dn,ad,wr_,sy,er⟩)) (fun x _=>ms.length-(intOf x).toNat)
 case atStart=>exact⟨0,U,rfl,Nat.zero_le _,P ⟨by have:=HZ.out;simpa [fC] using this,bd.refl _ _ _⟩,HM,HB⟩
 case round=>
  obtain⟨j,U',rfl,hj,HR,HMr,HBr⟩:=hrel
  obtain⟨hRu,hSt⟩:=HR.out
  have hg:U'.g=U.g:=hSt.2.2.1
  have hd:U'.d=U.d:=hSt.2.2.2
  by_cases hlt:j<ms.length
  ·have hji:(j:Int)<ms.length:=by omega
   obtain⟨am2,cm2,hme,_,_,hmc⟩:=HMr.out.is
   obtain⟨gm,hgm,_,_,hcm⟩:=hmc (by omega)
   injection hme with hm1 hm2' hm3
   subst hm1
   subst hm3
   subst hgm
   have cx:=hcm j hlt
   have hx5:=HMK.out (aG ms j) (by rw[pX hlt];exact List.getElem_mem hlt)
   have hN:=HNx.out j hlt
   have hlen:(fC t (ms.take j)).length<=ms.length:=by unfold fC;rw[List.length_map,List.length_take];omega
   have HEn:=P (ji hRu (ik (aG ms j)) t (by have:=HL.out;simp only[List.length_append] at this ⊢;omega))
   rw[hg] at HEn
   have HNx2:Hid (∀ w' U2,Dm wr U' k { r with l:=(r.l++fC t (ms.take j))++[⟨ik (aG ms j),(t:Int),0⟩] } w' U2->(Ru w' U2 k { r with l:=r.l++fC t (ms.take (j+1)) }/\bd z k.n U w' U2)/\dQ .i64 3 w' (V (O ⟨gm,0,N⟩) ms.length cm) ms/\Ob w' b (V (O ⟨gm,0,N⟩) ms.length cm) ⟨ms,dn,ad,wr_,sy,er⟩):=P (fun w' U2 hE=>by
    have hru:=hE.ru
    rw[List.append_assoc,<-hN] at hru
    refine⟨⟨hru,hSt.aO hE.st⟩,HMr.out.within hE.few (fun g e e2=>?_),Bk.within HBr.out hE.few (fun e2=>?_)⟩
    ·obtain⟨cs,hb⟩:=HMr.out.bk e
     rcases e2 with e2 | e2
     ·exact Bk.av hb hRu.ptr (by decide) e2
     ·obtain⟨B7,hb2⟩:=aT hRu.jl e2
      exact Bk.av hb hb2 (by decide) rfl
    ·rcases e2 with e2 | e2
     ·exact Bk.av HBr.out hRu.ptr (by decide) e2
     ·obtain⟨B7,hb2⟩:=aT hRu.jl e2
      exact Bk.av HBr.out hb2 (by decide) rfl)
   generalize hy:aG ms j=y at *
   have hix:=AX y hx5.1 hx5.2
   clear hcm hmc hx5 hN hRu hSt HR HMr HBr hy
   go_wp2_with fail
   refine HEn.out.mono ?_
   rintro e w' ⟨rfl,U2,hE⟩
   obtain⟨n1,n2,n3⟩:=HNx2.out w' U2 hE
   have N1:=P n1
   have N2:=P n2
   have N3:=P n3
   clear hE n1 n2 n3 HEn HNx2 hix cx
   go_wp2
   go_roundw
   case rel=>exact⟨j+1,U2,by go_num,by omega,N1,N2,N3⟩
   case measure=>simp[intOf];omega
  ·obtain rfl:j=ms.length:=by omega
   have hfe:({ r with l:=r.l++fC t (ms.take ms.length) }:Rn)=eJ r t ms:=HAll.out
   rw[hfe] at hRu
   have HLen:Hid ((eJ r t ms).l.length=r.l.length+ms.length):=P (by unfold eJ;simp)
   have e1r:wr.cell? ⟨b,1,N⟩=O (I Q dn):=Bk.cell HBr.out 1
   have e5r:wr.cell? ⟨b,5,N⟩=O (I Q er):=Bk.cell HBr.out 5
   have hc1:=hRu.c1
   have hx:=hRu.act HT.out
   rw[hg,hd] at hc1
   rw[hd] at hx
   have hax:(eJ r t ms).act t=r.act t:=rfl
   rw[hax] at hx
   have hti:(t:Int)<(k.n:Int):=by have:=HT.out;omega
   have HC:=HCR.out
   generalize eJ r t ms=rm at *
   rw[hax] at HC
   clear HR HMr HBr HNx HAll HMK hfe hax HCR
   by_cases h0:er=0
   ·have d0:(er != 0)=Z:=by simpa using h0
    by_cases h1:0<=dn
    ·have d1:decide (dn>=0)=true:=decide_eq_true h1
     have d1':decide (0<=dn)=true:=decide_eq_true h1
     have hiff:=Br dn (r.act t) 2 3
     cases hb2:(dn==2) with
     | true=>
      cases hb3:(r.act t==3) with
      | true=>
       have k2:dn=2:=eq_of_beq hb2
       rw[hb2,hb3] at hiff
       have hcond:¬ (er≠0\/(0<=dn/\¬ ((dn=2)↔(r.act t=3)))):=fun e=>e.elim (fun e=>e h0) (fun e=>e.2 (hiff.2 rfl))
       rw[if_neg hcond,if_neg (by omega),if_neg (by omega),if_pos k2] at HC
       have HOK:Hid (CR={ enter rm 10 t with act:=cb rm.act t 0 }):=P HC
       have q0:(dn==0)=Z:=beq_eq_false_iff_ne.2 (by omega)
       have q1:(dn==1)=Z:=beq_eq_false_iff_ne.2 (by omega)
       clear HC hiff hcond k2
       go_upto_region 6 with fail
       go_quiet (fail)
       have h7:=hRu.below (ah wr nq)
       have hs7:=hSt.grown (ah wr nq)
       have e1q:(wr.drewN nq).cell? ⟨b,1,N⟩=O (I Q dn):=e1r
       generalize wr.drewN nq=v at *
       have HEn:=P (ji h7 10 t (by have:=HL.out;have:=HLen.out;omega))
       rw[hg] at HEn
       go_wp2_with fail
       refine HEn.out.mono ?_
       rintro e v2 ⟨rfl,U2,hE⟩
       have hru2:=hE.ru
       have hst2:=hs7.aO hE.st
       have hg2:U2.g=U.g:=hE.st.2.2.1.trans hg
       have hd2:U2.d=U.d:=hE.st.2.2.2.trans hd
       have hput:=hru2.kR HT.out 0
       have hx:=hru2.act HT.out
       have hx2:=hru2.acts.free t
       have hc1:=hru2.c1
       rw[hg2,hd2] at hc1
       rw[hd2] at hx hx2 hput
       have hfin:=HUZ.out _ (by rw[HOK.out];exact⟨_,hput.1,hst2.aO hput.2⟩)
       simp only at hx
       generalize rm.act t=at_ at hx
       clear hput hru2 hst2 hE HEn h7 hs7 HUZ hRu hSt HOK
       go_wp2
       go_end0
       exact⟨rfl,hfin⟩
      | false=>
       rw[hb2,hb3] at hiff
       have HBAD:Hid (CR={ rm with bad:=true }):=P (by rw[HC,if_pos (.inr ⟨h1,fun e=>by cases hiff.1 e⟩)])
       clear HC hiff
       go_upto_region 6 with fail
       go_quiet (fail)
       have h7:=hRu.below (ah wr nq)
       have hs7:=hSt.grown (ah wr nq)
       have e1q:(wr.drewN nq).cell? ⟨b,1,N⟩=O (I Q dn):=e1r
       generalize wr.drewN nq=v at *
       obtain⟨hp1,hp2⟩:=h7.tS
       have c3:=h7.c3
       have f3:=h7.ptr.free 3
       rw[hg] at c3 f3 hp1 hp2
       have hfin:=HUZ.out _ (by rw[HBAD.out];exact⟨_,hp1,hs7.aO hp2⟩)
       clear hp1 hp2 h7 hs7 HUZ HBAD hRu hSt
       go_wp2
       refine bodyPost_ret (results_none rfl _ _ _) rfl ?_
       exact⟨rfl,hfin⟩
     | false=>
      have k2:dn≠2:=ne_of_beq_false hb2
      cases hb3:(r.act t==3) with
      | true=>
       rw[hb2,hb3] at hiff
       have HBAD:Hid (CR={ rm with bad:=true }):=P (by rw[HC,if_pos (.inr ⟨h1,fun e=>by cases hiff.1 e⟩)])
       clear HC hiff k2
       go_upto_region 6 with fail
       go_quiet (fail)
       have h7:=hRu.below (ah wr nq)
       have hs7:=hSt.grown (ah wr nq)
       have e1q:(wr.drewN nq).cell? ⟨b,1,N⟩=O (I Q dn):=e1r
       generalize wr.drewN nq=v at *
       obtain⟨hp1,hp2⟩:=h7.tS
       have c3:=h7.c3
       have f3:=h7.ptr.free 3
       rw[hg] at c3 f3 hp1 hp2
       have hfin:=HUZ.out _ (by rw[HBAD.out];exact⟨_,hp1,hs7.aO hp2⟩)
       clear hp1 hp2 h7 hs7 HUZ HBAD hRu hSt
       go_wp2
       refine bodyPost_ret (results_none rfl _ _ _) rfl ?_
       exact⟨rfl,hfin⟩
      | false=>
       rw[hb2,hb3] at hiff
       have hcond:¬ (er≠0\/(0<=dn/\¬ ((dn=2)↔(r.act t=3)))):=fun e=>e.elim (fun e=>e h0) (fun e=>e.2 (hiff.2 rfl))
       rw[if_neg hcond] at HC
       clear hiff hcond
       by_cases k0:dn=0
       ·have HOK:Hid (CR={ enter rm 6 t with act:=cb rm.act t 0 }):=P (by rw[HC,if_pos k0])
        have q0:(dn==0)=true:=beq_iff_eq.2 k0
        clear HC k2 k0
        go_upto_region 6 with fail
        go_quiet (fail)
        have h7:=hRu.below (ah wr nq)
        have hs7:=hSt.grown (ah wr nq)
        have e1q:(wr.drewN nq).cell? ⟨b,1,N⟩=O (I Q dn):=e1r
        generalize wr.drewN nq=v at *
        have HEn:=P (ji h7 6 t (by have:=HL.out;have:=HLen.out;omega))
        rw[hg] at HEn
        go_wp2_with fail
        refine HEn.out.mono ?_
        rintro e v2 ⟨rfl,U2,hE⟩
        have hru2:=hE.ru
        have hst2:=hs7.aO hE.st
        have hg2:U2.g=U.g:=hE.st.2.2.1.trans hg
        have hd2:U2.d=U.d:=hE.st.2.2.2.trans hd
        have hput:=hru2.kR HT.out 0
        have hx:=hru2.act HT.out
        have hx2:=hru2.acts.free t
        have hc1:=hru2.c1
        rw[hg2,hd2] at hc1
        rw[hd2] at hx hx2 hput
        have hfin:=HUZ.out _ (by rw[HOK.out];exact⟨_,hput.1,hst2.aO hput.2⟩)
        simp only at hx
        generalize rm.act t=at_ at hx
        clear hput hru2 hst2 hE HEn h7 hs7 HUZ hRu hSt HOK
        go_wp2
        go_end0
        exact⟨rfl,hfin⟩
       by_cases k1:dn=1
       ·have HOK:Hid (CR={ enter rm 5 t with act:=cb rm.act t 2 }):=P (by rw[HC,if_neg (by omega),if_pos k1])
        have q1:(dn==1)=true:=beq_iff_eq.2 k1
        have q0:(dn==0)=Z:=beq_eq_false_iff_ne.2 (by omega)
        clear HC k2 k1
        go_upto_region 6 with fail
        go_quiet (fail)
        have h7:=hRu.below (ah wr nq)
        have hs7:=hSt.grown (ah wr nq)
        have e1q:(wr.drewN nq).cell? ⟨b,1,N⟩=O (I Q dn):=e1r
        generalize wr.drewN nq=v at *
        have HEn:=P (ji h7 5 t (by have:=HL.out;have:=HLen.out;omega))
        rw[hg] at HEn
        go_wp2_with fail
        refine HEn.out.mono ?_
        rintro e v2 ⟨rfl,U2,hE⟩
        have hru2:=hE.ru
        have hst2:=hs7.aO hE.st
        have hg2:U2.g=U.g:=hE.st.2.2.1.trans hg
        have hd2:U2.d=U.d:=hE.st.2.2.2.trans hd
        have hput:=hru2.kR HT.out 2
        have hx:=hru2.act HT.out
        have hx2:=hru2.acts.free t
        have hc1:=hru2.c1
        rw[hg2,hd2] at hc1
        rw[hd2] at hx hx2 hput
        have hfin:=HUZ.out _ (by rw[HOK.out];exact⟨_,hput.1,hst2.aO hput.2⟩)
        simp only at hx
        generalize rm.act t=at_ at hx
        clear hput hru2 hst2 hE HEn h7 hs7 HUZ hRu hSt HOK
        go_wp2
        go_end0
        exact⟨rfl,hfin⟩
       by_cases k3:dn=3
       ·have HOK:Hid (CR={ enter rm 7 t with act:=cb rm.act t 0 }):=P (by rw[HC,if_neg (by omega),if_neg (by omega),if_neg (by omega),if_pos k3])
        have q3:(dn==3)=true:=beq_iff_eq.2 k3
        have q0:(dn==0)=Z:=beq_eq_false_iff_ne.2 (by omega)
        have q1:(dn==1)=Z:=beq_eq_false_iff_ne.2 (by omega)
        clear HC k2 k3
        go_upto_region 6 with fail
        go_quiet (fail)
        have h7:=hRu.below (ah wr nq)
        have hs7:=hSt.grown (ah wr nq)
        have e1q:(wr.drewN nq).cell? ⟨b,1,N⟩=O (I Q dn):=e1r
        generalize wr.drewN nq=v at *
        have HEn:=P (ji h7 7 t (by have:=HL.out;have:=HLen.out;omega))
        rw[hg] at HEn
        go_wp2_with fail
        refine HEn.out.mono ?_
        rintro e v2 ⟨rfl,U2,hE⟩
        have hru2:=hE.ru
        have hst2:=hs7.aO hE.st
        have hg2:U2.g=U.g:=hE.st.2.2.1.trans hg
        have hd2:U2.d=U.d:=hE.st.2.2.2.trans hd
        have hput:=hru2.kR HT.out 0
        have hx:=hru2.act HT.out
        have hx2:=hru2.acts.free t
        have hc1:=hru2.c1
        rw[hg2,hd2] at hc1
        rw[hd2] at hx hx2 hput
        have hfin:=HUZ.out _ (by rw[HOK.out];exact⟨_,hput.1,hst2.aO hput.2⟩)
        simp only at hx
        generalize rm.act t=at_ at hx
        clear hput hru2 hst2 hE HEn h7 hs7 HUZ hRu hSt HOK
        go_wp2
        go_end0
        exact⟨rfl,hfin⟩
       have HOK:Hid (CR=rm):=P (by rw[HC,if_neg k0,if_neg k1,if_neg k2,if_neg k3])
       have q0:(dn==0)=Z:=beq_eq_false_iff_ne.2 k0
       have q1:(dn==1)=Z:=beq_eq_false_iff_ne.2 k1
       have q3:(dn==3)=Z:=beq_eq_false_iff_ne.2 k3
       clear HC k0 k1 k2 k3
       go_upto_region 6 with fail
       go_quiet (fail)
       have h7:=hRu.below (ah wr nq)
       have hs7:=hSt.grown (ah wr nq)
       have e1q:(wr.drewN nq).cell? ⟨b,1,N⟩=O (I Q dn):=e1r
       generalize wr.drewN nq=v at *
       have hfin:=HUZ.out v (by rw[HOK.out];exact⟨_,h7,hs7⟩)
       clear h7 hs7 HUZ hRu hSt HOK
       go_wp2
       go_end0
       exact⟨rfl,hfin⟩
    ·have d1:decide (dn>=0)=Z:=decide_eq_false h1
     have d1':decide (0<=dn)=Z:=decide_eq_false h1
     have HOK:Hid (CR=rm):=P (by rw[HC,if_neg (fun e=>e.elim (fun e=>e h0) (fun e=>h1 e.1)),if_neg (by omega),if_neg (by omega),if_neg (by omega),if_neg (by omega)])
     have q0:(dn==0)=Z:=beq_eq_false_iff_ne.2 (by omega)
     have q1:(dn==1)=Z:=beq_eq_false_iff_ne.2 (by omega)
     have q2:(dn==2)=Z:=beq_eq_false_iff_ne.2 (by omega)
     have q3:(dn==3)=Z:=beq_eq_false_iff_ne.2 (by omega)
     clear HC
     go_upto_region 6 with fail
     go_quiet (fail)
     have h7:=hRu.below (ah wr nq)
     have hs7:=hSt.grown (ah wr nq)
     have e1q:(wr.drewN nq).cell? ⟨b,1,N⟩=O (I Q dn):=e1r
     generalize wr.drewN nq=v at *
     have hfin:=HUZ.out v (by rw[HOK.out];exact⟨_,h7,hs7⟩)
     clear h7 hs7 HUZ hRu hSt HOK
     go_wp2
     go_end0
     exact⟨rfl,hfin⟩
   ·have d0:(er != 0)=true:=by simpa using h0
    have HBAD:Hid (CR={ rm with bad:=true }):=P (by rw[HC,if_pos (.inl h0)])
    clear HC
    go_upto_region 6 with fail
    go_quiet (fail)
    have h7:=hRu.below (ah wr nq)
    have hs7:=hSt.grown (ah wr nq)
    have e1q:(wr.drewN nq).cell? ⟨b,1,N⟩=O (I Q dn):=e1r
    generalize wr.drewN nq=v at *
    obtain⟨hp1,hp2⟩:=h7.tS
    have c3:=h7.c3
    have f3:=h7.ptr.free 3
    rw[hg] at c3 f3 hp1 hp2
    have hfin:=HUZ.out _ (by rw[HBAD.out];exact⟨_,hp1,hs7.aO hp2⟩)
    clear hp1 hp2 h7 hs7 HUZ HBAD hRu hSt
    go_wp2
    refine bodyPost_ret (results_none rfl _ _ _) rfl ?_
    exact⟨rfl,hfin⟩
end
