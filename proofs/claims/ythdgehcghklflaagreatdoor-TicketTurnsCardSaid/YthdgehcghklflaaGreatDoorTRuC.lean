import Derived.Test.YthdgehcghklflaaGreatDoorTAsmD
import Derived.Deep.DeepCutAuto
import Derived.Deep.CutBlock
set_option linter.unusedVariables false
namespace Go.Proofs.YthdgehcghklflaaGreatDoor
set_option maxRecDepth 100000
open Go.ChangeShapes Go.WideShapes Go.ChangeAt Go.RowKit
def Ob (w:World)(b:Nat)(v:Value)(o:Ot):Prop:=Bk w b 67 #[v,.int .i64 o.done,.int .i64 o.addr,.int .i64 (one01 o.wrote),.int .i64 (one01 o.stay),.int .i64 o.e]
def marksE (t:Nat)(ms:List Int):List En:=ms.map fun k=>⟨markK k,(t:Int),0⟩
theorem marksE_next (t:Nat)(ms:List Int)(j:Nat)(h:j < ms.length):marksE t (ms.take (j+1))=marksE t (ms.take j)++[⟨markK (nth ms j),(t:Int),0⟩]:=by
 unfold marksE
 rw[take_at ms j h,List.map_append,nth_lt h];rfl
theorem marksE_all (r:Rn)(t:Nat)(ms:List Int):{ r with l:=r.l++marksE t (ms.take ms.length) }=marksR r t ms:=by
 unfold marksR marksE;rw[List.take_length]
theorem iff_bne (x y a b:Int):((x=a)↔(y=b))↔((x==a) != (y==b))=false:=by
 cases h1:(x==a) with
 | true=>
  have e1:=eq_of_beq h1
  cases h2:(y==b) with
  | true=>have e2:=eq_of_beq h2;exact⟨fun _=>rfl,fun _=>⟨fun _=>e2,fun _=>e1⟩⟩
  | false=>have e2:=ne_of_beq_false h2;exact⟨fun h=>absurd (h.1 e1) e2,fun h=>by cases h⟩
 | false=>
  have e1:=ne_of_beq_false h1
  cases h2:(y==b) with
  | true=>have e2:=eq_of_beq h2;exact⟨fun h=>absurd (h.2 e2) e1,fun h=>by cases h⟩
  | false=>have e2:=ne_of_beq_false h2;exact⟨fun _=>rfl,fun _=>⟨fun h=>absurd h e1,fun h=>absurd h e2⟩⟩
theorem mark_ix (x:Int)(h0:0≤x)(h5:x < 5):∀ W:World,Sem.run Tryz.prog (Instr.index 211 (.agg #[.int .i64 0,.int .i64 2,.int .i64 3,.int .i64 4,.int .i64 9]) (.int .i64 x)) W=.ok (.int .i64 (markK x)) W:=by
 intro W
 have hx:x=0∨x=1∨x=2∨x=3∨x=4:=by omega
 rcases hx with rfl | rfl | rfl | rfl | rfl <;> rfl
section
variable {w:World}{U:RP}{k:Lk}{r:Rn}
set_option maxHeartbeats 4000000 in
theorem rCame (h:Ru w U k r)(t:Nat)(ht:t < k.n)(o:Ot)(mv:Value)(hm:Lst .i64 3 w mv o.ms)(hmk:∀ x∈o.ms,0≤x∧x < 5)(hl:r.l.length+o.ms.length+1 < 1000000000):
 Calls Tryz.prog 68 #[.pointer (some ⟨U.g,0,none⟩),.int .i64 t,otR mv o] w fun e w'=>e=.returned (.tuple #[])∧RuP w U k (cameR r t o) w':=by
 have hbz:Below w.heap.size w (w.alloc (.cells #[mv,.int .i64 o.done,.int .i64 o.addr,.int .i64 (one01 o.wrote),.int .i64 (one01 o.stay),.int .i64 o.e] 67)):=(Below.refl _ _).alloc (Nat.le_refl _) _
 have hOb:Ob (w.alloc (.cells #[mv,.int .i64 o.done,.int .i64 o.addr,.int .i64 (one01 o.wrote),.int .i64 (one01 o.stay),.int .i64 o.e] 67)) w.heap.size mv o:=Bk.made _ _ _
 have hz:=h.below hbz
 have hmz:=hm.within (within_of_below hbz) (fun _ _ h=>h)
 have HUZ:Hid (∀ u,RuP (w.alloc (.cells #[mv,.int .i64 o.done,.int .i64 o.addr,.int .i64 (one01 o.wrote),.int .i64 (one01 o.stay),.int .i64 o.e] 67)) U k (cameR r t o) u→RuP w U k (cameR r t o) u):=Lib.hid (fun u ⟨U',h1,h2⟩=>⟨U',h1,((UStays.refl w k.n U).grown hbz).then_ h2⟩)
 have HCR:Hid (cameR r t o=(let r:=marksR r t o.ms
  if o.e≠0∨(0≤o.done∧¬ ((o.done=2)↔(r.act t=3))) then { r with bad:=true }
  else if o.done=0 then { enter r 6 t with act:=updN r.act t 0 }
  else if o.done=1 then { enter r 5 t with act:=updN r.act t 2 }
  else if o.done=2 then { enter r 10 t with act:=updN r.act t 0 }
  else if o.done=3 then { enter r 7 t with act:=updN r.act t 0 }
  else r)):=Lib.hid rfl
 generalize cameR r t o=CR at *
 have HMK:=Lib.hid hmk
 have HNx:=Lib.hid (fun j h=>marksE_next t o.ms j h)
 have HAll:=Lib.hid (marksE_all r t o.ms)
 have HL:=Lib.hid hl
 have HT:=Lib.hid ht
 unfold otR
 obtain⟨am,cm,rfl,hm1,hm2,_⟩:=hm.is
 obtain⟨ms,dn,ad,wr_,sy,er⟩:=o
 simp only at *
 clear h hmk hm hl
 go_enter Tryz.func68,Tryz.ntmps68
 go_upto_region 1 with fail
 have hbl:w.heap.size < (w.alloc (.cells #[.slice am ms.length cm,.int .i64 dn,.int .i64 ad,.int .i64 (one01 wr_),.int .i64 (one01 sy),.int .i64 er] 67)).heap.size:=Bk.lt hOb
 generalize w.alloc (.cells #[.slice am ms.length cm,.int .i64 dn,.int .i64 ad,.int .i64 (one01 wr_),.int .i64 (one01 sy),.int .i64 er] 67)=z at *
 generalize w.heap.size=b at *
 simp only[maxLen] at hm2
 have HZ:=Lib.hid hz
 have HM:=Lib.hid hmz
 have HB:=Lib.hid hOb
 obtain⟨e0,e1,e5⟩:z.cell? ⟨b,0,none⟩=some (.slice am ms.length cm)∧z.cell? ⟨b,1,none⟩=some (.int .i64 dn)∧z.cell? ⟨b,5,none⟩=some (.int .i64 er):=⟨hOb.cell 0,hOb.cell 1,hOb.cell 5⟩
 clear hz hmz hOb hbz
 go_wp2
 go_loopw [11] (fun x wr=>∃ (j:Nat) (U':RP),x=.int .i64 j∧j≤ms.length∧Hid (Ru wr U' k { r with l:=r.l++marksE t (ms.take j) }∧UStays z k.n U wr U')∧Hid (Lst .i64 3 wr (.slice am ms.length cm) ms)∧Hid (Ob wr b (.slice am ms.length cm) ⟨ms,dn,ad,wr_,sy,er⟩)) (fun x _=>ms.length - (intOf x).toNat)
 case atStart=>exact⟨0,U,rfl,Nat.zero_le _,Lib.hid ⟨by have:=HZ.out;simpa [marksE] using this,UStays.refl _ _ _⟩,HM,HB⟩
 case round=>
  obtain⟨j,U',rfl,hj,HR,HMr,HBr⟩:=hrel
  obtain⟨hRu,hSt⟩:=HR.out
  have hg:U'.g=U.g:=hSt.2.2.1
  have hd:U'.d=U.d:=hSt.2.2.2
  by_cases hlt:j < ms.length
  ·have hji:(j:Int) < ms.length:=by omega
   obtain⟨am2,cm2,hme,_,_,hmc⟩:=HMr.out.is
   obtain⟨gm,hgm,_,_,hcm⟩:=hmc (by omega)
   injection hme with hm1 hm2' hm3
   subst hm1
   subst hm3
   subst hgm
   have cx:=hcm j hlt
   have hx5:=HMK.out (nth ms j) (by rw[nth_lt hlt];exact List.getElem_mem hlt)
   have hN:=HNx.out j hlt
   have hlen:(marksE t (ms.take j)).length≤ms.length:=by unfold marksE;rw[List.length_map,List.length_take];omega
   have HEn:=Lib.hid (rEnter hRu (markK (nth ms j)) t (by have:=HL.out;simp only[List.length_append] at this ⊢;omega))
   rw[hg] at HEn
   have HNx2:Hid (∀ w' U2,EntP wr U' k { r with l:=(r.l++marksE t (ms.take j))++[⟨markK (nth ms j),(t:Int),0⟩] } w' U2→(Ru w' U2 k { r with l:=r.l++marksE t (ms.take (j+1)) }∧UStays z k.n U w' U2)∧Lst .i64 3 w' (.slice (some ⟨gm,0,none⟩) ms.length cm) ms∧Ob w' b (.slice (some ⟨gm,0,none⟩) ms.length cm) ⟨ms,dn,ad,wr_,sy,er⟩):=Lib.hid (fun w' U2 hE=>by
    have hru:=hE.ru
    rw[List.append_assoc,←hN] at hru
    refine⟨⟨hru,hSt.then_ hE.st⟩,HMr.out.within hE.few (fun g e e2=>?_),Bk.within HBr.out hE.few (fun e2=>?_)⟩
    ·obtain⟨cs,hb⟩:=HMr.out.bk e
     rcases e2 with e2 | e2
     ·exact Bk.unlike hb hRu.ptr (by decide) e2
     ·obtain⟨cs2,hb2⟩:=own_bk hRu.ents e2
      exact Bk.unlike hb hb2 (by decide) rfl
    ·rcases e2 with e2 | e2
     ·exact Bk.unlike HBr.out hRu.ptr (by decide) e2
     ·obtain⟨cs2,hb2⟩:=own_bk hRu.ents e2
      exact Bk.unlike HBr.out hb2 (by decide) rfl)
   generalize hy:nth ms j=y at *
   have hix:=mark_ix y hx5.1 hx5.2
   clear hcm hmc hx5 hN hRu hSt HR HMr HBr hy
   go_wp2_with fail
   refine HEn.out.mono ?_
   rintro e w' ⟨rfl,U2,hE⟩
   obtain⟨n1,n2,n3⟩:=HNx2.out w' U2 hE
   have N1:=Lib.hid n1
   have N2:=Lib.hid n2
   have N3:=Lib.hid n3
   clear hE n1 n2 n3 HEn HNx2 hix cx
   go_wp2
   go_roundw
   case rel=>exact⟨j+1,U2,by go_num,by omega,N1,N2,N3⟩
   case measure=>simp[intOf];omega
  ·obtain rfl:j=ms.length:=by omega
   have hfe:({ r with l:=r.l++marksE t (ms.take ms.length) }:Rn)=marksR r t ms:=HAll.out
   rw[hfe] at hRu
   have HLen:Hid ((marksR r t ms).l.length=r.l.length+ms.length):=Lib.hid (by unfold marksR;simp)
   have e1r:wr.cell? ⟨b,1,none⟩=some (.int .i64 dn):=Bk.cell HBr.out 1
   have e5r:wr.cell? ⟨b,5,none⟩=some (.int .i64 er):=Bk.cell HBr.out 5
   have hc1:=hRu.c1
   have hx:=hRu.act HT.out
   rw[hg,hd] at hc1
   rw[hd] at hx
   have hax:(marksR r t ms).act t=r.act t:=rfl
   rw[hax] at hx
   have hti:(t:Int) < (k.n:Int):=by have:=HT.out;omega
   have HC:=HCR.out
   generalize marksR r t ms=rm at *
   rw[hax] at HC
   clear HR HMr HBr HNx HAll HMK hfe hax HCR
   by_cases h0:er=0
   ·have d0:(er != 0)=false:=by simpa using h0
    by_cases h1:0≤dn
    ·have d1:decide (dn≥0)=true:=decide_eq_true h1
     have d1':decide (0≤dn)=true:=decide_eq_true h1
     have hiff:=iff_bne dn (r.act t) 2 3
     cases hb2:(dn==2) with
     | true=>
      cases hb3:(r.act t==3) with
      | true=>
       have k2:dn=2:=eq_of_beq hb2
       rw[hb2,hb3] at hiff
       have hcond:¬ (er≠0∨(0≤dn∧¬ ((dn=2)↔(r.act t=3)))):=fun e=>e.elim (fun e=>e h0) (fun e=>e.2 (hiff.2 rfl))
       rw[if_neg hcond,if_neg (by omega),if_neg (by omega),if_pos k2] at HC
       have HOK:Hid (CR={ enter rm 10 t with act:=updN rm.act t 0 }):=Lib.hid HC
       have q0:(dn==0)=false:=beq_eq_false_iff_ne.2 (by omega)
       have q1:(dn==1)=false:=beq_eq_false_iff_ne.2 (by omega)
       clear HC hiff hcond k2
       go_upto_region 6 with fail
       go_quiet (fail)
       have h7:=hRu.below (below_drawnU wr nq)
       have hs7:=hSt.grown (below_drawnU wr nq)
       have e1q:(wr.drewN nq).cell? ⟨b,1,none⟩=some (.int .i64 dn):=e1r
       generalize wr.drewN nq=v at *
       have HEn:=Lib.hid (rEnter h7 10 t (by have:=HL.out;have:=HLen.out;omega))
       rw[hg] at HEn
       go_wp2_with fail
       refine HEn.out.mono ?_
       rintro e v2 ⟨rfl,U2,hE⟩
       have hru2:=hE.ru
       have hst2:=hs7.then_ hE.st
       have hg2:U2.g=U.g:=hE.st.2.2.1.trans hg
       have hd2:U2.d=U.d:=hE.st.2.2.2.trans hd
       have hput:=hru2.putAct HT.out 0
       have hx:=hru2.act HT.out
       have hx2:=hru2.acts.free t
       have hc1:=hru2.c1
       rw[hg2,hd2] at hc1
       rw[hd2] at hx hx2 hput
       have hfin:=HUZ.out _ (by rw[HOK.out];exact⟨_,hput.1,hst2.then_ hput.2⟩)
       simp only at hx
       generalize rm.act t=at_ at hx
       clear hput hru2 hst2 hE HEn h7 hs7 HUZ hRu hSt HOK
       go_wp2
       go_end0
       exact⟨rfl,hfin⟩
      | false=>
       rw[hb2,hb3] at hiff
       have HBAD:Hid (CR={ rm with bad:=true }):=Lib.hid (by rw[HC,if_pos (.inr ⟨h1,fun e=>by cases hiff.1 e⟩)])
       clear HC hiff
       go_upto_region 6 with fail
       go_quiet (fail)
       have h7:=hRu.below (below_drawnU wr nq)
       have hs7:=hSt.grown (below_drawnU wr nq)
       have e1q:(wr.drewN nq).cell? ⟨b,1,none⟩=some (.int .i64 dn):=e1r
       generalize wr.drewN nq=v at *
       obtain⟨hp1,hp2⟩:=h7.putBad
       have c3:=h7.c3
       have f3:=h7.ptr.free 3
       rw[hg] at c3 f3 hp1 hp2
       have hfin:=HUZ.out _ (by rw[HBAD.out];exact⟨_,hp1,hs7.then_ hp2⟩)
       clear hp1 hp2 h7 hs7 HUZ HBAD hRu hSt
       go_wp2
       refine bodyPost_ret (results_none rfl _ _ _) rfl ?_
       exact⟨rfl,hfin⟩
     | false=>
      have k2:dn≠2:=ne_of_beq_false hb2
      cases hb3:(r.act t==3) with
      | true=>
       rw[hb2,hb3] at hiff
       have HBAD:Hid (CR={ rm with bad:=true }):=Lib.hid (by rw[HC,if_pos (.inr ⟨h1,fun e=>by cases hiff.1 e⟩)])
       clear HC hiff k2
       go_upto_region 6 with fail
       go_quiet (fail)
       have h7:=hRu.below (below_drawnU wr nq)
       have hs7:=hSt.grown (below_drawnU wr nq)
       have e1q:(wr.drewN nq).cell? ⟨b,1,none⟩=some (.int .i64 dn):=e1r
       generalize wr.drewN nq=v at *
       obtain⟨hp1,hp2⟩:=h7.putBad
       have c3:=h7.c3
       have f3:=h7.ptr.free 3
       rw[hg] at c3 f3 hp1 hp2
       have hfin:=HUZ.out _ (by rw[HBAD.out];exact⟨_,hp1,hs7.then_ hp2⟩)
       clear hp1 hp2 h7 hs7 HUZ HBAD hRu hSt
       go_wp2
       refine bodyPost_ret (results_none rfl _ _ _) rfl ?_
       exact⟨rfl,hfin⟩
      | false=>
       rw[hb2,hb3] at hiff
       have hcond:¬ (er≠0∨(0≤dn∧¬ ((dn=2)↔(r.act t=3)))):=fun e=>e.elim (fun e=>e h0) (fun e=>e.2 (hiff.2 rfl))
       rw[if_neg hcond] at HC
       clear hiff hcond
       by_cases k0:dn=0
       ·have HOK:Hid (CR={ enter rm 6 t with act:=updN rm.act t 0 }):=Lib.hid (by rw[HC,if_pos k0])
        have q0:(dn==0)=true:=beq_iff_eq.2 k0
        clear HC k2 k0
        go_upto_region 6 with fail
        go_quiet (fail)
        have h7:=hRu.below (below_drawnU wr nq)
        have hs7:=hSt.grown (below_drawnU wr nq)
        have e1q:(wr.drewN nq).cell? ⟨b,1,none⟩=some (.int .i64 dn):=e1r
        generalize wr.drewN nq=v at *
        have HEn:=Lib.hid (rEnter h7 6 t (by have:=HL.out;have:=HLen.out;omega))
        rw[hg] at HEn
        go_wp2_with fail
        refine HEn.out.mono ?_
        rintro e v2 ⟨rfl,U2,hE⟩
        have hru2:=hE.ru
        have hst2:=hs7.then_ hE.st
        have hg2:U2.g=U.g:=hE.st.2.2.1.trans hg
        have hd2:U2.d=U.d:=hE.st.2.2.2.trans hd
        have hput:=hru2.putAct HT.out 0
        have hx:=hru2.act HT.out
        have hx2:=hru2.acts.free t
        have hc1:=hru2.c1
        rw[hg2,hd2] at hc1
        rw[hd2] at hx hx2 hput
        have hfin:=HUZ.out _ (by rw[HOK.out];exact⟨_,hput.1,hst2.then_ hput.2⟩)
        simp only at hx
        generalize rm.act t=at_ at hx
        clear hput hru2 hst2 hE HEn h7 hs7 HUZ hRu hSt HOK
        go_wp2
        go_end0
        exact⟨rfl,hfin⟩
       by_cases k1:dn=1
       ·have HOK:Hid (CR={ enter rm 5 t with act:=updN rm.act t 2 }):=Lib.hid (by rw[HC,if_neg (by omega),if_pos k1])
        have q1:(dn==1)=true:=beq_iff_eq.2 k1
        have q0:(dn==0)=false:=beq_eq_false_iff_ne.2 (by omega)
        clear HC k2 k1
        go_upto_region 6 with fail
        go_quiet (fail)
        have h7:=hRu.below (below_drawnU wr nq)
        have hs7:=hSt.grown (below_drawnU wr nq)
        have e1q:(wr.drewN nq).cell? ⟨b,1,none⟩=some (.int .i64 dn):=e1r
        generalize wr.drewN nq=v at *
        have HEn:=Lib.hid (rEnter h7 5 t (by have:=HL.out;have:=HLen.out;omega))
        rw[hg] at HEn
        go_wp2_with fail
        refine HEn.out.mono ?_
        rintro e v2 ⟨rfl,U2,hE⟩
        have hru2:=hE.ru
        have hst2:=hs7.then_ hE.st
        have hg2:U2.g=U.g:=hE.st.2.2.1.trans hg
        have hd2:U2.d=U.d:=hE.st.2.2.2.trans hd
        have hput:=hru2.putAct HT.out 2
        have hx:=hru2.act HT.out
        have hx2:=hru2.acts.free t
        have hc1:=hru2.c1
        rw[hg2,hd2] at hc1
        rw[hd2] at hx hx2 hput
        have hfin:=HUZ.out _ (by rw[HOK.out];exact⟨_,hput.1,hst2.then_ hput.2⟩)
        simp only at hx
        generalize rm.act t=at_ at hx
        clear hput hru2 hst2 hE HEn h7 hs7 HUZ hRu hSt HOK
        go_wp2
        go_end0
        exact⟨rfl,hfin⟩
       by_cases k3:dn=3
       ·have HOK:Hid (CR={ enter rm 7 t with act:=updN rm.act t 0 }):=Lib.hid (by rw[HC,if_neg (by omega),if_neg (by omega),if_neg (by omega),if_pos k3])
        have q3:(dn==3)=true:=beq_iff_eq.2 k3
        have q0:(dn==0)=false:=beq_eq_false_iff_ne.2 (by omega)
        have q1:(dn==1)=false:=beq_eq_false_iff_ne.2 (by omega)
        clear HC k2 k3
        go_upto_region 6 with fail
        go_quiet (fail)
        have h7:=hRu.below (below_drawnU wr nq)
        have hs7:=hSt.grown (below_drawnU wr nq)
        have e1q:(wr.drewN nq).cell? ⟨b,1,none⟩=some (.int .i64 dn):=e1r
        generalize wr.drewN nq=v at *
        have HEn:=Lib.hid (rEnter h7 7 t (by have:=HL.out;have:=HLen.out;omega))
        rw[hg] at HEn
        go_wp2_with fail
        refine HEn.out.mono ?_
        rintro e v2 ⟨rfl,U2,hE⟩
        have hru2:=hE.ru
        have hst2:=hs7.then_ hE.st
        have hg2:U2.g=U.g:=hE.st.2.2.1.trans hg
        have hd2:U2.d=U.d:=hE.st.2.2.2.trans hd
        have hput:=hru2.putAct HT.out 0
        have hx:=hru2.act HT.out
        have hx2:=hru2.acts.free t
        have hc1:=hru2.c1
        rw[hg2,hd2] at hc1
        rw[hd2] at hx hx2 hput
        have hfin:=HUZ.out _ (by rw[HOK.out];exact⟨_,hput.1,hst2.then_ hput.2⟩)
        simp only at hx
        generalize rm.act t=at_ at hx
        clear hput hru2 hst2 hE HEn h7 hs7 HUZ hRu hSt HOK
        go_wp2
        go_end0
        exact⟨rfl,hfin⟩
       have HOK:Hid (CR=rm):=Lib.hid (by rw[HC,if_neg k0,if_neg k1,if_neg k2,if_neg k3])
       have q0:(dn==0)=false:=beq_eq_false_iff_ne.2 k0
       have q1:(dn==1)=false:=beq_eq_false_iff_ne.2 k1
       have q3:(dn==3)=false:=beq_eq_false_iff_ne.2 k3
       clear HC k0 k1 k2 k3
       go_upto_region 6 with fail
       go_quiet (fail)
       have h7:=hRu.below (below_drawnU wr nq)
       have hs7:=hSt.grown (below_drawnU wr nq)
       have e1q:(wr.drewN nq).cell? ⟨b,1,none⟩=some (.int .i64 dn):=e1r
       generalize wr.drewN nq=v at *
       have hfin:=HUZ.out v (by rw[HOK.out];exact⟨_,h7,hs7⟩)
       clear h7 hs7 HUZ hRu hSt HOK
       go_wp2
       go_end0
       exact⟨rfl,hfin⟩
    ·have d1:decide (dn≥0)=false:=decide_eq_false h1
     have d1':decide (0≤dn)=false:=decide_eq_false h1
     have HOK:Hid (CR=rm):=Lib.hid (by rw[HC,if_neg (fun e=>e.elim (fun e=>e h0) (fun e=>h1 e.1)),if_neg (by omega),if_neg (by omega),if_neg (by omega),if_neg (by omega)])
     have q0:(dn==0)=false:=beq_eq_false_iff_ne.2 (by omega)
     have q1:(dn==1)=false:=beq_eq_false_iff_ne.2 (by omega)
     have q2:(dn==2)=false:=beq_eq_false_iff_ne.2 (by omega)
     have q3:(dn==3)=false:=beq_eq_false_iff_ne.2 (by omega)
     clear HC
     go_upto_region 6 with fail
     go_quiet (fail)
     have h7:=hRu.below (below_drawnU wr nq)
     have hs7:=hSt.grown (below_drawnU wr nq)
     have e1q:(wr.drewN nq).cell? ⟨b,1,none⟩=some (.int .i64 dn):=e1r
     generalize wr.drewN nq=v at *
     have hfin:=HUZ.out v (by rw[HOK.out];exact⟨_,h7,hs7⟩)
     clear h7 hs7 HUZ hRu hSt HOK
     go_wp2
     go_end0
     exact⟨rfl,hfin⟩
   ·have d0:(er != 0)=true:=by simpa using h0
    have HBAD:Hid (CR={ rm with bad:=true }):=Lib.hid (by rw[HC,if_pos (.inl h0)])
    clear HC
    go_upto_region 6 with fail
    go_quiet (fail)
    have h7:=hRu.below (below_drawnU wr nq)
    have hs7:=hSt.grown (below_drawnU wr nq)
    have e1q:(wr.drewN nq).cell? ⟨b,1,none⟩=some (.int .i64 dn):=e1r
    generalize wr.drewN nq=v at *
    obtain⟨hp1,hp2⟩:=h7.putBad
    have c3:=h7.c3
    have f3:=h7.ptr.free 3
    rw[hg] at c3 f3 hp1 hp2
    have hfin:=HUZ.out _ (by rw[HBAD.out];exact⟨_,hp1,hs7.then_ hp2⟩)
    clear hp1 hp2 h7 hs7 HUZ HBAD hRu hSt
    go_wp2
    refine bodyPost_ret (results_none rfl _ _ _) rfl ?_
    exact⟨rfl,hfin⟩
end
end Go.Proofs.YthdgehcghklflaaGreatDoor
