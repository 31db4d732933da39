import Derived.Test.YthdgehcghklflaaGreatDoorTRuC
import Derived.Test.YthdgehcghklflaaGreatDoorTWdA
import Derived.Test.YthdgehcghklflaaGreatDoorTPrgM
import Derived.Test.YthdgehcghklflaaGreatDoorTAsmD
import Derived.BigQuiet
set_option linter.unusedVariables false
namespace Go.Proofs.YthdgehcghklflaaGreatDoor
set_option maxRecDepth 100000
open Go.ChangeShapes Go.WideShapes Go.ChangeAt Go.RowKit
theorem mem_lookup {B:Type _}:∀ {ps:List (Nat×B)} {i:Nat} {p:B},ps.lookup i=some p→(i,p)∈ps
 | [],i,p,h=>by cases h
 | (k,q) :: ps,i,p,h=>by
  rw[List.lookup_cons] at h
  by_cases e:i=k
  ·subst e;simp at h;subst h;exact List.mem_cons_self
  ·have e2:(i==k)=false:=by simpa using e
   rw[e2] at h
   exact List.mem_cons_of_mem _ (mem_lookup h)
def mixK (ps:List (Nat×(Nat→Value→World→Prop)))(l:List Value)(i k:Nat)(v:Value)(W:World):Prop:=match ps.lookup i with
 | some p=>p k v W
 | none=>v=l.getD i undef
theorem mixK_stable {ps:List (Nat×(Nat→Value→World→Prop))}{l:List Value}(h:∀ x∈ps,∀ k v W W',x.2 k v W→Below W.heap.size W W'→x.2 k v W'):∀ i k v W W',mixK ps l i k v W→Below W.heap.size W W'→mixK ps l i k v W':=by
 intro i k v W W' hm hb
 unfold mixK at *
 cases hl:ps.lookup i with
 | none=>rw[hl] at hm;exact hm
 | some p=>
  rw[hl] at hm
  exact h (i,p) (mem_lookup hl) k v W W' hm hb
theorem mixK_keep {ps:List (Nat×(Nat→Value→World→Prop))}{l:List Value}{k:Nat}{W W':World}(h:∀ x∈ps,∀ v,x.2 k v W→x.2 (k+1) v W'):∀ i v,mixK ps l i k v W→mixK ps l i (k+1) v W':=by
 intro i v hm
 unfold mixK at *
 cases hl:ps.lookup i with
 | none=>rw[hl] at hm;exact hm
 | some p=>
  rw[hl] at hm
  exact h (i,p) (mem_lookup hl) v hm
section
variable {w:World}{U:RP}{k:Lk}{r:Rn}
theorem opR_lock {t:Nat}{late:Bool}(ht:t < k.n)(hb:r.bad=false)(ha:r.act t=0):opR k r ⟨1,t,late⟩=cameR { enter { r with act:=updN r.act t 1 } 1 t with m:=(beginM k r.m t false).1 } t (beginM k r.m t false).2:=by
 unfold opR
 rw[if_neg (fun e=>by
  rcases e with e | e | e
  ·have e2:(t:Int) < 0:=e
   omega
  ·have e2:(k.n:Int)≤(t:Int):=e
   omega
  ·rw[hb] at e;cases e)]
 simp only[Int.toNat_natCast,if_true,if_pos ha]
 rfl
theorem opR_unlock {t:Nat}{late:Bool}(ht:t < k.n)(hb:r.bad=false)(ha:r.act t=2):opR k r ⟨2,t,late⟩=cameR { enter { r with act:=updN r.act t 3 } 8 t with m:=(beginM k r.m t true).1 } t (beginM k r.m t true).2:=by
 unfold opR
 rw[if_neg (fun e=>by
  rcases e with e | e | e
  ·have e2:(t:Int) < 0:=e
   omega
  ·have e2:(k.n:Int)≤(t:Int):=e
   omega
  ·rw[hb] at e;cases e)]
 simp only[Int.toNat_natCast,if_pos ha]
 rfl
theorem opR_step {kd:Int}{t:Nat}{late:Bool}(ht:t < k.n)(hb:r.bad=false)(k1:kd≠1)(k2:kd≠2)(ha:r.act t=1∨r.act t=3):opR k r ⟨kd,t,late⟩=cameR { r with m:=(stepM k r.m t late).1 } t (stepM k r.m t late).2:=by
 unfold opR
 rw[if_neg (fun e=>by
  rcases e with e | e | e
  ·have e2:(t:Int) < 0:=e
   omega
  ·have e2:(k.n:Int)≤(t:Int):=e
   omega
  ·rw[hb] at e;cases e)]
 simp only[Int.toNat_natCast,if_neg k1,if_neg k2,if_pos ha]
theorem opR_none1 {t:Nat}{late:Bool}(ha:r.act t≠0):opR k r ⟨1,t,late⟩=r:=by
 unfold opR
 split
 ·rfl
 ·simp only[Int.toNat_natCast,if_true,if_neg ha]
theorem opR_none2 {t:Nat}{late:Bool}(ha:r.act t≠2):opR k r ⟨2,t,late⟩=r:=by
 unfold opR
 split
 ·rfl
 ·simp only[Int.toNat_natCast,if_neg ha];rfl
theorem opR_none3 {kd:Int}{t:Nat}{late:Bool}(k1:kd≠1)(k2:kd≠2)(h1:r.act t≠1)(h3:r.act t≠3):opR k r ⟨kd,t,late⟩=r:=by
 unfold opR
 split
 ·rfl
 ·simp only[Int.toNat_natCast]
  rw[if_neg (fun e=>e.elim h1 h3)]
theorem opR_out {o:Opn3}(h:o.t < 0∨(k.n:Int)≤o.t∨r.bad=true):opR k r o=r:=by
 unfold opR
 rw[if_pos h]
set_option maxHeartbeats 8000000 in
theorem rOp (h:Ru w U k r)(kd t' L:Int)(late:Bool)(hL:decide (L≠0)=late)(hl:r.l.length+258 < 100000000)(hs:StepOk k):
 Calls Tryz.prog 35 #[.pointer (some ⟨U.g,0,none⟩),.agg #[.int .i64 kd,.int .i64 t',.int .i64 L]] w fun e w'=>e=.returned (.tuple #[])∧RuP w U k (opR k r ⟨kd,t',late⟩) w':=by
 have HSK:=Lib.hid hs
 clear hs
 have hbz:Below w.heap.size w (w.alloc (.cells #[.int .i64 kd,.int .i64 t',.int .i64 L] 61)):=(Below.refl _ _).alloc (Nat.le_refl _) _
 have hB:=Bk.made w 61 #[.int .i64 kd,.int .i64 t',.int .i64 L]
 have hR:=h.below hbz
 have HUZ:Hid (∀ u,RuP (w.alloc (.cells #[.int .i64 kd,.int .i64 t',.int .i64 L] 61)) U k (opR k r ⟨kd,t',late⟩) u→RuP w U k (opR k r ⟨kd,t',late⟩) u):=Lib.hid (fun u ⟨U',h1,h2⟩=>⟨U',h1,((UStays.refl w k.n U).grown hbz).then_ h2⟩)
 have HL:=Lib.hid hl
 have HLt:=Lib.hid hL
 clear hl hL
 have HLK:=Lib.hid h.ey.lk
 go_enter Tryz.func35,Tryz.ntmps35
 go_upto_region 1 with fail
 clear h hbz
 generalize w.alloc (.cells #[.int .i64 kd,.int .i64 t',.int .i64 L] 61)=z at *
 generalize w.heap.size=b at *
 have hS:=UStays.refl z k.n U
 obtain⟨e0,e1,e2⟩:z.cell? ⟨b,0,none⟩=some (.int .i64 kd)∧z.cell? ⟨b,1,none⟩=some (.int .i64 t')∧z.cell? ⟨b,2,none⟩=some (.int .i64 L):=⟨hB.cell 0,hB.cell 1,hB.cell 2⟩
 have hc1:=hR.c1
 have c3:=hR.c3
 by_cases h0:t' < 0
 ·have d0:decide (t' < 0)=true:=decide_eq_true h0
  go_upto_region 1 with fail
  go_quiet (fail)
  replace hS:=hS.grown (below_drawnU z nq)
  replace hR:=hR.below (below_drawnU z nq)
  replace hB:=Bk.within hB (within_of_below (below_drawnU z nq)) (by simp)
  clear e0 e1 e2 hc1 c3
  generalize z.drewN nq=v1 at *
  obtain⟨e0,e1,e2⟩:v1.cell? ⟨b,0,none⟩=some (.int .i64 kd)∧v1.cell? ⟨b,1,none⟩=some (.int .i64 t')∧v1.cell? ⟨b,2,none⟩=some (.int .i64 L):=⟨hB.cell 0,hB.cell 1,hB.cell 2⟩
  have hc1:=hR.c1
  have c3:=hR.c3
  have hfin:=HUZ.out _ (by rw[opR_out (.inl h0)];exact⟨_,hR,hS⟩)
  clear hR hS hB HUZ e0 e1 e2 hc1 c3
  go_wp2
  refine bodyPost_ret (results_none rfl _ _ _) rfl ?_
  exact⟨rfl,hfin⟩
 have d0:decide (t' < 0)=false:=decide_eq_false h0
 by_cases h1:(k.n:Int)≤t'
 ·have d1:decide (t'≥(k.n:Int))=true:=decide_eq_true h1
  have d1':decide ((k.n:Int)≤t')=true:=decide_eq_true h1
  go_upto_region 1 with fail
  go_quiet (fail)
  replace hS:=hS.grown (below_drawnU z nq)
  replace hR:=hR.below (below_drawnU z nq)
  replace hB:=Bk.within hB (within_of_below (below_drawnU z nq)) (by simp)
  clear e0 e1 e2 hc1 c3
  generalize z.drewN nq=v1 at *
  obtain⟨e0,e1,e2⟩:v1.cell? ⟨b,0,none⟩=some (.int .i64 kd)∧v1.cell? ⟨b,1,none⟩=some (.int .i64 t')∧v1.cell? ⟨b,2,none⟩=some (.int .i64 L):=⟨hB.cell 0,hB.cell 1,hB.cell 2⟩
  have hc1:=hR.c1
  have c3:=hR.c3
  have hfin:=HUZ.out _ (by rw[opR_out (.inr (.inl h1))];exact⟨_,hR,hS⟩)
  clear hR hS hB HUZ e0 e1 e2 hc1 c3
  go_wp2
  refine bodyPost_ret (results_none rfl _ _ _) rfl ?_
  exact⟨rfl,hfin⟩
 have d1:decide (t'≥(k.n:Int))=false:=decide_eq_false h1
 have d1':decide ((k.n:Int)≤t')=false:=decide_eq_false h1
 cases hbad:r.bad with
 | true=>
  rw[hbad] at c3
  replace c3:z.cell? ⟨U.g,3,none⟩=some (.int .i64 1):=c3
  go_upto_region 1 with fail
  go_quiet (fail)
  replace hS:=hS.grown (below_drawnU z nq)
  replace hR:=hR.below (below_drawnU z nq)
  replace hB:=Bk.within hB (within_of_below (below_drawnU z nq)) (by simp)
  clear e0 e1 e2 hc1 c3
  generalize z.drewN nq=v1 at *
  obtain⟨e0,e1,e2⟩:v1.cell? ⟨b,0,none⟩=some (.int .i64 kd)∧v1.cell? ⟨b,1,none⟩=some (.int .i64 t')∧v1.cell? ⟨b,2,none⟩=some (.int .i64 L):=⟨hB.cell 0,hB.cell 1,hB.cell 2⟩
  have hc1:=hR.c1
  have c3:=hR.c3
  have hfin:=HUZ.out _ (by rw[opR_out (.inr (.inr hbad))];exact⟨_,hR,hS⟩)
  clear hR hS hB HUZ e0 e1 e2 hc1 c3
  go_wp2
  refine bodyPost_ret (results_none rfl _ _ _) rfl ?_
  exact⟨rfl,hfin⟩
 | false=>
  rw[hbad] at c3
  replace c3:z.cell? ⟨U.g,3,none⟩=some (.int .i64 0):=c3
  obtain⟨t,rfl⟩:∃ t:Nat,t'=t:=⟨t'.toNat,by omega⟩
  have ht:t < k.n:=by omega
  have HT:=Lib.hid ht
  have hti:(t:Int) < (k.n:Int):=by omega
  have hx:=hR.act ht
  go_upto_region 1 with fail
  go_quiet (fail)
  replace hS:=hS.grown (below_drawnU z nq)
  replace hR:=hR.below (below_drawnU z nq)
  replace hB:=Bk.within hB (within_of_below (below_drawnU z nq)) (by simp)
  clear e0 e1 e2 hc1 c3 hx
  generalize z.drewN nq=v1 at *
  obtain⟨e0,e1,e2⟩:v1.cell? ⟨b,0,none⟩=some (.int .i64 kd)∧v1.cell? ⟨b,1,none⟩=some (.int .i64 t)∧v1.cell? ⟨b,2,none⟩=some (.int .i64 L):=⟨hB.cell 0,hB.cell 1,hB.cell 2⟩
  have hc1:=hR.c1
  have c3:=hR.c3
  have hx:=hR.act HT.out
  rw[hbad] at c3
  replace c3:v1.cell? ⟨U.g,3,none⟩=some (.int .i64 0):=c3
  clear h0 h1 ht
  cases q1:(kd==1) with
  | true=>
   have e1k:kd=1:=eq_of_beq q1
   cases a0:(r.act t==0) with
   | true=>
    have HOP:Hid (opR k r ⟨kd,t,late⟩=cameR { enter { r with act:=updN r.act t 1 } 1 t with m:=(beginM k r.m t false).1 } t (beginM k r.m t false).2):=Lib.hid (by rw[e1k];exact opR_lock HT.out hbad (eq_of_beq a0))
    clear e1k
    go_upto_region 2 with fail
    go_quiet (fail)
    replace hS:=hS.grown (below_drawnU v1 nq)
    replace hR:=hR.below (below_drawnU v1 nq)
    replace hB:=Bk.within hB (within_of_below (below_drawnU v1 nq)) (by simp)
    clear e0 e1 e2 hc1 c3 hx
    generalize v1.drewN nq=v2 at *
    obtain⟨e0,e1,e2⟩:v2.cell? ⟨b,0,none⟩=some (.int .i64 kd)∧v2.cell? ⟨b,1,none⟩=some (.int .i64 t)∧v2.cell? ⟨b,2,none⟩=some (.int .i64 L):=⟨hB.cell 0,hB.cell 1,hB.cell 2⟩
    have hc1:=hR.c1
    have c3:=hR.c3
    have hx:=hR.act HT.out
    rw[hbad] at c3
    replace c3:v2.cell? ⟨U.g,3,none⟩=some (.int .i64 0):=c3
    have hf:=hR.acts.free t
    go_upto_region 3 with fail
    go_region
    have hput:=hR.putAct HT.out 1
    have hs3:=hS.then_ hput.2
    have hw3:Within v2 (v2.setCell ⟨U.d,t,none⟩ (.int .i64 1)) (fun b=>b=U.d):=(Within.refl v2 (fun b=>b=U.d)).put U.d t _ (.inl rfl)
    have hbd:b≠U.d:=by obtain⟨cs,hb,_⟩:=hR.acts.bk;exact Bk.unlike hB hb (by decide)
    have hB3:=Bk.within (Bk.within hB hw3 hbd) (within_of_below (Below.refl _ _).drew) (by simp)
    have hR3:=hput.1.below (Below.refl _ _).drew
    have hS3:=hs3.grown (Below.refl _ _).drew
    clear hput hs3 hw3 hbd hR hS hB e0 e1 e2 hc1 c3 hx hf
    generalize (v2.setCell ⟨U.d,t,none⟩ (.int .i64 1)).drew=y at *
    obtain⟨e0,e1,e2⟩:y.cell? ⟨b,0,none⟩=some (.int .i64 kd)∧y.cell? ⟨b,1,none⟩=some (.int .i64 t)∧y.cell? ⟨b,2,none⟩=some (.int .i64 L):=⟨hB3.cell 0,hB3.cell 1,hB3.cell 2⟩
    have HEn:=Lib.hid (rEnter hR3 1 t (by have:=HL.out;simp only;omega))
    have HB3:Hid (∀ y2,Within y y2 (fun i=>i=U.g∨U.lv.ownBlock=some i)→Bk y2 b 61 #[.int .i64 kd,.int .i64 t,.int .i64 L]):=Lib.hid (fun y2 hw=>Bk.within hB3 hw (fun e=>by
     rcases e with e | e
     ·exact Bk.unlike hB3 hR3.ptr (by decide) e
     ·obtain⟨cs2,hb2⟩:=own_bk hR3.ents e
      exact Bk.unlike hB3 hb2 (by decide) rfl))
    clear hR3 hB3
    go_upto_region 5 with (refine HEn.out.mono ?_;rintro e y2 ⟨rfl,U2,hE⟩;have hR:=hE.ru;have hS:=hS3.then_ hE.st;have hB:=HB3.out y2 hE.few;clear hE hS3 e0 e1 e2)
    have hg:U2.g=U.g:=hS.2.2.1
    have HCB:Hid (∀ W,Below y2.heap.size y2 W→Calls Tryz.prog 23 #[.pointer (some ⟨U2.Y.y,0,none⟩),.int .i64 t,.int .i64 0] W (CameY W U2.Y k (beginM k r.m t false))):=Lib.hid (fun W hb=>yBegin (hR.below hb).ey t HT.out false)
    have hms:=begin_ms HLK.out (m:=r.m) (t:=t) false
    obtain⟨X,hX⟩:∃ X,X=(beginM k r.m t false):=⟨_,rfl⟩
    rw[←hX] at HCB HOP hms
    clear hX
    have HST:Hid (∀ W W2 Y',Below y2.heap.size y2 W→Ey W2 Y' k X.1→YStays W k.n U2.Y W2 Y'→Bk W2 b 61 #[.int .i64 kd,.int .i64 t,.int .i64 L]∧∃ U',Ru W2 U' k { enter { r with act:=updN r.act t 1 } 1 t with m:=X.1 }∧UStays y2 k.n U2 W2 U'):=Lib.hid (fun W W2 Y' hb he hs=>by
     have hRW:=hR.below hb
     have hp:=hRW.putEy he hs
     have hBW:=Bk.within hB (within_of_below hb) (by simp)
     exact⟨Bk.within hBW hs.1 (hRW.ey.not_own hBW (by decide) (by decide) (by decide) (by decide) (by decide) (by decide) (by decide) (by decide)),_,hp.1,((UStays.refl y2 k.n U2).grown hb).then_ hp.2⟩)
    have HCA:Hid (∀ W U' mv,Ru W U' k { enter { r with act:=updN r.act t 1 } 1 t with m:=X.1 }→UStays y2 k.n U2 W U'→Lst .i64 3 W mv X.2.ms→Calls Tryz.prog 68 #[.pointer (some ⟨U.g,0,none⟩),.int .i64 t,otR mv X.2] W fun e w'=>e=.returned (.tuple #[])∧RuP y2 U2 k (cameR { enter { r with act:=updN r.act t 1 } 1 t with m:=X.1 } t X.2) w'):=Lib.hid (fun W U' mv hr hs hl=>by
     have hgg:U'.g=U.g:=hs.2.2.1.trans hg
     have hc:=rCame hr t HT.out X.2 mv hl hms.1 (by have h1:=hms.2;have h2:=HL.out;simp only[enter,List.length_append,List.length_cons,List.length_nil];omega)
     rw[hgg] at hc
     exact hc.mono (fun e w' ⟨h1,U'',h2,h3⟩=>⟨h1,U'',h2,hs.then_ h3⟩))
    have HFIN:Hid (∀ W,RuP y2 U2 k (cameR { enter { r with act:=updN r.act t 1 } 1 t with m:=X.1 } t X.2) W→RuP w U k (opR k r ⟨kd,t,late⟩) W):=Lib.hid (fun W ⟨U'',h2,h3⟩=>HUZ.out W (by rw[HOP.out];exact⟨U'',h2,hS.then_ h3⟩))
    have HCE:Hid (∀ W,Below y2.heap.size y2 W→(W.cell? ⟨b,0,none⟩=some (.int .i64 kd)∧W.cell? ⟨b,1,none⟩=some (.int .i64 t)∧W.cell? ⟨b,2,none⟩=some (.int .i64 L))∧W.cell? ⟨U.g,0,none⟩=some (.pointer (some ⟨U2.Y.y,0,none⟩))):=Lib.hid (fun W hb=>by
     have hBW:=Bk.within hB (within_of_below hb) (by simp)
     have h0:=(hR.below hb).c0
     rw[hg] at h0
     exact⟨⟨hBW.cell 0,hBW.cell 1,hBW.cell 2⟩,h0⟩)
    clear hR hS hB hms HUZ HOP hg hbad
    refine wp_region_flowK [9,10] (fun kk W=>match kk with | 0=>Below y2.heap.size y2 W | 1=>Bk W b 61 #[.int .i64 kd,.int .i64 t,.int .i64 L]∧∃ U',Ru W U' k { enter { r with act:=updN r.act t 1 } 1 t with m:=X.1 }∧UStays y2 k.n U2 W U' | _=>RuP y2 U2 k (cameR { enter { r with act:=updN r.act t 1 } 1 t with m:=X.1 } t X.2) W) (fun _ _ _=>True) (fun vs=>{ tmps:=#[.pointer (some ⟨U.g,0,none⟩),.agg #[.int .i64 kd,.int .i64 (t:Int),.int .i64 L],undef,.pointer (some ⟨b,0,none⟩),.pointer (some ⟨b,1,none⟩),.int .i64 (t:Int),.bool false,.bool false,.pointer (some ⟨b,1,none⟩),.int .i64 (t:Int),.pointer (some ⟨U.g,0,none⟩),.pointer (some ⟨U.g,0,none⟩),.pointer (some ⟨U.g,1,none⟩),.slice (some ⟨U.d,0,none⟩) k.n k.n,.int .i64 (k.n:Int),.bool false,.bool false,.bool false,.pointer (some ⟨U.g,0,none⟩),.pointer (some ⟨U.g,0,none⟩),.pointer (some ⟨U.g,3,none⟩),.int .i64 0,.bool false,.bool false,.bool true,.pointer (some ⟨b,0,none⟩),.int .i64 kd,.bool true,.bool true,.pointer (some ⟨U.g,0,none⟩),.pointer (some ⟨U.g,0,none⟩),.pointer (some ⟨U.g,1,none⟩),.slice (some ⟨U.d,0,none⟩) k.n k.n,.pointer (some ⟨b,1,none⟩),.int .i64 (t:Int),.pointer (some ⟨U.d,t,none⟩),.int .i64 (r.act t),.bool true,.bool true,.pointer (some ⟨U.g,0,none⟩),.pointer (some ⟨U.g,0,none⟩),.pointer (some ⟨U.g,1,none⟩),.slice (some ⟨U.d,0,none⟩) k.n k.n,.pointer (some ⟨b,1,none⟩),.int .i64 (t:Int),.pointer (some ⟨U.d,t,none⟩),.pointer (some ⟨U.g,0,none⟩),.pointer (some ⟨b,1,none⟩),.int .i64 (t:Int),.tuple #[],vs 0,vs 1,vs 2,vs 3,vs 4,vs 5,vs 6,vs 7,vs 8,vs 9,vs 10,undef,undef,undef,undef,undef,undef,undef,undef,undef,undef,undef,undef,undef,undef,undef,undef,undef,undef,undef,undef,undef,undef,undef,undef,undef,undef,undef,undef,undef,undef,undef,undef,undef,undef,undef,undef,undef,undef,undef,undef,undef,undef,undef,undef,undef,undef,undef,undef,undef,undef,undef,undef,undef,undef,undef,undef,undef,undef,undef,undef,undef,undef,undef,undef,undef,undef,undef,undef,undef,undef,undef,undef,undef,undef,undef,undef,undef,undef,undef,undef,undef],defers:=[] }) (mixK [(9,fun kk v W=>match kk with | 0=>False | 1=>∃ mv,v=otR mv X.2∧Lst .i64 3 W mv X.2.ms | _=>True),(10,fun _ _ _=>True)] [.pointer (some ⟨U.g,0,none⟩),.pointer (some ⟨b,1,none⟩),.int .i64 t,.pointer (some ⟨U.g,0,none⟩),.pointer (some ⟨U.g,0,none⟩),.pointer (some ⟨U.g,0,none⟩),.pointer (some ⟨U2.Y.y,0,none⟩),.pointer (some ⟨b,1,none⟩),.int .i64 t,undef,undef]) ?ghm ?ghr ?ghc ?ghnd ?ghlit ?gh0 ?ghW ?ghF ?ghS ?gops ?gdone
    case ghm=>kernel_rfl
    case ghr=>kernel_rfl
    case ghc=>kernel_rfl
    case ghnd=>decide
    case ghlit=>intro vs;rfl
    case gh0=>exact Below.refl _ _
    case ghW=>exact fun kk W W2 h hb=>match kk,h with
     | 0,h=>Below.trans h (hb.mono (Below.size h))
     | 1,⟨h1,U9,h2,h3⟩=>⟨Bk.within h1 (within_of_below hb) (by simp),U9,h2.below hb,h3.grown hb⟩
     | _+2,⟨U9,h2,h3⟩=>⟨U9,h2.below hb,h3.grown hb⟩
    case ghF=>exact mixK_stable (by
     intro p0 hp
     simp only[List.mem_cons,List.not_mem_nil,or_false] at hp
     rcases hp with rfl | rfl
     ·exact fun kk v W W2 h hb=>match kk,h with
      | 0,h=>h
      | 1,⟨mv,h1,h2⟩=>⟨mv,h1,h2.within (within_of_below hb) (by simp)⟩
      | _+2,_=>trivial
     ·exact fun _ _ _ _ _ _=>trivial)
    case ghS=>exact fun kk W W2 _ _=>mixK_keep (by
     intro p0 hp
     simp only[List.mem_cons,List.not_mem_nil,or_false] at hp
     rcases hp with rfl | rfl
     ·exact fun v h=>match kk,h with
      | 0,h=>h.elim
      | _+1,_=>trivial
     ·exact fun _ _=>trivial)
    case gops=>
     refine⟨?_,?_,?_,?_,?_,?_,?_,?_,?_,?_,?_,trivial⟩
     ·intro vs W kk h1 h2 hW hd
      refine leaves_free rfl ?_
      clear hd
      go_simp
      exact⟨rfl,Below.refl _ _⟩
     ·intro vs W kk h1 h2 hW hd
      refine leaves_free rfl ?_
      clear hd
      go_simp
      exact⟨rfl,Below.refl _ _⟩
     ·intro vs W kk h1 h2 hW hd
      refine leaves_free rfl ?_
      have e1:vs 1=.pointer (some ⟨b,1,none⟩):=hd 1 (by decide)
      have h2b:kk≤1:=h2
      obtain⟨z0,z1,z2⟩:W.cell? ⟨b,0,none⟩=some (.int .i64 kd)∧W.cell? ⟨b,1,none⟩=some (.int .i64 t)∧W.cell? ⟨b,2,none⟩=some (.int .i64 L):=by
       rcases(show kk=0∨kk=1 by omega) with rfl | rfl
       ·exact(HCE.out W hW).1
       ·have h1b:=hW.1
        exact⟨h1b.cell 0,h1b.cell 1,h1b.cell 2⟩
      clear h2b
      clear hd
      go_simp
      exact⟨rfl,Below.refl _ _⟩
     ·intro vs W kk h1 h2 hW hd
      refine leaves_free rfl ?_
      clear hd
      go_simp
      exact⟨rfl,Below.refl _ _⟩
     ·intro vs W kk h1 h2 hW hd
      refine leaves_free rfl ?_
      have e3:vs 3=.pointer (some ⟨U.g,0,none⟩):=hd 3 (by decide)
      clear hd
      go_simp
      exact⟨rfl,Below.refl _ _⟩
     ·intro vs W kk h1 h2 hW hd
      refine leaves_free rfl ?_
      have e4:vs 4=.pointer (some ⟨U.g,0,none⟩):=hd 4 (by decide)
      clear hd
      go_simp
      exact⟨rfl,Below.refl _ _⟩
     ·intro vs W kk h1 h2 hW hd
      obtain rfl:kk=0:=Nat.le_zero.1 h2
      refine leaves_free rfl ?_
      have e5:vs 5=.pointer (some ⟨U.g,0,none⟩):=hd 5 (by decide)
      obtain⟨⟨z0,z1,z2⟩,zc⟩:=HCE.out W hW
      clear hd
      go_simp
      exact⟨rfl,Below.refl _ _⟩
     ·intro vs W kk h1 h2 hW hd
      refine leaves_free rfl ?_
      clear hd
      go_simp
      exact⟨rfl,Below.refl _ _⟩
     ·intro vs W kk h1 h2 hW hd
      obtain rfl:kk=0:=Nat.le_zero.1 h2
      refine leaves_free rfl ?_
      have e7:vs 7=.pointer (some ⟨b,1,none⟩):=hd 7 (by decide)
      obtain⟨⟨z0,z1,z2⟩,zc⟩:=HCE.out W hW
      clear hd
      go_simp
      exact⟨rfl,Below.refl _ _⟩
     ·intro vs W hW hd
      have e6:vs 6=.pointer (some ⟨U2.Y.y,0,none⟩):=hd 6 (by decide)
      have e8:vs 8=.int .i64 t:=hd 8 (by decide)
      refine leavesIf_free rfl ?_
      have hcb:=HCB.out W hW
      clear hd
      go_simp
      refine hcb.mono ?_
      rintro e W2 ⟨mv,Y9,rfl,hl9,he9,hs9⟩
      obtain⟨hb9,hr9⟩:=HST.out W W2 Y9 hW he9 hs9
      refine⟨_,rfl,?_⟩
      have a1:∃ mv2,otR mv X.2=otR mv2 X.2∧Lst .i64 3 W2 mv2 X.2.ms:=⟨mv,rfl,hl9⟩
      have a2:=And.intro hb9 hr9
      exact And.intro a1 a2
     ·intro vs W hW hd
      have e0:vs 0=.pointer (some ⟨U.g,0,none⟩):=hd 0 (by decide)
      have e2:vs 2=.int .i64 t:=hd 2 (by decide)
      obtain⟨hb9,U9,hr9,hu9⟩:=hW
      obtain⟨mv,e9,hl9⟩:=hd 9 (by decide)
      have hca:=HCA.out W U9 mv hr9 hu9 hl9
      refine leavesIf_free rfl ?_
      clear hd hb9 hr9 hu9 hl9
      go_simp
      refine hca.mono ?_
      rintro e W2 ⟨rfl,hf9⟩
      refine⟨_,rfl,?_⟩
      exact And.intro trivial hf9
    case gdone=>
     intro vs W hW hf
     have hfin:=HFIN.out W hW
     clear hf hW HFIN HCE HCA HST HCB
     go_end0
     exact⟨rfl,hfin⟩
   | false=>
    have q2:(kd==2)=false:=by rw[e1k];rfl
    have q1':(kd != 1)=false:=by rw[e1k];rfl
    have HOP:Hid (opR k r ⟨kd,t,late⟩=r):=Lib.hid (by rw[e1k];exact opR_none1 (ne_of_beq_false a0))
    clear e1k
    go_upto_region 2 with fail
    go_quiet (fail)
    replace hS:=hS.grown (below_drawnU v1 nq)
    replace hR:=hR.below (below_drawnU v1 nq)
    replace hB:=Bk.within hB (within_of_below (below_drawnU v1 nq)) (by simp)
    clear e0 e1 e2 hc1 c3 hx
    generalize v1.drewN nq=v2 at *
    obtain⟨e0,e1,e2⟩:v2.cell? ⟨b,0,none⟩=some (.int .i64 kd)∧v2.cell? ⟨b,1,none⟩=some (.int .i64 t)∧v2.cell? ⟨b,2,none⟩=some (.int .i64 L):=⟨hB.cell 0,hB.cell 1,hB.cell 2⟩
    have hc1:=hR.c1
    have c3:=hR.c3
    have hx:=hR.act HT.out
    rw[hbad] at c3
    replace c3:v2.cell? ⟨U.g,3,none⟩=some (.int .i64 0):=c3
    go_upto_region 6 with fail
    go_quiet (fail)
    replace hS:=hS.grown (below_drawnU v2 nq)
    replace hR:=hR.below (below_drawnU v2 nq)
    replace hB:=Bk.within hB (within_of_below (below_drawnU v2 nq)) (by simp)
    clear e0 e1 e2 hc1 c3 hx
    generalize v2.drewN nq=v3 at *
    obtain⟨e0,e1,e2⟩:v3.cell? ⟨b,0,none⟩=some (.int .i64 kd)∧v3.cell? ⟨b,1,none⟩=some (.int .i64 t)∧v3.cell? ⟨b,2,none⟩=some (.int .i64 L):=⟨hB.cell 0,hB.cell 1,hB.cell 2⟩
    have hc1:=hR.c1
    have c3:=hR.c3
    have hx:=hR.act HT.out
    rw[hbad] at c3
    replace c3:v3.cell? ⟨U.g,3,none⟩=some (.int .i64 0):=c3
    go_upto_region 10 with fail
    go_quiet (fail)
    replace hS:=hS.grown (below_drawnU v3 nq)
    replace hR:=hR.below (below_drawnU v3 nq)
    replace hB:=Bk.within hB (within_of_below (below_drawnU v3 nq)) (by simp)
    clear e0 e1 e2 hc1 c3 hx
    generalize v3.drewN nq=v4 at *
    obtain⟨e0,e1,e2⟩:v4.cell? ⟨b,0,none⟩=some (.int .i64 kd)∧v4.cell? ⟨b,1,none⟩=some (.int .i64 t)∧v4.cell? ⟨b,2,none⟩=some (.int .i64 L):=⟨hB.cell 0,hB.cell 1,hB.cell 2⟩
    have hc1:=hR.c1
    have c3:=hR.c3
    have hx:=hR.act HT.out
    rw[hbad] at c3
    replace c3:v4.cell? ⟨U.g,3,none⟩=some (.int .i64 0):=c3
    have hfin:=HUZ.out _ (by rw[HOP.out];exact⟨_,hR,hS⟩)
    clear hR hS hB HUZ e0 e1 e2 hc1 c3 hx
    go_wp2
    go_end0
    exact⟨rfl,hfin⟩
  | false=>
   have e1k:kd≠1:=ne_of_beq_false q1
   have q1':(kd != 1)=true:=bne_iff_ne.2 e1k
   go_upto_region 2 with fail
   go_quiet (fail)
   replace hS:=hS.grown (below_drawnU v1 nq)
   replace hR:=hR.below (below_drawnU v1 nq)
   replace hB:=Bk.within hB (within_of_below (below_drawnU v1 nq)) (by simp)
   clear e0 e1 e2 hc1 c3 hx
   generalize v1.drewN nq=v2 at *
   obtain⟨e0,e1,e2⟩:v2.cell? ⟨b,0,none⟩=some (.int .i64 kd)∧v2.cell? ⟨b,1,none⟩=some (.int .i64 t)∧v2.cell? ⟨b,2,none⟩=some (.int .i64 L):=⟨hB.cell 0,hB.cell 1,hB.cell 2⟩
   have hc1:=hR.c1
   have c3:=hR.c3
   have hx:=hR.act HT.out
   rw[hbad] at c3
   replace c3:v2.cell? ⟨U.g,3,none⟩=some (.int .i64 0):=c3
   cases q2:(kd==2) with
   | true=>
    have e2k:kd=2:=eq_of_beq q2
    cases a2:(r.act t==2) with
    | true=>
     have HOP:Hid (opR k r ⟨kd,t,late⟩=cameR { enter { r with act:=updN r.act t 3 } 8 t with m:=(beginM k r.m t true).1 } t (beginM k r.m t true).2):=Lib.hid (by rw[e2k];exact opR_unlock HT.out hbad (eq_of_beq a2))
     clear e1k e2k
     go_upto_region 6 with fail
     go_quiet (fail)
     replace hS:=hS.grown (below_drawnU v2 nq)
     replace hR:=hR.below (below_drawnU v2 nq)
     replace hB:=Bk.within hB (within_of_below (below_drawnU v2 nq)) (by simp)
     clear e0 e1 e2 hc1 c3 hx
     generalize v2.drewN nq=v3 at *
     obtain⟨e0,e1,e2⟩:v3.cell? ⟨b,0,none⟩=some (.int .i64 kd)∧v3.cell? ⟨b,1,none⟩=some (.int .i64 t)∧v3.cell? ⟨b,2,none⟩=some (.int .i64 L):=⟨hB.cell 0,hB.cell 1,hB.cell 2⟩
     have hc1:=hR.c1
     have c3:=hR.c3
     have hx:=hR.act HT.out
     rw[hbad] at c3
     replace c3:v3.cell? ⟨U.g,3,none⟩=some (.int .i64 0):=c3
     have hf:=hR.acts.free t
     go_upto_region 7 with fail
     go_region
     have hput:=hR.putAct HT.out 3
     have hs3:=hS.then_ hput.2
     have hw3:Within v3 (v3.setCell ⟨U.d,t,none⟩ (.int .i64 3)) (fun b=>b=U.d):=(Within.refl v3 (fun b=>b=U.d)).put U.d t _ (.inl rfl)
     have hbd:b≠U.d:=by obtain⟨cs,hb,_⟩:=hR.acts.bk;exact Bk.unlike hB hb (by decide)
     have hB3:=Bk.within (Bk.within hB hw3 hbd) (within_of_below (Below.refl _ _).drew) (by simp)
     have hR3:=hput.1.below (Below.refl _ _).drew
     have hS3:=hs3.grown (Below.refl _ _).drew
     clear hput hs3 hw3 hbd hR hS hB e0 e1 e2 hc1 c3 hx hf
     generalize (v3.setCell ⟨U.d,t,none⟩ (.int .i64 3)).drew=y at *
     obtain⟨e0,e1,e2⟩:y.cell? ⟨b,0,none⟩=some (.int .i64 kd)∧y.cell? ⟨b,1,none⟩=some (.int .i64 t)∧y.cell? ⟨b,2,none⟩=some (.int .i64 L):=⟨hB3.cell 0,hB3.cell 1,hB3.cell 2⟩
     have HEn:=Lib.hid (rEnter hR3 8 t (by have:=HL.out;simp only;omega))
     have HB3:Hid (∀ y2,Within y y2 (fun i=>i=U.g∨U.lv.ownBlock=some i)→Bk y2 b 61 #[.int .i64 kd,.int .i64 t,.int .i64 L]):=Lib.hid (fun y2 hw=>Bk.within hB3 hw (fun e=>by
      rcases e with e | e
      ·exact Bk.unlike hB3 hR3.ptr (by decide) e
      ·obtain⟨cs2,hb2⟩:=own_bk hR3.ents e
       exact Bk.unlike hB3 hb2 (by decide) rfl))
     clear hR3 hB3
     go_upto_region 9 with (refine HEn.out.mono ?_;rintro e y2 ⟨rfl,U2,hE⟩;have hR:=hE.ru;have hS:=hS3.then_ hE.st;have hB:=HB3.out y2 hE.few;clear hE hS3 e0 e1 e2)
     have hg:U2.g=U.g:=hS.2.2.1
     have HCB:Hid (∀ W,Below y2.heap.size y2 W→Calls Tryz.prog 23 #[.pointer (some ⟨U2.Y.y,0,none⟩),.int .i64 t,.int .i64 1] W (CameY W U2.Y k (beginM k r.m t true))):=Lib.hid (fun W hb=>yBegin (hR.below hb).ey t HT.out true)
     have hms:=begin_ms HLK.out (m:=r.m) (t:=t) true
     obtain⟨X,hX⟩:∃ X,X=(beginM k r.m t true):=⟨_,rfl⟩
     rw[←hX] at HCB HOP hms
     clear hX
     have HST:Hid (∀ W W2 Y',Below y2.heap.size y2 W→Ey W2 Y' k X.1→YStays W k.n U2.Y W2 Y'→Bk W2 b 61 #[.int .i64 kd,.int .i64 t,.int .i64 L]∧∃ U',Ru W2 U' k { enter { r with act:=updN r.act t 3 } 8 t with m:=X.1 }∧UStays y2 k.n U2 W2 U'):=Lib.hid (fun W W2 Y' hb he hs=>by
      have hRW:=hR.below hb
      have hp:=hRW.putEy he hs
      have hBW:=Bk.within hB (within_of_below hb) (by simp)
      exact⟨Bk.within hBW hs.1 (hRW.ey.not_own hBW (by decide) (by decide) (by decide) (by decide) (by decide) (by decide) (by decide) (by decide)),_,hp.1,((UStays.refl y2 k.n U2).grown hb).then_ hp.2⟩)
     have HCA:Hid (∀ W U' mv,Ru W U' k { enter { r with act:=updN r.act t 3 } 8 t with m:=X.1 }→UStays y2 k.n U2 W U'→Lst .i64 3 W mv X.2.ms→Calls Tryz.prog 68 #[.pointer (some ⟨U.g,0,none⟩),.int .i64 t,otR mv X.2] W fun e w'=>e=.returned (.tuple #[])∧RuP y2 U2 k (cameR { enter { r with act:=updN r.act t 3 } 8 t with m:=X.1 } t X.2) w'):=Lib.hid (fun W U' mv hr hs hl=>by
      have hgg:U'.g=U.g:=hs.2.2.1.trans hg
      have hc:=rCame hr t HT.out X.2 mv hl hms.1 (by have h1:=hms.2;have h2:=HL.out;simp only[enter,List.length_append,List.length_cons,List.length_nil];omega)
      rw[hgg] at hc
      exact hc.mono (fun e w' ⟨h1,U'',h2,h3⟩=>⟨h1,U'',h2,hs.then_ h3⟩))
     have HFIN:Hid (∀ W,RuP y2 U2 k (cameR { enter { r with act:=updN r.act t 3 } 8 t with m:=X.1 } t X.2) W→RuP w U k (opR k r ⟨kd,t,late⟩) W):=Lib.hid (fun W ⟨U'',h2,h3⟩=>HUZ.out W (by rw[HOP.out];exact⟨U'',h2,hS.then_ h3⟩))
     have HCE:Hid (∀ W,Below y2.heap.size y2 W→(W.cell? ⟨b,0,none⟩=some (.int .i64 kd)∧W.cell? ⟨b,1,none⟩=some (.int .i64 t)∧W.cell? ⟨b,2,none⟩=some (.int .i64 L))∧W.cell? ⟨U.g,0,none⟩=some (.pointer (some ⟨U2.Y.y,0,none⟩))):=Lib.hid (fun W hb=>by
      have hBW:=Bk.within hB (within_of_below hb) (by simp)
      have h0:=(hR.below hb).c0
      rw[hg] at h0
      exact⟨⟨hBW.cell 0,hBW.cell 1,hBW.cell 2⟩,h0⟩)
     clear hR hS hB hms HUZ HOP hg hbad
     refine wp_region_flowK [9,10] (fun kk W=>match kk with | 0=>Below y2.heap.size y2 W | 1=>Bk W b 61 #[.int .i64 kd,.int .i64 t,.int .i64 L]∧∃ U',Ru W U' k { enter { r with act:=updN r.act t 3 } 8 t with m:=X.1 }∧UStays y2 k.n U2 W U' | _=>RuP y2 U2 k (cameR { enter { r with act:=updN r.act t 3 } 8 t with m:=X.1 } t X.2) W) (fun _ _ _=>True) (fun vs=>{ tmps:=#[.pointer (some ⟨U.g,0,none⟩),.agg #[.int .i64 kd,.int .i64 (t:Int),.int .i64 L],undef,.pointer (some ⟨b,0,none⟩),.pointer (some ⟨b,1,none⟩),.int .i64 (t:Int),.bool false,.bool false,.pointer (some ⟨b,1,none⟩),.int .i64 (t:Int),.pointer (some ⟨U.g,0,none⟩),.pointer (some ⟨U.g,0,none⟩),.pointer (some ⟨U.g,1,none⟩),.slice (some ⟨U.d,0,none⟩) k.n k.n,.int .i64 (k.n:Int),.bool false,.bool false,.bool false,.pointer (some ⟨U.g,0,none⟩),.pointer (some ⟨U.g,0,none⟩),.pointer (some ⟨U.g,3,none⟩),.int .i64 0,.bool false,.bool false,.bool false,.pointer (some ⟨b,0,none⟩),.int .i64 kd,.bool false,.bool false,undef,undef,undef,undef,undef,undef,undef,undef,undef,.bool false,undef,undef,undef,undef,undef,undef,undef,undef,undef,undef,undef,undef,undef,undef,undef,undef,undef,undef,undef,undef,undef,undef,.bool true,.pointer (some ⟨b,0,none⟩),.int .i64 kd,.bool true,.bool true,.pointer (some ⟨U.g,0,none⟩),.pointer (some ⟨U.g,0,none⟩),.pointer (some ⟨U.g,1,none⟩),.slice (some ⟨U.d,0,none⟩) k.n k.n,.pointer (some ⟨b,1,none⟩),.int .i64 (t:Int),.pointer (some ⟨U.d,t,none⟩),.int .i64 (r.act t),.bool true,.bool true,.pointer (some ⟨U.g,0,none⟩),.pointer (some ⟨U.g,0,none⟩),.pointer (some ⟨U.g,1,none⟩),.slice (some ⟨U.d,0,none⟩) k.n k.n,.pointer (some ⟨b,1,none⟩),.int .i64 (t:Int),.pointer (some ⟨U.d,t,none⟩),.pointer (some ⟨U.g,0,none⟩),.pointer (some ⟨b,1,none⟩),.int .i64 (t:Int),.tuple #[],vs 0,vs 1,vs 2,vs 3,vs 4,vs 5,vs 6,vs 7,vs 8,vs 9,vs 10,undef,undef,undef,undef,undef,undef,undef,undef,undef,undef,undef,undef,undef,undef,undef,undef,undef,undef,undef,undef,undef,undef,undef,undef,undef,undef,undef,undef,undef,undef,undef,undef,undef,undef,undef,undef,undef,undef,undef,undef,undef,undef,undef,undef],defers:=[] }) (mixK [(9,fun kk v W=>match kk with | 0=>False | 1=>∃ mv,v=otR mv X.2∧Lst .i64 3 W mv X.2.ms | _=>True),(10,fun _ _ _=>True)] [.pointer (some ⟨U.g,0,none⟩),.pointer (some ⟨b,1,none⟩),.int .i64 t,.pointer (some ⟨U.g,0,none⟩),.pointer (some ⟨U.g,0,none⟩),.pointer (some ⟨U.g,0,none⟩),.pointer (some ⟨U2.Y.y,0,none⟩),.pointer (some ⟨b,1,none⟩),.int .i64 t,undef,undef]) ?ghm ?ghr ?ghc ?ghnd ?ghlit ?gh0 ?ghW ?ghF ?ghS ?gops ?gdone
     case ghm=>kernel_rfl
     case ghr=>kernel_rfl
     case ghc=>kernel_rfl
     case ghnd=>decide
     case ghlit=>intro vs;rfl
     case gh0=>exact Below.refl _ _
     case ghW=>exact fun kk W W2 h hb=>match kk,h with
      | 0,h=>Below.trans h (hb.mono (Below.size h))
      | 1,⟨h1,U9,h2,h3⟩=>⟨Bk.within h1 (within_of_below hb) (by simp),U9,h2.below hb,h3.grown hb⟩
      | _+2,⟨U9,h2,h3⟩=>⟨U9,h2.below hb,h3.grown hb⟩
     case ghF=>exact mixK_stable (by
      intro p0 hp
      simp only[List.mem_cons,List.not_mem_nil,or_false] at hp
      rcases hp with rfl | rfl
      ·exact fun kk v W W2 h hb=>match kk,h with
       | 0,h=>h
       | 1,⟨mv,h1,h2⟩=>⟨mv,h1,h2.within (within_of_below hb) (by simp)⟩
       | _+2,_=>trivial
      ·exact fun _ _ _ _ _ _=>trivial)
     case ghS=>exact fun kk W W2 _ _=>mixK_keep (by
      intro p0 hp
      simp only[List.mem_cons,List.not_mem_nil,or_false] at hp
      rcases hp with rfl | rfl
      ·exact fun v h=>match kk,h with
       | 0,h=>h.elim
       | _+1,_=>trivial
      ·exact fun _ _=>trivial)
     case gops=>
      refine⟨?_,?_,?_,?_,?_,?_,?_,?_,?_,?_,?_,trivial⟩
      ·intro vs W kk h1 h2 hW hd
       refine leaves_free rfl ?_
       clear hd
       go_simp
       exact⟨rfl,Below.refl _ _⟩
      ·intro vs W kk h1 h2 hW hd
       refine leaves_free rfl ?_
       clear hd
       go_simp
       exact⟨rfl,Below.refl _ _⟩
      ·intro vs W kk h1 h2 hW hd
       refine leaves_free rfl ?_
       have e1:vs 1=.pointer (some ⟨b,1,none⟩):=hd 1 (by decide)
       have h2b:kk≤1:=h2
       obtain⟨z0,z1,z2⟩:W.cell? ⟨b,0,none⟩=some (.int .i64 kd)∧W.cell? ⟨b,1,none⟩=some (.int .i64 t)∧W.cell? ⟨b,2,none⟩=some (.int .i64 L):=by
        rcases(show kk=0∨kk=1 by omega) with rfl | rfl
        ·exact(HCE.out W hW).1
        ·have h1b:=hW.1
         exact⟨h1b.cell 0,h1b.cell 1,h1b.cell 2⟩
       clear h2b
       clear hd
       go_simp
       exact⟨rfl,Below.refl _ _⟩
      ·intro vs W kk h1 h2 hW hd
       refine leaves_free rfl ?_
       clear hd
       go_simp
       exact⟨rfl,Below.refl _ _⟩
      ·intro vs W kk h1 h2 hW hd
       refine leaves_free rfl ?_
       have e3:vs 3=.pointer (some ⟨U.g,0,none⟩):=hd 3 (by decide)
       clear hd
       go_simp
       exact⟨rfl,Below.refl _ _⟩
      ·intro vs W kk h1 h2 hW hd
       refine leaves_free rfl ?_
       have e4:vs 4=.pointer (some ⟨U.g,0,none⟩):=hd 4 (by decide)
       clear hd
       go_simp
       exact⟨rfl,Below.refl _ _⟩
      ·intro vs W kk h1 h2 hW hd
       obtain rfl:kk=0:=Nat.le_zero.1 h2
       refine leaves_free rfl ?_
       have e5:vs 5=.pointer (some ⟨U.g,0,none⟩):=hd 5 (by decide)
       obtain⟨⟨z0,z1,z2⟩,zc⟩:=HCE.out W hW
       clear hd
       go_simp
       exact⟨rfl,Below.refl _ _⟩
      ·intro vs W kk h1 h2 hW hd
       refine leaves_free rfl ?_
       clear hd
       go_simp
       exact⟨rfl,Below.refl _ _⟩
      ·intro vs W kk h1 h2 hW hd
       obtain rfl:kk=0:=Nat.le_zero.1 h2
       refine leaves_free rfl ?_
       have e7:vs 7=.pointer (some ⟨b,1,none⟩):=hd 7 (by decide)
       obtain⟨⟨z0,z1,z2⟩,zc⟩:=HCE.out W hW
       clear hd
       go_simp
       exact⟨rfl,Below.refl _ _⟩
      ·intro vs W hW hd
       have e6:vs 6=.pointer (some ⟨U2.Y.y,0,none⟩):=hd 6 (by decide)
       have e8:vs 8=.int .i64 t:=hd 8 (by decide)
       refine leavesIf_free rfl ?_
       have hcb:=HCB.out W hW
       clear hd
       go_simp
       refine hcb.mono ?_
       rintro e W2 ⟨mv,Y9,rfl,hl9,he9,hs9⟩
       obtain⟨hb9,hr9⟩:=HST.out W W2 Y9 hW he9 hs9
       refine⟨_,rfl,?_⟩
       have a1:∃ mv2,otR mv X.2=otR mv2 X.2∧Lst .i64 3 W2 mv2 X.2.ms:=⟨mv,rfl,hl9⟩
       have a2:=And.intro hb9 hr9
       exact And.intro a1 a2
      ·intro vs W hW hd
       have e0:vs 0=.pointer (some ⟨U.g,0,none⟩):=hd 0 (by decide)
       have e2:vs 2=.int .i64 t:=hd 2 (by decide)
       obtain⟨hb9,U9,hr9,hu9⟩:=hW
       obtain⟨mv,e9,hl9⟩:=hd 9 (by decide)
       have hca:=HCA.out W U9 mv hr9 hu9 hl9
       refine leavesIf_free rfl ?_
       clear hd hb9 hr9 hu9 hl9
       go_simp
       refine hca.mono ?_
       rintro e W2 ⟨rfl,hf9⟩
       refine⟨_,rfl,?_⟩
       exact And.intro trivial hf9
     case gdone=>
      intro vs W hW hf
      have hfin:=HFIN.out W hW
      clear hf hW HFIN HCE HCA HST HCB
      go_end0
      exact⟨rfl,hfin⟩
    | false=>
     have q2':(kd != 2)=false:=by rw[e2k];rfl
     have HOP:Hid (opR k r ⟨kd,t,late⟩=r):=Lib.hid (by rw[e2k];exact opR_none2 (ne_of_beq_false a2))
     clear e1k e2k
     go_upto_region 6 with fail
     go_quiet (fail)
     replace hS:=hS.grown (below_drawnU v2 nq)
     replace hR:=hR.below (below_drawnU v2 nq)
     replace hB:=Bk.within hB (within_of_below (below_drawnU v2 nq)) (by simp)
     clear e0 e1 e2 hc1 c3 hx
     generalize v2.drewN nq=v3 at *
     obtain⟨e0,e1,e2⟩:v3.cell? ⟨b,0,none⟩=some (.int .i64 kd)∧v3.cell? ⟨b,1,none⟩=some (.int .i64 t)∧v3.cell? ⟨b,2,none⟩=some (.int .i64 L):=⟨hB.cell 0,hB.cell 1,hB.cell 2⟩
     have hc1:=hR.c1
     have c3:=hR.c3
     have hx:=hR.act HT.out
     rw[hbad] at c3
     replace c3:v3.cell? ⟨U.g,3,none⟩=some (.int .i64 0):=c3
     go_upto_region 10 with fail
     go_quiet (fail)
     replace hS:=hS.grown (below_drawnU v3 nq)
     replace hR:=hR.below (below_drawnU v3 nq)
     replace hB:=Bk.within hB (within_of_below (below_drawnU v3 nq)) (by simp)
     clear e0 e1 e2 hc1 c3 hx
     generalize v3.drewN nq=v4 at *
     obtain⟨e0,e1,e2⟩:v4.cell? ⟨b,0,none⟩=some (.int .i64 kd)∧v4.cell? ⟨b,1,none⟩=some (.int .i64 t)∧v4.cell? ⟨b,2,none⟩=some (.int .i64 L):=⟨hB.cell 0,hB.cell 1,hB.cell 2⟩
     have hc1:=hR.c1
     have c3:=hR.c3
     have hx:=hR.act HT.out
     rw[hbad] at c3
     replace c3:v4.cell? ⟨U.g,3,none⟩=some (.int .i64 0):=c3
     have hfin:=HUZ.out _ (by rw[HOP.out];exact⟨_,hR,hS⟩)
     clear hR hS hB HUZ e0 e1 e2 hc1 c3 hx
     go_wp2
     go_end0
     exact⟨rfl,hfin⟩
   | false=>
    have e2k:kd≠2:=ne_of_beq_false q2
    have q2':(kd != 2)=true:=bne_iff_ne.2 e2k
    go_upto_region 6 with fail
    go_quiet (fail)
    replace hS:=hS.grown (below_drawnU v2 nq)
    replace hR:=hR.below (below_drawnU v2 nq)
    replace hB:=Bk.within hB (within_of_below (below_drawnU v2 nq)) (by simp)
    clear e0 e1 e2 hc1 c3 hx
    generalize v2.drewN nq=v3 at *
    obtain⟨e0,e1,e2⟩:v3.cell? ⟨b,0,none⟩=some (.int .i64 kd)∧v3.cell? ⟨b,1,none⟩=some (.int .i64 t)∧v3.cell? ⟨b,2,none⟩=some (.int .i64 L):=⟨hB.cell 0,hB.cell 1,hB.cell 2⟩
    have hc1:=hR.c1
    have c3:=hR.c3
    have hx:=hR.act HT.out
    rw[hbad] at c3
    replace c3:v3.cell? ⟨U.g,3,none⟩=some (.int .i64 0):=c3
    cases a1:(r.act t==1) with
    | true=>
     have HOP:Hid (opR k r ⟨kd,t,late⟩=cameR { r with m:=(stepM k r.m t late).1 } t (stepM k r.m t late).2):=Lib.hid (opR_step HT.out hbad e1k e2k (.inl (eq_of_beq a1)))
     clear e1k e2k
     go_upto_region 10 with fail
     go_quiet (fail)
     replace hS:=hS.grown (below_drawnU v3 nq)
     replace hR:=hR.below (below_drawnU v3 nq)
     replace hB:=Bk.within hB (within_of_below (below_drawnU v3 nq)) (by simp)
     clear e0 e1 e2 hc1 c3 hx
     generalize v3.drewN nq=v4 at *
     obtain⟨e0,e1,e2⟩:v4.cell? ⟨b,0,none⟩=some (.int .i64 kd)∧v4.cell? ⟨b,1,none⟩=some (.int .i64 t)∧v4.cell? ⟨b,2,none⟩=some (.int .i64 L):=⟨hB.cell 0,hB.cell 1,hB.cell 2⟩
     have hc1:=hR.c1
     have c3:=hR.c3
     have hx:=hR.act HT.out
     rw[hbad] at c3
     replace c3:v4.cell? ⟨U.g,3,none⟩=some (.int .i64 0):=c3
     go_upto_region 11 with fail
     have hg:U.g=U.g:=hS.2.2.1
     have HCB:Hid (∀ W,Below v4.heap.size v4 W→Calls Tryz.prog 25 #[.pointer (some ⟨U.Y.y,0,none⟩),.int .i64 t,.int .i64 L] W (CameY W U.Y k (stepM k r.m t late))):=Lib.hid (fun W hb=>by have h1:=HSK.out W _ _ t L (hR.below hb).ey HT.out;rw[HLt.out] at h1;exact h1)
     have hms:=step_ms HLK.out (m:=r.m) (t:=t) late
     obtain⟨X,hX⟩:∃ X,X=(stepM k r.m t late):=⟨_,rfl⟩
     rw[←hX] at HCB HOP hms
     clear hX
     have HST:Hid (∀ W W2 Y',Below v4.heap.size v4 W→Ey W2 Y' k X.1→YStays W k.n U.Y W2 Y'→Bk W2 b 61 #[.int .i64 kd,.int .i64 t,.int .i64 L]∧∃ U',Ru W2 U' k { r with m:=X.1 }∧UStays v4 k.n U W2 U'):=Lib.hid (fun W W2 Y' hb he hs=>by
      have hRW:=hR.below hb
      have hp:=hRW.putEy he hs
      have hBW:=Bk.within hB (within_of_below hb) (by simp)
      exact⟨Bk.within hBW hs.1 (hRW.ey.not_own hBW (by decide) (by decide) (by decide) (by decide) (by decide) (by decide) (by decide) (by decide)),_,hp.1,((UStays.refl v4 k.n U).grown hb).then_ hp.2⟩)
     have HCA:Hid (∀ W U' mv,Ru W U' k { r with m:=X.1 }→UStays v4 k.n U W U'→Lst .i64 3 W mv X.2.ms→Calls Tryz.prog 68 #[.pointer (some ⟨U.g,0,none⟩),.int .i64 t,otR mv X.2] W fun e w'=>e=.returned (.tuple #[])∧RuP v4 U k (cameR { r with m:=X.1 } t X.2) w'):=Lib.hid (fun W U' mv hr hs hl=>by
      have hgg:U'.g=U.g:=hs.2.2.1.trans hg
      have hc:=rCame hr t HT.out X.2 mv hl hms.1 (by have h1:=hms.2;have h2:=HL.out;simp only;omega)
      rw[hgg] at hc
      exact hc.mono (fun e w' ⟨h1,U'',h2,h3⟩=>⟨h1,U'',h2,hs.then_ h3⟩))
     have HFIN:Hid (∀ W,RuP v4 U k (cameR { r with m:=X.1 } t X.2) W→RuP w U k (opR k r ⟨kd,t,late⟩) W):=Lib.hid (fun W ⟨U'',h2,h3⟩=>HUZ.out W (by rw[HOP.out];exact⟨U'',h2,hS.then_ h3⟩))
     have HCE:Hid (∀ W,Below v4.heap.size v4 W→(W.cell? ⟨b,0,none⟩=some (.int .i64 kd)∧W.cell? ⟨b,1,none⟩=some (.int .i64 t)∧W.cell? ⟨b,2,none⟩=some (.int .i64 L))∧W.cell? ⟨U.g,0,none⟩=some (.pointer (some ⟨U.Y.y,0,none⟩))):=Lib.hid (fun W hb=>by
      have hBW:=Bk.within hB (within_of_below hb) (by simp)
      have h0:=(hR.below hb).c0
      rw[hg] at h0
      exact⟨⟨hBW.cell 0,hBW.cell 1,hBW.cell 2⟩,h0⟩)
     clear hR hS hB hms HUZ HOP hg hbad
     refine wp_region_flowK [11,12] (fun kk W=>match kk with | 0=>Below v4.heap.size v4 W | 1=>Bk W b 61 #[.int .i64 kd,.int .i64 t,.int .i64 L]∧∃ U',Ru W U' k { r with m:=X.1 }∧UStays v4 k.n U W U' | _=>RuP v4 U k (cameR { r with m:=X.1 } t X.2) W) (fun _ _ _=>True) (fun vs=>{ tmps:=#[.pointer (some ⟨U.g,0,none⟩),.agg #[.int .i64 kd,.int .i64 (t:Int),.int .i64 L],undef,.pointer (some ⟨b,0,none⟩),.pointer (some ⟨b,1,none⟩),.int .i64 (t:Int),.bool false,.bool false,.pointer (some ⟨b,1,none⟩),.int .i64 (t:Int),.pointer (some ⟨U.g,0,none⟩),.pointer (some ⟨U.g,0,none⟩),.pointer (some ⟨U.g,1,none⟩),.slice (some ⟨U.d,0,none⟩) k.n k.n,.int .i64 (k.n:Int),.bool false,.bool false,.bool false,.pointer (some ⟨U.g,0,none⟩),.pointer (some ⟨U.g,0,none⟩),.pointer (some ⟨U.g,3,none⟩),.int .i64 0,.bool false,.bool false,.bool false,.pointer (some ⟨b,0,none⟩),.int .i64 kd,.bool false,.bool false,undef,undef,undef,undef,undef,undef,undef,undef,undef,.bool false,undef,undef,undef,undef,undef,undef,undef,undef,undef,undef,undef,undef,undef,undef,undef,undef,undef,undef,undef,undef,undef,undef,.bool false,.pointer (some ⟨b,0,none⟩),.int .i64 kd,.bool false,.bool false,undef,undef,undef,undef,undef,undef,undef,undef,undef,.bool false,undef,undef,undef,undef,undef,undef,undef,undef,undef,undef,undef,undef,undef,undef,undef,undef,undef,undef,undef,undef,undef,undef,.bool true,.pointer (some ⟨b,0,none⟩),.int .i64 kd,.bool true,.bool true,.pointer (some ⟨b,0,none⟩),.int .i64 kd,.bool true,.bool true,.bool true,.pointer (some ⟨U.g,0,none⟩),.pointer (some ⟨U.g,0,none⟩),.pointer (some ⟨U.g,1,none⟩),.slice (some ⟨U.d,0,none⟩) k.n k.n,.pointer (some ⟨b,1,none⟩),.int .i64 (t:Int),.pointer (some ⟨U.d,t,none⟩),.int .i64 (r.act t),.bool true,.bool true,undef,undef,undef,undef,undef,undef,undef,undef,undef,.bool true,.bool true,vs 0,vs 1,vs 2,vs 3,vs 4,vs 5,vs 6,vs 7,vs 8,vs 9,vs 10,vs 11,vs 12],defers:=[] }) (mixK [(11,fun kk v W=>match kk with | 0=>False | 1=>∃ mv,v=otR mv X.2∧Lst .i64 3 W mv X.2.ms | _=>True),(12,fun _ _ _=>True)] [.pointer (some ⟨U.g,0,none⟩),.pointer (some ⟨b,1,none⟩),.int .i64 t,.pointer (some ⟨U.g,0,none⟩),.pointer (some ⟨U.g,0,none⟩),.pointer (some ⟨U.g,0,none⟩),.pointer (some ⟨U.Y.y,0,none⟩),.pointer (some ⟨b,1,none⟩),.int .i64 t,.pointer (some ⟨b,2,none⟩),.int .i64 L,undef,undef]) ?ghm ?ghr ?ghc ?ghnd ?ghlit ?gh0 ?ghW ?ghF ?ghS ?gops ?gdone
     case ghm=>kernel_rfl
     case ghr=>kernel_rfl
     case ghc=>kernel_rfl
     case ghnd=>decide
     case ghlit=>intro vs;rfl
     case gh0=>exact Below.refl _ _
     case ghW=>exact fun kk W W2 h hb=>match kk,h with
      | 0,h=>Below.trans h (hb.mono (Below.size h))
      | 1,⟨h1,U9,h2,h3⟩=>⟨Bk.within h1 (within_of_below hb) (by simp),U9,h2.below hb,h3.grown hb⟩
      | _+2,⟨U9,h2,h3⟩=>⟨U9,h2.below hb,h3.grown hb⟩
     case ghF=>exact mixK_stable (by
      intro p0 hp
      simp only[List.mem_cons,List.not_mem_nil,or_false] at hp
      rcases hp with rfl | rfl
      ·exact fun kk v W W2 h hb=>match kk,h with
       | 0,h=>h
       | 1,⟨mv,h1,h2⟩=>⟨mv,h1,h2.within (within_of_below hb) (by simp)⟩
       | _+2,_=>trivial
      ·exact fun _ _ _ _ _ _=>trivial)
     case ghS=>exact fun kk W W2 _ _=>mixK_keep (by
      intro p0 hp
      simp only[List.mem_cons,List.not_mem_nil,or_false] at hp
      rcases hp with rfl | rfl
      ·exact fun v h=>match kk,h with
       | 0,h=>h.elim
       | _+1,_=>trivial
      ·exact fun _ _=>trivial)
     case gops=>
      refine⟨?_,?_,?_,?_,?_,?_,?_,?_,?_,?_,?_,?_,?_,trivial⟩
      ·intro vs W kk h1 h2 hW hd
       refine leaves_free rfl ?_
       clear hd
       go_simp
       exact⟨rfl,Below.refl _ _⟩
      ·intro vs W kk h1 h2 hW hd
       refine leaves_free rfl ?_
       clear hd
       go_simp
       exact⟨rfl,Below.refl _ _⟩
      ·intro vs W kk h1 h2 hW hd
       refine leaves_free rfl ?_
       have e1:vs 1=.pointer (some ⟨b,1,none⟩):=hd 1 (by decide)
       have h2b:kk≤1:=h2
       obtain⟨z0,z1,z2⟩:W.cell? ⟨b,0,none⟩=some (.int .i64 kd)∧W.cell? ⟨b,1,none⟩=some (.int .i64 t)∧W.cell? ⟨b,2,none⟩=some (.int .i64 L):=by
        rcases(show kk=0∨kk=1 by omega) with rfl | rfl
        ·exact(HCE.out W hW).1
        ·have h1b:=hW.1
         exact⟨h1b.cell 0,h1b.cell 1,h1b.cell 2⟩
       clear h2b
       clear hd
       go_simp
       exact⟨rfl,Below.refl _ _⟩
      ·intro vs W kk h1 h2 hW hd
       refine leaves_free rfl ?_
       clear hd
       go_simp
       exact⟨rfl,Below.refl _ _⟩
      ·intro vs W kk h1 h2 hW hd
       refine leaves_free rfl ?_
       have e3:vs 3=.pointer (some ⟨U.g,0,none⟩):=hd 3 (by decide)
       clear hd
       go_simp
       exact⟨rfl,Below.refl _ _⟩
      ·intro vs W kk h1 h2 hW hd
       refine leaves_free rfl ?_
       have e4:vs 4=.pointer (some ⟨U.g,0,none⟩):=hd 4 (by decide)
       clear hd
       go_simp
       exact⟨rfl,Below.refl _ _⟩
      ·intro vs W kk h1 h2 hW hd
       obtain rfl:kk=0:=Nat.le_zero.1 h2
       refine leaves_free rfl ?_
       have e5:vs 5=.pointer (some ⟨U.g,0,none⟩):=hd 5 (by decide)
       obtain⟨⟨z0,z1,z2⟩,zc⟩:=HCE.out W hW
       clear hd
       go_simp
       exact⟨rfl,Below.refl _ _⟩
      ·intro vs W kk h1 h2 hW hd
       refine leaves_free rfl ?_
       clear hd
       go_simp
       exact⟨rfl,Below.refl _ _⟩
      ·intro vs W kk h1 h2 hW hd
       obtain rfl:kk=0:=Nat.le_zero.1 h2
       refine leaves_free rfl ?_
       have e7:vs 7=.pointer (some ⟨b,1,none⟩):=hd 7 (by decide)
       obtain⟨⟨z0,z1,z2⟩,zc⟩:=HCE.out W hW
       clear hd
       go_simp
       exact⟨rfl,Below.refl _ _⟩
      ·intro vs W kk h1 h2 hW hd
       refine leaves_free rfl ?_
       clear hd
       go_simp
       exact⟨rfl,Below.refl _ _⟩
      ·intro vs W kk h1 h2 hW hd
       obtain rfl:kk=0:=Nat.le_zero.1 h2
       refine leaves_free rfl ?_
       have e9:vs 9=.pointer (some ⟨b,2,none⟩):=hd 9 (by decide)
       obtain⟨⟨z0,z1,z2⟩,zc⟩:=HCE.out W hW
       clear hd
       go_simp
       exact⟨rfl,Below.refl _ _⟩
      ·intro vs W hW hd
       have e6:vs 6=.pointer (some ⟨U.Y.y,0,none⟩):=hd 6 (by decide)
       have e8:vs 8=.int .i64 t:=hd 8 (by decide)
       have e10:vs 10=.int .i64 L:=hd 10 (by decide)
       refine leavesIf_free rfl ?_
       have hcb:=HCB.out W hW
       clear hd
       go_simp
       refine hcb.mono ?_
       rintro e W2 ⟨mv,Y9,rfl,hl9,he9,hs9⟩
       obtain⟨hb9,hr9⟩:=HST.out W W2 Y9 hW he9 hs9
       refine⟨_,rfl,?_⟩
       have a1:∃ mv2,otR mv X.2=otR mv2 X.2∧Lst .i64 3 W2 mv2 X.2.ms:=⟨mv,rfl,hl9⟩
       have a2:=And.intro hb9 hr9
       exact And.intro a1 a2
      ·intro vs W hW hd
       have e0:vs 0=.pointer (some ⟨U.g,0,none⟩):=hd 0 (by decide)
       have e2:vs 2=.int .i64 t:=hd 2 (by decide)
       obtain⟨hb9,U9,hr9,hu9⟩:=hW
       obtain⟨mv,e11,hl9⟩:=hd 11 (by decide)
       have hca:=HCA.out W U9 mv hr9 hu9 hl9
       refine leavesIf_free rfl ?_
       clear hd hb9 hr9 hu9 hl9
       go_simp
       refine hca.mono ?_
       rintro e W2 ⟨rfl,hf9⟩
       refine⟨_,rfl,?_⟩
       exact And.intro trivial hf9
     case gdone=>
      intro vs W hW hf
      have hfin:=HFIN.out W hW
      clear hf hW HFIN HCE HCA HST HCB
      go_end0
      exact⟨rfl,hfin⟩
    | false=>
     cases a3:(r.act t==3) with
     | true=>
      have HOP:Hid (opR k r ⟨kd,t,late⟩=cameR { r with m:=(stepM k r.m t late).1 } t (stepM k r.m t late).2):=Lib.hid (opR_step HT.out hbad e1k e2k (.inr (eq_of_beq a3)))
      clear e1k e2k
      go_upto_region 10 with fail
      go_quiet (fail)
      replace hS:=hS.grown (below_drawnU v3 nq)
      replace hR:=hR.below (below_drawnU v3 nq)
      replace hB:=Bk.within hB (within_of_below (below_drawnU v3 nq)) (by simp)
      clear e0 e1 e2 hc1 c3 hx
      generalize v3.drewN nq=v4 at *
      obtain⟨e0,e1,e2⟩:v4.cell? ⟨b,0,none⟩=some (.int .i64 kd)∧v4.cell? ⟨b,1,none⟩=some (.int .i64 t)∧v4.cell? ⟨b,2,none⟩=some (.int .i64 L):=⟨hB.cell 0,hB.cell 1,hB.cell 2⟩
      have hc1:=hR.c1
      have c3:=hR.c3
      have hx:=hR.act HT.out
      rw[hbad] at c3
      replace c3:v4.cell? ⟨U.g,3,none⟩=some (.int .i64 0):=c3
      go_upto_region 11 with fail
      have hg:U.g=U.g:=hS.2.2.1
      have HCB:Hid (∀ W,Below v4.heap.size v4 W→Calls Tryz.prog 25 #[.pointer (some ⟨U.Y.y,0,none⟩),.int .i64 t,.int .i64 L] W (CameY W U.Y k (stepM k r.m t late))):=Lib.hid (fun W hb=>by have h1:=HSK.out W _ _ t L (hR.below hb).ey HT.out;rw[HLt.out] at h1;exact h1)
      have hms:=step_ms HLK.out (m:=r.m) (t:=t) late
      obtain⟨X,hX⟩:∃ X,X=(stepM k r.m t late):=⟨_,rfl⟩
      rw[←hX] at HCB HOP hms
      clear hX
      have HST:Hid (∀ W W2 Y',Below v4.heap.size v4 W→Ey W2 Y' k X.1→YStays W k.n U.Y W2 Y'→Bk W2 b 61 #[.int .i64 kd,.int .i64 t,.int .i64 L]∧∃ U',Ru W2 U' k { r with m:=X.1 }∧UStays v4 k.n U W2 U'):=Lib.hid (fun W W2 Y' hb he hs=>by
       have hRW:=hR.below hb
       have hp:=hRW.putEy he hs
       have hBW:=Bk.within hB (within_of_below hb) (by simp)
       exact⟨Bk.within hBW hs.1 (hRW.ey.not_own hBW (by decide) (by decide) (by decide) (by decide) (by decide) (by decide) (by decide) (by decide)),_,hp.1,((UStays.refl v4 k.n U).grown hb).then_ hp.2⟩)
      have HCA:Hid (∀ W U' mv,Ru W U' k { r with m:=X.1 }→UStays v4 k.n U W U'→Lst .i64 3 W mv X.2.ms→Calls Tryz.prog 68 #[.pointer (some ⟨U.g,0,none⟩),.int .i64 t,otR mv X.2] W fun e w'=>e=.returned (.tuple #[])∧RuP v4 U k (cameR { r with m:=X.1 } t X.2) w'):=Lib.hid (fun W U' mv hr hs hl=>by
       have hgg:U'.g=U.g:=hs.2.2.1.trans hg
       have hc:=rCame hr t HT.out X.2 mv hl hms.1 (by have h1:=hms.2;have h2:=HL.out;simp only;omega)
       rw[hgg] at hc
       exact hc.mono (fun e w' ⟨h1,U'',h2,h3⟩=>⟨h1,U'',h2,hs.then_ h3⟩))
      have HFIN:Hid (∀ W,RuP v4 U k (cameR { r with m:=X.1 } t X.2) W→RuP w U k (opR k r ⟨kd,t,late⟩) W):=Lib.hid (fun W ⟨U'',h2,h3⟩=>HUZ.out W (by rw[HOP.out];exact⟨U'',h2,hS.then_ h3⟩))
      have HCE:Hid (∀ W,Below v4.heap.size v4 W→(W.cell? ⟨b,0,none⟩=some (.int .i64 kd)∧W.cell? ⟨b,1,none⟩=some (.int .i64 t)∧W.cell? ⟨b,2,none⟩=some (.int .i64 L))∧W.cell? ⟨U.g,0,none⟩=some (.pointer (some ⟨U.Y.y,0,none⟩))):=Lib.hid (fun W hb=>by
       have hBW:=Bk.within hB (within_of_below hb) (by simp)
       have h0:=(hR.below hb).c0
       rw[hg] at h0
       exact⟨⟨hBW.cell 0,hBW.cell 1,hBW.cell 2⟩,h0⟩)
      clear hR hS hB hms HUZ HOP hg hbad
      refine wp_region_flowK [11,12] (fun kk W=>match kk with | 0=>Below v4.heap.size v4 W | 1=>Bk W b 61 #[.int .i64 kd,.int .i64 t,.int .i64 L]∧∃ U',Ru W U' k { r with m:=X.1 }∧UStays v4 k.n U W U' | _=>RuP v4 U k (cameR { r with m:=X.1 } t X.2) W) (fun _ _ _=>True) (fun vs=>{ tmps:=#[.pointer (some ⟨U.g,0,none⟩),.agg #[.int .i64 kd,.int .i64 (t:Int),.int .i64 L],undef,.pointer (some ⟨b,0,none⟩),.pointer (some ⟨b,1,none⟩),.int .i64 (t:Int),.bool false,.bool false,.pointer (some ⟨b,1,none⟩),.int .i64 (t:Int),.pointer (some ⟨U.g,0,none⟩),.pointer (some ⟨U.g,0,none⟩),.pointer (some ⟨U.g,1,none⟩),.slice (some ⟨U.d,0,none⟩) k.n k.n,.int .i64 (k.n:Int),.bool false,.bool false,.bool false,.pointer (some ⟨U.g,0,none⟩),.pointer (some ⟨U.g,0,none⟩),.pointer (some ⟨U.g,3,none⟩),.int .i64 0,.bool false,.bool false,.bool false,.pointer (some ⟨b,0,none⟩),.int .i64 kd,.bool false,.bool false,undef,undef,undef,undef,undef,undef,undef,undef,undef,.bool false,undef,undef,undef,undef,undef,undef,undef,undef,undef,undef,undef,undef,undef,undef,undef,undef,undef,undef,undef,undef,undef,undef,.bool false,.pointer (some ⟨b,0,none⟩),.int .i64 kd,.bool false,.bool false,undef,undef,undef,undef,undef,undef,undef,undef,undef,.bool false,undef,undef,undef,undef,undef,undef,undef,undef,undef,undef,undef,undef,undef,undef,undef,undef,undef,undef,undef,undef,undef,undef,.bool true,.pointer (some ⟨b,0,none⟩),.int .i64 kd,.bool true,.bool true,.pointer (some ⟨b,0,none⟩),.int .i64 kd,.bool true,.bool true,.bool true,.pointer (some ⟨U.g,0,none⟩),.pointer (some ⟨U.g,0,none⟩),.pointer (some ⟨U.g,1,none⟩),.slice (some ⟨U.d,0,none⟩) k.n k.n,.pointer (some ⟨b,1,none⟩),.int .i64 (t:Int),.pointer (some ⟨U.d,t,none⟩),.int .i64 (r.act t),.bool false,.bool false,.pointer (some ⟨U.g,0,none⟩),.pointer (some ⟨U.g,0,none⟩),.pointer (some ⟨U.g,1,none⟩),.slice (some ⟨U.d,0,none⟩) k.n k.n,.pointer (some ⟨b,1,none⟩),.int .i64 (t:Int),.pointer (some ⟨U.d,t,none⟩),.int .i64 (r.act t),.bool true,.bool true,.bool true,vs 0,vs 1,vs 2,vs 3,vs 4,vs 5,vs 6,vs 7,vs 8,vs 9,vs 10,vs 11,vs 12],defers:=[] }) (mixK [(11,fun kk v W=>match kk with | 0=>False | 1=>∃ mv,v=otR mv X.2∧Lst .i64 3 W mv X.2.ms | _=>True),(12,fun _ _ _=>True)] [.pointer (some ⟨U.g,0,none⟩),.pointer (some ⟨b,1,none⟩),.int .i64 t,.pointer (some ⟨U.g,0,none⟩),.pointer (some ⟨U.g,0,none⟩),.pointer (some ⟨U.g,0,none⟩),.pointer (some ⟨U.Y.y,0,none⟩),.pointer (some ⟨b,1,none⟩),.int .i64 t,.pointer (some ⟨b,2,none⟩),.int .i64 L,undef,undef]) ?ghm ?ghr ?ghc ?ghnd ?ghlit ?gh0 ?ghW ?ghF ?ghS ?gops ?gdone
      case ghm=>kernel_rfl
      case ghr=>kernel_rfl
      case ghc=>kernel_rfl
      case ghnd=>decide
      case ghlit=>intro vs;rfl
      case gh0=>exact Below.refl _ _
      case ghW=>exact fun kk W W2 h hb=>match kk,h with
       | 0,h=>Below.trans h (hb.mono (Below.size h))
       | 1,⟨h1,U9,h2,h3⟩=>⟨Bk.within h1 (within_of_below hb) (by simp),U9,h2.below hb,h3.grown hb⟩
       | _+2,⟨U9,h2,h3⟩=>⟨U9,h2.below hb,h3.grown hb⟩
      case ghF=>exact mixK_stable (by
       intro p0 hp
       simp only[List.mem_cons,List.not_mem_nil,or_false] at hp
       rcases hp with rfl | rfl
       ·exact fun kk v W W2 h hb=>match kk,h with
        | 0,h=>h
        | 1,⟨mv,h1,h2⟩=>⟨mv,h1,h2.within (within_of_below hb) (by simp)⟩
        | _+2,_=>trivial
       ·exact fun _ _ _ _ _ _=>trivial)
      case ghS=>exact fun kk W W2 _ _=>mixK_keep (by
       intro p0 hp
       simp only[List.mem_cons,List.not_mem_nil,or_false] at hp
       rcases hp with rfl | rfl
       ·exact fun v h=>match kk,h with
        | 0,h=>h.elim
        | _+1,_=>trivial
       ·exact fun _ _=>trivial)
      case gops=>
       refine⟨?_,?_,?_,?_,?_,?_,?_,?_,?_,?_,?_,?_,?_,trivial⟩
       ·intro vs W kk h1 h2 hW hd
        refine leaves_free rfl ?_
        clear hd
        go_simp
        exact⟨rfl,Below.refl _ _⟩
       ·intro vs W kk h1 h2 hW hd
        refine leaves_free rfl ?_
        clear hd
        go_simp
        exact⟨rfl,Below.refl _ _⟩
       ·intro vs W kk h1 h2 hW hd
        refine leaves_free rfl ?_
        have e1:vs 1=.pointer (some ⟨b,1,none⟩):=hd 1 (by decide)
        have h2b:kk≤1:=h2
        obtain⟨z0,z1,z2⟩:W.cell? ⟨b,0,none⟩=some (.int .i64 kd)∧W.cell? ⟨b,1,none⟩=some (.int .i64 t)∧W.cell? ⟨b,2,none⟩=some (.int .i64 L):=by
         rcases(show kk=0∨kk=1 by omega) with rfl | rfl
         ·exact(HCE.out W hW).1
         ·have h1b:=hW.1
          exact⟨h1b.cell 0,h1b.cell 1,h1b.cell 2⟩
        clear h2b
        clear hd
        go_simp
        exact⟨rfl,Below.refl _ _⟩
       ·intro vs W kk h1 h2 hW hd
        refine leaves_free rfl ?_
        clear hd
        go_simp
        exact⟨rfl,Below.refl _ _⟩
       ·intro vs W kk h1 h2 hW hd
        refine leaves_free rfl ?_
        have e3:vs 3=.pointer (some ⟨U.g,0,none⟩):=hd 3 (by decide)
        clear hd
        go_simp
        exact⟨rfl,Below.refl _ _⟩
       ·intro vs W kk h1 h2 hW hd
        refine leaves_free rfl ?_
        have e4:vs 4=.pointer (some ⟨U.g,0,none⟩):=hd 4 (by decide)
        clear hd
        go_simp
        exact⟨rfl,Below.refl _ _⟩
       ·intro vs W kk h1 h2 hW hd
        obtain rfl:kk=0:=Nat.le_zero.1 h2
        refine leaves_free rfl ?_
        have e5:vs 5=.pointer (some ⟨U.g,0,none⟩):=hd 5 (by decide)
        obtain⟨⟨z0,z1,z2⟩,zc⟩:=HCE.out W hW
        clear hd
        go_simp
        exact⟨rfl,Below.refl _ _⟩
       ·intro vs W kk h1 h2 hW hd
        refine leaves_free rfl ?_
        clear hd
        go_simp
        exact⟨rfl,Below.refl _ _⟩
       ·intro vs W kk h1 h2 hW hd
        obtain rfl:kk=0:=Nat.le_zero.1 h2
        refine leaves_free rfl ?_
        have e7:vs 7=.pointer (some ⟨b,1,none⟩):=hd 7 (by decide)
        obtain⟨⟨z0,z1,z2⟩,zc⟩:=HCE.out W hW
        clear hd
        go_simp
        exact⟨rfl,Below.refl _ _⟩
       ·intro vs W kk h1 h2 hW hd
        refine leaves_free rfl ?_
        clear hd
        go_simp
        exact⟨rfl,Below.refl _ _⟩
       ·intro vs W kk h1 h2 hW hd
        obtain rfl:kk=0:=Nat.le_zero.1 h2
        refine leaves_free rfl ?_
        have e9:vs 9=.pointer (some ⟨b,2,none⟩):=hd 9 (by decide)
        obtain⟨⟨z0,z1,z2⟩,zc⟩:=HCE.out W hW
        clear hd
        go_simp
        exact⟨rfl,Below.refl _ _⟩
       ·intro vs W hW hd
        have e6:vs 6=.pointer (some ⟨U.Y.y,0,none⟩):=hd 6 (by decide)
        have e8:vs 8=.int .i64 t:=hd 8 (by decide)
        have e10:vs 10=.int .i64 L:=hd 10 (by decide)
        refine leavesIf_free rfl ?_
        have hcb:=HCB.out W hW
        clear hd
        go_simp
        refine hcb.mono ?_
        rintro e W2 ⟨mv,Y9,rfl,hl9,he9,hs9⟩
        obtain⟨hb9,hr9⟩:=HST.out W W2 Y9 hW he9 hs9
        refine⟨_,rfl,?_⟩
        have a1:∃ mv2,otR mv X.2=otR mv2 X.2∧Lst .i64 3 W2 mv2 X.2.ms:=⟨mv,rfl,hl9⟩
        have a2:=And.intro hb9 hr9
        exact And.intro a1 a2
       ·intro vs W hW hd
        have e0:vs 0=.pointer (some ⟨U.g,0,none⟩):=hd 0 (by decide)
        have e2:vs 2=.int .i64 t:=hd 2 (by decide)
        obtain⟨hb9,U9,hr9,hu9⟩:=hW
        obtain⟨mv,e11,hl9⟩:=hd 11 (by decide)
        have hca:=HCA.out W U9 mv hr9 hu9 hl9
        refine leavesIf_free rfl ?_
        clear hd hb9 hr9 hu9 hl9
        go_simp
        refine hca.mono ?_
        rintro e W2 ⟨rfl,hf9⟩
        refine⟨_,rfl,?_⟩
        exact And.intro trivial hf9
      case gdone=>
       intro vs W hW hf
       have hfin:=HFIN.out W hW
       clear hf hW HFIN HCE HCA HST HCB
       go_end0
       exact⟨rfl,hfin⟩
     | false=>
      have HOP:Hid (opR k r ⟨kd,t,late⟩=r):=Lib.hid (opR_none3 e1k e2k (ne_of_beq_false a1) (ne_of_beq_false a3))
      clear e1k e2k
      go_upto_region 10 with fail
      go_quiet (fail)
      replace hS:=hS.grown (below_drawnU v3 nq)
      replace hR:=hR.below (below_drawnU v3 nq)
      replace hB:=Bk.within hB (within_of_below (below_drawnU v3 nq)) (by simp)
      clear e0 e1 e2 hc1 c3 hx
      generalize v3.drewN nq=v4 at *
      obtain⟨e0,e1,e2⟩:v4.cell? ⟨b,0,none⟩=some (.int .i64 kd)∧v4.cell? ⟨b,1,none⟩=some (.int .i64 t)∧v4.cell? ⟨b,2,none⟩=some (.int .i64 L):=⟨hB.cell 0,hB.cell 1,hB.cell 2⟩
      have hc1:=hR.c1
      have c3:=hR.c3
      have hx:=hR.act HT.out
      rw[hbad] at c3
      replace c3:v4.cell? ⟨U.g,3,none⟩=some (.int .i64 0):=c3
      have hfin:=HUZ.out _ (by rw[HOP.out];exact⟨_,hR,hS⟩)
      clear hR hS hB HUZ e0 e1 e2 hc1 c3 hx
      go_wp2
      go_end0
      exact⟨rfl,hfin⟩
end
end Go.Proofs.YthdgehcghklflaaGreatDoor
