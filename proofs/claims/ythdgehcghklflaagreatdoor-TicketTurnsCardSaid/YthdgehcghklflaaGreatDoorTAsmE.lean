import Derived.Test.YthdgehcghklflaaGreatDoorTAsmD
import Derived.Test.YthdgehcghklflaaGreatDoorTPrgM
set_option linter.unusedVariables false
namespace Go.Proofs.YthdgehcghklflaaGreatDoor
open Go.ChangeShapes Go.WideShapes Go.ChangeAt Go.RowKit Go.Shelf
theorem rowsC_at {rs:List Rw}{k:Nat}{r:Rw}(h:rs[k]?=some r){j:Nat}(hj:j < 10):(rowsC rs)[k * 10+j]?=(rowC r)[j]?:=flat_at rowC 10 rowC_len rs k j r h hj
def LabOk (ls:List (List UInt8×Int))(n:Int):Prop:=(ls.map (·.1)).Nodup∧∀ x∈ls,0≤x.2∧x.2≤n
theorem find_lab:∀ {ls:List (List UInt8×Int)} {n:Int},LabOk ls n→∀ s,findL ls s n=if labB ls s=true∧labAt ls s≠n then labAt ls s else -1
 | [],n,_,s=>by simp[findL,labB]
 | (t,q) :: ls,n,⟨h1,h2⟩,s=>by
  have ih:=find_lab (ls:=ls) (n:=n) ⟨(List.nodup_cons.1 h1).2,fun x hx=>h2 x (List.mem_cons_of_mem _ hx)⟩ s
  have hq:=h2 (t,q) List.mem_cons_self
  by_cases e:t=s
  ·subst e
   have hno:labB ls t=false:=by
    unfold labB
    rw[List.any_eq_false]
    intro x hx
    have:=(List.nodup_cons.1 h1).1
    simp only[List.mem_map,not_exists,not_and] at this
    simpa using this x hx
   have hf:ls.find? (fun x=>x.1==t && decide (x.2 < n))=none:=by
    rw[List.find?_eq_none]
    intro x hx
    unfold labB at hno
    rw[List.any_eq_false] at hno
    have:=hno x hx
    simp at this ⊢
    intro e
    exact absurd e this
   simp only at hq
   by_cases hn:q < n
   ·have:q≠n:=by omega
    simp[findL,labB,labAt,hn,this]
   ·have:q=n:=by omega
    simp[findL,labB,labAt,this,hf]
  ·have e1:(t==s)=false:=by simpa using e
   have e2:findL ((t,q) :: ls) s n=findL ls s n:=by simp[findL,e1]
   have e3:labB ((t,q) :: ls) s=labB ls s:=by simp[labB,e1]
   have e4:labAt ((t,q) :: ls) s=labAt ls s:=by simp[labAt,e1]
   rw[e2,e3,e4,ih]
theorem placeV_find {ls:List (List UInt8×Int)}{n:Int}(h:LabOk ls n)(s:List UInt8):(findL ls s n < 0∧placeV ls s n=.tuple #[.int .i64 0,.bool false])∨(0≤findL ls s n∧findL ls s n < n∧placeV ls s n=.tuple #[.int .i64 (findL ls s n),.bool true]):=by
 rw[find_lab h s]
 unfold placeV
 by_cases hc:labB ls s=true∧labAt ls s≠n
 ·rw[if_pos hc,if_pos hc]
  have:0≤labAt ls s∧labAt ls s≤n:=by
   unfold labAt
   split
   ·rename_i x hx
    exact h.2 x (List.mem_of_find?_eq_some hx)
   ·rename_i hx
    exfalso
    have:=hc.1
    unfold labB at this
    rw[List.any_eq_true] at this
    obtain⟨x,hx1,hx2⟩:=this
    rw[List.find?_eq_none] at hx
    exact hx x hx1 hx2
  exact .inr ⟨this.1,by have:=hc.2;omega,rfl⟩
 ·rw[if_neg hc,if_neg hc]
  exact .inl ⟨by omega,rfl⟩
def joinR (done:List Ins):(Int×Int) ⊕ List Ins→(Int×Int) ⊕ List Ins
 | .inl e=>.inl e
 | .inr l=>.inr (done++l)
theorem joinR_nil (x:(Int×Int) ⊕ List Ins):joinR [] x=x:=by cases x <;> rfl
theorem join_skip (ls:List (List UInt8×Int))(n:Int)(done:List Ins)(i:Ins)(row:Int)(more:List Rw):joinR done (asm2 ls n ((i,[],row) :: more))=joinR (done++[i]) (asm2 ls n more):=by
 rw[asm2_skip]
 cases asm2 ls n more <;> simp[joinR]
theorem join_name (ls:List (List UInt8×Int))(n:Int)(done:List Ins)(i:Ins)(nm:List UInt8)(hn:nm≠[])(row:Int)(more:List Rw)(h:0≤findL ls nm n):joinR done (asm2 ls n ((i,nm,row) :: more))=joinR (done++[{ i with pl:=findL ls nm n }]) (asm2 ls n more):=by
 rw[asm2_name ls n i nm hn,if_neg (by omega)]
 cases asm2 ls n more <;> simp[joinR]
theorem join_bad (ls:List (List UInt8×Int))(n:Int)(done:List Ins)(i:Ins)(nm:List UInt8)(hn:nm≠[])(row:Int)(more:List Rw)(h:findL ls nm n < 0):joinR done (asm2 ls n ((i,nm,row) :: more))=.inl (row,10):=by
 rw[asm2_name ls n i nm hn,if_pos h]
 rfl
def CodeStep (w w':World)(k:Nat)(done:List Ins)(v:Value):Prop:=
 done.length=k+1∧Below w.heap.size w (w'.setCell ⟨w.heap.size+1,0,none⟩ v)∧Bk (w'.setCell ⟨w.heap.size+1,0,none⟩ v) w.heap.size 25 #[.slice none 0 0,.int .i64 0,.int .i64 0]∧Bk (w'.setCell ⟨w.heap.size+1,0,none⟩ v) (w.heap.size+1) 25 #[v,.int .i64 0,.int .i64 0]∧
  (w'.setCell ⟨w.heap.size+1,0,none⟩ v).ownsRow w.heap.size 119 8 v (k+1) (progC done)
section
variable {w x w':World}{k:Nat}{done:List Ins}{v v':Value}{i:Ins}{o:Obj}
theorem code_kept {g:Nat}{cs:Array Value}(hC:Bk x g 25 cs)(hO:x.ownsRow w.heap.size 119 8 v k (progC done))(hg:(x.alloc o).grownBy w' v.ownBlock):Bk w' g 25 cs:=
 Bk.grown (hC.alloc o) hg fun e=>by
  obtain⟨cs,hcs⟩:=own_bk hO e.symm
  exact Bk.unlike hcs hC (by decide) rfl
theorem code_step (hb:Below w.heap.size w x)(hR:Bk x w.heap.size 25 #[.slice none 0 0,.int .i64 0,.int .i64 0])(hC:Bk x (w.heap.size+1) 25 #[v,.int .i64 0,.int .i64 0])(hO:x.ownsRow w.heap.size 119 8 v k (progC done))(hd:done.length=k)
 (hw:w'.ownsRow w.heap.size 119 8 v' (k+1) (progC done++insC i)) (hg:(x.alloc o).grownBy w' v.ownBlock):CodeStep w w' k (done++[i]) v':=by
 have hR2:=code_kept hR hO hg
 have hC2:=code_kept hC hO hg
 have hb2:Below w.heap.size w w':=Below.grown (hb.alloc (o:=o) hb.size) hg (by rw[World.size_alloc];have:=hb.size;omega) (fun j hj=>(World.ownsRow.lt hO j hj).1)
 refine⟨by simp[hd],hb2.setCell (by show w.heap.size≤w.heap.size+1;omega) _,hR2.off (by show w.heap.size≠w.heap.size+1;omega) _,hC2.put 0 v',?_⟩
 rw[progC_snoc]
 refine own_within hw ((Within.refl w' (fun b=>b=w.heap.size+1)).put (w.heap.size+1) 0 v' (.inl rfl)) fun b e e2=>?_
 obtain⟨cs,hcs⟩:=own_bk hw e
 exact Bk.unlike hcs hC2 (by decide) e2
end
set_option maxHeartbeats 1000000 in
theorem cCode {w:World}{p m lo:Nat}{ls:List (List UInt8×Int)}{rs:List Rw}(h:Dr w p m lo ls rs)(hr:rs.length≤64)(hL:LabOk ls rs.length)(hN:∀ r∈rs,r.2.1.length≤16):
 Calls Tryz.prog 61 #[.pointer (some ⟨p,0,none⟩)] w fun e w'=>∃ v,e=.returned (.tuple #[v,.int .i64 (finishL ls rs).2.1,.int .i64 (finishL ls rs).2.2])∧Pg w' w.heap.size v (finishL ls rs).1∧Below w.heap.size w w':=by
 have hpl:=h.lts.1
 have HP:Hid (∀ (W:World) (s:List UInt8),Below w.heap.size w W→s.length≤16→Calls Tryz.prog 100 #[.pointer (some ⟨p,0,none⟩),bs s] W fun e w'=>e=.returned (placeV ls s rs.length)∧W=w'):=
  Lib.hid fun W s hW hs=>cPlace (h.within (within_of_below hW) (by simp) (by simp) (by simp)) s (by omega)
 obtain⟨sl,h1,-,h3⟩:=h
 obtain⟨a,cap,rfl,hcap,hmax,hg⟩:=own_is h3
 have HE:Hid (∀ x,asm2 ls rs.length rs=.inl x→finishL ls rs=(Prg.zero,x.1,x.2)):=Lib.hid fun x hx=>by unfold finishL;rw[hx]
 have HF:Hid (∀ l,asm2 ls rs.length rs=.inr l→finishL ls rs=if findL ls lockW rs.length < 0∨findL ls unlockW rs.length < 0 then (Prg.zero,0,10) else (⟨l,findL ls lockW rs.length,findL ls unlockW rs.length⟩,0,0)):=Lib.hid fun l hl=>by unfold finishL;rw[hl]
 have HL:Hid (∀ s:List UInt8,(findL ls s rs.length < 0∧placeV ls s rs.length=.tuple #[.int .i64 0,.bool false])∨(0≤findL ls s rs.length∧findL ls s rs.length < rs.length∧placeV ls s rs.length=.tuple #[.int .i64 (findL ls s rs.length),.bool true])):=Lib.hid fun s=>placeV_find hL s
 generalize finishL ls rs=fin at *
 have HR:Hid (∀ k r,rs[k]?=some r→∃ g,a=some ⟨g,0,none⟩∧g < w.heap.size∧r.2.1.length≤16∧∀ j,j < 10→w.cell? ⟨g,k * 10+j,none⟩=(rowC r)[j]?):=Lib.hid fun k r hk=>by
  have hkl:=(List.getElem?_eq_some_iff.1 hk).1
  obtain⟨g,e1,e2,e3,e4,e5,e6⟩:=hg (by omega)
  refine⟨g,e1,e4,hN r (List.mem_of_getElem? hk),fun j hj=>?_⟩
  rw[e6 _ (by omega),rowsC_at hk hj]
 have c0:((w.alloc (.cells #[.slice none 0 0,.int .i64 0,.int .i64 0] 25)).alloc (.cells #[.slice none 0 0,.int .i64 0,.int .i64 0] 25)).cell? ⟨p,0,none⟩=some (.slice a rs.length cap):=((h1.alloc _).alloc _).cell 0
 clear hg hN
 go_enter Tryz.func61,Tryz.ntmps61
 go_wp2
 have b0:Below w.heap.size w ((w.alloc (.cells #[.slice none 0 0,.int .i64 0,.int .i64 0] 25)).alloc (.cells #[.slice none 0 0,.int .i64 0,.int .i64 0] 25)):=((Below.refl _ _).alloc (Nat.le_refl _) _).alloc (by simp) _
 have r0:=(Bk.made w 25 #[.slice none 0 0,.int .i64 0,.int .i64 0]).alloc (.cells #[.slice none 0 0,.int .i64 0,.int .i64 0] 25)
 have d0:=Bk.made (w.alloc (.cells #[.slice none 0 0,.int .i64 0,.int .i64 0] 25)) 25 #[.slice none 0 0,.int .i64 0,.int .i64 0]
 rw[World.size_alloc] at d0
 generalize (w.alloc (.cells #[.slice none 0 0,.int .i64 0,.int .i64 0] 25)).alloc (.cells #[.slice none 0 0,.int .i64 0,.int .i64 0] 25)=w0 at *
 go_loopw [3,4,19] (fun l e i wr=>∃ (k:Nat) (done:List Ins) (v:Value),l=.int .i64 0∧e=.int .i64 0∧i=.int .i64 k∧k≤rs.length∧done.length=k∧Below w.heap.size w wr∧Bk wr w.heap.size 25 #[.slice none 0 0,.int .i64 0,.int .i64 0]∧Bk wr (w.heap.size+1) 25 #[v,.int .i64 0,.int .i64 0]∧
  wr.ownsRow w.heap.size 119 8 v k (progC done)∧Hid (asm2 ls rs.length rs=joinR done (asm2 ls rs.length (rs.drop k)))) (fun _ _ i _=>rs.length - (intOf i).toNat)
 case atStart=>exact⟨0,[],.slice none 0 0,rfl,rfl,rfl,Nat.zero_le _,rfl,b0,r0,d0,World.ownsRow_nil _ _ _ _,Lib.hid (by rw[joinR_nil,List.drop_zero])⟩
 case round=>
  obtain⟨k,done,v,rfl,rfl,rfl,hk,hdl,hb,hR,hC,hO,HJ⟩:=hrel
  clear c0 b0 r0 d0 w0
  by_cases hlt:k < rs.length
  ·have hki:(k:Int) < rs.length:=by omega
   obtain⟨g,rfl,hgl,hnl,hcs⟩:=HR.out k _ (List.getElem?_eq_getElem hlt)
   have hdr:rs.drop k=rs[k] :: rs.drop (k+1):=List.drop_eq_getElem_cons hlt
   rw[hdr] at HJ
   clear hdr
   generalize rs[k]=r at *
   obtain⟨⟨op,d,s',t,u,a',k',pl⟩,nm,ln⟩:=r
   have hcw:∀ j,j < 10→wr.cell? ⟨g,k * 10+j,none⟩=_:=fun j hj=>(hb.cell (p:=⟨g,k * 10+j,none⟩) hgl).trans (hcs j hj)
   have e0:wr.cell? ⟨g,k * 10,none⟩=some (.int .i64 op):=hcw 0 (by omega)
   have e1:wr.cell? ⟨g,k * 10+1,none⟩=some (.int .i64 d):=hcw 1 (by omega)
   have e2:wr.cell? ⟨g,k * 10+2,none⟩=some (.int .i64 s'):=hcw 2 (by omega)
   have e3:wr.cell? ⟨g,k * 10+3,none⟩=some (.int .i64 t):=hcw 3 (by omega)
   have e4:wr.cell? ⟨g,k * 10+4,none⟩=some (.int .i64 u):=hcw 4 (by omega)
   have e5:wr.cell? ⟨g,k * 10+5,none⟩=some (.int .i64 a'):=hcw 5 (by omega)
   have e6:wr.cell? ⟨g,k * 10+6,none⟩=some (.int .u32 k'):=hcw 6 (by omega)
   have e7:wr.cell? ⟨g,k * 10+7,none⟩=some (.int .i64 pl):=hcw 7 (by omega)
   have e8:wr.cell? ⟨g,k * 10+8,none⟩=some (.string ⟨nm.toArray⟩):=hcw 8 (by omega)
   have e9:wr.cell? ⟨g,k * 10+9,none⟩=some (.int .i64 ln):=hcw 9 (by omega)
   clear hcw hcs
   go_upto_region 5 with fail
   clear e0 e1 e2 e3 e4 e5 e6 e7 e8 e9
   have xq:=Bk.made wr 204 #[.int .i64 op,.int .i64 d,.int .i64 s',.int .i64 t,.int .i64 u,.int .i64 a',.int .u32 k',.int .i64 pl,.string ⟨nm.toArray⟩,.int .i64 ln]
   have hne1:wr.heap.size≠w.heap.size:=Nat.ne_of_gt hR.lt
   have hne2:wr.heap.size≠w.heap.size+1:=Nat.ne_of_gt hC.lt
   have hge:w.heap.size≤wr.heap.size:=hb.size
   replace hR:=hR.alloc (.cells #[.int .i64 op,.int .i64 d,.int .i64 s',.int .i64 t,.int .i64 u,.int .i64 a',.int .u32 k',.int .i64 pl,.string ⟨nm.toArray⟩,.int .i64 ln] 204)
   replace hC:=hC.alloc (.cells #[.int .i64 op,.int .i64 d,.int .i64 s',.int .i64 t,.int .i64 u,.int .i64 a',.int .u32 k',.int .i64 pl,.string ⟨nm.toArray⟩,.int .i64 ln] 204)
   replace hO:=World.ownsRow.alloc hO (.cells #[.int .i64 op,.int .i64 d,.int .i64 s',.int .i64 t,.int .i64 u,.int .i64 a',.int .u32 k',.int .i64 pl,.string ⟨nm.toArray⟩,.int .i64 ln] 204)
   replace hb:=hb.alloc (o:=.cells #[.int .i64 op,.int .i64 d,.int .i64 s',.int .i64 t,.int .i64 u,.int .i64 a',.int .u32 k',.int .i64 pl,.string ⟨nm.toArray⟩,.int .i64 ln] 204) hb.size
   generalize hq:wr.heap.size=q at *
   generalize wr.alloc (.cells #[.int .i64 op,.int .i64 d,.int .i64 s',.int .i64 t,.int .i64 u,.int .i64 a',.int .u32 k',.int .i64 pl,.string ⟨nm.toArray⟩,.int .i64 ln] 204)=x at *
   have c8:x.cell? ⟨q,8,none⟩=some (.string ⟨nm.toArray⟩):=xq.cell 8
   by_cases hnm:nm=[]
   case' pos=>
    subst hnm
    rw[join_skip] at HJ
    go_upto_region 10 with fail
    generalize pl=plx at *
   case' neg=>
    have hn0:(nm==[])=false:=by simpa using hnm
    rcases HL.out nm with ⟨hf,hv⟩ | ⟨hf0,hf1,hv⟩
    case' inl=>
     rw[join_bad _ _ _ _ _ hnm _ _ hf] at HJ
     have HQ:=Lib.hid (HE.out _ HJ.out)
     have HP2:=Lib.hid (HP.out x nm hb hnl)
     rw[hv] at HP2
     have c9:x.cell? ⟨q,9,none⟩=some (.int .i64 ln):=xq.cell 9
     obtain⟨z0,z1,z2⟩:x.cell? ⟨w.heap.size,0,none⟩=some (.slice none 0 0)∧x.cell? ⟨w.heap.size,1,none⟩=some (.int .i64 0)∧x.cell? ⟨w.heap.size,2,none⟩=some (.int .i64 0):=⟨hR.cell 0,hR.cell 1,hR.cell 2⟩
     have zf:=hR.free
     clear HJ HE HF HL HP HR hL hnm
     go_wp2_with fail
     refine HP2.out.mono ?_
     rintro e x2 ⟨rfl,rfl⟩
     go_wp2
     go_region
     go_wp2
     have h9:=put3_bk hR (.slice none 0 0) (.int .i64 0) (.int .i64 0)
     have b9:=put3_below hb (Nat.le_refl _) (.slice none 0 0) (.int .i64 0) (.int .i64 0)
     replace b9:Below w.heap.size w (put3 x w.heap.size (.slice none 0 0) (.int .i64 0) (.int .i64 0)).drew:=b9.drew
     replace h9:Bk (put3 x w.heap.size (.slice none 0 0) (.int .i64 0) (.int .i64 0)).drew w.heap.size 25 #[.slice none 0 0,.int .i64 0,.int .i64 0]:=h9
     generalize hv:(((x.setCell ⟨w.heap.size,0,none⟩ (.slice none 0 0)).setCell ⟨w.heap.size,1,none⟩ (.int .i64 0)).setCell ⟨w.heap.size,2,none⟩ (.int .i64 0)).drew=v9
     replace hv:(put3 x w.heap.size (.slice none 0 0) (.int .i64 0) (.int .i64 0)).drew=v9:=hv
     rw[hv] at h9 b9
     obtain⟨y0,y1,y2⟩:v9.cell? ⟨w.heap.size,0,none⟩=some (.slice none 0 0)∧v9.cell? ⟨w.heap.size,1,none⟩=some (.int .i64 0)∧v9.cell? ⟨w.heap.size,2,none⟩=some (.int .i64 0):=⟨h9.cell 0,h9.cell 1,h9.cell 2⟩
     refine bodyPost_ret (v:=.tuple #[.agg #[.slice none 0 0,.int .i64 0,.int .i64 0],.int .i64 ln,.int .i64 10]) (by simp[results,Tryz.results61,go_sem,y0,y1,y2]) rfl ⟨.agg #[.slice none 0 0,.int .i64 0,.int .i64 0],?_,?_,b9⟩
     ·rw[HQ.out]
     ·rw[HQ.out];exact⟨_,rfl,World.ownsRow_nil _ _ _ _⟩
    case' inr=>
     rw[join_name _ _ _ _ _ hnm _ _ hf0] at HJ
     have HP2:=Lib.hid (HP.out x nm hb hnl)
     rw[hv] at HP2
     generalize findL ls nm rs.length=plx at *
     have c7:x.cell? ⟨q,7,none⟩=some (.int .i64 pl):=xq.cell 7
     have f7:=xq.free 7
     go_wp2_with fail
     refine HP2.out.mono ?_
     rintro e x2 ⟨rfl,rfl⟩
     go_upto_region 10 with fail
     replace hb:=hb.setCell (p:=⟨q,7,none⟩) hge (.int .i64 plx)
     replace hR:=hR.off (p:=⟨q,7,none⟩) (fun e=>hne1 e.symm) (.int .i64 plx)
     replace hC:=hC.off (p:=⟨q,7,none⟩) (fun e=>hne2 e.symm) (.int .i64 plx)
     replace hO:=own_within hO ((Within.refl x (fun b=>b=q)).put q 7 (.int .i64 plx) (.inl rfl)) (fun b e e2=>by
      obtain⟨cs,hcs⟩:=own_bk hO e
      exact Bk.unlike hcs xq (by decide) e2)
     replace xq:=xq.put 7 (.int .i64 plx)
     simp only[List.setIfInBounds_toArray,List.set_cons_zero,List.set_cons_succ] at xq
     generalize x.setCell ⟨q,7,none⟩ (.int .i64 plx)=x at *
   all_goals (
    obtain⟨e0,e1,e2,e3,e4,e5,e6,e7⟩:x.cell? ⟨q,0,none⟩=some (.int .i64 op)∧x.cell? ⟨q,1,none⟩=some (.int .i64 d)∧x.cell? ⟨q,2,none⟩=some (.int .i64 s')∧x.cell? ⟨q,3,none⟩=some (.int .i64 t)∧x.cell? ⟨q,4,none⟩=some (.int .i64 u)∧x.cell? ⟨q,5,none⟩=some (.int .i64 a')∧x.cell? ⟨q,6,none⟩=some (.int .u32 k')∧x.cell? ⟨q,7,none⟩=some (.int .i64 plx):=
     ⟨xq.cell 0,xq.cell 1,xq.cell 2,xq.cell 3,xq.cell 4,xq.cell 5,xq.cell 6,xq.cell 7⟩
    obtain⟨a2,cap2,rfl,hcap2,hmax2,_⟩:=own_is hO
    have v0:x.cell? ⟨w.heap.size+1,0,none⟩=some (.slice a2 k cap2):=hC.cell 0
    have HO:=Lib.hid (World.ownsRow.alloc hO (.cells #[.int .i64 op,.int .i64 d,.int .i64 s',.int .i64 t,.int .i64 u,.int .i64 a',.int .u32 k',.int .i64 plx] 119))
    have HN2:=Lib.hid (news_bk (Bk.made x 119 #[.int .i64 op,.int .i64 d,.int .i64 s',.int .i64 t,.int .i64 u,.int .i64 a',.int .u32 k',.int .i64 plx]))
    have HBS:Hid (w.heap.size≤(x.alloc (.cells #[.int .i64 op,.int .i64 d,.int .i64 s',.int .i64 t,.int .i64 u,.int .i64 a',.int .u32 k',.int .i64 plx] 119)).heap.size):=Lib.hid (by rw[World.size_alloc];have:=hb.size;omega)
    have HEND:Hid (∀ (w':World) (v':Value),w'.ownsRow w.heap.size 119 8 v' (k+1) (progC done++insC ⟨op,d,s',t,u,a',k',plx⟩)→(x.alloc (.cells #[.int .i64 op,.int .i64 d,.int .i64 s',.int .i64 t,.int .i64 u,.int .i64 a',.int .u32 k',.int .i64 plx] 119)).grownBy w' (Value.slice a2 k cap2).ownBlock→CodeStep w w' k (done++[⟨op,d,s',t,u,a',k',plx⟩]) v'):=Lib.hid fun w' v' hw hg=>code_step hb hR hC hO hdl hw hg
    have HCC:Hid (∀ (w':World),(x.alloc (.cells #[.int .i64 op,.int .i64 d,.int .i64 s',.int .i64 t,.int .i64 u,.int .i64 a',.int .u32 k',.int .i64 plx] 119)).grownBy w' (Value.slice a2 k cap2).ownBlock→Bk w' (w.heap.size+1) 25 #[.slice a2 k cap2,.int .i64 0,.int .i64 0]):=Lib.hid fun w' hg=>code_kept hC hO hg
    clear HR HP HL HE HF hL hcap hmax c8 hR hC hO xq hb
    go_wp2_with (at_builtin;refine wpOwn rfl _ _ 23 rfl _ 64 Tryz.underlying23 insInfo rfl (by omega) (by omega) HO.out rfl (insC ⟨op,d,s',t,u,a',k',plx⟩) rfl (insC_one _) x.heap.size rfl HN2.out (by omega) HBS.out ?_;intro v' w' hown hgr hloc;have hcc:=HCC.out w' hgr;have cc0:w'.cell? ⟨w.heap.size+1,0,none⟩=some (.slice a2 k cap2):=hcc.cell 0;have cf0:=hcc.free 0;have HS:=Lib.hid (HEND.out w' v' hown hgr);obtain⟨a3,cap3,rfl,_,_,_⟩:=own_is hown)
    obtain⟨s1,s2,s3,s4,s5⟩:=HS.out
    go_roundw
    case rel=>exact⟨k+1,done++[⟨op,d,s',t,u,a',k',plx⟩],.slice a3 (k+1) cap3,rfl,rfl,by go_num,by omega,s1,s2,s3,s4,s5,HJ⟩
    case measure=>
     show rs.length - ((k:Int)+1).toNat < rs.length - (k:Int).toNat
     omega)
  ·obtain rfl:k=rs.length:=by omega
   have hki:¬ (rs.length:Int) < rs.length:=by omega
   have HF2:=Lib.hid (HF.out done (by rw[HJ.out,List.drop_of_length_le (by omega)];simp[asm2,joinR]))
   have PL:Hid (∀ W:World,Below w.heap.size w W→Calls Tryz.prog 100 #[.pointer (some ⟨p,0,none⟩),.string ⟨#[108,111,99,107]⟩] W fun e w'=>e=.returned (placeV ls lockW rs.length)∧W=w'):=Lib.hid fun W hW=>HP.out W lockW hW (by decide)
   have PU:Hid (∀ W:World,Below w.heap.size w W→Calls Tryz.prog 100 #[.pointer (some ⟨p,0,none⟩),.string ⟨#[117,110,108,111,99,107]⟩] W fun e w'=>e=.returned (placeV ls unlockW rs.length)∧W=w'):=Lib.hid fun W hW=>HP.out W unlockW hW (by decide)
   have FL:=Lib.hid (HL.out lockW)
   have FU:=Lib.hid (HL.out unlockW)
   generalize findL ls lockW rs.length=fl at *
   generalize findL ls unlockW rs.length=fu at *
   generalize placeV ls lockW rs.length=pvl at *
   generalize placeV ls unlockW rs.length=pvu at *
   obtain⟨z0,z1,z2⟩:wr.cell? ⟨w.heap.size,0,none⟩=some (.slice none 0 0)∧wr.cell? ⟨w.heap.size,1,none⟩=some (.int .i64 0)∧wr.cell? ⟨w.heap.size,2,none⟩=some (.int .i64 0):=⟨hR.cell 0,hR.cell 1,hR.cell 2⟩
   have zf:=hR.free
   clear HJ HE HF HL HP HR hL
   go_wp2_with fail
   refine(PL.out _ hb).mono ?_
   rintro e x ⟨rfl,rfl⟩
   by_cases hfl:fl < 0
   case' pos=>
    obtain rfl:pvl=.tuple #[.int .i64 0,.bool false]:=by
     rcases FL.out with ⟨_,e⟩ | ⟨h,_⟩
     ·exact e
     ·omega
    go_wp2_with fail
    refine(PU.out _ hb).mono ?_
    rintro e x ⟨rfl,rfl⟩
    have HQ:Hid (fin=(Prg.zero,0,10)):=Lib.hid (by rw[HF2.out,if_pos (.inl hfl)])
    rcases FU.out with ⟨hfu,rfl⟩ | ⟨hfu,hfu2,rfl⟩
    case' inl=>go_wp2
    case' inr=>go_wp2
   case' neg=>
    obtain rfl:pvl=.tuple #[.int .i64 fl,.bool true]:=by
     rcases FL.out with ⟨h,_⟩ | ⟨_,_,e⟩
     ·omega
     ·exact e
    go_wp2_with fail
    refine(PU.out _ hb).mono ?_
    rintro e x ⟨rfl,rfl⟩
    rcases hfuu:decide (fu < 0)
    case' true=>
     have hfu:fu < 0:=by simpa using hfuu
     obtain rfl:pvu=.tuple #[.int .i64 0,.bool false]:=by
      rcases FU.out with ⟨_,e⟩ | ⟨h,_⟩
      ·exact e
      ·omega
     have HQ:Hid (fin=(Prg.zero,0,10)):=Lib.hid (by rw[HF2.out,if_pos (.inr hfu)])
     go_wp2
    case' false=>
     have hfu:¬ fu < 0:=by simpa using hfuu
     obtain rfl:pvu=.tuple #[.int .i64 fu,.bool true]:=by
      rcases FU.out with ⟨h,_⟩ | ⟨_,_,e⟩
      ·omega
      ·exact e
     have HQ:Hid (fin=(⟨done,fl,fu⟩,0,0)):=Lib.hid (by rw[HF2.out,if_neg (by omega)])
     obtain⟨a2,cap2,rfl,_,_,_⟩:=own_is hO
     obtain⟨y0,y1,y2⟩:wr.cell? ⟨w.heap.size+1,0,none⟩=some (.slice a2 rs.length cap2)∧wr.cell? ⟨w.heap.size+1,1,none⟩=some (.int .i64 0)∧wr.cell? ⟨w.heap.size+1,2,none⟩=some (.int .i64 0):=⟨hC.cell 0,hC.cell 1,hC.cell 2⟩
     have yf:=hC.free
     have hC9:Bk ((wr.setCell ⟨w.heap.size+1,1,none⟩ (.int .i64 fl)).setCell ⟨w.heap.size+1,2,none⟩ (.int .i64 fu)) (w.heap.size+1) 25 #[.slice a2 rs.length cap2,.int .i64 fl,.int .i64 fu]:=(hC.put 1 _).put 2 _
     have hR9:=(hR.off (p:=⟨w.heap.size+1,1,none⟩) (by show w.heap.size≠w.heap.size+1;omega) (.int .i64 fl)).off (p:=⟨w.heap.size+1,2,none⟩) (by show w.heap.size≠w.heap.size+1;omega) (.int .i64 fu)
     have hb9:=(hb.setCell (p:=⟨w.heap.size+1,1,none⟩) (by show w.heap.size≤w.heap.size+1;omega) (.int .i64 fl)).setCell (p:=⟨w.heap.size+1,2,none⟩) (by show w.heap.size≤w.heap.size+1;omega) (.int .i64 fu)
     have hO9:=own_within hO (((Within.refl wr (fun b=>b=w.heap.size+1)).put (w.heap.size+1) 1 (.int .i64 fl) (.inl rfl)).put (w.heap.size+1) 2 (.int .i64 fu) (.inl rfl)) (fun b e e2=>by
      obtain⟨cs,hcs⟩:=own_bk hO e
      exact Bk.unlike hcs hC (by decide) e2)
     clear HF2 PL PU FL FU hR hC hb hO
     go_upto_region 17 with fail
     clear y0 y1 y2 yf z0 z1 z2 zf
     generalize (wr.setCell ⟨w.heap.size+1,1,none⟩ (.int .i64 fl)).setCell ⟨w.heap.size+1,2,none⟩ (.int .i64 fu)=y at *
     obtain⟨y0,y1,y2⟩:y.cell? ⟨w.heap.size+1,0,none⟩=some (.slice a2 rs.length cap2)∧y.cell? ⟨w.heap.size+1,1,none⟩=some (.int .i64 fl)∧y.cell? ⟨w.heap.size+1,2,none⟩=some (.int .i64 fu):=⟨hC9.cell 0,hC9.cell 1,hC9.cell 2⟩
     obtain⟨z0,z1,z2⟩:y.cell? ⟨w.heap.size,0,none⟩=some (.slice none 0 0)∧y.cell? ⟨w.heap.size,1,none⟩=some (.int .i64 0)∧y.cell? ⟨w.heap.size,2,none⟩=some (.int .i64 0):=⟨hR9.cell 0,hR9.cell 1,hR9.cell 2⟩
     have zf:=hR9.free
     go_wp2
     have h9:=put3_bk hR9 (.slice a2 rs.length cap2) (.int .i64 fl) (.int .i64 fu)
     have b9:=put3_below hb9 (Nat.le_refl _) (.slice a2 rs.length cap2) (.int .i64 fl) (.int .i64 fu)
     have o9:(put3 y w.heap.size (.slice a2 rs.length cap2) (.int .i64 fl) (.int .i64 fu)).ownsRow w.heap.size 119 8 (.slice a2 rs.length cap2) rs.length (progC done):=own_within hO9 ((((Within.refl y (fun b=>b=w.heap.size)).put w.heap.size 0 (.slice a2 rs.length cap2) (.inl rfl)).put w.heap.size 1 (.int .i64 fl) (.inl rfl)).put w.heap.size 2 (.int .i64 fu) (.inl rfl)) (fun b e e2=>by
      obtain⟨cs,hcs⟩:=own_bk hO9 e
      exact Bk.unlike hcs hR9 (by decide) e2)
     generalize hv:(((y.setCell ⟨w.heap.size,0,none⟩ (.slice a2 rs.length cap2)).setCell ⟨w.heap.size,1,none⟩ (.int .i64 fl)).setCell ⟨w.heap.size,2,none⟩ (.int .i64 fu))=v9
     replace hv:put3 y w.heap.size (.slice a2 rs.length cap2) (.int .i64 fl) (.int .i64 fu)=v9:=hv
     rw[hv] at h9 b9 o9
     obtain⟨q0,q1,q2⟩:v9.cell? ⟨w.heap.size,0,none⟩=some (.slice a2 rs.length cap2)∧v9.cell? ⟨w.heap.size,1,none⟩=some (.int .i64 fl)∧v9.cell? ⟨w.heap.size,2,none⟩=some (.int .i64 fu):=⟨h9.cell 0,h9.cell 1,h9.cell 2⟩
     refine bodyPost_ret (v:=.tuple #[.agg #[.slice a2 rs.length cap2,.int .i64 fl,.int .i64 fu],.int .i64 0,.int .i64 0]) (by simp[results,Tryz.results61,go_sem,q0,q1,q2]) rfl ⟨.agg #[.slice a2 rs.length cap2,.int .i64 fl,.int .i64 fu],?_,?_,b9⟩
     ·rw[HQ.out]
     ·rw[HQ.out];exact⟨_,rfl,by simp only[hdl];exact o9⟩
   all_goals (
    have h9:=put3_bk hR (.slice none 0 0) (.int .i64 0) (.int .i64 0)
    have b9:=put3_below hb (Nat.le_refl _) (.slice none 0 0) (.int .i64 0) (.int .i64 0)
    generalize hv:(((wr.setCell ⟨w.heap.size,0,none⟩ (.slice none 0 0)).setCell ⟨w.heap.size,1,none⟩ (.int .i64 0)).setCell ⟨w.heap.size,2,none⟩ (.int .i64 0))=v9
    replace hv:put3 wr w.heap.size (.slice none 0 0) (.int .i64 0) (.int .i64 0)=v9:=hv
    rw[hv] at h9 b9
    obtain⟨y0,y1,y2⟩:v9.cell? ⟨w.heap.size,0,none⟩=some (.slice none 0 0)∧v9.cell? ⟨w.heap.size,1,none⟩=some (.int .i64 0)∧v9.cell? ⟨w.heap.size,2,none⟩=some (.int .i64 0):=⟨h9.cell 0,h9.cell 1,h9.cell 2⟩
    refine bodyPost_ret (v:=.tuple #[.agg #[.slice none 0 0,.int .i64 0,.int .i64 0],.int .i64 0,.int .i64 10]) (by simp[results,Tryz.results61,go_sem,y0,y1,y2]) rfl ⟨.agg #[.slice none 0 0,.int .i64 0,.int .i64 0],?_,?_,b9⟩
    ·rw[HQ.out]
    ·rw[HQ.out];exact⟨_,rfl,World.ownsRow_nil _ _ _ _⟩)
end Go.Proofs.YthdgehcghklflaaGreatDoor
