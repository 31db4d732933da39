import Derived.Test.YtieiifdhdjhnoaaGreatDoorWAsmD
import Derived.Test.YtieiifdhdjhnoaaGreatDoorWCell
set_option linter.unusedVariables false
set_option maxHeartbeats 1000000
open Go.Value renaming int->I,slice->V
open Go.IntKind renaming i64->Q,u32->N
open Option renaming none->O,some->Z
open Go.Obj renaming cells->P
open Go.Lib renaming hid->S
open Nat renaming le_refl->T
namespace Go.Proofs.YtieiifdhdjhnoaaGreatDoor
open Go.ChangeShapes Go.WideShapes Go.ChangeAt Go.RowKit Go.Shelf
theorem xo {rs:List Rw}{k:Nat}{r:Rw}(h:rs[k]?=Z r){j:Nat}(hj:j<10):(kW rs)[k*10+j]?=(oQ r)[j]?:=l8 oQ 10 xt rs k j r h hj
def wL (ls:List (List UInt8×Int))(n:Int):Prop:=(ls.map (·.1)).Nodup/\∀ x∈ls,0<=x.2/\x.2<=n
theorem ri:∀ {ls:List (List UInt8×Int)} {n:Int},wL ls n->∀ s,bg ls s n=if fB ls s=true/\em ls s≠n then em ls s else -1
 | [],n,_,s=>by simp[bg,fB]
 | (t,q) :: ls,n,⟨h1,h2⟩,s=>by
  have ih:=ri (ls:=ls) (n:=n) ⟨(List.nodup_cons.1 h1).2,fun x hx=>h2 x (List.mem_cons_of_mem _ hx)⟩ s
  have hq:=h2 (t,q) List.mem_cons_self
  by_cases e:t=s
  ·subst e
   have hno:fB ls t=false:=by
    unfold fB
    rw[List.any_eq_false]
    intro x hx
    have:=(List.nodup_cons.1 h1).1
    simp only[List.mem_map,not_exists,not_and] at this
    simpa using this x hx
   have hf:ls.find? (fun x=>x.1==t && decide (x.2<n))=O:=by
    rw[List.find?_eq_none]
    intro x hx
    unfold fB at hno
    rw[List.any_eq_false] at hno
    have:=hno x hx
    simp at this ⊢
    intro e
    exact absurd e this
   simp only at hq
   by_cases hn:q<n
   ·have:q≠n:=by omega
    simp[bg,fB,em,hn,this]
   ·have:q=n:=by omega
    simp[bg,fB,em,this,hf]
  ·have e1:(t==s)=false:=by simpa using e
   have e2:bg ((t,q) :: ls) s n=bg ls s n:=by simp[bg,e1]
   have e3:fB ((t,q) :: ls) s=fB ls s:=by simp[fB,e1]
   have e4:em ((t,q) :: ls) s=em ls s:=by simp[em,e1]
   rw[e2,e3,e4,ih]
theorem qn {ls:List (List UInt8×Int)}{n:Int}(h:wL ls n)(s:List UInt8):(bg ls s n<0/\fw ls s n=.tuple #[I Q 0,.bool false])\/(0<=bg ls s n/\bg ls s n<n/\fw ls s n=.tuple #[I Q (bg ls s n),.bool true]):=by
 rw[ri h s]
 unfold fw
 by_cases hc:fB ls s=true/\em ls s≠n
 ·rw[if_pos hc,if_pos hc]
  have:0<=em ls s/\em ls s<=n:=by
   unfold em
   split
   ·rename_i x hx
    exact h.2 x (List.mem_of_find?_eq_some hx)
   ·rename_i hx
    exfalso
    have:=hc.1
    unfold fB at this
    rw[List.any_eq_true] at this
    obtain⟨x,hx1,hx2⟩:=this
    rw[List.find?_eq_none] at hx
    exact hx x hx1 hx2
  exact .inr ⟨this.1,by have:=hc.2;omega,rfl⟩
 ·rw[if_neg hc,if_neg hc]
  exact .inl ⟨by omega,rfl⟩
def iD (done:List aN):(Int×Int) ⊕ List aN->(Int×Int) ⊕ List aN
 | .inl e=>.inl e
 | .inr l=>.inr (done++l)
theorem oB (x:(Int×Int) ⊕ List aN):iD [] x=x:=by cases x <;> rfl
theorem oz (ls:List (List UInt8×Int))(n:Int)(done:List aN)(i:aN)(row:Int)(more:List Rw):iD done (fY ls n ((i,[],row) :: more))=iD (done++[i]) (fY ls n more):=by
 rw[wk]
 cases fY ls n more <;> simp[iD]
theorem oA (ls:List (List UInt8×Int))(n:Int)(done:List aN)(i:aN)(nm:List UInt8)(hn:nm≠[])(row:Int)(more:List Rw)(h:0<=bg ls nm n):iD done (fY ls n ((i,nm,row) :: more))=iD (done++[{ i with pl:=bg ls nm n }]) (fY ls n more):=by
 rw[oN ls n i nm hn,if_neg (by omega)]
 cases fY ls n more <;> simp[iD]
theorem qU (ls:List (List UInt8×Int))(n:Int)(done:List aN)(i:aN)(nm:List UInt8)(hn:nm≠[])(row:Int)(more:List Rw)(h:bg ls nm n<0):iD done (fY ls n ((i,nm,row) :: more))=.inl (row,10):=by
 rw[oN ls n i nm hn,if_pos h]
 rfl
def rB (w w':World)(k:Nat)(done:List aN)(v:Value):Prop:=
 done.length=k+1/\Below w.heap.size w (w'.setCell ⟨w.heap.size+1,0,O⟩ v)/\Bk (w'.setCell ⟨w.heap.size+1,0,O⟩ v) w.heap.size 24 #[V O 0 0,I Q 0,I Q 0]/\Bk (w'.setCell ⟨w.heap.size+1,0,O⟩ v) (w.heap.size+1) 24 #[v,I Q 0,I Q 0]/\
  (w'.setCell ⟨w.heap.size+1,0,O⟩ v).ownsRow w.heap.size 117 8 v (k+1) (bE done)
section
variable {w x w':World}{k:Nat}{done:List aN}{v v':Value}{i:aN}{o:Obj}
theorem kP {g:Nat}{cs:Array Value}(hC:Bk x g 24 cs)(hO:x.ownsRow w.heap.size 117 8 v k (bE done))(hg:(x.alloc o).grownBy w' v.ownBlock):Bk w' g 24 cs:=
 Bk.grown (hC.alloc o) hg fun e=>by
  obtain⟨cs,hcs⟩:=bf hO e.symm
  exact Bk.aj hcs hC (by decide) rfl
theorem vY (hb:Below w.heap.size w x)(hR:Bk x w.heap.size 24 #[V O 0 0,I Q 0,I Q 0])(hC:Bk x (w.heap.size+1) 24 #[v,I Q 0,I Q 0])(hO:x.ownsRow w.heap.size 117 8 v k (bE done))(hd:done.length=k)
 (hw:w'.ownsRow w.heap.size 117 8 v' (k+1) (bE done++ju i)) (hg:(x.alloc o).grownBy w' v.ownBlock):rB w w' k (done++[i]) v':=by
 have hR2:=kP hR hO hg
 have hC2:=kP hC hO hg
 have hb2:Below w.heap.size w w':=Below.grown (hb.alloc (o:=o) hb.size) hg (by rw[World.size_alloc];have:=hb.size;omega) (fun j hj=>(World.ownsRow.lt hO j hj).1)
 refine⟨by simp[hd],hb2.setCell (by show w.heap.size<=w.heap.size+1;omega) _,hR2.off (by show w.heap.size≠w.heap.size+1;omega) _,hC2.put 0 v',?_⟩
 rw[mo]
 refine aq hw ((ab.refl w' (fun b=>b=w.heap.size+1)).put (w.heap.size+1) 0 v' (.inl rfl)) fun b e e2=>?_
 obtain⟨cs,hcs⟩:=bf hw e
 exact Bk.aj hcs hC2 (by decide) e2
end
theorem EQ {w:World}{p m lo:Nat}{ls:List (List UInt8×Int)}{rs:List Rw}(h:Dr w p m lo ls rs)(hr:rs.length<=64)(hL:wL ls rs.length)(hN:∀ r∈rs,r.2.1.length<=16):
 Calls Tryz.prog 62 #[.pointer (Z ⟨p,0,O⟩)] w fun e w'=>∃ v,e=.returned (.tuple #[v,I Q (dP ls rs).2.1,I Q (dP ls rs).2.2])/\Pg w' w.heap.size v (dP ls rs).1/\Below w.heap.size w w':=by
 have hpl:=h.Gf.1
 have HP:Hid (∀ (W:World) (s:List UInt8),Below w.heap.size w W->s.length<=16->Calls Tryz.prog 101 #[.pointer (Z ⟨p,0,O⟩),bs s] W fun e w'=>e=.returned (fw ls s rs.length)/\W=w'):=
  S fun W s hW hs=>Du (h.within (ay hW) (by simp) (by simp) (by simp)) s (by omega)
 obtain⟨sl,h1,-,h3⟩:=h
 obtain⟨a,cap,rfl,hcap,hmax,hg⟩:=bt h3
 have HE:Hid (∀ x,fY ls rs.length rs=.inl x->dP ls rs=(im.zero,x.1,x.2)):=S fun x hx=>by unfold dP;rw[hx]
 have HF:Hid (∀ l,fY ls rs.length rs=.inr l->dP ls rs=if bg ls fH rs.length<0\/bg ls dq rs.length<0 then (im.zero,0,10) else (⟨l,bg ls fH rs.length,bg ls dq rs.length⟩,0,0)):=S fun l hl=>by unfold dP;rw[hl]
 have HL:Hid (∀ s:List UInt8,(bg ls s rs.length<0/\fw ls s rs.length=.tuple #[I Q 0,.bool false])\/(0<=bg ls s rs.length/\bg ls s rs.length<rs.length/\fw ls s rs.length=.tuple #[I Q (bg ls s rs.length),.bool true])):=S fun s=>qn hL s
 generalize dP ls rs=fin at *
 have HR:Hid (∀ k r,rs[k]?=Z r->∃ g,a=Z ⟨g,0,O⟩/\g<w.heap.size/\r.2.1.length<=16/\∀ j,j<10->w.cell? ⟨g,k*10+j,O⟩=(oQ r)[j]?):=S fun k r hk=>by
  have hkl:=(List.getElem?_eq_some_iff.1 hk).1
  obtain⟨g,e1,e2,e3,e4,e5,e6⟩:=hg (by omega)
  refine⟨g,e1,e4,hN r (List.mem_of_getElem? hk),fun j hj=>?_⟩
  rw[e6 _ (by omega),xo hk hj]
 have c0:((w.alloc (P #[V O 0 0,I Q 0,I Q 0] 24)).alloc (P #[V O 0 0,I Q 0,I Q 0] 24)).cell? ⟨p,0,O⟩=Z (V a rs.length cap):=((h1.alloc _).alloc _).cell 0
 clear hg hN
 go_enter Tryz.func62,Tryz.ntmps62
 go_wp2
 have b0:Below w.heap.size w ((w.alloc (P #[V O 0 0,I Q 0,I Q 0] 24)).alloc (P #[V O 0 0,I Q 0,I Q 0] 24)):=((Below.refl _ _).alloc (T _) _).alloc (by simp) _
 have r0:=(Bk.made w 24 #[V O 0 0,I Q 0,I Q 0]).alloc (P #[V O 0 0,I Q 0,I Q 0] 24)
 have d0:=Bk.made (w.alloc (P #[V O 0 0,I Q 0,I Q 0] 24)) 24 #[V O 0 0,I Q 0,I Q 0]
 rw[World.size_alloc] at d0
 generalize (w.alloc (P #[V O 0 0,I Q 0,I Q 0] 24)).alloc (P #[V O 0 0,I Q 0,I Q 0] 24)=w0 at *
 go_loopw [3,4,19] (fun l e i wr=>∃ (k:Nat) (done:List aN) (v:Value),l=I Q 0/\e=I Q 0/\i=I Q k/\k<=rs.length/\done.length=k/\Below w.heap.size w wr/\Bk wr w.heap.size 24 #[V O 0 0,I Q 0,I Q 0]/\Bk wr (w.heap.size+1) 24 #[v,I Q 0,I Q 0]/\
  wr.ownsRow w.heap.size 117 8 v k (bE done)/\Hid (fY ls rs.length rs=iD done (fY ls rs.length (rs.drop k)))) (fun _ _ i _=>rs.length-(intOf i).toNat)
 case atStart=>exact⟨0,[],V O 0 0,rfl,rfl,rfl,Nat.zero_le _,rfl,b0,r0,d0,World.ownsRow_nil _ _ _ _,S (by rw[oB,List.drop_zero])⟩
 case round=>
  obtain⟨k,done,v,rfl,rfl,rfl,hk,kt,hb,hR,hC,hO,HJ⟩:=hrel
  clear c0 b0 r0 d0 w0
  by_cases hlt:k<rs.length
  ·have hki:(k:Int)<rs.length:=by omega
   obtain⟨g,rfl,hgl,hnl,hcs⟩:=HR.out k _ (List.getElem?_eq_getElem hlt)
   have hdr:rs.drop k=rs[k] :: rs.drop (k+1):=List.drop_eq_getElem_cons hlt
   rw[hdr] at HJ
   clear hdr
   generalize rs[k]=r at *
   obtain⟨⟨op,d,s',t,u,a',k',pl⟩,nm,ln⟩:=r
   have hcw:∀ j,j<10->wr.cell? ⟨g,k*10+j,O⟩=_:=fun j hj=>(hb.cell (p:=⟨g,k*10+j,O⟩) hgl).trans (hcs j hj)
   have e0:wr.cell? ⟨g,k*10,O⟩=Z (I Q op):=hcw 0 (by omega)
   have e1:wr.cell? ⟨g,k*10+1,O⟩=Z (I Q d):=hcw 1 (by omega)
   have e2:wr.cell? ⟨g,k*10+2,O⟩=Z (I Q s'):=hcw 2 (by omega)
   have e3:wr.cell? ⟨g,k*10+3,O⟩=Z (I Q t):=hcw 3 (by omega)
   have e4:wr.cell? ⟨g,k*10+4,O⟩=Z (I Q u):=hcw 4 (by omega)
   have e5:wr.cell? ⟨g,k*10+5,O⟩=Z (I Q a'):=hcw 5 (by omega)
   have e6:wr.cell? ⟨g,k*10+6,O⟩=Z (I N k'):=hcw 6 (by omega)
   have e7:wr.cell? ⟨g,k*10+7,O⟩=Z (I Q pl):=hcw 7 (by omega)
   have e8:wr.cell? ⟨g,k*10+8,O⟩=Z (.string ⟨nm.toArray⟩):=hcw 8 (by omega)
   have e9:wr.cell? ⟨g,k*10+9,O⟩=Z (I Q ln):=hcw 9 (by omega)
   clear hcw hcs
   go_upto_region 5 with fail
   clear e0 e1 e2 e3 e4 e5 e6 e7 e8 e9
   have xq:=Bk.made wr 202 #[I Q op,I Q d,I Q s',I Q t,I Q u,I Q a',I N k',I Q pl,.string ⟨nm.toArray⟩,I Q ln]
   have hne1:wr.heap.size≠w.heap.size:=Nat.ne_of_gt hR.lt
   have hne2:wr.heap.size≠w.heap.size+1:=Nat.ne_of_gt hC.lt
   have hge:w.heap.size<=wr.heap.size:=hb.size
   replace hR:=hR.alloc (P #[I Q op,I Q d,I Q s',I Q t,I Q u,I Q a',I N k',I Q pl,.string ⟨nm.toArray⟩,I Q ln] 202)
   replace hC:=hC.alloc (P #[I Q op,I Q d,I Q s',I Q t,I Q u,I Q a',I N k',I Q pl,.string ⟨nm.toArray⟩,I Q ln] 202)
   replace hO:=World.ownsRow.alloc hO (P #[I Q op,I Q d,I Q s',I Q t,I Q u,I Q a',I N k',I Q pl,.string ⟨nm.toArray⟩,I Q ln] 202)
   replace hb:=hb.alloc (o:=P #[I Q op,I Q d,I Q s',I Q t,I Q u,I Q a',I N k',I Q pl,.string ⟨nm.toArray⟩,I Q ln] 202) hb.size
   generalize hq:wr.heap.size=q at *
   generalize wr.alloc (P #[I Q op,I Q d,I Q s',I Q t,I Q u,I Q a',I N k',I Q pl,.string ⟨nm.toArray⟩,I Q ln] 202)=x at *
   have c8:x.cell? ⟨q,8,O⟩=Z (.string ⟨nm.toArray⟩):=xq.cell 8
   by_cases hnm:nm=[]
   case' pos=>
    subst hnm
    rw[oz] at HJ
    go_upto_region 10 with fail
    generalize pl=plx at *
   case' neg=>
    have hn0:(nm==[])=false:=by simpa using hnm
    rcases HL.out nm with ⟨hf,hv⟩ | ⟨hf0,hf1,hv⟩
    case' inl=>
     rw[qU _ _ _ _ _ hnm _ _ hf] at HJ
     have HQ:=S (HE.out _ HJ.out)
     have HP2:=S (HP.out x nm hb hnl)
     rw[hv] at HP2
     have c9:x.cell? ⟨q,9,O⟩=Z (I Q ln):=xq.cell 9
     obtain⟨z0,z1,z2⟩:=hR.lz
     have zf:=hR.free
     clear HJ HE HF HL HP HR hL hnm
     go_wp2_with fail
     refine HP2.out.mono ?_
     rintro e x2 ⟨rfl,rfl⟩
     go_wp2
     go_region
     go_wp2
     have h9:=ed hR (V O 0 0) (I Q 0) (I Q 0)
     have b9:=bO hb (T _) (V O 0 0) (I Q 0) (I Q 0)
     replace b9:Below w.heap.size w (dE x w.heap.size (V O 0 0) (I Q 0) (I Q 0)).drew:=b9.drew
     replace h9:Bk (dE x w.heap.size (V O 0 0) (I Q 0) (I Q 0)).drew w.heap.size 24 #[V O 0 0,I Q 0,I Q 0]:=h9
     generalize hv:(((x.setCell ⟨w.heap.size,0,O⟩ (V O 0 0)).setCell ⟨w.heap.size,1,O⟩ (I Q 0)).setCell ⟨w.heap.size,2,O⟩ (I Q 0)).drew=v9
     replace hv:(dE x w.heap.size (V O 0 0) (I Q 0) (I Q 0)).drew=v9:=hv
     rw[hv] at h9 b9
     obtain⟨y0,y1,y2⟩:=h9.lz
     refine bodyPost_ret (v:=.tuple #[.agg #[V O 0 0,I Q 0,I Q 0],I Q ln,I Q 10]) (by simp[results,Tryz.results62,go_sem,y0,y1,y2]) rfl ⟨.agg #[V O 0 0,I Q 0,I Q 0],?_,?_,b9⟩
     ·rw[HQ.out]
     ·rw[HQ.out];exact⟨_,rfl,World.ownsRow_nil _ _ _ _⟩
    case' inr=>
     rw[oA _ _ _ _ _ hnm _ _ hf0] at HJ
     have HP2:=S (HP.out x nm hb hnl)
     rw[hv] at HP2
     generalize bg ls nm rs.length=plx at *
     have c7:x.cell? ⟨q,7,O⟩=Z (I Q pl):=xq.cell 7
     have f7:=xq.free 7
     go_wp2_with fail
     refine HP2.out.mono ?_
     rintro e x2 ⟨rfl,rfl⟩
     go_upto_region 10 with fail
     replace hb:=hb.setCell (p:=⟨q,7,O⟩) hge (I Q plx)
     replace hR:=hR.off (p:=⟨q,7,O⟩) (fun e=>hne1 e.symm) (I Q plx)
     replace hC:=hC.off (p:=⟨q,7,O⟩) (fun e=>hne2 e.symm) (I Q plx)
     replace hO:=aq hO ((ab.refl x (fun b=>b=q)).put q 7 (I Q plx) (.inl rfl)) (fun b e e2=>by
      obtain⟨cs,hcs⟩:=bf hO e
      exact Bk.aj hcs xq (by decide) e2)
     replace xq:=xq.put 7 (I Q plx)
     simp only[List.setIfInBounds_toArray,List.set_cons_zero,List.set_cons_succ] at xq
     generalize x.setCell ⟨q,7,O⟩ (I Q plx)=x at *
   all_goals (
    obtain⟨e0,e1,e2,e3,e4,e5,e6,e7⟩:x.cell? ⟨q,0,O⟩=Z (I Q op)/\x.cell? ⟨q,1,O⟩=Z (I Q d)/\x.cell? ⟨q,2,O⟩=Z (I Q s')/\x.cell? ⟨q,3,O⟩=Z (I Q t)/\x.cell? ⟨q,4,O⟩=Z (I Q u)/\x.cell? ⟨q,5,O⟩=Z (I Q a')/\x.cell? ⟨q,6,O⟩=Z (I N k')/\x.cell? ⟨q,7,O⟩=Z (I Q plx):=
     ⟨xq.cell 0,xq.cell 1,xq.cell 2,xq.cell 3,xq.cell 4,xq.cell 5,xq.cell 6,xq.cell 7⟩
    obtain⟨a2,cap2,rfl,hcap2,hmax2,_⟩:=bt hO
    have v0:x.cell? ⟨w.heap.size+1,0,O⟩=Z (V a2 k cap2):=hC.cell 0
    have HO:=S (World.ownsRow.alloc hO (P #[I Q op,I Q d,I Q s',I Q t,I Q u,I Q a',I N k',I Q plx] 117))
    have HN2:=S (gF (Bk.made x 117 #[I Q op,I Q d,I Q s',I Q t,I Q u,I Q a',I N k',I Q plx]))
    have HBS:Hid (w.heap.size<=(x.alloc (P #[I Q op,I Q d,I Q s',I Q t,I Q u,I Q a',I N k',I Q plx] 117)).heap.size):=S (by rw[World.size_alloc];have:=hb.size;omega)
    have HEND:Hid (∀ (w':World) (v':Value),w'.ownsRow w.heap.size 117 8 v' (k+1) (bE done++ju ⟨op,d,s',t,u,a',k',plx⟩)->(x.alloc (P #[I Q op,I Q d,I Q s',I Q t,I Q u,I Q a',I N k',I Q plx] 117)).grownBy w' (Value.slice a2 k cap2).ownBlock->rB w w' k (done++[⟨op,d,s',t,u,a',k',plx⟩]) v'):=S fun w' v' hw hg=>vY hb hR hC hO kt hw hg
    have HCC:Hid (∀ (w':World),(x.alloc (P #[I Q op,I Q d,I Q s',I Q t,I Q u,I Q a',I N k',I Q plx] 117)).grownBy w' (Value.slice a2 k cap2).ownBlock->Bk w' (w.heap.size+1) 24 #[V a2 k cap2,I Q 0,I Q 0]):=S fun w' hg=>kP hC hO hg
    clear HR HP HL HE HF hL hcap hmax c8 hR hC hO xq hb
    go_wp2_with (at_builtin;refine rG rfl _ _ 22 rfl _ 64 Tryz.underlying22 ur rfl (by omega) (by omega) HO.out rfl (ju ⟨op,d,s',t,u,a',k',plx⟩) rfl (nk _) x.heap.size rfl HN2.out (by omega) HBS.out ?_;intro v' w' hown hgr hloc;have hcc:=HCC.out w' hgr;have cc0:w'.cell? ⟨w.heap.size+1,0,O⟩=Z (V a2 k cap2):=hcc.cell 0;have cf0:=hcc.free 0;have HS:=S (HEND.out w' v' hown hgr);obtain⟨a3,cap3,rfl,_,_,_⟩:=bt hown)
    obtain⟨s1,s2,s3,s4,s5⟩:=HS.out
    go_roundw
    case rel=>exact⟨k+1,done++[⟨op,d,s',t,u,a',k',plx⟩],V a3 (k+1) cap3,rfl,rfl,by go_num,by omega,s1,s2,s3,s4,s5,HJ⟩
    case measure=>
     show rs.length-((k:Int)+1).toNat<rs.length-(k:Int).toNat
     omega)
  ·obtain rfl:k=rs.length:=by omega
   have hki:¬ (rs.length:Int)<rs.length:=by omega
   have HF2:=S (HF.out done (by rw[HJ.out,List.drop_of_length_le (by omega)];simp[fY,iD]))
   have PL:Hid (∀ W:World,Below w.heap.size w W->Calls Tryz.prog 101 #[.pointer (Z ⟨p,0,O⟩),.string ⟨#[108,111,99,107]⟩] W fun e w'=>e=.returned (fw ls fH rs.length)/\W=w'):=S fun W hW=>HP.out W fH hW (by decide)
   have PU:Hid (∀ W:World,Below w.heap.size w W->Calls Tryz.prog 101 #[.pointer (Z ⟨p,0,O⟩),.string ⟨#[117,110,108,111,99,107]⟩] W fun e w'=>e=.returned (fw ls dq rs.length)/\W=w'):=S fun W hW=>HP.out W dq hW (by decide)
   have FL:=S (HL.out fH)
   have FU:=S (HL.out dq)
   generalize bg ls fH rs.length=fl at *
   generalize bg ls dq rs.length=fu at *
   generalize fw ls fH rs.length=pvl at *
   generalize fw ls dq rs.length=pvu at *
   obtain⟨z0,z1,z2⟩:=hR.lz
   have zf:=hR.free
   clear HJ HE HF HL HP HR hL
   go_wp2_with fail
   refine(PL.out _ hb).mono ?_
   rintro e x ⟨rfl,rfl⟩
   by_cases hfl:fl<0
   case' pos=>
    obtain rfl:pvl=.tuple #[I Q 0,.bool false]:=by
     rcases FL.out with ⟨_,e⟩ | ⟨h,_⟩
     ·exact e
     ·omega
    go_wp2_with fail
    refine(PU.out _ hb).mono ?_
    rintro e x ⟨rfl,rfl⟩
    have HQ:Hid (fin=(im.zero,0,10)):=S (by rw[HF2.out,if_pos (.inl hfl)])
    rcases FU.out with ⟨hfu,rfl⟩ | ⟨hfu,hfu2,rfl⟩
    case' inl=>go_wp2
    case' inr=>go_wp2
   case' neg=>
    obtain rfl:pvl=.tuple #[I Q fl,.bool true]:=by
     rcases FL.out with ⟨h,_⟩ | ⟨_,_,e⟩
     ·omega
     ·exact e
    go_wp2_with fail
    refine(PU.out _ hb).mono ?_
    rintro e x ⟨rfl,rfl⟩
    rcases hfuu:decide (fu<0)
    case' true=>
     have hfu:fu<0:=by simpa using hfuu
     obtain rfl:pvu=.tuple #[I Q 0,.bool false]:=by
      rcases FU.out with ⟨_,e⟩ | ⟨h,_⟩
      ·exact e
      ·omega
     have HQ:Hid (fin=(im.zero,0,10)):=S (by rw[HF2.out,if_pos (.inr hfu)])
     go_wp2
    case' false=>
     have hfu:¬ fu<0:=by simpa using hfuu
     obtain rfl:pvu=.tuple #[I Q fu,.bool true]:=by
      rcases FU.out with ⟨h,_⟩ | ⟨_,_,e⟩
      ·omega
      ·exact e
     have HQ:Hid (fin=(⟨done,fl,fu⟩,0,0)):=S (by rw[HF2.out,if_neg (by omega)])
     obtain⟨a2,cap2,rfl,_,_,_⟩:=bt hO
     obtain⟨y0,y1,y2⟩:=hC.lz
     have yf:=hC.free
     have hC9:Bk ((wr.setCell ⟨w.heap.size+1,1,O⟩ (I Q fl)).setCell ⟨w.heap.size+1,2,O⟩ (I Q fu)) (w.heap.size+1) 24 #[V a2 rs.length cap2,I Q fl,I Q fu]:=(hC.put 1 _).put 2 _
     have hR9:=(hR.off (p:=⟨w.heap.size+1,1,O⟩) (by show w.heap.size≠w.heap.size+1;omega) (I Q fl)).off (p:=⟨w.heap.size+1,2,O⟩) (by show w.heap.size≠w.heap.size+1;omega) (I Q fu)
     have hb9:=(hb.setCell (p:=⟨w.heap.size+1,1,O⟩) (by show w.heap.size<=w.heap.size+1;omega) (I Q fl)).setCell (p:=⟨w.heap.size+1,2,O⟩) (by show w.heap.size<=w.heap.size+1;omega) (I Q fu)
     have hO9:=aq hO (((ab.refl wr (fun b=>b=w.heap.size+1)).put (w.heap.size+1) 1 (I Q fl) (.inl rfl)).put (w.heap.size+1) 2 (I Q fu) (.inl rfl)) (fun b e e2=>by
      obtain⟨cs,hcs⟩:=bf hO e
      exact Bk.aj hcs hC (by decide) e2)
     clear HF2 PL PU FL FU hR hC hb hO
     go_upto_region 17 with fail
     clear y0 y1 y2 yf z0 z1 z2 zf
     generalize (wr.setCell ⟨w.heap.size+1,1,O⟩ (I Q fl)).setCell ⟨w.heap.size+1,2,O⟩ (I Q fu)=y at *
     obtain⟨y0,y1,y2⟩:=hC9.lz
     obtain⟨z0,z1,z2⟩:=hR9.lz
     have zf:=hR9.free
     go_wp2
     have h9:=ed hR9 (V a2 rs.length cap2) (I Q fl) (I Q fu)
     have b9:=bO hb9 (T _) (V a2 rs.length cap2) (I Q fl) (I Q fu)
     have o9:(dE y w.heap.size (V a2 rs.length cap2) (I Q fl) (I Q fu)).ownsRow w.heap.size 117 8 (V a2 rs.length cap2) rs.length (bE done):=aq hO9 ((((ab.refl y (fun b=>b=w.heap.size)).put w.heap.size 0 (V a2 rs.length cap2) (.inl rfl)).put w.heap.size 1 (I Q fl) (.inl rfl)).put w.heap.size 2 (I Q fu) (.inl rfl)) (fun b e e2=>by
      obtain⟨cs,hcs⟩:=bf hO9 e
      exact Bk.aj hcs hR9 (by decide) e2)
     generalize hv:(((y.setCell ⟨w.heap.size,0,O⟩ (V a2 rs.length cap2)).setCell ⟨w.heap.size,1,O⟩ (I Q fl)).setCell ⟨w.heap.size,2,O⟩ (I Q fu))=v9
     replace hv:dE y w.heap.size (V a2 rs.length cap2) (I Q fl) (I Q fu)=v9:=hv
     rw[hv] at h9 b9 o9
     obtain⟨q0,q1,q2⟩:=h9.lz
     refine bodyPost_ret (v:=.tuple #[.agg #[V a2 rs.length cap2,I Q fl,I Q fu],I Q 0,I Q 0]) (by simp[results,Tryz.results62,go_sem,q0,q1,q2]) rfl ⟨.agg #[V a2 rs.length cap2,I Q fl,I Q fu],?_,?_,b9⟩
     ·rw[HQ.out]
     ·rw[HQ.out];exact⟨_,rfl,by simp only[kt];exact o9⟩
   all_goals (
    have h9:=ed hR (V O 0 0) (I Q 0) (I Q 0)
    have b9:=bO hb (T _) (V O 0 0) (I Q 0) (I Q 0)
    generalize hv:(((wr.setCell ⟨w.heap.size,0,O⟩ (V O 0 0)).setCell ⟨w.heap.size,1,O⟩ (I Q 0)).setCell ⟨w.heap.size,2,O⟩ (I Q 0))=v9
    replace hv:dE wr w.heap.size (V O 0 0) (I Q 0) (I Q 0)=v9:=hv
    rw[hv] at h9 b9
    obtain⟨y0,y1,y2⟩:=h9.lz
    refine bodyPost_ret (v:=.tuple #[.agg #[V O 0 0,I Q 0,I Q 0],I Q 0,I Q 10]) (by simp[results,Tryz.results62,go_sem,y0,y1,y2]) rfl ⟨.agg #[V O 0 0,I Q 0,I Q 0],?_,?_,b9⟩
    ·rw[HQ.out]
    ·rw[HQ.out];exact⟨_,rfl,World.ownsRow_nil _ _ _ _⟩)
