import Derived.Test.YtieiifdhdjhnoaaGreatDoorWAsmD
import Derived.Test.YtieiifdhdjhnoaaGreatDoorWCell
import Derived.Deep.Cut
set_option maxHeartbeats 1000000
set_option maxRecDepth 100000
open Option renaming none->I,some->Q
open Go.Value renaming slice->N
open Go.Lib renaming hid->O
namespace Go.Proofs.YtieiifdhdjhnoaaGreatDoor
open Go.ChangeShapes Go.WideShapes Go.ChangeAt Go.RowKit
section
variable {w w2:World}{x n each:Nat}{fv gv ov:Value}{vs:Nat->Value}{free:Nat->List Nat}{gen out:List Int}
theorem Rf.FM {gv':Value}{gen':List Int}(h:Rf w x n each ⟨fv,gv,ov,vs⟩ free gen out)(hg:w.grownBy w2 gv.ownBlock)(hL:eH .i64 3 w2 gv' gen')(hloc:gv'.ownBlock=gv.ownBlock\/∀ b,gv'.ownBlock=Q b->w.heap.size<=b):
 Rf (w2.setCell ⟨x,2,I⟩ gv') x n each ⟨fv,gv',ov,vs⟩ free gen' out:=by
 have hk1:ab w w2 (fun i=>gv.ownBlock=Q i):=.az hg (fun i e=>.inl e)
 have hk2:ab w2 (w2.setCell ⟨x,2,I⟩ gv') (fun i=>i=x):=(ab.refl w2 _).put x _ _ (.inl rfl)
 have hk:ab w (w2.setCell ⟨x,2,I⟩ gv') (fun i=>gv.ownBlock=Q i\/i=x):=(hk1.wide (fun i e _=>.inl e)).bp hk2 (fun i e=>.inl (.inr e))
 have hgx:¬ gv.ownBlock=Q x:=fun e=>by obtain⟨cs,hc⟩:=h.gens.bk e;exact Bk.aj hc h.ptr (by decide) rfl
 have hp:=h.ptr.within hk1 hgx
 have hnew:∀ b,w.heap.size<=b->¬ RM.Has ⟨fv,gv,ov,vs⟩ n b:=fun b hb e=>by have:=h.lt e;omega
 refine⟨hp.put 2 gv',h.row.within hk ?_,hL.within hk2 ?_,h.outs.within hk ?_,fun s hs=>(h.frees s hs).within hk ?_,fun b e e'=>?_,fun s b hs e e'=>?_,h.vo,h.vv⟩
 ·rintro b e (e' | e')
  ·obtain⟨cs,hc⟩:=h.gens.bk e';obtain⟨cs',hc'⟩:=h.row.bk e;exact Bk.aj hc hc' (by decide) rfl
  ·obtain⟨cs',hc'⟩:=h.row.bk e;exact Bk.aj hc' h.ptr (by decide) e'
 ·rintro b e e'
  obtain⟨cs,hc⟩:=hL.bk e;exact Bk.aj hc hp (by decide) e'
 ·rintro b e (e' | e')
  ·exact h.go b e' e
  ·obtain⟨cs',hc'⟩:=h.outs.bk e;exact Bk.aj hc' h.ptr (by decide) e'
 ·rintro b e (e' | e')
  ·exact h.vg s b hs e e'
  ·obtain⟨cs',hc'⟩:=(h.frees s hs).bk e;exact Bk.aj hc' h.ptr (by decide) e'
 ·rcases hloc with hl | hl
  ·rw[hl] at e;exact h.go b e e'
  ·exact hnew b (hl b e) (.inr (.inr (.inl e')))
 ·rcases hloc with hl | hl
  ·rw[hl] at e';exact h.vg s b hs e e'
  ·exact hnew b (hl b e') (.inr (.inr (.inr ⟨s,hs,e⟩)))
theorem Rf.FK {ov':Value}{out':List Int}(h:Rf w x n each ⟨fv,gv,ov,vs⟩ free gen out)(hg:w.grownBy w2 ov.ownBlock)(hL:eH .i64 3 w2 ov' out')(hloc:ov'.ownBlock=ov.ownBlock\/∀ b,ov'.ownBlock=Q b->w.heap.size<=b):
 Rf (w2.setCell ⟨x,3,I⟩ ov') x n each ⟨fv,gv,ov',vs⟩ free gen out':=by
 have hk1:ab w w2 (fun i=>ov.ownBlock=Q i):=.az hg (fun i e=>.inl e)
 have hk2:ab w2 (w2.setCell ⟨x,3,I⟩ ov') (fun i=>i=x):=(ab.refl w2 _).put x _ _ (.inl rfl)
 have hk:ab w (w2.setCell ⟨x,3,I⟩ ov') (fun i=>ov.ownBlock=Q i\/i=x):=(hk1.wide (fun i e _=>.inl e)).bp hk2 (fun i e=>.inl (.inr e))
 have hgx:¬ ov.ownBlock=Q x:=fun e=>by obtain⟨cs,hc⟩:=h.outs.bk e;exact Bk.aj hc h.ptr (by decide) rfl
 have hp:=h.ptr.within hk1 hgx
 have hnew:∀ b,w.heap.size<=b->¬ RM.Has ⟨fv,gv,ov,vs⟩ n b:=fun b hb e=>by have:=h.lt e;omega
 refine⟨hp.put 3 ov',h.row.within hk ?_,h.gens.within hk ?_,hL.within hk2 ?_,fun s hs=>(h.frees s hs).within hk ?_,fun b e e'=>?_,h.vg,fun s b hs e e'=>?_,h.vv⟩
 ·rintro b e (e' | e')
  ·obtain⟨cs,hc⟩:=h.outs.bk e';obtain⟨cs',hc'⟩:=h.row.bk e;exact Bk.aj hc hc' (by decide) rfl
  ·obtain⟨cs',hc'⟩:=h.row.bk e;exact Bk.aj hc' h.ptr (by decide) e'
 ·rintro b e (e' | e')
  ·exact h.go b e e'
  ·obtain⟨cs',hc'⟩:=h.gens.bk e;exact Bk.aj hc' h.ptr (by decide) e'
 ·rintro b e e'
  obtain⟨cs,hc⟩:=hL.bk e;exact Bk.aj hc hp (by decide) e'
 ·rintro b e (e' | e')
  ·exact h.vo s b hs e e'
  ·obtain⟨cs',hc'⟩:=(h.frees s hs).bk e;exact Bk.aj hc' h.ptr (by decide) e'
 ·rcases hloc with hl | hl
  ·rw[hl] at e';exact h.go b e e'
  ·exact hnew b (hl b e') (.inr (.inl e))
 ·rcases hloc with hl | hl
  ·rw[hl] at e';exact h.vo s b hs e e'
  ·exact hnew b (hl b e') (.inr (.inr (.inr ⟨s,hs,e⟩)))
theorem xL (vs:Nat->Value)(n:Nat)(u:Value):(List.range n).map vs++[u]=(List.range (n+1)).map (wR vs n u):=by
 rw[List.range_succ,List.map_append,List.map_cons,List.map_nil,bj]
 congr 1
 exact List.map_congr_left fun i hi=>(aT (by have:=List.mem_range.1 hi;omega)).symm
theorem Rf.FN {fv' lv:Value}(h:Rf w x n each ⟨fv,gv,ov,vs⟩ free gen out)(hg:w.grownBy w2 fv.ownBlock)(hV:pY 25 w2 fv' ((List.range n).map vs++[lv]))(hl:Fs w lv (mA (free n)))(hln:∀ b,lv.ownBlock=Q b->¬ RM.Has ⟨fv,gv,ov,vs⟩ n b):
 Rf (w2.setCell ⟨x,1,I⟩ fv') x (n+1) each ⟨fv',gv,ov,wR vs n lv⟩ free gen out:=by
 have hk1:ab w w2 (fun i=>fv.ownBlock=Q i):=.az hg (fun i e=>.inl e)
 have hk2:ab w2 (w2.setCell ⟨x,1,I⟩ fv') (fun i=>i=x):=(ab.refl w2 _).put x _ _ (.inl rfl)
 have hk:ab w (w2.setCell ⟨x,1,I⟩ fv') (fun i=>fv.ownBlock=Q i\/i=x):=(hk1.wide (fun i e _=>.inl e)).bp hk2 (fun i e=>.inl (.inr e))
 have hgx:¬ fv.ownBlock=Q x:=fun e=>by obtain⟨cs,hc⟩:=h.row.bk e;exact Bk.aj hc h.ptr (by decide) rfl
 have hp:=h.ptr.within hk1 hgx
 have hint:∀ {b:Nat} {cs:Array Value},Bk w b 3 cs->¬ (fv.ownBlock=Q b\/b=x):=by
  rintro b cs hc (e | e)
  ·obtain⟨cs',hc'⟩:=h.row.bk e;exact Bk.aj hc hc' (by decide) rfl
  ·exact Bk.aj hc h.ptr (by decide) e
 rw[xL] at hV
 refine⟨hp.put 1 fv',hV.within hk2 ?_,h.gens.within hk (fun b e=>by obtain⟨cs,hc⟩:=h.gens.bk e;exact hint hc),h.outs.within hk (fun b e=>by obtain⟨cs,hc⟩:=h.outs.bk e;exact hint hc),fun s hs=>?_,h.go,fun s b hs e e'=>?_,fun s b hs e e'=>?_,fun s s' b hs hs' hne e e'=>?_⟩
 ·rintro b e e'
  obtain⟨cs,hc⟩:=hV.bk e;exact Bk.aj hc hp (by decide) e'
 ·by_cases es:s=n
  ·subst es
   simp only[bj]
   exact hl.within hk (fun b e=>by obtain⟨cs,hc⟩:=hl.bk e;exact hint hc)
  ·simp only[aT es]
   have hsn:s<n:=by omega
   exact(h.frees s hsn).within hk (fun b e=>by obtain⟨cs,hc⟩:=(h.frees s hsn).bk e;exact hint hc)
 ·by_cases es:s=n
  ·subst es;simp only[bj] at e;exact hln b e (.inr (.inl e'))
  ·simp only[aT es] at e;exact h.vg s b (by omega) e e'
 ·by_cases es:s=n
  ·subst es;simp only[bj] at e;exact hln b e (.inr (.inr (.inl e')))
  ·simp only[aT es] at e;exact h.vo s b (by omega) e e'
 ·by_cases es:s=n
  ·subst es
   simp only[bj] at e
   simp only[aT (fun e'':s'=s=>hne e''.symm)] at e'
   exact hln b e (.inr (.inr (.inr ⟨s',by omega,e'⟩)))
  ·simp only[aT es] at e
   by_cases es':s'=n
   ·subst es';simp only[bj] at e';exact hln b e' (.inr (.inr (.inr ⟨s,by omega,e⟩)))
   ·simp only[aT es'] at e';exact h.vv s s' b (by omega) (by omega) hne e e'
end
def ga (k:Nat):List Int:=List.replicate k 0
theorem mf (k:Nat):ga k++[0]=ga (k+1):=by unfold ga;rw[List.replicate_succ']
theorem uC (k:Nat):(ga k).length=k:=by simp[ga]
def nodes (each t j:Nat):List Nat:=(List.range j).map fun i=>t*each+i
theorem sF (each t j:Nat):mA (nodes each t j)++[((t*each+(j+1):Nat):Int)]=mA (nodes each t (j+1)):=by
 simp[nodes,mA,List.range_succ];omega
theorem lL (each t j:Nat):(mA (nodes each t j)).length=j:=by simp[mA,nodes]
structure zW (w:World)(x each k m m':Nat)(R:RM)(wr:World):Prop where
 rf:Rf wr x k each R (ke each) (ga m) (ga m')
 gr:w.grownBy wr I
 new:∀ i,R.Has k i->w.heap.size<=i
 newx:w.heap.size<=x
structure BN (w:World)(x each k m m' j:Nat)(R:RM)(lv:Value)(wr:World):Prop where
 mkin:zW w x each k m m' R wr
 DG:eH .i64 3 wr lv (mA (nodes each k j))
 apart:∀ b,lv.ownBlock=Q b->w.heap.size<=b/\¬ R.Has k b
theorem iU {w W1 W2:World}{v:Value}(h:w.grownBy W1 I)(g:W1.grownBy W2 v.ownBlock)(hv:∀ b,v.ownBlock=Q b->w.heap.size<=b):w.grownBy W2 I:=
 aU h g (by
  cases e:v.ownBlock with
  | none=>exact .inl rfl
  | some b=>exact .inr fun y e'=>by injection e' with e';subst e';exact hv _ e)
section
variable {w W1 W2:World}{x each k m m' j:Nat}{fv gv ov lv:Value}{vs:Nat->Value}
theorem BN.l {lv1:Value}(h:BN w x each k m m' j ⟨fv,gv,ov,vs⟩ lv W1)(g:W1.grownBy W2 lv.ownBlock)(hL:eH .i64 3 W2 lv1 (mA (nodes each k (j+1))))(loc:lv1.ownBlock=lv.ownBlock\/lv1.ownBlock=Q (W1.heap.size+1)):
 BN w x each k m m' (j+1) ⟨fv,gv,ov,vs⟩ lv1 W2:=by
 obtain⟨⟨hRf,hGr,hNw,hNx⟩,hLs,hAp⟩:=h
 have hsz:=hGr.size
 refine⟨⟨hRf.kept (S:=fun b=>lv.ownBlock=Q b) (.az g (fun i e=>.inl e)) (fun e=>?_) (fun i hi e=>(hAp i e).2 hi),iU hGr g (fun b e=>(hAp b e).1),hNw,hNx⟩,hL,fun b e=>?_⟩
 ·obtain⟨cs,hc⟩:=hLs.bk e
  exact Bk.aj hc hRf.ptr (by decide) rfl
 ·rcases loc with e1 | e1
  ·exact hAp b (e1 ▸ e)
  ·rw[e1] at e;injection e with e;subst e
   exact⟨by omega,fun e'=>by have:=hRf.lt e';omega⟩
theorem BN.g {gv2:Value}(h:BN w x each k m m' j ⟨fv,gv,ov,vs⟩ lv W1)(g:W1.grownBy W2 gv.ownBlock)(hL:eH .i64 3 W2 gv2 (ga (m+1)))(loc:gv2.ownBlock=gv.ownBlock\/gv2.ownBlock=Q (W1.heap.size+1)):
 BN w x each k (m+1) m' j ⟨fv,gv2,ov,vs⟩ lv (W2.setCell ⟨x,2,I⟩ gv2)/\Bk W2 x 158 #[.int .i64 each,fv,gv,ov]:=by
 obtain⟨⟨hRf,hGr,hNw,hNx⟩,hLs,hAp⟩:=h
 have hsz:=hGr.size
 have hloc:gv2.ownBlock=gv.ownBlock\/∀ b,gv2.ownBlock=Q b->W1.heap.size<=b:=loc.imp id (fun e b e'=>by rw[e] at e';injection e' with e';omega)
 have hk:ab W1 W2 (fun b=>gv.ownBlock=Q b):=.az g (fun i e=>.inl e)
 have hbx:=hRf.ptr.within hk (fun e=>by obtain⟨cs,hc⟩:=hRf.gens.bk e;exact Bk.aj hc hRf.ptr (by decide) rfl)
 have hkx:ab W2 (W2.setCell ⟨x,2,I⟩ gv2) (fun i=>i=x):=(ab.refl W2 _).put x _ _ (.inl rfl)
 have hgr2:=iU hGr g (fun b e=>hNw b (.inr (.inl e)))
 refine⟨⟨⟨hRf.FM g hL hloc,aU hgr2 (cY _ _ _ _) (.inr fun y e=>by injection e with e;subst e;exact hNx),fun i hi=>?_,hNx⟩,?_,fun b e=>⟨(hAp b e).1,fun hi=>?_⟩⟩,hbx⟩
 ·rcases hi with e | e | e | e
  ·exact hNw i (.inl e)
  ·rcases hloc with e' | e'
   ·exact hNw i (.inr (.inl (e' ▸ e)))
   ·have:=e' i e;omega
  ·exact hNw i (.inr (.inr (.inl e)))
  ·exact hNw i (.inr (.inr (.inr e)))
 ·have h1:=hLs.within hk (fun b e e'=>(hAp b e).2 (.inr (.inl e')))
  exact h1.within hkx (fun b e e'=>by obtain⟨cs,hc⟩:=h1.bk e;exact Bk.aj hc hbx (by decide) e')
 ·rcases hi with e1 | e1 | e1 | e1
  ·exact(hAp b e).2 (.inl e1)
  ·rcases hloc with e' | e'
   ·exact(hAp b e).2 (.inr (.inl (e' ▸ e1)))
   ·have:=e' b e1;have:=hLs.lt e;omega
  ·exact(hAp b e).2 (.inr (.inr (.inl e1)))
  ·exact(hAp b e).2 (.inr (.inr (.inr e1)))
theorem BN.o {ov2:Value}(h:BN w x each k m m' j ⟨fv,gv,ov,vs⟩ lv W1)(g:W1.grownBy W2 ov.ownBlock)(hL:eH .i64 3 W2 ov2 (ga (m'+1)))(loc:ov2.ownBlock=ov.ownBlock\/ov2.ownBlock=Q (W1.heap.size+1)):
 BN w x each k m (m'+1) j ⟨fv,gv,ov2,vs⟩ lv (W2.setCell ⟨x,3,I⟩ ov2)/\Bk W2 x 158 #[.int .i64 each,fv,gv,ov]:=by
 obtain⟨⟨hRf,hGr,hNw,hNx⟩,hLs,hAp⟩:=h
 have hsz:=hGr.size
 have hloc:ov2.ownBlock=ov.ownBlock\/∀ b,ov2.ownBlock=Q b->W1.heap.size<=b:=loc.imp id (fun e b e'=>by rw[e] at e';injection e' with e';omega)
 have hk:ab W1 W2 (fun b=>ov.ownBlock=Q b):=.az g (fun i e=>.inl e)
 have hbx:=hRf.ptr.within hk (fun e=>by obtain⟨cs,hc⟩:=hRf.outs.bk e;exact Bk.aj hc hRf.ptr (by decide) rfl)
 have hkx:ab W2 (W2.setCell ⟨x,3,I⟩ ov2) (fun i=>i=x):=(ab.refl W2 _).put x _ _ (.inl rfl)
 have hgr2:=iU hGr g (fun b e=>hNw b (.inr (.inr (.inl e))))
 refine⟨⟨⟨hRf.FK g hL hloc,aU hgr2 (cY _ _ _ _) (.inr fun y e=>by injection e with e;subst e;exact hNx),fun i hi=>?_,hNx⟩,?_,fun b e=>⟨(hAp b e).1,fun hi=>?_⟩⟩,hbx⟩
 ·rcases hi with e | e | e | e
  ·exact hNw i (.inl e)
  ·exact hNw i (.inr (.inl e))
  ·rcases hloc with e' | e'
   ·exact hNw i (.inr (.inr (.inl (e' ▸ e))))
   ·have:=e' i e;omega
  ·exact hNw i (.inr (.inr (.inr e)))
 ·have h1:=hLs.within hk (fun b e e'=>(hAp b e).2 (.inr (.inr (.inl e'))))
  exact h1.within hkx (fun b e e'=>by obtain⟨cs,hc⟩:=h1.bk e;exact Bk.aj hc hbx (by decide) e')
 ·rcases hi with e1 | e1 | e1 | e1
  ·exact(hAp b e).2 (.inl e1)
  ·exact(hAp b e).2 (.inr (.inl e1))
  ·rcases hloc with e' | e'
   ·exact(hAp b e).2 (.inr (.inr (.inl (e' ▸ e1))))
   ·have:=e' b e1;have:=hLs.lt e;omega
  ·exact(hAp b e).2 (.inr (.inr (.inr e1)))
theorem BN.f {fv2:Value}(h:BN w x each k m m' each ⟨fv,gv,ov,vs⟩ lv W1)(g:W1.grownBy W2 fv.ownBlock)(hV:pY 25 W2 fv2 ((List.range k).map vs++[lv]))(loc:fv2.ownBlock=fv.ownBlock\/fv2.ownBlock=Q (W1.heap.size+1)):
 zW w x each (k+1) m m' ⟨fv2,gv,ov,wR vs k lv⟩ (W2.setCell ⟨x,1,I⟩ fv2)/\Bk W2 x 158 #[.int .i64 each,fv,gv,ov]:=by
 obtain⟨⟨hRf,hGr,hNw,hNx⟩,hLs,hAp⟩:=h
 have hsz:=hGr.size
 have hk:ab W1 W2 (fun b=>fv.ownBlock=Q b):=.az g (fun i e=>.inl e)
 have hbx:=hRf.ptr.within hk (fun e=>by obtain⟨cs,hc⟩:=hRf.row.bk e;exact Bk.aj hc hRf.ptr (by decide) rfl)
 have hgr2:=iU hGr g (fun b e=>hNw b (.inl e))
 refine⟨⟨hRf.FN g hV (Fs.zh hLs) (fun b e=>(hAp b e).2),aU hgr2 (cY _ _ _ _) (.inr fun y e=>by injection e with e;subst e;exact hNx),fun i hi=>?_,hNx⟩,hbx⟩
 rcases hi with e | e | e | ⟨s,hs,e⟩
 ·rcases loc with e' | e'
  ·exact hNw i (.inl (e' ▸ e))
  ·rw[e'] at e;injection e with e;omega
 ·exact hNw i (.inr (.inl e))
 ·exact hNw i (.inr (.inr (.inl e)))
 ·by_cases es:s=k
  ·subst es;simp only[bj] at e;exact(hAp i e).1
  ·simp only[aT es] at e;exact hNw i (.inr (.inr (.inr ⟨s,by omega,e⟩)))
end
theorem CF:(Tryz.prog.info? 25).map (fun i=>(i.zero,i.size,i.bytes))=Q (Q (N I 0 0),1,24):=by kernel_rfl
theorem Em (n each:Nat)(hn1:1<=n)(hn:n<=64)(he:each<=8)(w:World):
 Calls Tryz.prog 44 #[.int .i64 n,.int .i64 each] w fun e w'=>∃ x R,e=.returned (.pointer (Q ⟨x,0,I⟩))/\zW w x each n (n*each) (n*each) R w':=by
 have hst:zW w w.heap.size each 0 0 0 ⟨N I 0 0,N I 0 0,N I 0 0,fun _=>N I 0 0⟩ (w.alloc (.cells #[.int .i64 each,N I 0 0,N I 0 0,N I 0 0] 158)):=by
  refine⟨⟨Bk.made _ _ _,pY.nil _ _,eH.nil _ _ _,eH.nil _ _ _,fun t ht=>(by omega),fun g e=>(by cases e),fun t g ht=>(by omega),fun t g ht=>(by omega),fun s t g hs=>(by omega)⟩,bi _ _ I,fun i hi=>?_,Nat.le_refl _⟩
  rcases hi with e | e | e | ⟨t,ht,_⟩
  ·cases e
  ·cases e
  ·cases e
  ·omega
 have HST:=O hst
 clear hst
 go_enter Tryz.func44,Tryz.ntmps44
 go_wp2
 generalize w.alloc (.cells #[.int .i64 each,N I 0 0,N I 0 0,N I 0 0] 158)=w0 at HST ⊢
 generalize w.heap.size=x at HST ⊢
 go_loopw [6] (fun j wr=>∃ (t:Nat) (R:RM),t<=n/\j=.int .i64 t/\zW w x each t (t*each) (t*each) R wr) (fun i _=>n-(intOf i).toNat)
 case atStart=>exact⟨0,_,Nat.zero_le _,rfl,by rw[Nat.zero_mul];exact HST.out⟩
 case round=>
  clear HST
  obtain⟨t,R,ht,rfl,hM⟩:=hrel
  by_cases hlt:t<n
  ·have hL0:BN w x each t (t*each+0) (t*each+0) 0 R (N I 0 0) wr:=⟨hM,eH.nil _ _ _,fun b e=>by cases e⟩
   have HL0:=O hL0
   clear hL0 hM
   have hb:t*each<=64*8:=Nat.mul_le_mul (by omega) he
   have e1:((t*each:Nat):Int)=(t:Int)*(each:Int):=by simp
   have t3:wrap64 ((t:Int)*(each:Int))=((t*each:Nat):Int):=by rw[<-e1];exact IntWalk.wrap64_in _ (by omega)
   generalize hTE:t*each=te at *
   have HTE:=O hTE
   clear hTE
   go_wp2
   go_loopw [7,8] (fun l i wr'=>∃ (j:Nat) (R:RM) (lv:Value),j<=each/\i=.int .i64 ((j:Int)+1)/\l=lv/\BN w x each t (te+j) (te+j) j R lv wr') (fun _ i _=>each+1-(intOf i).toNat)
   case atStart=>exact⟨0,_,_,Nat.zero_le _,rfl,rfl,HL0.out⟩
   case round=>
    clear HL0
    obtain⟨j,R,lv,hj,rfl,rfl,hM⟩:=hrel
    generalize u7=lv at *
    by_cases hjk:j<each
    ·have hlt1:(mA (nodes each t j)).length<1000000:=by rw[lL];omega
     have hlz:(ga (te+j)).length<1000000:=by rw[uC];omega
     go_wp2_with (first | (at_builtin;refine eK rfl _ _ 25 rfl 8 Tryz.underlying25 lZ (by omega) hM.DG rfl _ rfl hlt1 ?_))
     intro lv1 W1 hL1 g1 loc1
     rw[show (t:Int)*(each:Int)+((j:Int)+1)=((t*each+(j+1):Nat):Int) by simp,sF] at hL1
     obtain⟨fv,gv,ov,vs⟩:=R
     have hM1:=hM.l g1 hL1 loc1
     clear hM hL1 g1 loc1
     have c2:W1.cell? ⟨x,2,I⟩=Q gv:=hM1.mkin.rf.c2
     go_wp2_with (first | (at_builtin;refine eK rfl _ _ 25 rfl 8 Tryz.underlying25 lZ (by omega) hM1.mkin.rf.gens rfl 0 rfl hlz ?_))
     intro gv2 W2 hG2 g2 loc2
     rw[mf] at hG2
     obtain⟨hM2,hbx⟩:=hM1.g g2 hG2 loc2
     have x2:=hbx.cell 2
     have x3:=hbx.cell 3
     have z2:=hbx.free 2
     simp only[List.getElem?_toArray,List.getElem?_cons_zero,List.getElem?_cons_succ] at x2 x3
     obtain⟨ga2,gc2,rfl,_,_,_⟩:=hG2.is
     clear hM1 hG2 g2 loc2 hbx c2
     go_upto_region 13 with fail
     clear x2 x3 z2
     generalize W2.setCell ⟨x,2,I⟩ (.slice ga2 (ga (te+j+1)).length gc2)=W2' at hM2 ⊢
     have c3:W2'.cell? ⟨x,3,I⟩=Q ov:=hM2.mkin.rf.c3
     have hlz':(ga (te+j)).length<1000000:=hlz
     go_wp2_with (first | (at_builtin;refine eK rfl _ _ 25 rfl 8 Tryz.underlying25 lZ (by omega) hM2.mkin.rf.outs rfl 0 rfl hlz' ?_))
     intro ov3 W3 hO3 g3 loc3
     rw[mf] at hO3
     obtain⟨hM3,hbx3⟩:=hM2.o g3 hO3 loc3
     have y3:=hbx3.cell 3
     have v3:=hbx3.free 3
     simp only[List.getElem?_toArray,List.getElem?_cons_zero,List.getElem?_cons_succ] at y3
     obtain⟨oa3,oc3,rfl,_,_,_⟩:=hO3.is
     have HM3:=O hM3
     clear hM2 hO3 g3 loc3 hbx3 hM3 c3
     go_wp2
     go_roundw
     case rel=>exact⟨j+1,_,lv1,by omega,by go_num,rfl,HM3.out⟩
     case measure=>simp[intOf];omega
    ·obtain rfl:j=each:=by omega
     obtain⟨fv,gv,ov,vs⟩:=R
     have c1:wr.cell? ⟨x,1,I⟩=Q fv:=hM.mkin.rf.c1
     obtain⟨la,lc,rfl,_,_,_⟩:=hM.DG.is
     have hll:((List.range t).map vs).length<1000000:=by simp;omega
     go_wp2_with (first | (at_builtin;refine mF rfl _ _ 156 rfl _ 24 Tryz.underlying156 CF rfl (by omega) hM.mkin.rf.row rfl _ (Fs.zh hM.DG).AQ rfl hll ?_))
     intro fv2 W2 hV2 g2 loc2
     obtain⟨hM2,hbx⟩:=hM.f g2 hV2 loc2
     have x1:=hbx.cell 1
     have z1:=hbx.free 1
     simp only[List.getElem?_toArray,List.getElem?_cons_zero,List.getElem?_cons_succ] at x1
     obtain⟨fa2,fc2,rfl,_,_,_⟩:=hV2.is
     rw[show (List.map vs (List.range t)++[Value.slice la (mA (nodes j t j)).length lc]).length=t+1 by simp] at hM2
     rw[<-HTE.out,show t*j+j=(t+1)*j by rw[Nat.add_mul,Nat.one_mul]] at hM2
     have HM2:=O hM2
     clear hM hV2 g2 loc2 hbx c1 hM2
     go_wp2
     go_roundw
     case rel=>exact⟨t+1,_,by omega,by go_num,HM2.out⟩
     case measure=>simp[intOf];omega
  ·obtain rfl:t=n:=by omega
   go_wp2
   go_ret
   exact⟨x,R,rfl,hM⟩
