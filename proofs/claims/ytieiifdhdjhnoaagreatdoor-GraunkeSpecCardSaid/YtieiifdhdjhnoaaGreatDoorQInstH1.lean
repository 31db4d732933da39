import Derived.Test.YtieiifdhdjhnoaaGreatDoorQInstV
import Derived.Test.YtieiifdhdjhnoaaGreatDoorQInstT
import Derived.Test.YtieiifdhdjhnoaaGreatDoorQInstP
import Derived.Test.YtieiifdhdjhnoaaGreatDoorQMem
import Derived.Deep.CutRange
import Derived.Deep.CutBlock
import Derived.Deep.RegionHeld3
set_option linter.unusedVariables false
open Go.Value renaming int->I
open Go.IntKind renaming i64->Q
open Option renaming none->N,some->O
open Nat renaming le_of_lt->Z
namespace Go.Proofs.YtieiifdhdjhnoaaGreatDoor
open Go.ChangeShapes Go.WideShapes Go.ChangeAt Go.RowKit
def kY (s:List UInt8):Value:=if kZ s=true then .tuple #[iv (aG (aq s)),.bool true] else .tuple #[iv aU.zero,.bool false]
theorem xC (w:List UInt8)(n:Nat):eZ w (n+1)=if (bE ((n:Int)+1)).isEmpty=false/\bE ((n:Int)+1)=w then (n:Int)+1 else eZ w n:=rfl
structure qn (x:World)(g cap:Nat)(ws:List (List UInt8)):Prop where
 lt:g<x.heap.size
 le:ws.length<=cap
 small:cap<=maxLen
 at_:∀ n,n<ws.length->x.cell? ⟨g,n,N⟩=O (.string ⟨(ws.getD n []).toArray⟩)
theorem qn.below {x y:World}{g cap:Nat}{ws:List (List UInt8)}(h:qn x g cap ws)(hb:Below x.heap.size x y):qn y g cap ws:=
 ⟨Nat.lt_of_lt_of_le h.lt hb.size,h.le,h.small,fun n hn=>(hb.cell (p:=⟨g,n,N⟩) h.lt).trans (h.at_ n hn)⟩
theorem DG {x:World}{v:Value}{ws:List (List UInt8)}(h:rp 9 x v (D0 ws))(h0:0<ws.length):∃ g cap,v=.slice (O ⟨g,0,N⟩) ws.length cap/\qn x g cap ws:=by
 obtain⟨a,cap,e,h1,h2,h3⟩:=h.is
 have hl:(D0 ws).length=ws.length:=by simp[D0]
 rw[hl] at e h1 h3
 obtain⟨g,rfl,ho,-,hc⟩:=h3 h0
 refine⟨g,cap,e,?_,h1,h2,fun n hn=>?_⟩
 ·exact h.lt ho
 ·rcases hc n with hh | hh
  ·rw[hh]
   simp[D0,bs,hn]
  ·omega
theorem rZ (l:List (List UInt8))(w:List UInt8):bF (l++[w])=bF l++iU w:=by simp[bF]
theorem so (l:List (List UInt8))(w:List UInt8):bX (l++[w])=bX l++iV w:=by simp[bX]
theorem Az (l:List (List UInt8))(w:List UInt8):mF (l++[w])=if mj w=true then 1 else mF l:=by
 unfold mF
 cases h:mj w <;> simp[h]
theorem nl (l:List (List UInt8)):(bF l).length<=l.length:=by
 induction l with
 | nil=>simp[bF]
 | cons w l ih=>
  unfold bF at *
  have:(iU w).length<=1:=by unfold iU;split <;> simp
  simp only[List.flatMap_cons,List.length_append,List.length_cons]
  omega
theorem np (l:List (List UInt8)):(bX l).length<=l.length:=by
 induction l with
 | nil=>simp[bX]
 | cons w l ih=>
  unfold bX at *
  have:(iV w).length<=1:=by
   unfold iV
   split
   ·simp
   ·split <;> simp
  simp only[List.flatMap_cons,List.length_append,List.length_cons]
  omega
structure vT (w y:World)(H B5 gl cap:Nat)(ws:List (List UInt8))(op:Int)(l:List (List UInt8))(rs ns:List Int)(rv nv:Value):Prop where
 below:Below w.heap.size w y
 res:Jb y w.heap.size aU.zero
 ins:Jb y B5 ⟨op,0,0,0,0,0,mF l,0⟩
 words:qn y gl cap ws
 regs:ef .i64 3 y rv rs
 nums:ef .i64 3 y nv ns
 fr:∀ g,rv.ownBlock=O g->H<=g
 fn:∀ g,nv.ownBlock=O g->H<=g
 ne:∀ g,rv.ownBlock=O g->nv.ownBlock≠O g
 Fq:H<=y.heap.size
 h0:w.heap.size<H
 h5:B5<H
 hl:gl<H
section
variable {w y y':World}{H B5 gl cap:Nat}{ws:List (List UInt8)}{op:Int}{l l':List (List UInt8)}{rs ns rs' ns':List Int}{rv nv v':Value}
theorem qn.off (h:qn y gl cap ws){r:Option Nat}(hg:y.grownBy y' r)(hne:O gl≠r):qn y' gl cap ws:=
 ⟨Nat.lt_of_lt_of_le h.lt hg.size,h.le,h.small,fun n hn=>(World.cell?_of_block (a:=⟨gl,n,N⟩) (hg.block gl h.lt hne)).trans (h.at_ n hn)⟩
theorem mt (h:∀ g,rv.ownBlock=O g->H<=g){b:Nat}(hb:b<H):O b≠rv.ownBlock:=fun e=>by
 have:=h b e.symm
 omega
theorem vT.Fn (h:vT w y H B5 gl cap ws op l rs ns rv nv)(hg:y.grownBy y' rv.ownBlock)(hL:ef .i64 3 y' v' rs')(hloc:v'.ownBlock=rv.ownBlock\/v'.ownBlock=O (y.heap.size+1))(hk:mF l'=mF l):
 vT w y' H B5 gl cap ws op l' rs' ns v' nv:=by
 refine⟨h.below.grown hg h.below.size (fun k e=>by have:=h.fr k e;have:=h.h0;omega),h.res.grown hg (mt h.fr h.h0),?_,h.words.off hg (mt h.fr h.hl),hL,?_,?_,h.fn,?_,Nat.le_trans h.Fq hg.size,h.h0,h.h5,h.hl⟩
 ·rw[hk];exact h.ins.grown hg (mt h.fr h.h5)
 ·refine h.nums.kept hg ?_
  cases e:nv.ownBlock with
  | none=>exact .inl rfl
  | some g=>exact .inr fun e2=>h.ne g e2.symm e
 ·intro g e
  rcases hloc with e2 | e2
  ·exact h.fr g (e2 ▸ e)
  ·rw[e2] at e;injection e with e;have:=h.Fq;omega
 ·intro g e e3
  rcases hloc with e2 | e2
  ·exact h.ne g (e2 ▸ e) e3
  ·rw[e2] at e;injection e with e;have:=h.nums.lt e3;omega
theorem vT.num (h:vT w y H B5 gl cap ws op l rs ns rv nv)(hg:y.grownBy y' nv.ownBlock)(hL:ef .i64 3 y' v' ns')(hloc:v'.ownBlock=nv.ownBlock\/v'.ownBlock=O (y.heap.size+1))(hk:mF l'=mF l):
 vT w y' H B5 gl cap ws op l' rs ns' rv v':=by
 refine⟨h.below.grown hg h.below.size (fun k e=>by have:=h.fn k e;have:=h.h0;omega),h.res.grown hg (mt h.fn h.h0),?_,h.words.off hg (mt h.fn h.hl),?_,hL,h.fr,?_,?_,Nat.le_trans h.Fq hg.size,h.h0,h.h5,h.hl⟩
 ·rw[hk];exact h.ins.grown hg (mt h.fn h.h5)
 ·refine h.regs.kept hg ?_
  cases e:rv.ownBlock with
  | none=>exact .inl rfl
  | some g=>exact .inr fun e2=>h.ne g e e2.symm
 ·intro g e
  rcases hloc with e2 | e2
  ·exact h.fn g (e2 ▸ e)
  ·rw[e2] at e;injection e with e;have:=h.Fq;omega
 ·intro g e e3
  rcases hloc with e2 | e2
  ·exact h.ne g e (e2 ▸ e3)
  ·rw[e2] at e3;injection e3 with e3;have:=h.regs.lt e;omega
theorem vT.one (h:vT w y H B5 gl cap ws op l rs ns rv nv)(h2l:w.heap.size<B5)(hg5:gl≠B5)(hk:mF l'=1):
 vT w (y.setCell ⟨B5,6,N⟩ (I .u32 1)) H B5 gl cap ws op l' rs ns rv nv:=by
 have hon:=ig y B5 6 (I .u32 1)
 refine⟨h.below.setCell (p:=⟨B5,6,N⟩) (Z h2l) _,Bk.off h.res (show w.heap.size≠B5 by omega) _,?_,h.words.off hon (by simpa using hg5),h.regs.kept hon ?_,h.nums.kept hon ?_,h.fr,h.fn,h.ne,Nat.le_trans h.Fq hon.size,h.h0,h.h5,h.hl⟩
 ·rw[hk];exact Bk.put h.ins 6 (I .u32 1)
 ·cases e:rv.ownBlock with
  | none=>exact .inl rfl
  | some g=>exact .inr fun e2=>by injection e2 with e2;have:=h.fr g e;have:=h.h5;omega
 ·cases e:nv.ownBlock with
  | none=>exact .inl rfl
  | some g=>exact .inr fun e2=>by injection e2 with e2;have:=h.fn g e;have:=h.h5;omega
theorem vT.skip (h:vT w y H B5 gl cap ws op l rs ns rv nv)(hk:mF l'=mF l):vT w y H B5 gl cap ws op l' rs ns rv nv:=
 ⟨h.below,h.res,by rw[hk];exact h.ins,h.words,h.regs,h.nums,h.fr,h.fn,h.ne,h.Fq,h.h0,h.h5,h.hl⟩
end
theorem xb (ws:List (List UInt8))(j:Nat)(h:j+1<ws.length):ws.tail.take (j+1)=ws.tail.take j++[ws.getD (j+1) []]:=by
 rw[List.take_succ_eq_append_getElem (by simp;omega)]
 congr 1
 simp[h]
theorem zW (g len cap:Nat)(h1:1<=len)(h2:len<=cap)(h3:cap<=9223372036854775807):
 ∃ A:Addr,(∀ w,(Instr.slice 142 (.slice (O ⟨g,0,N⟩) len cap) (O (I Q 1)) N N).run Tryz.prog w=.ok (.slice (O A) (len-1) (cap-1)) w)/\(1<len->A=⟨g,1,N⟩):=by
 have hu:=Tryz.underlying142
 by_cases hc:cap=1
 ·subst hc
  obtain rfl:len=1:=by omega
  refine⟨⟨g,0,N⟩,fun w=>?_,fun h=>by omega⟩
  go_simp
 ·refine⟨⟨g,1,N⟩,fun w=>?_,fun _=>rfl⟩
  have k1:1<cap:=by omega
  have k2:(1:Int)<=(len:Int):=by omega
  go_simp
def ky:Value->Nat
 | .slice _ n _=>n
 | _=>0
theorem kK (l:List Int)(k:Nat)(v:Int):(l++List.replicate k v)++[v]=l++List.replicate (k+1) v:=by
 rw[List.append_assoc,<-List.replicate_succ']
theorem vT.later {w y y':World}{H B5 gl cap:Nat}{ws:List (List UInt8)}{op:Int}{l:List (List UInt8)}{rs ns:List Int}{rv nv:Value}(h:vT w y H B5 gl cap ws op l rs ns rv nv)(hb:Below y.heap.size y y'):vT w y' H B5 gl cap ws op l rs ns rv nv:=
 have hg:=eR hb
 ⟨h.below.trans (hb.mono h.below.size),h.res.below hb,h.ins.below hb,h.words.below hb,h.regs.kept hg (by cases rv.ownBlock <;> simp),h.nums.kept hg (by cases nv.ownBlock <;> simp),h.fr,h.fn,h.ne,Nat.le_trans h.Fq hb.size,h.h0,h.h5,h.hl⟩
structure Sw (w y:World)(B5:Nat)(i:aU):Prop where
 ins:Jb y B5 i
 res:Jb y w.heap.size aU.zero
 bel:Below w.heap.size w y
 lt:w.heap.size<B5
section
variable {w y:World}{B5:Nat}{op d s t u a k pl:Int}
theorem Sw.drew {i:aU}(h:Sw w y B5 i):Sw w y.drew B5 i:=⟨h.ins,h.res,Below.drew h.bel,h.lt⟩
theorem Sw.mz (h:Sw w y B5 ⟨op,d,s,t,u,a,k,pl⟩)(v:Int):Sw w (y.setCell ⟨B5,1,N⟩ (I Q v)) B5 ⟨op,v,s,t,u,a,k,pl⟩:=
 ⟨Bk.put h.ins 1 (I Q v),Bk.off h.res (Nat.ne_of_lt h.lt) _,Below.setCell (p:=⟨B5,1,N⟩) h.bel (Z h.lt) _,h.lt⟩
theorem Sw.jI (h:Sw w y B5 ⟨op,d,s,t,u,a,k,pl⟩)(v:Int):Sw w (y.setCell ⟨B5,2,N⟩ (I Q v)) B5 ⟨op,d,v,t,u,a,k,pl⟩:=
 ⟨Bk.put h.ins 2 (I Q v),Bk.off h.res (Nat.ne_of_lt h.lt) _,Below.setCell (p:=⟨B5,2,N⟩) h.bel (Z h.lt) _,h.lt⟩
theorem Sw.dF (h:Sw w y B5 ⟨op,d,s,t,u,a,k,pl⟩)(v:Int):Sw w (y.setCell ⟨B5,3,N⟩ (I Q v)) B5 ⟨op,d,s,v,u,a,k,pl⟩:=
 ⟨Bk.put h.ins 3 (I Q v),Bk.off h.res (Nat.ne_of_lt h.lt) _,Below.setCell (p:=⟨B5,3,N⟩) h.bel (Z h.lt) _,h.lt⟩
theorem Sw.BS (h:Sw w y B5 ⟨op,d,s,t,u,a,k,pl⟩)(v:Int):Sw w (y.setCell ⟨B5,4,N⟩ (I Q v)) B5 ⟨op,d,s,t,v,a,k,pl⟩:=
 ⟨Bk.put h.ins 4 (I Q v),Bk.off h.res (Nat.ne_of_lt h.lt) _,Below.setCell (p:=⟨B5,4,N⟩) h.bel (Z h.lt) _,h.lt⟩
theorem Sw.my (h:Sw w y B5 ⟨op,d,s,t,u,a,k,pl⟩)(v:Int):Sw w (y.setCell ⟨B5,5,N⟩ (I Q v)) B5 ⟨op,d,s,t,u,v,k,pl⟩:=
 ⟨Bk.put h.ins 5 (I Q v),Bk.off h.res (Nat.ne_of_lt h.lt) _,Below.setCell (p:=⟨B5,5,N⟩) h.bel (Z h.lt) _,h.lt⟩
theorem Sw.eH (h:Sw w y B5 ⟨op,d,s,t,u,a,k,pl⟩)(v:Int):Sw w (y.setCell ⟨B5,6,N⟩ (I .u32 v)) B5 ⟨op,d,s,t,u,a,v,pl⟩:=
 ⟨Bk.put h.ins 6 (I .u32 v),Bk.off h.res (Nat.ne_of_lt h.lt) _,Below.setCell (p:=⟨B5,6,N⟩) h.bel (Z h.lt) _,h.lt⟩
theorem Sw.nB (h:Sw w y B5 ⟨op,d,s,t,u,a,k,pl⟩)(v:Int):Sw w (y.setCell ⟨B5,7,N⟩ (I Q v)) B5 ⟨op,d,s,t,u,a,k,v⟩:=
 ⟨Bk.put h.ins 7 (I Q v),Bk.off h.res (Nat.ne_of_lt h.lt) _,Below.setCell (p:=⟨B5,7,N⟩) h.bel (Z h.lt) _,h.lt⟩
end
def cN (n:Nat):Code->Option Code
 | .block i b=>if i=n then O (.block i b) else cN n b
 | .seq a b=>(cN n a).or (cN n b)
 | .cond _ a b=>(cN n a).or (cN n b)
 | .loop b=>cN n b
 | _=>N
