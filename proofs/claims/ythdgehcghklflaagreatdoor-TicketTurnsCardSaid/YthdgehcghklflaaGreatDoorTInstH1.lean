import Derived.Test.YthdgehcghklflaaGreatDoorTTkD
import Derived.Test.YthdgehcghklflaaGreatDoorTInstT
import Derived.Test.YthdgehcghklflaaGreatDoorTInstP
import Derived.Test.YthdgehcghklflaaGreatDoorTMem
import Derived.Deep.CutRange
import Derived.Deep.CutBlock
import Derived.Deep.RegionHeld3
set_option linter.unusedVariables false
namespace Go.Proofs.YthdgehcghklflaaGreatDoor
open Go.ChangeShapes Go.WideShapes Go.ChangeAt Go.RowKit
def parseRV (s:List UInt8):Value:=if parseRB s=true then .tuple #[iv (draftR (wordsL s)),.bool true] else .tuple #[iv Ins.zero,.bool false]
theorem opTo_succ (w:List UInt8)(n:Nat):opTo w (n+1)=if (nmL ((n:Int)+1)).isEmpty=false∧nmL ((n:Int)+1)=w then (n:Int)+1 else opTo w n:=rfl
structure WsAt (x:World)(g cap:Nat)(ws:List (List UInt8)):Prop where
 lt:g < x.heap.size
 le:ws.length≤cap
 small:cap≤maxLen
 at_:∀ n,n < ws.length→x.cell? ⟨g,n,none⟩=some (.string ⟨(ws.getD n []).toArray⟩)
theorem WsAt.below {x y:World}{g cap:Nat}{ws:List (List UInt8)}(h:WsAt x g cap ws)(hb:Below x.heap.size x y):WsAt y g cap ws:=
 ⟨Nat.lt_of_lt_of_le h.lt hb.size,h.le,h.small,fun n hn=>(hb.cell (p:=⟨g,n,none⟩) h.lt).trans (h.at_ n hn)⟩
theorem ws_of {x:World}{v:Value}{ws:List (List UInt8)}(h:Vls 9 x v (wvs ws))(h0:0 < ws.length):∃ g cap,v=.slice (some ⟨g,0,none⟩) ws.length cap∧WsAt x g cap ws:=by
 obtain⟨a,cap,e,h1,h2,h3⟩:=h.is
 have hl:(wvs ws).length=ws.length:=by simp[wvs]
 rw[hl] at e h1 h3
 obtain⟨g,rfl,ho,-,hc⟩:=h3 h0
 refine⟨g,cap,e,?_,h1,h2,fun n hn=>?_⟩
 ·exact h.lt ho
 ·rcases hc n with hh | hh
  ·rw[hh]
   simp[wvs,bs,hn]
  ·omega
theorem regsOf_snoc (l:List (List UInt8))(w:List UInt8):regsOf (l++[w])=regsOf l++regOf w:=by simp[regsOf]
theorem numsOf_snoc (l:List (List UInt8))(w:List UInt8):numsOf (l++[w])=numsOf l++numOf w:=by simp[numsOf]
theorem kOf_snoc (l:List (List UInt8))(w:List UInt8):kOf (l++[w])=if isNe w=true then 1 else kOf l:=by
 unfold kOf
 cases h:isNe w <;> simp[h]
theorem regsOf_len (l:List (List UInt8)):(regsOf l).length≤l.length:=by
 induction l with
 | nil=>simp[regsOf]
 | cons w l ih=>
  unfold regsOf at *
  have:(regOf w).length≤1:=by unfold regOf;split <;> simp
  simp only[List.flatMap_cons,List.length_append,List.length_cons]
  omega
theorem numsOf_len (l:List (List UInt8)):(numsOf l).length≤l.length:=by
 induction l with
 | nil=>simp[numsOf]
 | cons w l ih=>
  unfold numsOf at *
  have:(numOf w).length≤1:=by
   unfold numOf
   split
   ·simp
   ·split <;> simp
  simp only[List.flatMap_cons,List.length_append,List.length_cons]
  omega
structure PAt (w y:World)(H B5 gl cap:Nat)(ws:List (List UInt8))(op:Int)(l:List (List UInt8))(rs ns:List Int)(rv nv:Value):Prop where
 below:Below w.heap.size w y
 res:Jb y w.heap.size Ins.zero
 ins:Jb y B5 ⟨op,0,0,0,0,0,kOf l,0⟩
 words:WsAt y gl cap ws
 regs:Lst .i64 3 y rv rs
 nums:Lst .i64 3 y nv ns
 fr:∀ g,rv.ownBlock=some g→H≤g
 fn:∀ g,nv.ownBlock=some g→H≤g
 ne:∀ g,rv.ownBlock=some g→nv.ownBlock≠some g
 big:H≤y.heap.size
 h0:w.heap.size < H
 h5:B5 < H
 hl:gl < H
section
variable {w y y':World}{H B5 gl cap:Nat}{ws:List (List UInt8)}{op:Int}{l l':List (List UInt8)}{rs ns rs' ns':List Int}{rv nv v':Value}
theorem WsAt.off (h:WsAt y gl cap ws){r:Option Nat}(hg:y.grownBy y' r)(hne:some gl≠r):WsAt y' gl cap ws:=
 ⟨Nat.lt_of_lt_of_le h.lt hg.size,h.le,h.small,fun n hn=>(World.cell?_of_block (a:=⟨gl,n,none⟩) (hg.block gl h.lt hne)).trans (h.at_ n hn)⟩
theorem far_of (h:∀ g,rv.ownBlock=some g→H≤g){b:Nat}(hb:b < H):some b≠rv.ownBlock:=fun e=>by
 have:=h b e.symm
 omega
theorem PAt.reg (h:PAt w y H B5 gl cap ws op l rs ns rv nv)(hg:y.grownBy y' rv.ownBlock)(hL:Lst .i64 3 y' v' rs')(hloc:v'.ownBlock=rv.ownBlock∨v'.ownBlock=some (y.heap.size+1))(hk:kOf l'=kOf l):
 PAt w y' H B5 gl cap ws op l' rs' ns v' nv:=by
 refine⟨h.below.grown hg h.below.size (fun k e=>by have:=h.fr k e;have:=h.h0;omega),h.res.grown hg (far_of h.fr h.h0),?_,h.words.off hg (far_of h.fr h.hl),hL,?_,?_,h.fn,?_,Nat.le_trans h.big hg.size,h.h0,h.h5,h.hl⟩
 ·rw[hk];exact h.ins.grown hg (far_of h.fr h.h5)
 ·refine h.nums.kept hg ?_
  cases e:nv.ownBlock with
  | none=>exact .inl rfl
  | some g=>exact .inr fun e2=>h.ne g e2.symm e
 ·intro g e
  rcases hloc with e2 | e2
  ·exact h.fr g (e2 ▸ e)
  ·rw[e2] at e;injection e with e;have:=h.big;omega
 ·intro g e e3
  rcases hloc with e2 | e2
  ·exact h.ne g (e2 ▸ e) e3
  ·rw[e2] at e;injection e with e;have:=h.nums.lt e3;omega
theorem PAt.num (h:PAt w y H B5 gl cap ws op l rs ns rv nv)(hg:y.grownBy y' nv.ownBlock)(hL:Lst .i64 3 y' v' ns')(hloc:v'.ownBlock=nv.ownBlock∨v'.ownBlock=some (y.heap.size+1))(hk:kOf l'=kOf l):
 PAt w y' H B5 gl cap ws op l' rs ns' rv v':=by
 refine⟨h.below.grown hg h.below.size (fun k e=>by have:=h.fn k e;have:=h.h0;omega),h.res.grown hg (far_of h.fn h.h0),?_,h.words.off hg (far_of h.fn h.hl),?_,hL,h.fr,?_,?_,Nat.le_trans h.big hg.size,h.h0,h.h5,h.hl⟩
 ·rw[hk];exact h.ins.grown hg (far_of h.fn h.h5)
 ·refine h.regs.kept hg ?_
  cases e:rv.ownBlock with
  | none=>exact .inl rfl
  | some g=>exact .inr fun e2=>h.ne g e e2.symm
 ·intro g e
  rcases hloc with e2 | e2
  ·exact h.fn g (e2 ▸ e)
  ·rw[e2] at e;injection e with e;have:=h.big;omega
 ·intro g e e3
  rcases hloc with e2 | e2
  ·exact h.ne g e (e2 ▸ e3)
  ·rw[e2] at e3;injection e3 with e3;have:=h.regs.lt e;omega
theorem PAt.one (h:PAt w y H B5 gl cap ws op l rs ns rv nv)(h2l:w.heap.size < B5)(hg5:gl≠B5)(hk:kOf l'=1):
 PAt w (y.setCell ⟨B5,6,none⟩ (.int .u32 1)) H B5 gl cap ws op l' rs ns rv nv:=by
 have hon:=only_put y B5 6 (.int .u32 1)
 refine⟨h.below.setCell (p:=⟨B5,6,none⟩) (Nat.le_of_lt h2l) _,Bk.off h.res (show w.heap.size≠B5 by omega) _,?_,h.words.off hon (by simpa using hg5),h.regs.kept hon ?_,h.nums.kept hon ?_,h.fr,h.fn,h.ne,Nat.le_trans h.big hon.size,h.h0,h.h5,h.hl⟩
 ·rw[hk];exact Bk.put h.ins 6 (.int .u32 1)
 ·cases e:rv.ownBlock with
  | none=>exact .inl rfl
  | some g=>exact .inr fun e2=>by injection e2 with e2;have:=h.fr g e;have:=h.h5;omega
 ·cases e:nv.ownBlock with
  | none=>exact .inl rfl
  | some g=>exact .inr fun e2=>by injection e2 with e2;have:=h.fn g e;have:=h.h5;omega
theorem PAt.skip (h:PAt w y H B5 gl cap ws op l rs ns rv nv)(hk:kOf l'=kOf l):PAt w y H B5 gl cap ws op l' rs ns rv nv:=
 ⟨h.below,h.res,by rw[hk];exact h.ins,h.words,h.regs,h.nums,h.fr,h.fn,h.ne,h.big,h.h0,h.h5,h.hl⟩
end
theorem tail_snoc (ws:List (List UInt8))(j:Nat)(h:j+1 < ws.length):ws.tail.take (j+1)=ws.tail.take j++[ws.getD (j+1) []]:=by
 rw[List.take_succ_eq_append_getElem (by simp;omega)]
 congr 1
 simp[h]
theorem run_tail (g len cap:Nat)(h1:1≤len)(h2:len≤cap)(h3:cap≤9223372036854775807):
 ∃ A:Addr,(∀ w,(Instr.slice 144 (.slice (some ⟨g,0,none⟩) len cap) (some (.int .i64 1)) none none).run Tryz.prog w=.ok (.slice (some A) (len - 1) (cap - 1)) w)∧(1 < len→A=⟨g,1,none⟩):=by
 have hu:=Tryz.underlying144
 by_cases hc:cap=1
 ·subst hc
  obtain rfl:len=1:=by omega
  refine⟨⟨g,0,none⟩,fun w=>?_,fun h=>by omega⟩
  go_simp
 ·refine⟨⟨g,1,none⟩,fun w=>?_,fun _=>rfl⟩
  have k1:1 < cap:=by omega
  have k2:(1:Int)≤(len:Int):=by omega
  go_simp
def sliceLen:Value→Nat
 | .slice _ n _=>n
 | _=>0
theorem pad_snoc (l:List Int)(k:Nat)(v:Int):(l++List.replicate k v)++[v]=l++List.replicate (k+1) v:=by
 rw[List.append_assoc,←List.replicate_succ']
theorem PAt.later {w y y':World}{H B5 gl cap:Nat}{ws:List (List UInt8)}{op:Int}{l:List (List UInt8)}{rs ns:List Int}{rv nv:Value}(h:PAt w y H B5 gl cap ws op l rs ns rv nv)(hb:Below y.heap.size y y'):PAt w y' H B5 gl cap ws op l rs ns rv nv:=
 have hg:=grown_of_below hb
 ⟨h.below.trans (hb.mono h.below.size),h.res.below hb,h.ins.below hb,h.words.below hb,h.regs.kept hg (by cases rv.ownBlock <;> simp),h.nums.kept hg (by cases nv.ownBlock <;> simp),h.fr,h.fn,h.ne,Nat.le_trans h.big hb.size,h.h0,h.h5,h.hl⟩
structure Sw (w y:World)(B5:Nat)(i:Ins):Prop where
 ins:Jb y B5 i
 res:Jb y w.heap.size Ins.zero
 bel:Below w.heap.size w y
 lt:w.heap.size < B5
section
variable {w y:World}{B5:Nat}{op d s t u a k pl:Int}
theorem Sw.drew {i:Ins}(h:Sw w y B5 i):Sw w y.drew B5 i:=⟨h.ins,h.res,Below.drew h.bel,h.lt⟩
theorem Sw.put1 (h:Sw w y B5 ⟨op,d,s,t,u,a,k,pl⟩)(v:Int):Sw w (y.setCell ⟨B5,1,none⟩ (.int .i64 v)) B5 ⟨op,v,s,t,u,a,k,pl⟩:=
 ⟨Bk.put h.ins 1 (.int .i64 v),Bk.off h.res (Nat.ne_of_lt h.lt) _,Below.setCell (p:=⟨B5,1,none⟩) h.bel (Nat.le_of_lt h.lt) _,h.lt⟩
theorem Sw.put2 (h:Sw w y B5 ⟨op,d,s,t,u,a,k,pl⟩)(v:Int):Sw w (y.setCell ⟨B5,2,none⟩ (.int .i64 v)) B5 ⟨op,d,v,t,u,a,k,pl⟩:=
 ⟨Bk.put h.ins 2 (.int .i64 v),Bk.off h.res (Nat.ne_of_lt h.lt) _,Below.setCell (p:=⟨B5,2,none⟩) h.bel (Nat.le_of_lt h.lt) _,h.lt⟩
theorem Sw.put3 (h:Sw w y B5 ⟨op,d,s,t,u,a,k,pl⟩)(v:Int):Sw w (y.setCell ⟨B5,3,none⟩ (.int .i64 v)) B5 ⟨op,d,s,v,u,a,k,pl⟩:=
 ⟨Bk.put h.ins 3 (.int .i64 v),Bk.off h.res (Nat.ne_of_lt h.lt) _,Below.setCell (p:=⟨B5,3,none⟩) h.bel (Nat.le_of_lt h.lt) _,h.lt⟩
theorem Sw.put4 (h:Sw w y B5 ⟨op,d,s,t,u,a,k,pl⟩)(v:Int):Sw w (y.setCell ⟨B5,4,none⟩ (.int .i64 v)) B5 ⟨op,d,s,t,v,a,k,pl⟩:=
 ⟨Bk.put h.ins 4 (.int .i64 v),Bk.off h.res (Nat.ne_of_lt h.lt) _,Below.setCell (p:=⟨B5,4,none⟩) h.bel (Nat.le_of_lt h.lt) _,h.lt⟩
theorem Sw.put5 (h:Sw w y B5 ⟨op,d,s,t,u,a,k,pl⟩)(v:Int):Sw w (y.setCell ⟨B5,5,none⟩ (.int .i64 v)) B5 ⟨op,d,s,t,u,v,k,pl⟩:=
 ⟨Bk.put h.ins 5 (.int .i64 v),Bk.off h.res (Nat.ne_of_lt h.lt) _,Below.setCell (p:=⟨B5,5,none⟩) h.bel (Nat.le_of_lt h.lt) _,h.lt⟩
theorem Sw.put6 (h:Sw w y B5 ⟨op,d,s,t,u,a,k,pl⟩)(v:Int):Sw w (y.setCell ⟨B5,6,none⟩ (.int .u32 v)) B5 ⟨op,d,s,t,u,a,v,pl⟩:=
 ⟨Bk.put h.ins 6 (.int .u32 v),Bk.off h.res (Nat.ne_of_lt h.lt) _,Below.setCell (p:=⟨B5,6,none⟩) h.bel (Nat.le_of_lt h.lt) _,h.lt⟩
theorem Sw.put7 (h:Sw w y B5 ⟨op,d,s,t,u,a,k,pl⟩)(v:Int):Sw w (y.setCell ⟨B5,7,none⟩ (.int .i64 v)) B5 ⟨op,d,s,t,u,a,k,v⟩:=
 ⟨Bk.put h.ins 7 (.int .i64 v),Bk.off h.res (Nat.ne_of_lt h.lt) _,Below.setCell (p:=⟨B5,7,none⟩) h.bel (Nat.le_of_lt h.lt) _,h.lt⟩
end
def codeFind (n:Nat):Code→Option Code
 | .block i b=>if i=n then some (.block i b) else codeFind n b
 | .seq a b=>(codeFind n a).or (codeFind n b)
 | .cond _ a b=>(codeFind n a).or (codeFind n b)
 | .loop b=>codeFind n b
 | _=>none
end Go.Proofs.YthdgehcghklflaaGreatDoor
