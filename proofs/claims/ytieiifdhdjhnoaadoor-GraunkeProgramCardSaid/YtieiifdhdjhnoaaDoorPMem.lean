import Derived.Test.YtieiifdhdjhnoaaDoorRows
import Derived.Handy
import Derived.IntWalk
import Derived.Below
import Derived.OneCell
import Derived.OwnWalk
import Derived.Lib.Hide
import Derived.Laws.OwnMore
import Derived.Laws.Rows
import Derived.Laws.LoneSync
import Derived.Deep.Draws
import Derived.Lib.ItoaNum
import Derived.Lib.AtoiAll
import Derived.Lib.Strings
import Derived.Maps.AppendAt
import Derived.Deep.RegionLawGrows
import Derived.Maps.OwnSet
import Derived.RangeFuncNested
import Derived.RangeFuncBound
import Derived.RangeFuncCalls
import Derived.RangeFuncLeaves
import Derived.Shelf.Abstract
import Derived.Shelf.RegionOpen
import Derived.WalkKit
import Derived.OwnWalkIn
import Derived.TacticsInMore
import Derived.LoopNIn
import Derived.LoopIn
import Derived.Orders
import Derived.StillTail
import Derived.BigQuiet
import Derived.Test.YtieiifdhdjhnoaaDoorProg
import Derived.ProofKit
import Derived.WalkLawsBesides
import Derived.Deep.RegionLaw
import Derived.Laws.IdiomStrings
import Derived.Test.YtieiifdhdjhnoaaDoorShelf
import Derived.Lib.AtoiErrMem
set_option linter.unusedVariables false
open Go.Value renaming int->O
open Go.IntKind renaming i64->Z,u32->V
open Option renaming none->U,some->G
open Bool renaming false->M,true->X
open Go.Lib renaming hid->Y
open Go.RowKit.Below renaming refl->zc
open Nat renaming le_refl->ze
namespace Go.Proofs.YtieiifdhdjhnoaaDoor
section
open Go.ChangeShapes Go.WideShapes Go.ChangeAt Go.RowKit
theorem cD {k:IntKind}{a b:Int}(h:a=b):Ending.returned (.int k a)=.returned (.int k b):=by rw[h]
theorem dx {a b:Bool}(h:a=b):Ending.returned (.bool a)=.returned (.bool b):=by rw[h]
def Bk (w:World)(g:Nat)(t:TypeId)(cs:Array Value):Prop:=w.heap[g]?=G (.cells cs t (0,0))
section
variable {w w':World}{g:Nat}{t:TypeId}{cs:Array Value}
theorem Bk.lt (h:Bk w g t cs):g<w.heap.size:=(Array.getElem?_eq_some_iff.1 h).1
theorem Bk.cell (h:Bk w g t cs)(i:Nat):w.cell? ⟨g,i,U⟩=cs[i]?:=cell_of_row w g i cs t (0,0) h
theorem Bk.l6 {w:World}{b t:Nat}{a0 a1 a2:Value}{l:List Value}(h:Bk w b t (a0::a1::a2::l).toArray):w.cell? ⟨b,0,U⟩=G a0/\w.cell? ⟨b,1,U⟩=G a1/\w.cell? ⟨b,2,U⟩=G a2:=⟨h.cell 0,h.cell 1,h.cell 2⟩
theorem Bk.ja {w:World}{b t:Nat}{a0 a1 a2 a3 a4 a5 a6:Value}{l:List Value}(h:Bk w b t (a0::a1::a2::a3::a4::a5::a6::l).toArray):w.cell? ⟨b,0,U⟩=G a0/\w.cell? ⟨b,1,U⟩=G a1/\w.cell? ⟨b,2,U⟩=G a2/\w.cell? ⟨b,3,U⟩=G a3/\w.cell? ⟨b,4,U⟩=G a4/\w.cell? ⟨b,5,U⟩=G a5/\w.cell? ⟨b,6,U⟩=G a6:=⟨h.cell 0,h.cell 1,h.cell 2,h.cell 3,h.cell 4,h.cell 5,h.cell 6⟩
theorem Bk.free (h:Bk w g t cs)(i:Nat):w.frozen? ⟨g,i,U⟩=M:=by unfold Bk at h;simp[World.frozen?,h]
theorem Bk.made (w:World)(t:TypeId)(cs:Array Value):Bk (w.alloc (.cells cs t)) w.heap.size t cs:=heap_alloc_new w _
theorem Bk.alloc (h:Bk w g t cs)(o:Obj):Bk (w.alloc o) g t cs:=(Below.heap_alloc w o g h.lt).trans h
theorem Bk.put (h:Bk w g t cs)(i:Nat)(u:Value):Bk (w.setCell ⟨g,i,U⟩ u) g t (cs.setIfInBounds i u):=by
 unfold Bk at h ⊢;simp[World.setCell,Array.getElem?_modify,h]
theorem Bk.off (h:Bk w g t cs){p:Addr}(hp:g≠p.block)(u:Value):Bk (w.setCell p u) g t cs:=(Below.heap_setCell w p u g hp).trans h
theorem Bk.grown {row:Option Nat}(h:Bk w g t cs)(hg:w.grownBy w' row)(hne:G g≠row):Bk w' g t cs:=(hg.block g h.lt hne).trans h
theorem Bk.drewN (h:Bk w g t cs)(n:Nat):Bk (w.drewN n) g t cs:=h
theorem Bk.bi {g':Nat}{t':TypeId}{cs':Array Value}(h:Bk w g t cs)(h':Bk w g' t' cs')(hne:t≠t'):g≠g':=by
 intro e;subst e;unfold Bk at h h';rw[h] at h';injection h' with h';injection h' with _ ht;exact hne ht
end
abbrev oE (a w:World) (g:Nat):Prop:=a.grownBy w (G g)
theorem ld (w:World)(g i:Nat)(u:Value):oE w (w.setCell ⟨g,i,U⟩ u) g:=
 ⟨rfl,rfl,rfl,by simp[World.setCell],fun k _ hne=>Below.heap_setCell w _ u k (fun e=>hne (by rw[e]))⟩
theorem iI (w:World)(o:Obj)(r:Option Nat):w.grownBy (w.alloc o) r:=World.grownBy_alloc w o r
theorem ef {a b:World}(h:a.grownBy b U):Below a.heap.size a b:=⟨h.os,h.tape,h.output,h.size,fun i hi=>h.block i hi (by simp)⟩
def cc (xs:List Int)(i:Nat):Int:=xs.getD i 0
theorem lN {xs:List Int}{i:Nat}(h:i<xs.length):cc xs i=xs[i]:=by simp[cc,h]
def bP (xs:List Int):Array Value:=(xs.map (Value.int .u32)).toArray
theorem ey (xs:List Int)(i:Nat)(h:i<xs.length):(bP xs)[i]?=G (O V (cc xs i)):=by simp[bP,h,cc]
theorem fc (xs:List Int)(i:Nat)(v:Int):(bP xs).setIfInBounds i (O V v)=bP (xs.set i v):=by
 unfold bP;rw[List.setIfInBounds_toArray,List.map_set]
theorem ex (n:Nat):madeCells #[O V 0] n=bP (List.replicate n 0):=by
 apply Array.ext
 ·simp[madeCells,bP]
 ·intro i h1 h2;simp[madeCells,bP,Nat.mod_one]
def bG (k:IntKind)(w:World)(a:Option Addr)(xs:List Int):Prop:=
 0<xs.length->∃ b off,a=G ⟨b,off,U⟩/\b<w.heap.size/\∀ i,i<xs.length->w.cell? ⟨b,off+i,U⟩=G (.int k (cc xs i))
theorem bG.at_ {k:IntKind}{w:World}{a:Option Addr}{xs:List Int}(h:bG k w a xs){i:Nat}(hi:i<xs.length){wr:World}(hb:Below w.heap.size w wr):
 ∃ b off,a=G ⟨b,off,U⟩/\wr.cell? ⟨b,off+i,U⟩=G (.int k (cc xs i)):=by
 obtain⟨b,off,e,hlt,hc⟩:=h (by omega)
 exact⟨b,off,e,(hb.cell (p:=⟨b,off+i,U⟩) hlt).trans (hc i hi)⟩
end
section
structure ay where
 op:Int
 d:Int
 s:Int
 t:Int
 u:Int
 a:Int
 k:Int
 pl:Int
def ay.zero:ay:=⟨0,0,0,0,0,0,0,0⟩
structure ay.Wf (i:ay):Prop where
 op0:-9223372036854775808<=i.op
 op1:i.op<=9223372036854775807
 d0:-9223372036854775808<=i.d
 d1:i.d<=9223372036854775807
 s0:-9223372036854775808<=i.s
 s1:i.s<=9223372036854775807
 t0:-9223372036854775808<=i.t
 t1:i.t<=9223372036854775807
 u0:-9223372036854775808<=i.u
 u1:i.u<=9223372036854775807
 a0:-9223372036854775808<=i.a
 a1:i.a<=9223372036854775807
 k0:0<=i.k
 k1:i.k<4294967296
 to0:-9223372036854775808<=i.pl
 to1:i.pl<=9223372036854775807
def aT (op:Int):List UInt8:=
 if op=1 then [99,111,110,115,116]
 else if op=2 then [109,111,118,101]
 else if op=3 then [97,100,100,107]
 else if op=4 then [97,110,100,107]
 else if op=5 then [115,104,108]
 else if op=6 then [115,104,114]
 else if op=7 then [111,114]
 else if op=8 then [98,101,113]
 else if op=9 then [98,110,101]
 else if op=10 then [106,117,109,112]
 else if op=11 then [115,101,108,102]
 else if op=12 then [109,97,114,107]
 else if op=13 then [100,111,110,101]
 else if op=16 then [108,111,97,100]
 else if op=17 then [115,116,111,114,101]
 else if op=18 then [115,119,97,112]
 else if op=19 then [99,97,115]
 else if op=20 then [102,97,100,100]
 else if op=21 then [97,119,97,105,116]
 else if op=22 then [116,97,107,101]
 else if op=23 then [102,114,101,101]
 else []
def bc (op:Int):List UInt8:=
 if op=1 then [68,75]
 else if op=2 then [68,83]
 else if op=3 then [68,83,75]
 else if op=4 then [68,83,75]
 else if op=5 then [68,83,75]
 else if op=6 then [68,83,75]
 else if op=7 then [68,83,84]
 else if op=8 then [83,84,80]
 else if op=9 then [83,84,80]
 else if op=10 then [80]
 else if op=11 then [68]
 else if op=12 then [75]
 else if op=13 then [75]
 else if op=16 then [68,65,83]
 else if op=17 then [65,83,84]
 else if op=18 then [68,65,83,84]
 else if op=19 then [68,65,83,84,85]
 else if op=20 then [68,65,83,75]
 else if op=21 then [68,65,83,75,84,80]
 else if op=22 then [68]
 else if op=23 then [83]
 else []
theorem aZ (op:Int):op=1\/op=2\/op=3\/op=4\/op=5\/op=6\/op=7\/op=8\/op=9\/op=10\/op=11\/op=12\/op=13\/op=16\/op=17\/op=18\/op=19\/op=20\/op=21\/op=22\/op=23\/
 (op≠1/\op≠2/\op≠3/\op≠4/\op≠5/\op≠6/\op≠7/\op≠8/\op≠9/\op≠10/\op≠11/\op≠12/\op≠13/\op≠16/\op≠17/\op≠18/\op≠19/\op≠20/\op≠21/\op≠22/\op≠23):=by omega
def au (i:ay)(c:Int):Int:=
 if c=68 then i.d else if c=83 then i.s else if c=84 then i.t else if c=85 then i.u else if c=65 then i.a else if c=75 then i.k else i.pl
def aO (i:ay)(c v:Int):ay:=
 if c=68 then { i with d:=v } else if c=83 then { i with s:=v } else if c=84 then { i with t:=v } else if c=85 then { i with u:=v }
 else if c=65 then { i with a:=v } else if c=75 then { i with k:=v % 4294967296 } else if c=80 then { i with pl:=v } else i
def bD (op c:Int):Int:=
 if c=65 then 0 else if c=75 then (if op=12 then 1 else 0) else if c=80 then (if op=21 then -1 else 0) else 0
def br (op c p:Int):Int:=
 if c=65 then 8
 else if c=75 then (if op=5 then 32 else if op=6 then 32 else if op=12 then 5 else if op=13 then 4 else if op=21 then 2 else 4294967296)
 else if c=80 then (if op=21 then (if p<0 then 0 else p) else p) else 8
def fC (i:ay)(p:Int)(c:Int):Bool:=decide (bD i.op c<=au i c) && decide (au i c<br i.op c p)
def fD (i:ay)(l:List UInt8):ay:=l.foldl (fun x c=>aO x c.toNat 0) { i with op:=0 }
def gB (i:ay):Bool:=decide (i.op=0/\i.d=0/\i.s=0/\i.t=0/\i.u=0/\i.a=0/\i.k=0/\i.pl=0)
def ag (i:ay)(p:Int):Bool:=!(bc i.op).isEmpty && ((bc i.op).all (fun c=>fC i p c.toNat) && gB (fD i (bc i.op)))
def ar (i:ay)(c:Int):List UInt8:=
 if c=65 then 32 :: Lib.itoa i.a
 else if c=75 then (if i.op=21 then (if i.k=0 then [32,101,113] else [32,110,101]) else 32 :: Lib.itoa i.k)
 else if c=80 then (if i.op=21 then (if i.pl=-1 then [] else [32,101,108,115,101,32]++Lib.itoa i.pl) else 32 :: Lib.itoa i.pl)
 else [32,114]++Lib.itoa (au i c)
def aj (i:ay)(l:List UInt8):List UInt8:=l.flatMap fun c=>ar i c.toNat
def aa (i:ay):List UInt8:=aT i.op++aj i (bc i.op)
def dD (w:List UInt8):Int:=
 if w=[101,113] then 0 else if w=[110,101] then 1
 else match Lib.atoiAll (Lib.trimPrefix w [114]) with
  | .ok v=>v
  | _=>-1
def aE (ws:List (List UInt8))(n:Nat):Int:=if n<ws.length then dD (ws.getD n []) else -1
def cg (w:List UInt8):Nat->Int->Int
 | 0,_=>0
 | n+1,k=>if (bc k).isEmpty=M/\aT k=w then k else cg w n (k+1)
def eQ (w:List UInt8):Int:=cg w 23 1
def aF (ws:List (List UInt8)):List UInt8->Nat->ay->ay
 | [],_,i=>i
 | c :: l,n,i=>aF ws l (n+1) (aO i c.toNat (aE ws (n+1)))
def aV (ws:List (List UInt8))(i:ay):ay:=if i.op=21 then { i with pl:=aE ws 7 } else i
def aD (ws:List (List UInt8)):ay:=
 aV ws (aF ws (bc (eQ (ws.getD 0 []))) 0 { ay.zero with op:=eQ (ws.getD 0 []) })
def mR (c:Int):Prop:=c=68\/c=83\/c=84\/c=85\/c=65\/c=75\/c=80
def nP (c:UInt8):Bool:=c==68 || c==83 || c==84 || c==85 || c==65 || c==75 || c==80
theorem bA {op:Int}(h:op≠1/\op≠2/\op≠3/\op≠4/\op≠5/\op≠6/\op≠7/\op≠8/\op≠9/\op≠10/\op≠11/\op≠12/\op≠13/\op≠16/\op≠17/\op≠18/\op≠19/\op≠20/\op≠21/\op≠22/\op≠23):bc op=[]/\aT op=[]:=by
 unfold bc aT;simp[h]
theorem nD (op:Int):(bc op).all nP=X:=by
 rcases aZ op with rfl|rfl|rfl|rfl|rfl|rfl|rfl|rfl|rfl|rfl|rfl|rfl|rfl|rfl|rfl|rfl|rfl|rfl|rfl|rfl|rfl | hn
 all_goals first | rfl | (rw[(bA hn).1];rfl)
theorem nj {c:UInt8}(h:nP c=X):mR c.toNat:=by
 unfold nP at h
 simp at h
 unfold mR
 rcases h with ((((((rfl|rfl) | rfl) | rfl) | rfl) | rfl) | rfl) <;> decide
theorem jd (op:Int):∀ c∈bc op,mR c.toNat:=fun c hc=>nj (List.all_eq_true.1 (nD op) c hc)
theorem je (op:Int):(bc op).length<=6:=by
 rcases aZ op with rfl|rfl|rfl|rfl|rfl|rfl|rfl|rfl|rfl|rfl|rfl|rfl|rfl|rfl|rfl|rfl|rfl|rfl|rfl|rfl|rfl | hn
 all_goals first | decide | (rw[(bA hn).1];decide)
def bw (i j:ay):Bool:=i.op==j.op && (i.d==j.d && (i.s==j.s && (i.t==j.t && (i.u==j.u && (i.a==j.a && (i.k==j.k && i.pl==j.pl))))))
theorem mL (i j:ay):bw i j=X↔i=j:=by
 obtain⟨a1,a2,a3,a4,a5,a6,a7,a8⟩:=i
 obtain⟨b1,b2,b3,b4,b5,b6,b7,b8⟩:=j
 simp[bw]
theorem nC (i:ay):gB i=bw i ay.zero:=by
 rw[Bool.eq_iff_iff]
 simp[gB,bw,ay.zero]
end
section
open Go.ChangeShapes Go.WideShapes Go.ChangeAt Go.RowKit
structure af (w w':World)(S:Nat->Prop):Prop where
 os:w'.os=w.os
 tape:w'.tape=w.tape
 output:w'.output=w.output
 size:w.heap.size<=w'.heap.size
 block:∀ i,i<w.heap.size->¬ S i->w'.heap[i]?=w.heap[i]?
section
variable {w w' w'':World}{S S':Nat->Prop}
theorem af.refl (w:World)(S:Nat->Prop):af w w S:=⟨rfl,rfl,rfl,ze _,fun _ _ _=>rfl⟩
theorem af.cw (h:af w w' S)(k:af w' w'' S')(hs:∀ i,S' i->S i\/w.heap.size<=i):af w w'' S:=
 ⟨k.os.trans h.os,k.tape.trans h.tape,k.output.trans h.output,Nat.le_trans h.size k.size,fun i hi hn=>
  (k.block i (Nat.lt_of_lt_of_le hi h.size) (fun e=>by
   rcases hs i e with e | e
   ·exact hn e
   ·omega)).trans (h.block i hi hn)⟩
theorem af.wide (h:af w w' S)(hs:∀ i,S i->i<w.heap.size->S' i):af w w' S':=⟨h.os,h.tape,h.output,h.size,fun i hi hn=>h.block i hi (fun e=>hn (hs i e hi))⟩
theorem af.cN {r:Option Nat}(h:w.grownBy w' r)(hs:∀ i,r=G i->S i\/w.heap.size<=i):af w w' S:=
 ⟨h.os,h.tape,h.output,h.size,fun i hi hn=>h.block i hi (fun e=>by
  rcases hs i e.symm with e | e
  ·exact hn e
  ·omega)⟩
theorem af.oh (h:af w w' S)(n:Nat):af w (w'.drewN n) S:=⟨h.os,h.tape,h.output,h.size,h.block⟩
theorem af.alloc (h:af w w' S)(o:Obj):af w (w'.alloc o) S:=h.cw (.cN (S:=fun _=>False) (iI _ _ U) (by simp)) (by simp)
theorem af.put (h:af w w' S)(g i:Nat)(u:Value)(hs:S g\/w.heap.size<=g):af w (w'.setCell ⟨g,i,U⟩ u) S:=
 h.cw (.cN (S:=fun j=>j=g) (ld _ _ _ _) (by simp)) (by rintro i rfl;exact hs)
theorem af.grown (h:af w w' S)(hs:∀ i,S i->w.heap.size<=i):w.grownBy w' U:=⟨h.os,h.tape,h.output,h.size,fun i hi _=>h.block i hi (fun e=>by have:=hs i e;omega)⟩
theorem af.below (h:af w w' S)(hs:∀ i,S i->w.heap.size<=i):Below w.heap.size w w':=ef (h.grown hs)
theorem Bk.within {g:Nat}{t:TypeId}{cs:Array Value}(h:Bk w g t cs)(k:af w w' S)(hn:¬ S g):Bk w' g t cs:=(k.block g h.lt hn).trans h
end
theorem lD {w:World}{b i:Nat}{u:Value}{c j:Nat}(h:c≠b):(w.setCell ⟨b,i,U⟩ u).cell? ⟨c,j,U⟩=w.cell? ⟨c,j,U⟩:=
 World.cell?_of_block (Below.heap_setCell w ⟨b,i,U⟩ u c h)
section
variable {P:Program}{w w':World}{base:Nat}{t:TypeId}{size:Nat}{v:Value}{n:Nat}{xs:List Value}
theorem bo (h:w.ownsRow base t size v n xs){g:Nat}(e:v.ownBlock=G g):∃ cs,Bk w g t cs:=by
 rcases h.2 with ⟨rfl,_⟩ | ⟨g',cap,cur,rfl,_,hg,_⟩
 ·cases e
 ·simp only[Value.ownBlock,Option.some.injEq] at e;subst e;exact⟨cur,hg⟩
theorem aB {S:Nat->Prop}(h:w.ownsRow base t size v n xs)(hk:af w w' S)(hn:∀ g,v.ownBlock=G g->¬ S g):w'.ownsRow base t size v n xs:=by
 rcases h.2 with ⟨rfl,h0⟩ | ⟨g,cap,cur,rfl,hb,hg,r⟩
 ·exact⟨h.1,.inl ⟨rfl,h0⟩⟩
 ·exact⟨h.1,.inr ⟨g,cap,cur,rfl,hb,(hk.block g (Array.getElem?_eq_some_iff.1 hg).1 (hn g rfl)).trans hg,r⟩⟩
theorem bj (h:w.ownsRow base t size v n xs):∃ a cap,v=.slice a n cap/\n<=cap/\cap<=maxLen/\(0<n->∃ g,a=G ⟨g,0,U⟩/\v.ownBlock=G g/\base<=g/\g<w.heap.size/\(∀ i,w.frozen? ⟨g,i,U⟩=M)/\∀ i,i<n*size->w.cell? ⟨g,i,U⟩=xs[i]?):=by
 rcases h.2 with ⟨rfl,h0⟩ | ⟨g,cap,cur,rfl,hb,hg,hnc,hcm,r⟩
 ·exact⟨U,0,by rw[h0],by omega,by simp,fun h=>by omega⟩
 ·exact⟨G ⟨g,0,U⟩,cap,rfl,hnc,hcm,fun _=>⟨g,rfl,rfl,hb,(Array.getElem?_eq_some_iff.1 hg).1,fun i=>Bk.free (cs:=cur) (t:=t) hg i,fun i hi=>World.ownsRow.cellAt h i hi⟩⟩
end
section
variable {P:Program}{ops:Array Oper}{rest:List Oper}{o:Oper}{a:Act}{w:World}{K:Act->World->Prop}{Q:Exit->Act->World->Prop}{E:Prop}{base:Nat}{t:TypeId}{size:Nat}{v:Value}{n:Nat}{xs:List Value}
theorem gC (hgd:o.guard=U)(s x:Operand)(ts:TypeId)(ho:o.op=Op.call { callee:=Callee.builtin Builtin.append,args:=#[s,x],argTypes:=#[ts,ts] })
 (z:Value) (bytes:Nat) (ht:P.underlying ts=G (.slice t)) (hi:(P.info? t).map (fun i=>(i.zero,i.size,i.bytes))=G (G z,size,bytes)) (hz:z.cells.size=size) (hsz:0<size) (hby:bytes<=200)
 (h:w.ownsRow base t size v n xs) (hs:a.eval s=v) (news:List Value) (hnl:news.length=size) (hone:∀ u∈news,u.oneCell'=X) (B:Nat) (hx:a.eval x=.slice (G ⟨B,0,U⟩) 1 1)
 (hB:∀ j u,news[j]?=G u->w.cell? ((⟨B,0,U⟩:Addr).add j)=G u) (hl:n<100000) (hbase:base<=w.heap.size)
 (hK:∀ v' w',w'.ownsRow base t size v' (n+1) (xs++news)->w.grownBy w' v.ownBlock->(v'.ownBlock=v.ownBlock\/v'.ownBlock=G w.heap.size)->K (a.put o.dst v') w'):
 if Region.wanted o (yielded ops a.tmps)=X then Oper.wp P o a w K Q else E:=by
 obtain⟨i0,hi0,hz0,hz1,hz2⟩:=info_parts hi
 have hw:Region.wanted o (yielded ops a.tmps)=X:=by simp[Region.wanted,hgd]
 rw[if_pos hw]
 obtain⟨v',w',hr,h2,h3,h4,h5⟩:=run_append_own_at (P:=P) w base ts o.type t i0 z size bytes ht hi0 hz0 hz1 hz2 hz hsz v n xs h ⟨B,0,U⟩ 1 1 news (by omega) hB hone (by simp only[maxLen];omega)
  (by
   have:(n+1)*bytes<=100001*200:=Nat.mul_le_mul (by omega) hby
   omega) hbase
 unfold Oper.wp
 simp[execOp,ho,resolve,invoke,builtin,hs,hx,hr,Result.andThen]
 exact hK v' w' h2 h3 h5
theorem nV (hgd:o.guard=U)(s x:Operand)(ts:TypeId)(ho:o.op=Op.call { callee:=Callee.builtin Builtin.append,args:=#[s,x],argTypes:=#[ts,ts] })
 (z:Value) (bytes:Nat) (ht:P.underlying ts=G (.slice t)) (hi:(P.info? t).map (fun i=>(i.zero,i.size,i.bytes))=G (G z,size,bytes)) (hz:z.cells.size=size) (hsz:0<size) (hby:bytes<=200)
 (h:w.ownsRow base t size v n xs) (hs:a.eval s=v) (news:List Value) (hnl:news.length=size) (hone:∀ u∈news,u.oneCell'=X) (B:Nat) (hx:a.eval x=.slice (G ⟨B,0,U⟩) 1 1)
 (hB:∀ j u,news[j]?=G u->w.cell? ((⟨B,0,U⟩:Addr).add j)=G u) (hl:n<100000) (hbase:base<=w.heap.size)
 (hK:∀ v' w',w'.ownsRow base t size v' (n+1) (xs++news)->w.grownBy w' v.ownBlock->(v'.ownBlock=v.ownBlock\/v'.ownBlock=G w.heap.size)->wpList P ops Q rest (a.put o.dst v') w'):
 wpList P ops Q (o :: rest) a w:=by
 obtain⟨i0,hi0,hz0,hz1,hz2⟩:=info_parts hi
 refine wpList_append_own_at _ hgd s x ts ho base t i0 _ size bytes ht hi0 hz0 hz1 hz2 hz hsz v n xs hs h ⟨B,0,U⟩ 1 1 news hx (by omega) hB hone (by simp only[maxLen];omega)
  (by
   have:(n+1)*bytes<=100001*200:=Nat.mul_le_mul (by omega) hby
   omega) hbase fun v' w' h2 h3 _ h5=>hK v' w' h2 h3 h5
end
theorem fY {w:World}{B:Nat}{t:TypeId}{cs:Array Value}(h:Bk w B t cs):∀ (j:Nat) (u:Value),cs.toList[j]?=G u->w.cell? ((⟨B,0,U⟩:Addr).add j)=G u:=by
 intro j u hj
 have ea:(⟨B,0,U⟩:Addr).add j=⟨B,j,U⟩:=by unfold Addr.add;split <;> simp_all
 rw[ea,h.cell j]
 simpa using hj
end
section
open Go.ChangeShapes Go.WideShapes Go.ChangeAt Go.RowKit Go.Maps
theorem lO:Keyed Tryd.prog 9:=string_keyed Tryd.underlying9
theorem ou (s:List UInt8)(hs:s.length<=1000000):keyOf Tryd.prog 9 (.string ⟨s.toArray⟩)=G (.string s):=by
 have h:(⟨s.toArray⟩:ByteArray).size<=maxLen:=by show s.toArray.size<=_;simp[maxLen];omega
 simp[keyOf,mapKey,Tryd.underlying9,h]
theorem l7 (w:World):(zeroValue 3).run Tryd.prog w=.ok (O Z 0) w:=by kernel_rfl
theorem lP (s:List UInt8):WideAt.IsKeyLit (.string s):=by trivial
theorem jy {x y:List UInt8}(h:y≠x):(Lit.string y)≠.string x:=fun e=>h (by injection e)
theorem oH {x:Int}(h0:0<=x)(h1:x<1000000):(Lit.int .i64 x).wf=X:=by
 simp[Lit.wf,IntKind.min,IntKind.max,IntKind.bits,IntKind.signed];omega
def bO (ls:List (List UInt8×Int))(s:List UInt8):Bool:=ls.any fun x=>x.1==s
def bq (ls:List (List UInt8×Int))(s:List UInt8):Int:=match ls.find? fun x=>x.1==s with
 | some x=>x.2
 | none=>0
theorem fq (ls:List (List UInt8×Int))(s t:List UInt8)(p:Int):bO (ls++[(t,p)]) s=(bO ls s || (t==s)):=by simp[bO]
theorem iD {ls:List (List UInt8×Int)}{s:List UInt8}(h:bO ls s=M):ls.find? (fun x=>x.1==s)=U:=by
 rw[List.find?_eq_none]
 intro x hx
 unfold bO at h
 rw[List.any_eq_false] at h
 exact h x hx
theorem d8 {ls:List (List UInt8×Int)}{s:List UInt8}(h:bO ls s=M)(p:Int):bq (ls++[(s,p)]) s=p:=by
 unfold bq
 rw[List.find?_append,iD h]
 simp
theorem dF {ls:List (List UInt8×Int)}{s t:List UInt8}(h:s≠t)(p:Int):bq (ls++[(t,p)]) s=bq ls s:=by
 have h2:(t==s)=M:=by simpa using fun e=>h e.symm
 unfold bq
 rw[List.find?_append]
 simp[h2]
def cC (w:World)(b:Nat)(ls:List (List UInt8×Int)):Prop:=
 ∃ D:DataW Unit,w.ownsMap Tryd.prog 9 (plainElem Tryd.prog 3) b ls.length D/\
  ∀ s,Maps.has D (.string s)=bO ls s/\D.atKey (.string s) (.lit (.int .i64 0))=.lit (.int .i64 (bq ls s))
section
variable {w w':World}{b:Nat}{ls:List (List UInt8×Int)}
theorem cC.lt (h:cC w b ls):b<w.heap.size:=by obtain⟨D,h,_⟩:=h;exact h.lt
theorem cC.gm {g:Nat}{t:TypeId}{cs:Array Value}(h:cC w b ls)(k:Bk w g t cs):b≠g:=by
 obtain⟨D,⟨es,clock,hb,_⟩,_⟩:=h
 intro e;subst e;unfold Bk at k;rw[hb] at k;cases k
theorem cC.same (h:cC w b ls)(k:w'.heap[b]?=w.heap[b]?):cC w' b ls:=by
 obtain⟨D,⟨es,clock,hb,r⟩,r'⟩:=h
 exact⟨D,⟨es,clock,k.trans hb,r⟩,r'⟩
theorem cC.within {S:Nat->Prop}(h:cC w b ls)(k:af w w' S)(hn:¬ S b):cC w' b ls:=h.same (k.block b h.lt hn)
theorem cC.made (w:World):cC (w.alloc (.map #[] 0)) w.heap.size []:=
 ⟨.map [],World.ownsMap_made w _ _ _,fun _=>⟨rfl,rfl⟩⟩
theorem cC.look (h:cC w b ls)(s:List UInt8)(hs:s.length<=1000000):(Instr.lookup 47 (.map (G b)) (.string ⟨s.toArray⟩) X).run Tryd.prog w=.ok (.tuple #[.int .i64 (bq ls s),.bool (bO ls s)]) w:=by
 obtain⟨D,h,hk⟩:=h
 obtain⟨v,ps,hrun,hv⟩:=h.look_ok lO Tryd.underlying47 (l7 w) (plainElem_int Tryd.underlying3 (by decide)) (ou s hs)
 rw[(hk s).2] at hv
 rw[hrun,(hk s).1]
 obtain⟨c,rfl,hc,hwc⟩:=plainElem_int_inv Tryd.underlying3 hv
 simp only[Prod.mk.injEq,DataW.lit.injEq,Lit.int.injEq,true_and] at hc
 rw[hc.1]
theorem cC.add (h:cC w b ls)(hc:ls.length<1000000){s:List UInt8}{p:Int}(hs:s.length<=1000000)(h0:0<=p)(h1:p<1000000)(hk:bO ls s=M):
 ∃ w',(Instr.mapUpdate 47 (.map (G b)) (.string ⟨s.toArray⟩) (.int .i64 p)).run Tryd.prog w=.ok () w'/\cC w' b (ls++[(s,p)])/\oE w w' b:=by
 obtain⟨D,h,hh⟩:=h
 obtain⟨w',hrun,ho,hg⟩:=h.update lO Tryd.underlying47 (by unfold maxLen;omega) (ou s hs) (plainElem_int (H:=Unit) Tryd.underlying3 (oH h0 h1))
 refine⟨w',hrun,⟨_,by simpa using ho,fun t=>?_⟩,hg⟩
 by_cases e:t=s
 ·subst e
  rw[has_put_same h.isMap (lP _),atKey_put_same h.isMap (lP _),fq,d8 hk]
  simp
 ·rw[has_put_other (jy e),atKey_put_other (jy e),fq,dF e,(hh t).1,(hh t).2]
  have:(s==t)=M:=by simpa using fun e2=>e e2.symm
  simp[this]
end
end
section
open Go.ChangeShapes Go.WideShapes Go.ChangeAt Go.RowKit
def kW (T:Nat->Prop)(I:World->Prop):Prop:=∀ A B,I A->af A B T->I B
def cv (T:Nat->Prop)(W W':World):Prop:=W.heap.size<=W'.heap.size/\∀ b,T b->W'.heap[b]?=W.heap[b]?
theorem cv.refl (T:Nat->Prop)(W:World):cv T W W:=⟨ze _,fun _ _=>rfl⟩
theorem cv.trans {T:Nat->Prop}{A B C:World}(h:cv T A B)(k:cv T B C):cv T A C:=⟨Nat.le_trans h.1 k.1,fun b hb=>(k.2 b hb).trans (h.2 b hb)⟩
theorem cv.less {T T':Nat->Prop}{A B:World}(h:cv T A B)(hT:∀ b,T' b->T b):cv T' A B:=⟨h.1,fun b hb=>h.2 b (hT b hb)⟩
theorem cv.dH {T S:Nat->Prop}{A B:World}(h:af A B S)(hT:∀ b,T b->b<A.heap.size/\¬ S b):cv T A B:=⟨h.size,fun b hb=>h.block b (hT b hb).1 (hT b hb).2⟩
def nR (P:Program)(gf:FuncId)(lb:Array Value)(encs:Nat->Array Value)(N l:Nat)(W1:World)(T:Nat->Prop):Prop:=
 ∀ (J:Nat->World->Prop) (Jx:World->Prop),(∀ k,kW T (J k))->kW T Jx->
  (∀ k W,k<N->J k W->(∀ b,T b->b<W.heap.size)->YieldAt Fence.wide 0 P l (encs k) W fun e W'=>cv T W W'/\((e=.returned (.bool X)/\J (k+1) W')\/(e=.returned (.bool M)/\Jx W')))->
  J 0 W1->CallsIn Fence.wide 0 P gf (#[.func (.yield l) #[] #[]]++lb) W1 fun e W'=>(∃ v,e=.returned v)/\(J N W'\/Jx W')
def k7 (T:Nat->Prop)(W:World)(I:World->Prop)(Ix:Code->World->Prop):Exit->Act->World->Prop
 | .normal,_,W'=>cv T W W'/\I W'
 | .ret,_,W'=>cv T W W'/\Ix .ret W'
 | .exit id,_,W'=>cv T W W'/\Ix (.exit id) W'
 | .goto t,_,W'=>cv T W W'/\Ix (.goto t) W'
 | .panic _,_,_=>False
 | .outgrown,_,_=>False
theorem aM (W:World)(l:Nat)(o:Obj)(T:Nat->Prop)(h:T l):af W (W.putObj l o) T:=
 ⟨rfl,rfl,rfl,by simp[World.putObj],fun i _ hn=>World.putObj_heap_other (fun e=>hn (e ▸ h))⟩
theorem ek {P:Program}{g:Operand}{ps:Array Tmp}{assign body:Code}{Q:Exit->Act->World->Prop}{a:Act}{w:World}
 {gf:Nat} {lb:Array Value} (hg:a.eval g=.func (.func gf) #[] lb) (eg:∀ args w,(callFunc gf args).run P w=.ok (.enter gf args) w)
 {encs:Nat->Array Value} {N:Nat} {T:Nat->Prop} (hps:∀ k,(encs k).size=ps.size) (hT0:¬ T w.heap.size) (hT1:¬ T (w.heap.size+1))
 (hseq:∀ W1,Below w.heap.size w W1->W1.heap.size=w.heap.size+2->nR P gf lb encs N (w.heap.size+1) W1 T)
 (I:Nat->World->Prop) (Ix:Code->World->Prop) (hI:∀ k,kW (fun b=>b=w.heap.size\/b=w.heap.size+1\/T b) (I k)) (hIx:∀ c,kW (fun b=>b=w.heap.size\/b=w.heap.size+1\/T b) (Ix c)) (h0:I 0 w)
 (a₁:Nat->Act)
 (hassign:∀ (l k:Nat) (W:World) (K:Act->World->Prop),K (a₁ k) W->
  assign.wpIn (Fence.wide.inRound l) 0 P (Exit.then K (fun _ _ _=>False)) { tmps:=(ps.zip (encs k)).foldl (fun t (p,v)=>t.setIfInBounds p v) a.tmps,defers:=[] } W)
 (hbody:∀ (l k:Nat) (W:World),k<N->I k W->(∀ b,(b=w.heap.size\/b=w.heap.size+1\/T b)->b<W.heap.size)->body.wpIn (Fence.wide.inRound l) 0 P (k7 (fun b=>b=w.heap.size\/b=w.heap.size+1\/T b) W (I (k+1)) Ix) (a₁ k) W)
 (hdone:∀ (W:World),I N W->W.heap[w.heap.size]?=G (.deferred (G []))->Q .normal { a with defers:={ target:=.collected w.heap.size,args:=#[] } :: a.defers } W)
 (hstop:∀ (c:Code) (W:World),Ix c W->W.heap[w.heap.size]?=G (.deferred (G []))->c.wpIn Fence.wide 0 P Q { a with defers:={ target:=.collected w.heap.size,args:=#[] } :: a.defers } W):
 (Code.rangeFunc g ps assign body).wpIn Fence.wide 0 P Q a w:=by
 refine wpIn_rangeFunc ?_
 intro fn hfn
 obtain⟨rec,hrec⟩:∃ rec:LoopState->Option Code->Loop,rec=fun st pe=>{ state:=st,pending:=pe,fn,tmps:=a.tmps,params:=ps,assign,body,defers:=w.heap.size }:=⟨_,rfl⟩
 obtain⟨W1,hW1⟩:∃ W1,(w.alloc (.deferred (G []))).alloc (.loop (rec .ready U))=W1:=⟨_,rfl⟩
 have hL1:W1.heap[w.heap.size+1]?=G (.loop (rec .ready U)):=by
  rw[<-hW1];have:=World.alloc_heap_new (w.alloc (.deferred (G []))) (.loop (rec .ready U));rwa [World.size_alloc] at this
 have hK1:W1.heap[w.heap.size]?=G (.deferred (G [])):=by
  rw[<-hW1];exact(Below.heap_alloc _ _ _ (by simp)).trans (World.alloc_heap_new w _)
 have hw1:af w W1 (fun _=>False):=by rw[<-hW1];exact((af.refl w _).alloc _).alloc _
 have hb1:Below w.heap.size w W1:=hw1.below (by simp)
 have hz1:W1.heap.size=w.heap.size+2:=by rw[<-hW1];simp
 have hI1:I 0 W1:=hI 0 _ _ h0 (hw1.wide (by simp))
 refine⟨w.heap.size+1,[{ target:=.collected w.heap.size,args:=#[] }],W1,{ target:=.fn (.func gf) lb,args:=#[.func (.yield (w.heap.size+1)) #[] #[]] },W1,gf,
  #[.func (.yield (w.heap.size+1)) #[] #[]]++lb,W1,?_,?_,(fun _ _=>trivial),?_,(fun h=>(by cases h)),?_⟩
 ·rw[<-hW1,hrec];exact run_enterLoop_outer _ _ _ _ _
 ·simp only[resolve,hg]
  simp[go_sem]
 ·simp[invoke,go_sem,eg]
 ·refine(hseq W1 hb1 hz1
   (fun k W=>I k W/\W.heap[w.heap.size+1]?=G (.loop (rec .ready U))/\W.heap[w.heap.size]?=G (.deferred (G [])))
   (fun W=>∃ c,Ix c W/\W.heap[w.heap.size+1]?=G (.loop (rec .done (G c)))/\W.heap[w.heap.size]?=G (.deferred (G [])))
   ?_ ?_ ?_ ⟨hI1,hL1,hK1⟩).mono ?_
  ·rintro k A B ⟨hi,hl,hk⟩ hw
   exact⟨hI k A B hi (hw.wide fun i hi _=>.inr (.inr hi)),(hw.block _ (Array.getElem?_eq_some_iff.1 hl).1 hT1).trans hl,(hw.block _ (Array.getElem?_eq_some_iff.1 hk).1 hT0).trans hk⟩
  ·rintro A B ⟨c,hi,hl,hk⟩ hw
   exact⟨c,hIx c A B hi (hw.wide fun i hi _=>.inr (.inr hi)),(hw.block _ (Array.getElem?_eq_some_iff.1 hl).1 hT1).trans hl,(hw.block _ (Array.getElem?_eq_some_iff.1 hk).1 hT0).trans hk⟩
  ·
   rintro k W hk ⟨hi,hl,hd⟩ hT
   have hlt:w.heap.size+1<W.heap.size:=(Array.getElem?_eq_some_iff.1 hl).1
   have hy:=run_yield (P:=P) (args:=encs k) hl (by rw[hrec];exact hps k)
   rw[hrec] at hy
   refine⟨fn,_,assign,body,hy,roundIn_of_wpIn trivial (hassign _ k W _ ?_)⟩
   clear hy
   refine⟨_,run_beginRound hl (by rw[hrec]),?_⟩
   obtain⟨W2,hW2⟩:∃ W2,W.putObj (w.heap.size+1) (.loop { rec .ready U with state:=.busy })=W2:=⟨_,rfl⟩
   have hl2:W2.heap[w.heap.size+1]?=G (.loop { rec .ready U with state:=.busy }):=by rw[<-hW2];exact World.putObj_heap_same hlt
   have hd2:W2.heap[w.heap.size]?=G (.deferred (G [])):=by rw[<-hW2];exact(World.putObj_heap_other (by omega)).trans hd
   have hz2:W2.heap.size=W.heap.size:=by rw[<-hW2];simp[World.putObj]
   have hh2:cv T W W2:=⟨by omega,fun b hb=>by rw[<-hW2];exact World.putObj_heap_other (fun e=>hT1 (e ▸ hb))⟩
   have hi2:I k W2:=by rw[<-hW2];exact hI k _ _ hi (aM _ _ _ _ (.inr (.inl rfl)))
   rw[hW2]
   clear hW2
   refine wpIn_mono (hbody _ k W2 hk hi2 (by
    rintro b (rfl|rfl | hb)
    ·omega
    ·omega
    ·rw[hz2];exact hT b hb)) ?_
   have fin:∀ (jump:Option Code) (W3:World),cv (fun b=>b=w.heap.size\/b=w.heap.size+1\/T b) W2 W3->
    ∃ W4,(Instr.endRound (w.heap.size+1) jump).run P W3=.ok (.bool jump.isNone) W4/\af W3 W4 (fun b=>b=w.heap.size\/b=w.heap.size+1\/T b)/\cv T W3 W4/\
    W4.heap[w.heap.size+1]?=G (.loop (rec (if jump.isNone then .ready else .done) jump))/\W4.heap[w.heap.size]?=G (.deferred (G [])):=fun jump W3 hh=>by
    have hl3:=(hh.2 _ (.inr (.inl rfl))).trans hl2
    have hd3:=(hh.2 _ (.inl rfl)).trans hd2
    have:=run_endRound (P:=P) jump hl3
    rw[hrec] at this ⊢
    exact⟨_,this,aM _ _ _ _ (.inr (.inl rfl)),⟨by simp[World.putObj],fun b hb=>World.putObj_heap_other (fun e=>hT1 (e ▸ hb))⟩,
     World.putObj_heap_same (Array.getElem?_eq_some_iff.1 hl3).1,(World.putObj_heap_other (by omega)).trans hd3⟩
   rintro e a3 W3 hp
   cases e with
   | normal=>
    obtain⟨hh,hi3⟩:=hp
    obtain⟨W4,hr,hw4,hh4,hl4,hd4⟩:=fin U W3 hh
    exact⟨_,_,hr,hh2.trans ((hh.less fun b hb=>.inr (.inr hb)).trans hh4),.inl ⟨rfl,hI _ _ _ hi3 hw4,hl4,hd4⟩⟩
   | ret=>
    obtain⟨hh,hi3⟩:=hp
    obtain⟨W4,hr,hw4,hh4,hl4,hd4⟩:=fin (G .ret) W3 hh
    exact⟨_,_,hr,hh2.trans ((hh.less fun b hb=>.inr (.inr hb)).trans hh4),.inr ⟨rfl,.ret,hIx _ _ _ hi3 hw4,hl4,hd4⟩⟩
   | exit id=>
    obtain⟨hh,hi3⟩:=hp
    obtain⟨W4,hr,hw4,hh4,hl4,hd4⟩:=fin (G (.exit id)) W3 hh
    exact⟨_,_,hr,hh2.trans ((hh.less fun b hb=>.inr (.inr hb)).trans hh4),.inr ⟨rfl,.exit id,hIx _ _ _ hi3 hw4,hl4,hd4⟩⟩
   | goto t=>
    obtain⟨hh,hi3⟩:=hp
    obtain⟨W4,hr,hw4,hh4,hl4,hd4⟩:=fin (G (.goto t)) W3 hh
    exact⟨_,_,hr,hh2.trans ((hh.less fun b hb=>.inr (.inr hb)).trans hh4),.inr ⟨rfl,.goto t,hIx _ _ _ hi3 hw4,hl4,hd4⟩⟩
   | panic ch=>exact hp.elim
   | outgrown=>exact hp.elim
  ·
   rintro e W2 ⟨⟨v,rfl⟩,(⟨hi,hl,hd⟩ | ⟨c,hi,hl,hd⟩)⟩
   ·exact⟨U,_,by have:=run_endLoop (P:=P) hl (by rw[hrec];simp);rw[hrec] at this;exact this,hdone _ (hI _ _ _ hi (aM _ _ _ _ (.inr (.inl rfl)))) ((World.putObj_heap_other (by omega)).trans hd)⟩
   ·exact⟨G c,_,by have:=run_endLoop (P:=P) hl (by rw[hrec];simp);rw[hrec] at this;exact this,hstop c _ (hIx c _ _ hi (aM _ _ _ _ (.inr (.inl rfl)))) ((World.putObj_heap_other (by omega)).trans hd)⟩
def left (listed:Array Bool):Nat:=(listed.toList.filter fun b=>!b).length
theorem gW:∀ (l:List Bool) (i:Nat),l[i]?=G M->((l.set i X).filter fun b=>!b).length+1=(l.filter fun b=>!b).length
 | [],i,h=>by simp at h
 | b :: l,0,h=>by simp at h;subst h;simp
 | b :: l,i+1,h=>by
  have ih:=gW l i (by simpa using h)
  cases b <;> simp at ih ⊢ <;> omega
theorem fp:∀ (l:List Bool) (i:Nat),(l.filter fun b=>!b).length=0->l[i]?≠G M
 | [],i,h=>by simp
 | b :: l,0,h=>by cases b <;> simp at h ⊢
 | b :: l,i+1,h=>by
  have ih:=fp l i (by cases b <;> simp at h ⊢;exact h)
  simpa using ih
section
variable {P:Program}{ops:Array Oper}{Q:Exit->Act->World->Prop}
theorem db {listed:Array Bool}{i:Nat}(h:i∈Region.ready .any ops listed):listed.toList[i]?=G M:=by
 unfold Region.ready at h
 rw[List.mem_filter] at h
 have h2:=h.2
 simp only[Bool.and_eq_true,Bool.not_eq_true'] at h2
 have h3:=h2.1
 rw[Array.getElem?_toList]
 rw[Array.getD_eq_getD_getElem?] at h3
 cases e:listed[i]? with
 | none=>rw[e] at h3;simp at h3
 | some b=>rw[e] at h3;simp at h3;rw[h3]
theorem fb (Inv:Array Bool->Act->World->Prop)
 (hstep:∀ listed a w i,Inv listed a w->i∈Region.ready .any ops listed->wpOp P ops Q i (fun a' w'=>Inv (listed.setIfInBounds i X) a' w') a w)
 (hend:∀ listed a w,Inv listed a w->Region.ready .any ops listed=[]->Q .normal a w):
 ∀ (fuel:Nat) (listed:Array Bool) (a:Act) (w:World),Inv listed a w->left listed<=fuel->wpAny P .any ops Q fuel listed a w
 | 0,listed,a,w,hi,hf=>by
  have e:Region.ready .any ops listed=[]:=by
   rw[List.eq_nil_iff_forall_not_mem]
   intro i h
   exact fp listed.toList i (by unfold left at hf;omega) (db h)
  exact⟨e,hend _ _ _ hi e⟩
 | fuel+1,listed,a,w,hi,hf=>by
  refine⟨fun e=>hend _ _ _ hi e,fun i h=>wpOp_mono (fun a' w' h2=>?_) (hstep listed a w i hi h)⟩
  refine fb Inv hstep hend fuel _ a' w' h2 ?_
  have:=gW listed.toList i (db h)
  unfold left at hf ⊢
  rw[Array.toList_setIfInBounds]
  omega
theorem eS {id:Nat}{a:Act}{w:World}(hm:P.follows .mixedOrders=X)(Inv:Array Bool->Act->World->Prop)(h0:Inv (Array.replicate ops.size M) a w.drew)
 (hstep:∀ listed a w i,Inv listed a w->i∈Region.ready .any ops listed->wpOp P ops Q i (fun a' w'=>Inv (listed.setIfInBounds i X) a' w') a w)
 (hend:∀ listed a w,Inv listed a w->Region.ready .any ops listed=[]->Q .normal a w):(Code.region id ops X).wp P Q a w:=
 wp_region_any hm (fb Inv hstep hend _ _ _ _ h0 (by unfold left;exact Nat.le_trans (List.length_filter_le _ _) (by simp)))
end
def m5 (ops:Array Oper)(i:Nat):Option Tmp:=(ops[i]?).bind (·.dst)
def cr (ops:Array Oper)(t:Nat):Option Nat:=(List.range ops.size).find? fun i=>m5 ops i==G t
def aY (ops:Array Oper)(i:Nat):List Nat:=match ops[i]? with
 | some o=>(o.after.toList.filter fun e=>Region.binds .any e).map (·.on)
 | none=>[]
def lU:Op->Bool
 | .select ..=>M
 | _=>X
def lT (ops:Array Oper):Bool:=(List.range ops.size).all fun i=>match ops[i]? with
 | some o=>lU o.op && ((o.looksAt ops).all fun t=>match cr ops t with
  | some j=>(aY ops i).contains j
  | none=>X) && (match o.dst with
  | some d=>cr ops d==G i
  | none=>X) && ((aY ops i).all fun j=>decide (j<i))
 | none=>M
def over (f:Nat->Option Value):List Value->Nat->List Value
 | [],_=>[]
 | x :: xs,t=>(f t).getD x :: over f xs (t+1)
theorem jv (f:Nat->Option Value):∀ (xs:List Value) (t k:Nat),(over f xs t)[k]?=(xs[k]?).map fun x=>(f (t+k)).getD x
 | [],t,k=>by simp[over]
 | x :: xs,t,0=>by simp[over]
 | x :: xs,t,k+1=>by
  have ih:=jv f xs (t+1) k
  simp[over,ih,Nat.add_assoc,Nat.add_comm 1 k]
def ao (ops:Array Oper)(a:Act)(d:Nat->Bool)(vs:Nat->Value):Act:=
 { a with tmps:=(over (fun t=>match cr ops t with
  | some i=>if d i=X then G (vs i) else U
  | none=>U) a.tmps.toList 0).toArray }
theorem bN (ops:Array Oper)(a:Act)(d:Nat->Bool)(vs:Nat->Value)(t:Nat):(ao ops a d vs).tmps[t]?=(a.tmps[t]?).map fun x=>(match cr ops t with
 | some i=>if d i=X then G (vs i) else U
 | none=>U).getD x:=by
 simp[ao,jv]
theorem iL (ops:Array Oper)(a:Act)(vs:Nat->Value):ao ops a (fun _=>M) vs=a:=by
 obtain⟨tmps,defers⟩:=a
 have e:(ao ops ⟨tmps,defers⟩ (fun _=>M) vs).tmps=tmps:=by
  apply Array.ext_getElem?
  intro t
  rw[bN]
  cases h:tmps[t]? with
  | none=>simp
  | some x=>cases h2:cr ops t <;> simp
 have e2:ao ops ⟨tmps,defers⟩ (fun _=>M) vs=⟨(ao ops ⟨tmps,defers⟩ (fun _=>M) vs).tmps,defers⟩:=rfl
 rw[e2,e]
theorem j9 (ops:Array Oper)(a:Act)(d:Nat->Bool)(vs:Nat->Value)(i:Nat)(o:Oper)(ho:ops[i]?=G o)(hd:∀ x,o.dst=G x->cr ops x=G i)(hn:∀ t,cr ops t=G i->o.dst=G t)(hdi:d i=M)(v:Value):
 (ao ops a d vs).put o.dst v=ao ops a (fun j=>if j=i then X else d j) (fun j=>if j=i then v else vs j):=by
 have lZ:((ao ops a d vs).put o.dst v).tmps=(ao ops a (fun j=>if j=i then X else d j) (fun j=>if j=i then v else vs j)).tmps:=by
  apply Array.ext_getElem?
  intro t
  rw[bN]
  cases hx:o.dst with
  | none=>
   show (ao ops a d vs).tmps[t]?=_
   rw[bN]
   cases h2:cr ops t with
   | none=>rfl
   | some j=>
    have hj:j≠i:=fun e=>by have:=hn t (e ▸ h2);rw[hx] at this;cases this
    simp[hj]
  | some x=>
   show ((ao ops a d vs).tmps.setIfInBounds x v)[t]?=_
   rw[Array.getElem?_setIfInBounds]
   by_cases e:x=t
   ·subst e
    rw[if_pos rfl,hd x hx]
    have hsz:(ao ops a d vs).tmps.size=a.tmps.size:=by
     have l:∀ (f:Nat->Option Value) (xs:List Value) (t:Nat),(over f xs t).length=xs.length:=by
      intro f xs
      induction xs with
      | nil=>intro t;rfl
      | cons x xs ih=>intro t;simp[over,ih]
     simp[ao,l]
    rw[hsz]
    by_cases hlt:x<a.tmps.size
    ·simp[hlt]
    ·simp[hlt]
   ·rw[if_neg e,bN]
    cases h2:cr ops t with
    | none=>rfl
    | some j=>
     have hj:j≠i:=fun e3=>by have:=hn t (e3 ▸ h2);rw[hx] at this;injection this with this;exact e this
     simp[hj]
 have e1:(ao ops a d vs).put o.dst v=⟨((ao ops a d vs).put o.dst v).tmps,a.defers⟩:=by cases o.dst <;> rfl
 have e2:ao ops a (fun j=>if j=i then X else d j) (fun j=>if j=i then v else vs j)=⟨(ao ops a (fun j=>if j=i then X else d j) (fun j=>if j=i then v else vs j)).tmps,a.defers⟩:=rfl
 rw[e1,e2,lZ]
theorem iK (ops:Array Oper)(a:Act)(d:Nat->Bool)(vs:Nat->Value)(o:Oper)(hs:lU o.op=X)(h:∀ t∈o.looksAt ops,∀ i,cr ops t=G i->d i=X):
 execOp (ao ops a d vs).eval o=execOp (ao ops a (fun _=>X) vs).eval o/\Region.wanted o (yielded ops (ao ops a d vs).tmps)=Region.wanted o (yielded ops (ao ops a (fun _=>X) vs).tmps):=by
 have lZ:∀ t∈o.looksAt ops,(ao ops a d vs).tmps[t]?=(ao ops a (fun _=>X) vs).tmps[t]?:=by
  intro t ht
  rw[bN,bN]
  cases h2:cr ops t with
  | none=>rfl
  | some i=>simp[h t ht i h2]
 constructor
 ·refine execOp_congr o (fun cs b e=>by rw[e] at hs;cases hs) fun x hx=>?_
  cases x with
  | tmp t=>
   have:=lZ t (List.mem_append_left _ (List.mem_filterMap.2 ⟨.tmp t,by simpa using hx,rfl⟩))
   show (ao ops a d vs).tmps.getD t undef=(ao ops a (fun _=>X) vs).tmps.getD t undef
   rw[Array.getD_eq_getD_getElem?,Array.getD_eq_getD_getElem?,this]
  | _=>rfl
 ·unfold Region.wanted
  cases hg:o.guard with
  | none=>rfl
  | some g=>
   obtain⟨g,want⟩:=g
   simp only
   have:yielded ops (ao ops a d vs).tmps g=yielded ops (ao ops a (fun _=>X) vs).tmps g:=by
    unfold yielded
    cases hb:(ops[g]?).bind (·.dst) with
    | none=>rfl
    | some t=>
     have:=lZ t (by unfold Oper.looksAt;rw[hg];simp only;rw[hb];simp)
     simp only[Option.bind_some,this]
   rw[this]
def eR (P:Program)(F:Value->World->Prop)(W:World):Result Next->Prop
 | .ok (.value v) W'=>F v W'/\Below W.heap.size W W'
 | .ok .skip W'=>F undef W'/\Below W.heap.size W W'
 | .ok (.enter f args) W'=>Calls P f args W' fun e W2=>∃ v,e=.returned v/\F v W2/\Below W.heap.size W W2
 | _=>False
def bM (P:Program)(ops:Array Oper)(F:Value->World->Prop)(o:Oper)(a:Act)(W:World):Prop:=
 if Region.wanted o (yielded ops a.tmps)=X then eR P F W ((execOp a.eval o).run P W) else F undef W
theorem ah {P:Program}{ops:Array Oper}{F:Value->World->Prop}{o:Oper}{a:Act}{W:World}(hg:o.guard=U)(h:eR P F W ((execOp a.eval o).run P W)):bM P ops F o a W:=by
 unfold bM
 rw[if_pos (by simp[Region.wanted,hg])]
 exact h
theorem fG {P:Program}{ops:Array Oper}{F:Value->World->Prop}{o:Oper}{a:Act}{W:World}{g:Nat}{want:Bool}(hg:o.guard=G (g,want))(hy:yielded ops a.tmps g=G want)(h:eR P F W ((execOp a.eval o).run P W)):bM P ops F o a W:=by
 unfold bM
 rw[if_pos (by simp[Region.wanted,hg,hy])]
 exact h
def il (ps:List (Nat×(Value->World->Prop)))(l:List Value)(i:Nat)(v:Value)(W:World):Prop:=match ps.lookup i with
 | some p=>p v W
 | none=>v=l.getD i undef
theorem cJ {ps:List (Nat×(Value->World->Prop))}{l:List Value}(h:∀ x∈ps,∀ v W W',x.2 v W->Below W.heap.size W W'->x.2 v W'):∀ i v W W',il ps l i v W->Below W.heap.size W W'->il ps l i v W':=by
 intro i v W W' hm hb
 unfold il at *
 cases hl:ps.lookup i with
 | none=>rw[hl] at hm;exact hm
 | some p=>
  rw[hl] at hm
  have:(i,p)∈ps:=by
   clear hm h
   induction ps with
   | nil=>cases hl
   | cons x ps ih=>
    obtain⟨k,q⟩:=x
    rw[List.lookup_cons] at hl
    by_cases e:i=k
    ·subst e;simp at hl;subst hl;exact List.mem_cons_self
    ·have e2:(i==k)=M:=by simpa using e
     rw[e2] at hl
     exact List.mem_cons_of_mem _ (ih hl)
  exact h _ this v W W' hm hb
structure ij (w:World) where
 x:World
 ok:Below w.heap.size w x
def ij.here (w:World):ij w:=⟨w,zc _ _⟩
instance grwThere (w:World):Nonempty (ij w):=⟨ij.here w⟩
def ij.more {w:World}(g:ij w){y:World}(h:Below g.x.heap.size g.x y):ij w:=⟨y,g.ok.trans (h.mono g.ok.size)⟩
theorem ij.cell {w:World}(g:ij w){p:Addr}{v:Value}(h:w.cell? p=G v):g.x.cell? p=G v:=
 (g.ok.cell (World.block_lt_of_cell? w _ h)).trans h
theorem cq {w y:World}(h:Below w.drew.heap.size w.drew y):Below w.heap.size w y:=⟨h.os,h.tape,h.output,h.size,h.block⟩
theorem bV {P:Program}{id:Nat}{Q:Exit->Act->World->Prop}{a:Act}{w:World}{l:List Oper}(hm:P.follows .mixedOrders=X)(hB:Region.lexB .any l.toArray=X)
 (h:wpQuiet P l.toArray (fun y=>∃ g:ij w,y=g.x) (fun a'=>∀ y,(∃ g:ij w,y=g.x)->Q .normal a' y) l a):(Code.region id l.toArray X).wp P Q a w:=
 wp_region_quiet (C:=fun y=>∃ g:ij w,y=g.x) hm hB ⟨⟨w.drew,(zc _ _).drew⟩,rfl⟩ (by simpa using h)
theorem hM {P:Program}{f:FuncId}{args:Array Value}{w:World}{g:ij w}{v:Value}
 (h:Calls P f args g.x fun e y=>e=.returned v/\Below g.x.heap.size g.x y):Calls P f args g.x fun e y=>e=.returned v/\∃ g':ij w,y=g'.x:=
 h.mono fun _ _ ⟨he,hb⟩=>⟨he,g.more hb,rfl⟩
theorem lk {P:Program}{f:FuncId}{args:Array Value}{w:World}{g:ij w}{v:Value}
 (h:Calls P f args g.x fun e y=>e=.returned v/\g.x=y):Calls P f args g.x fun e y=>e=.returned v/\∃ g':ij w,y=g'.x:=
 h.mono fun _ _ ⟨he,hb⟩=>⟨he,g,hb.symm⟩
end
section
theorem js (d s t u a k pl p:Int)(hd:0<=d/\d<=7)(hs:0<=s/\s<=7)(ht:0<=t/\t<=7)(hu:0<=u/\u<=7)(ha:0<=a/\a<=7)(k0:0<=k)(k1:k<4294967296):
 ag ⟨1,d,s,t,u,a,k,pl⟩ p=(bw ⟨1,d,0,0,0,0,k,0⟩ ⟨1,d,s,t,u,a,k,pl⟩):=by
 rw[Bool.eq_iff_iff]
 simp[ag,bc,fC,bD,br,au,fD,aO,gB,bw]
 omega
theorem jq (d s t u a k pl p:Int)(hd:0<=d/\d<=7)(hs:0<=s/\s<=7)(ht:0<=t/\t<=7)(hu:0<=u/\u<=7)(ha:0<=a/\a<=7)(k0:0<=k)(k1:k<4294967296):
 ag ⟨2,d,s,t,u,a,k,pl⟩ p=(bw ⟨2,d,s,0,0,0,0,0⟩ ⟨2,d,s,t,u,a,k,pl⟩):=by
 rw[Bool.eq_iff_iff]
 simp[ag,bc,fC,bD,br,au,fD,aO,gB,bw]
 omega
theorem jp (d s t u a k pl p:Int)(hd:0<=d/\d<=7)(hs:0<=s/\s<=7)(ht:0<=t/\t<=7)(hu:0<=u/\u<=7)(ha:0<=a/\a<=7)(k0:0<=k)(k1:k<4294967296):
 ag ⟨3,d,s,t,u,a,k,pl⟩ p=(bw ⟨3,d,s,0,0,0,k,0⟩ ⟨3,d,s,t,u,a,k,pl⟩):=by
 rw[Bool.eq_iff_iff]
 simp[ag,bc,fC,bD,br,au,fD,aO,gB,bw]
 omega
theorem jo (d s t u a k pl p:Int)(hd:0<=d/\d<=7)(hs:0<=s/\s<=7)(ht:0<=t/\t<=7)(hu:0<=u/\u<=7)(ha:0<=a/\a<=7)(k0:0<=k)(k1:k<4294967296):
 ag ⟨4,d,s,t,u,a,k,pl⟩ p=(bw ⟨4,d,s,0,0,0,k,0⟩ ⟨4,d,s,t,u,a,k,pl⟩):=by
 rw[Bool.eq_iff_iff]
 simp[ag,bc,fC,bD,br,au,fD,aO,gB,bw]
 omega
theorem jn (d s t u a k pl p:Int)(hd:0<=d/\d<=7)(hs:0<=s/\s<=7)(ht:0<=t/\t<=7)(hu:0<=u/\u<=7)(ha:0<=a/\a<=7)(k0:0<=k)(k1:k<4294967296):
 ag ⟨5,d,s,t,u,a,k,pl⟩ p=(bw ⟨5,d,s,0,0,0,k,0⟩ ⟨5,d,s,t,u,a,k,pl⟩ && decide (k<=31)):=by
 rw[Bool.eq_iff_iff]
 simp[ag,bc,fC,bD,br,au,fD,aO,gB,bw]
 omega
theorem jm (d s t u a k pl p:Int)(hd:0<=d/\d<=7)(hs:0<=s/\s<=7)(ht:0<=t/\t<=7)(hu:0<=u/\u<=7)(ha:0<=a/\a<=7)(k0:0<=k)(k1:k<4294967296):
 ag ⟨6,d,s,t,u,a,k,pl⟩ p=(bw ⟨6,d,s,0,0,0,k,0⟩ ⟨6,d,s,t,u,a,k,pl⟩ && decide (k<=31)):=by
 rw[Bool.eq_iff_iff]
 simp[ag,bc,fC,bD,br,au,fD,aO,gB,bw]
 omega
theorem jl (d s t u a k pl p:Int)(hd:0<=d/\d<=7)(hs:0<=s/\s<=7)(ht:0<=t/\t<=7)(hu:0<=u/\u<=7)(ha:0<=a/\a<=7)(k0:0<=k)(k1:k<4294967296):
 ag ⟨7,d,s,t,u,a,k,pl⟩ p=(bw ⟨7,d,s,t,0,0,0,0⟩ ⟨7,d,s,t,u,a,k,pl⟩):=by
 rw[Bool.eq_iff_iff]
 simp[ag,bc,fC,bD,br,au,fD,aO,gB,bw]
 omega
theorem jk (d s t u a k pl p:Int)(hd:0<=d/\d<=7)(hs:0<=s/\s<=7)(ht:0<=t/\t<=7)(hu:0<=u/\u<=7)(ha:0<=a/\a<=7)(k0:0<=k)(k1:k<4294967296):
 ag ⟨8,d,s,t,u,a,k,pl⟩ p=(bw ⟨8,0,s,t,0,0,0,pl⟩ ⟨8,d,s,t,u,a,k,pl⟩ && (decide (0<=pl) && decide (pl<p))):=by
 rw[Bool.eq_iff_iff]
 simp[ag,bc,fC,bD,br,au,fD,aO,gB,bw]
 omega
theorem jj (d s t u a k pl p:Int)(hd:0<=d/\d<=7)(hs:0<=s/\s<=7)(ht:0<=t/\t<=7)(hu:0<=u/\u<=7)(ha:0<=a/\a<=7)(k0:0<=k)(k1:k<4294967296):
 ag ⟨9,d,s,t,u,a,k,pl⟩ p=(bw ⟨9,0,s,t,0,0,0,pl⟩ ⟨9,d,s,t,u,a,k,pl⟩ && (decide (0<=pl) && decide (pl<p))):=by
 rw[Bool.eq_iff_iff]
 simp[ag,bc,fC,bD,br,au,fD,aO,gB,bw]
 omega
theorem gQ (d s t u a k pl p:Int)(hd:0<=d/\d<=7)(hs:0<=s/\s<=7)(ht:0<=t/\t<=7)(hu:0<=u/\u<=7)(ha:0<=a/\a<=7)(k0:0<=k)(k1:k<4294967296):
 ag ⟨10,d,s,t,u,a,k,pl⟩ p=(bw ⟨10,0,0,0,0,0,0,pl⟩ ⟨10,d,s,t,u,a,k,pl⟩ && (decide (0<=pl) && decide (pl<p))):=by
 rw[Bool.eq_iff_iff]
 simp[ag,bc,fC,bD,br,au,fD,aO,gB,bw]
 omega
theorem gP (d s t u a k pl p:Int)(hd:0<=d/\d<=7)(hs:0<=s/\s<=7)(ht:0<=t/\t<=7)(hu:0<=u/\u<=7)(ha:0<=a/\a<=7)(k0:0<=k)(k1:k<4294967296):
 ag ⟨11,d,s,t,u,a,k,pl⟩ p=(bw ⟨11,d,0,0,0,0,0,0⟩ ⟨11,d,s,t,u,a,k,pl⟩):=by
 rw[Bool.eq_iff_iff]
 simp[ag,bc,fC,bD,br,au,fD,aO,gB,bw]
 omega
theorem gF (d s t u a k pl p:Int)(hd:0<=d/\d<=7)(hs:0<=s/\s<=7)(ht:0<=t/\t<=7)(hu:0<=u/\u<=7)(ha:0<=a/\a<=7)(k0:0<=k)(k1:k<4294967296):
 ag ⟨22,d,s,t,u,a,k,pl⟩ p=(bw ⟨22,d,0,0,0,0,0,0⟩ ⟨22,d,s,t,u,a,k,pl⟩):=by
 rw[Bool.eq_iff_iff]
 simp[ag,bc,fC,bD,br,au,fD,aO,gB,bw]
 omega
theorem gO (d s t u a k pl p:Int)(hd:0<=d/\d<=7)(hs:0<=s/\s<=7)(ht:0<=t/\t<=7)(hu:0<=u/\u<=7)(ha:0<=a/\a<=7)(k0:0<=k)(k1:k<4294967296):
 ag ⟨12,d,s,t,u,a,k,pl⟩ p=(bw ⟨12,0,0,0,0,0,k,0⟩ ⟨12,d,s,t,u,a,k,pl⟩ && (decide (1<=k) && decide (k<=4))):=by
 rw[Bool.eq_iff_iff]
 simp[ag,bc,fC,bD,br,au,fD,aO,gB,bw]
 omega
theorem gN (d s t u a k pl p:Int)(hd:0<=d/\d<=7)(hs:0<=s/\s<=7)(ht:0<=t/\t<=7)(hu:0<=u/\u<=7)(ha:0<=a/\a<=7)(k0:0<=k)(k1:k<4294967296):
 ag ⟨13,d,s,t,u,a,k,pl⟩ p=(bw ⟨13,0,0,0,0,0,k,0⟩ ⟨13,d,s,t,u,a,k,pl⟩ && decide (k<=3)):=by
 rw[Bool.eq_iff_iff]
 simp[ag,bc,fC,bD,br,au,fD,aO,gB,bw]
 omega
theorem gM (d s t u a k pl p:Int)(hd:0<=d/\d<=7)(hs:0<=s/\s<=7)(ht:0<=t/\t<=7)(hu:0<=u/\u<=7)(ha:0<=a/\a<=7)(k0:0<=k)(k1:k<4294967296):
 ag ⟨16,d,s,t,u,a,k,pl⟩ p=(bw ⟨16,d,s,0,0,a,0,0⟩ ⟨16,d,s,t,u,a,k,pl⟩):=by
 rw[Bool.eq_iff_iff]
 simp[ag,bc,fC,bD,br,au,fD,aO,gB,bw]
 omega
theorem gK (d s t u a k pl p:Int)(hd:0<=d/\d<=7)(hs:0<=s/\s<=7)(ht:0<=t/\t<=7)(hu:0<=u/\u<=7)(ha:0<=a/\a<=7)(k0:0<=k)(k1:k<4294967296):
 ag ⟨17,d,s,t,u,a,k,pl⟩ p=(bw ⟨17,0,s,t,0,a,0,0⟩ ⟨17,d,s,t,u,a,k,pl⟩):=by
 rw[Bool.eq_iff_iff]
 simp[ag,bc,fC,bD,br,au,fD,aO,gB,bw]
 omega
theorem gJ (d s t u a k pl p:Int)(hd:0<=d/\d<=7)(hs:0<=s/\s<=7)(ht:0<=t/\t<=7)(hu:0<=u/\u<=7)(ha:0<=a/\a<=7)(k0:0<=k)(k1:k<4294967296):
 ag ⟨18,d,s,t,u,a,k,pl⟩ p=(bw ⟨18,d,s,t,0,a,0,0⟩ ⟨18,d,s,t,u,a,k,pl⟩):=by
 rw[Bool.eq_iff_iff]
 simp[ag,bc,fC,bD,br,au,fD,aO,gB,bw]
 omega
theorem gH (d s t u a k pl p:Int)(hd:0<=d/\d<=7)(hs:0<=s/\s<=7)(ht:0<=t/\t<=7)(hu:0<=u/\u<=7)(ha:0<=a/\a<=7)(k0:0<=k)(k1:k<4294967296):
 ag ⟨19,d,s,t,u,a,k,pl⟩ p=(bw ⟨19,d,s,t,u,a,0,0⟩ ⟨19,d,s,t,u,a,k,pl⟩):=by
 rw[Bool.eq_iff_iff]
 simp[ag,bc,fC,bD,br,au,fD,aO,gB,bw]
 omega
theorem gG (d s t u a k pl p:Int)(hd:0<=d/\d<=7)(hs:0<=s/\s<=7)(ht:0<=t/\t<=7)(hu:0<=u/\u<=7)(ha:0<=a/\a<=7)(k0:0<=k)(k1:k<4294967296):
 ag ⟨20,d,s,t,u,a,k,pl⟩ p=(bw ⟨20,d,s,0,0,a,k,0⟩ ⟨20,d,s,t,u,a,k,pl⟩):=by
 rw[Bool.eq_iff_iff]
 simp[ag,bc,fC,bD,br,au,fD,aO,gB,bw]
 omega
theorem eL (d s t u a k pl p:Int)(hd:0<=d/\d<=7)(hs:0<=s/\s<=7)(ht:0<=t/\t<=7)(hu:0<=u/\u<=7)(ha:0<=a/\a<=7)(k0:0<=k)(k1:k<4294967296):
 ag ⟨21,d,s,t,u,a,k,pl⟩ p=(bw ⟨21,d,s,t,0,a,k,pl⟩ ⟨21,d,s,t,u,a,k,pl⟩ && (decide (k<=1) && (decide (-1<=pl) && (decide (pl=-1) || decide (pl<p))))):=by
 rw[Bool.eq_iff_iff]
 simp[ag,bc,fC,bD,br,au,fD,aO,gB,bw]
 split <;> omega
theorem gE (d s t u a k pl p:Int)(hd:0<=d/\d<=7)(hs:0<=s/\s<=7)(ht:0<=t/\t<=7)(hu:0<=u/\u<=7)(ha:0<=a/\a<=7)(k0:0<=k)(k1:k<4294967296):
 ag ⟨23,d,s,t,u,a,k,pl⟩ p=(bw ⟨23,0,s,0,0,0,0,0⟩ ⟨23,d,s,t,u,a,k,pl⟩):=by
 rw[Bool.eq_iff_iff]
 simp[ag,bc,fC,bD,br,au,fD,aO,gB,bw]
 omega
theorem da (i:ay)(p:Int)(h:ag i p=X):(0<=i.d/\i.d<=7)/\(0<=i.s/\i.s<=7)/\(0<=i.t/\i.t<=7)/\(0<=i.u/\i.u<=7)/\(0<=i.a/\i.a<=7):=by
 obtain⟨op,d,s,t,u,a,k,pl⟩:=i
 rcases aZ op with rfl|rfl|rfl|rfl|rfl|rfl|rfl|rfl|rfl|rfl|rfl|rfl|rfl|rfl|rfl|rfl|rfl|rfl|rfl|rfl|rfl | hn
 rotate_right
 ·have:=bA hn
  unfold ag at h
  simp only[this.1] at h
  cases h
 all_goals
  simp[ag,bc,fC,bD,br,au,fD,aO,gB] at h
  simp only
  omega
def eZ (n:Nat):List Int:=List.replicate n 0
theorem jG (n:Nat):(eZ n).length=n:=List.length_replicate
end
section
open Go.ChangeShapes Go.WideShapes Go.ChangeAt Go.RowKit
structure En where
 kind:Int
 th:Int
 now:Int
theorem En.ext {x y:En}(h1:x.kind=y.kind)(h2:x.th=y.th)(h3:x.now=y.now):x=y:=by cases x;cases y;simp_all
structure En.Wf (x:En):Prop where
 k0:-9223372036854775808<=x.kind
 k1:x.kind<=9223372036854775807
 t0:-9223372036854775808<=x.th
 t1:x.th<=9223372036854775807
 n0:-9223372036854775808<=x.now
 n1:x.now<=9223372036854775807
theorem ji {α:Type}(l:List α)(k:Nat)(h:k<l.length):l.take (k+1)=l.take k++[l[k]]:=(List.take_append_getElem h).symm
theorem av {w w':World}(h:Below w.heap.size w w'):af w w' (fun _=>False):=⟨h.os,h.tape,h.output,h.size,fun i hi _=>h.block i hi⟩
def d9 (y:World)(g:Nat)(a b c:Value):World:=((y.setCell ⟨g,0,U⟩ a).setCell ⟨g,1,U⟩ b).setCell ⟨g,2,U⟩ c
theorem dB {y:World}{g:Nat}{t:TypeId}{x0 x1 x2:Value}(h:Bk y g t #[x0,x1,x2])(a b c:Value):Bk (d9 y g a b c) g t #[a,b,c]:=by
 have h8:=((h.put 0 a).put 1 b).put 2 c
 unfold d9
 simpa only[List.setIfInBounds_toArray,List.set_cons_zero,List.set_cons_succ] using h8
theorem bY {B:Nat}{w y:World}{g:Nat}(h:Below B w y)(hg:B<=g)(a b c:Value):Below B w (d9 y g a b c):=((h.setCell hg _).setCell hg _).setCell hg _
def bs (l:List UInt8):Value:=.string ⟨l.toArray⟩
theorem fV (hs:List UInt8)(n:Nat)(h:n<hs.length)(w:World):(Instr.index 9 (.string ⟨hs.toArray⟩) (O Z n)).run Tryd.prog w=.ok (O .u8 ((hs.getD n 0).toNat:Int)) w:=by
 have hu:=Tryd.underlying9
 have h2:(n:Int)<(hs.length:Int):=by omega
 go_simp
 rfl
theorem jf (a b:List UInt8):(⟨a.toArray⟩:ByteArray)++⟨b.toArray⟩=⟨(a++b).toArray⟩:=by
 apply ByteArray.ext
 simp
theorem dA (a b:List UInt8)(h:a.length+b.length<1000000)(w:World):(binOp .add 9 (.string ⟨a.toArray⟩) (.string ⟨b.toArray⟩)).run Tryd.prog w=.ok (.string ⟨(a++b).toArray⟩) w:=by
 have hu:=Tryd.underlying9
 go_simp
 rw[if_neg (by omega),jf]
theorem dZ {a b:List UInt8}(h:a=b):Ending.returned (.string ⟨a.toArray⟩)=.returned (bs b):=by rw[h];rfl
theorem gZ (n:Int)(h0:-9223372036854775808<=n)(h1:n<=9223372036854775807):(Lib.itoa n).length<=30:=by
 have lZ:∀ (m u:Nat),u<10 ^ (m+1)->(Lib.decDigits u).length<=m+1:=by
  intro m
  induction m with
  | zero=>intro u hu;rw[Lib.decDigits,dif_pos (by simpa using hu)];simp
  | succ m ih=>
   intro u hu
   rw[Lib.decDigits]
   by_cases h:u<10
   ·rw[dif_pos h];simp
   ·rw[dif_neg h]
    have h2:u / 10<10 ^ (m+1):=by
     rw[Nat.div_lt_iff_lt_mul (by decide)]
     rw[Nat.pow_succ] at hu
     exact hu
    have:=ih _ h2
    simp
    omega
 have e:(10:Nat) ^ (19+1)=100000000000000000000:=by decide
 unfold Lib.itoa
 split
 ·have:=lZ 19 n.natAbs (by rw[e];omega)
  simp;omega
 ·have:=lZ 19 n.toNat (by rw[e];omega)
  omega
theorem aw (n:Nat):Lib.itoa (n:Int)=Lib.decDigits n:=by
 unfold Lib.itoa
 rw[if_neg (by omega)]
 rfl
def cE (P:Program)(K:Value->World->Prop):Result Next->Prop
 | .ok (.value v) W'=>K v W'
 | .ok .skip W'=>K undef W'
 | .ok (.enter f args) W'=>Calls P f args W' fun e W2=>∃ v,e=.returned v/\K v W2
 | _=>False
def bm (P:Program)(ops:Array Oper)(K:Value->World->Prop)(o:Oper)(a:Act)(W:World):Prop:=
 if Region.wanted o (yielded ops a.tmps)=X then cE P K ((execOp a.eval o).run P W) else K undef W
theorem gy {P:Program}{ops:Array Oper}{F:Value->World->Prop}{K:Value->World->Prop}{o:Oper}{a:Act}{W:World}(h:bM P ops F o a W)(hK:∀ v W',F v W'->Below W.heap.size W W'->K v W'):bm P ops K o a W:=by
 unfold bM at h
 unfold bm
 by_cases hw:Region.wanted o (yielded ops a.tmps)=X
 ·rw[if_pos hw] at h ⊢
  generalize (execOp a.eval o).run P W=r at *
  cases r with
  | ok x W'=>
   cases x <;> simp only[eR,cE] at h ⊢
   ·exact hK _ _ h.1 h.2
   ·exact hK _ _ h.1 h.2
   ·exact h.mono fun e W2 ⟨v,he,h1,h2⟩=>⟨v,he,hK _ _ h1 h2⟩
  | halt x W'=>simp only[eR] at h
 ·rw[if_neg hw] at h ⊢
  exact hK _ _ h (zc _ _)
theorem cV {P:Program}{ops:Array Oper}{K:Value->World->Prop}{o:Oper}{a:Act}{W:World}(hg:o.guard=U)(h:cE P K ((execOp a.eval o).run P W)):bm P ops K o a W:=by
 unfold bm
 rw[if_pos (by simp[Region.wanted,hg])]
 exact h
theorem eT {P:Program}{ops:Array Oper}{K K':Value->World->Prop}{o:Oper}{a:Act}{W:World}(h:bm P ops K o a W)(hK:∀ v W',K v W'->K' v W'):bm P ops K' o a W:=by
 unfold bm at *
 by_cases hw:Region.wanted o (yielded ops a.tmps)=X
 ·rw[if_pos hw] at h ⊢
  generalize (execOp a.eval o).run P W=r at *
  cases r with
  | ok x W'=>
   cases x <;> simp only[cE] at h ⊢
   ·exact hK _ _ h
   ·exact hK _ _ h
   ·exact h.mono fun e W2 ⟨v,he,h1⟩=>⟨v,he,hK _ _ h1⟩
  | halt x W'=>simp only[cE] at h
 ·rw[if_neg hw] at h ⊢
  exact hK _ _ h
theorem dY {P:Program}{ops:Array Oper}{Q:Exit->Act->World->Prop}{id:Nat}{a:Act}{w:World}(hm:P.follows .mixedOrders=X)(hr:lT ops=X)(I:(Nat->Bool)->(Nat->Value)->World->Prop)
 (h0:I (fun _=>M) (fun _=>undef) w.drew)
 (hop:∀ i o,ops[i]?=G o->∀ (d:Nat->Bool) (vs:Nat->Value) W,I d vs W->d i=M->(∀ j∈aY ops i,d j=X)->bm P ops (fun v W'=>I (fun j=>if j=i then X else d j) (fun j=>if j=i then v else vs j) W') o (ao ops a (fun _=>X) vs) W)
 (hend:∀ (d:Nat->Bool) (vs:Nat->Value) W,I d vs W->(∀ i,i<ops.size->d i=X)->Q .normal (ao ops a (fun _=>X) vs) W):(Code.region id ops X).wp P Q a w:=by
 have hR:∀ i o,ops[i]?=G o->lU o.op=X/\(∀ t∈o.looksAt ops,∀ j,cr ops t=G j->j∈aY ops i)/\(∀ x,o.dst=G x->cr ops x=G i)/\∀ j∈aY ops i,j<i:=by
  intro i o ho
  have hi:i<ops.size:=(Array.getElem?_eq_some_iff.1 ho).1
  unfold lT at hr
  have h:=List.all_eq_true.1 hr i (List.mem_range.2 hi)
  rw[ho] at h
  simp only[Bool.and_eq_true] at h
  refine⟨h.1.1.1,fun t ht j hj=>?_,fun x hx=>?_,fun j hj=>?_⟩
  ·have:=List.all_eq_true.1 h.1.1.2 t ht
   rw[hj] at this
   simpa using this
  ·have:=h.1.2
   rw[hx] at this
   simpa using this
  ·have:=List.all_eq_true.1 h.2 j hj
   simpa using this
 have hN:∀ t i o,ops[i]?=G o->cr ops t=G i->o.dst=G t:=by
  intro t i o ho h
  have:=List.find?_some h
  simp only[m5,ho,Option.bind_some,beq_iff_eq] at this
  exact this
 refine eS hm (fun listed a' W=>∃ vs:Nat->Value,listed.size=ops.size/\a'=ao ops a (fun i=>listed.getD i M) vs/\I (fun i=>listed.getD i M) vs W) ?_ ?_ ?_
 ·have e:(fun i=>(Array.replicate ops.size M).getD i M)=fun _=>M:=by
   funext i
   rw[Array.getD_eq_getD_getElem?,Array.getElem?_replicate]
   split <;> rfl
  refine⟨fun _=>undef,by simp,?_,?_⟩
  ·rw[e,iL]
  ·rw[e];exact h0
 ·rintro listed a' W i ⟨vs,hsz,rfl,hI⟩ hi
  have hfree:=db hi
  have hready:=hi
  unfold Region.ready at hready
  rw[List.mem_filter,List.mem_range] at hready
  obtain⟨hlt,hc⟩:=hready
  simp only[Bool.and_eq_true] at hc
  have hc2:=hc.2
  have ho:ops[i]?=G ops[i]:=Array.getElem?_eq_getElem hlt
  rw[ho] at hc2
  simp only[Option.map_some,Option.getD_some] at hc2
  rw[<-Array.all_toList,List.all_eq_true] at hc2
  generalize ops[i]=o at *
  obtain⟨r1,r2,r3,r4⟩:=hR i o ho
  have hdep:∀ j∈aY ops i,listed.getD j M=X:=by
   intro j hj
   unfold aY at hj
   rw[ho] at hj
   simp only[List.mem_map,List.mem_filter] at hj
   obtain⟨e,⟨he,hb⟩,rfl⟩:=hj
   have:=hc2 e he
   simpa [hb] using this
  obtain⟨s1,s2⟩:=iK ops a (fun i=>listed.getD i M) vs o r1 fun t ht j hj=>hdep j (r2 t ht j hj)
  have hif:listed.getD i M=M:=by
   rw[Array.getD_eq_getD_getElem?,<-Array.getElem?_toList,hfree];rfl
  have hl:=hop i o ho (fun i=>listed.getD i M) vs W hI hif hdep
  have eg:(fun j=>(listed.setIfInBounds i X).getD j M)=fun j=>if j=i then X else listed.getD j M:=by
   funext j
   rw[Array.getD_eq_getD_getElem?,Array.getElem?_setIfInBounds,Array.getD_eq_getD_getElem?]
   by_cases e:j=i
   ·subst e
    simp[hsz,hlt]
   ·rw[if_neg (fun e2=>e e2.symm),if_neg e]
  have next:∀ v W',I (fun j=>if j=i then X else listed.getD j M) (fun j=>if j=i then v else vs j) W'->∃ vs':Nat->Value,(listed.setIfInBounds i X).size=ops.size/\(ao ops a (fun i=>listed.getD i M) vs).put o.dst v=ao ops a (fun j=>(listed.setIfInBounds i X).getD j M) vs'/\I (fun j=>(listed.setIfInBounds i X).getD j M) vs' W':=by
   intro v W' hK
   refine⟨fun j=>if j=i then v else vs j,by simpa using hsz,?_,?_⟩
   ·rw[eg]
    exact j9 ops a _ vs i o ho r3 (fun t ht=>hN t i o ho ht) hif v
   ·rw[eg];exact hK
  unfold wpOp
  rw[ho]
  simp only
  unfold bm at hl
  rw[s2]
  by_cases hw:Region.wanted o (yielded ops (ao ops a (fun _=>X) vs).tmps)=X
  ·rw[if_pos hw] at hl ⊢
   refine .inl ?_
   unfold Oper.wp
   rw[s1]
   generalize (execOp (ao ops a (fun _=>X) vs).eval o).run P W=r at *
   cases r with
   | ok x W'=>
    cases x <;> simp only[cE] at hl
    ·rw[Oper.upon_value];exact next _ _ hl
    ·rw[Oper.upon_skip];exact next _ _ hl
    ·rw[Oper.upon_enter]
     refine hl.mono ?_
     rintro e W2 ⟨v,rfl,h1⟩
     exact next _ _ h1
   | halt x W'=>simp only[cE] at hl
  ·rw[if_neg hw] at hl ⊢
   exact next _ _ hl
 ·rintro listed a' W ⟨vs,hsz,rfl,hI⟩ he
  have hall:∀ n i,i<n->i<ops.size->listed.getD i M=X:=by
   intro n
   induction n with
   | zero=>intro i h;omega
   | succ n ih=>
    intro i h hi
    by_cases hin:i<n
    ·exact ih i hin hi
    ·obtain rfl:i=n:=by omega
     cases hl:listed.getD i M with
     | true=>rfl
     | false=>
      exfalso
      have hm2:i∈Region.ready .any ops listed:=by
       unfold Region.ready
       rw[List.mem_filter,List.mem_range]
       refine⟨hi,?_⟩
       have ho:ops[i]?=G ops[i]:=Array.getElem?_eq_getElem hi
       have hd:=(hR i _ ho).2.2.2
       rw[ho]
       simp only[Option.map_some,Option.getD_some,Bool.and_eq_true]
       constructor
       ·rw[Array.getD_eq_getD_getElem?] at hl ⊢
        rw[Array.getElem?_eq_getElem (by omega)] at hl ⊢
        simp at hl ⊢
        exact hl
       ·rw[<-Array.all_toList,List.all_eq_true]
        intro e he
        by_cases hb:Region.binds .any e=X
        ·have hmem:e.on∈aY ops i:=by
          unfold aY
          rw[ho]
          simp only[List.mem_map,List.mem_filter]
          exact⟨e,⟨he,hb⟩,rfl⟩
         have hlt:=hd _ hmem
         rw[ih e.on hlt (by omega)]
         simp
        ·simp[hb]
      rw[he] at hm2
      cases hm2
  have e:ao ops a (fun i=>listed.getD i M) vs=ao ops a (fun _=>X) vs:=by
   have lZ:(ao ops a (fun i=>listed.getD i M) vs).tmps=(ao ops a (fun _=>X) vs).tmps:=by
    apply Array.ext_getElem?
    intro t
    rw[bN,bN]
    cases h2:cr ops t with
    | none=>rfl
    | some i=>
     have hlt:i<ops.size:=List.mem_range.1 (List.mem_of_find?_eq_some h2)
     simp[hall (i+1) i (by omega) hlt]
   have e1:ao ops a (fun i=>listed.getD i M) vs=⟨(ao ops a (fun i=>listed.getD i M) vs).tmps,a.defers⟩:=rfl
   have e2:ao ops a (fun _=>X) vs=⟨(ao ops a (fun _=>X) vs).tmps,a.defers⟩:=rfl
   rw[e1,e2,lZ]
  rw[e]
  exact hend _ vs W hI fun i hi=>hall (i+1) i (by omega) hi
theorem fm {R:World->World->Prop}{ps:List (Nat×(Value->World->Prop))}{l:List Value}(h:∀ x∈ps,∀ v W W',x.2 v W->R W W'->x.2 v W'):∀ i v W W',il ps l i v W->R W W'->il ps l i v W':=by
 intro i v W W' hm hb
 unfold il at *
 cases hl:ps.lookup i with
 | none=>rw[hl] at hm;exact hm
 | some p=>
  rw[hl] at hm
  have:(i,p)∈ps:=by
   clear hm h
   induction ps with
   | nil=>cases hl
   | cons x ps ih=>
    obtain⟨k,q⟩:=x
    rw[List.lookup_cons] at hl
    by_cases e:i=k
    ·subst e;simp at hl;subst hl;exact List.mem_cons_self
    ·have e2:(i==k)=M:=by simpa using e
     rw[e2] at hl
     exact List.mem_cons_of_mem _ (ih hl)
  exact h _ this v W W' hm hb
def iv (i:ay):Value:=.agg #[O Z i.op,O Z i.d,O Z i.s,O Z i.t,O Z i.u,O Z i.a,O V i.k,O Z i.pl]
theorem k8 (a b c d:List UInt8)(h1:a=c)(h2:b=d):Ending.returned (.tuple #[.string ⟨a.toArray⟩,.string ⟨b.toArray⟩])=.returned (.tuple #[bs c,bs d]):=by rw[h1,h2];rfl
theorem lG (op:Int)(h:op<1\/13<op)(w:World):
 Calls Tryd.prog 46 #[O Z op] w fun e w'=>e=.returned (.tuple #[bs (aT op),bs (bc op)])/\w=w':=by
 rcases aZ op with rfl|rfl|rfl|rfl|rfl|rfl|rfl|rfl|rfl|rfl|rfl|rfl|rfl|rfl|rfl|rfl|rfl|rfl|rfl|rfl|rfl | hn
 rotate_right
 ·obtain⟨n1,n2,n3,n4,n5,n6,n7,n8,n9,n10,n11,n12,n13,n16,n17,n18,n19,n20,n21,n22,n23⟩:=hn
  have en:aT op=[]:=by unfold aT;simp[*]
  have eh:bc op=[]:=by unfold bc;simp[*]
  have E:=Y en
  have F:=Y eh
  clear en eh
  have b16:(op==16)=M:=by simpa using n16
  have b17:(op==17)=M:=by simpa using n17
  have b18:(op==18)=M:=by simpa using n18
  have b19:(op==19)=M:=by simpa using n19
  have b20:(op==20)=M:=by simpa using n20
  have b21:(op==21)=M:=by simpa using n21
  have b22:(op==22)=M:=by simpa using n22
  have b23:(op==23)=M:=by simpa using n23
  clear n1 n2 n3 n4 n5 n6 n7 n8 n9 n10 n11 n12 n13 n16 n17 n18 n19 n20 n21 n22 n23
  go_enter Tryd.func46,Tryd.ntmps46
  go_wp2
  go_ret2
  exact⟨k8 _ _ _ _ E.out.symm F.out.symm,rfl⟩
 all_goals first | (exfalso;omega) | skip
 all_goals
  go_enter Tryd.func46,Tryd.ntmps46
  go_wp2
  go_ret2
  exact⟨rfl,rfl⟩
theorem kN (op:Int)(w:World):
 Calls Tryd.prog 40 #[O Z op] w fun e w'=>e=.returned (.tuple #[bs (aT op),bs (bc op)])/\w=w':=by
 by_cases h:op<1\/13<op
 ·have hm:=Y (lG op h w)
  have b1:(op==1)=M:=by simp;omega
  have b2:(op==2)=M:=by simp;omega
  have b3:(op==3)=M:=by simp;omega
  have b4:(op==4)=M:=by simp;omega
  have b5:(op==5)=M:=by simp;omega
  have b6:(op==6)=M:=by simp;omega
  have b7:(op==7)=M:=by simp;omega
  have b8:(op==8)=M:=by simp;omega
  have b9:(op==9)=M:=by simp;omega
  have b10:(op==10)=M:=by simp;omega
  have b11:(op==11)=M:=by simp;omega
  have b12:(op==12)=M:=by simp;omega
  have b13:(op==13)=M:=by simp;omega
  go_enter Tryd.func40,Tryd.ntmps40
  go_wp2_with fail
  refine hm.out.mono ?_
  rintro e w' ⟨rfl,rfl⟩
  go_wp2
  go_ret2
  exact⟨rfl,rfl⟩
 ·rcases aZ op with rfl|rfl|rfl|rfl|rfl|rfl|rfl|rfl|rfl|rfl|rfl|rfl|rfl|rfl|rfl|rfl|rfl|rfl|rfl|rfl|rfl | hn
  rotate_right
  ·exfalso;omega
  all_goals first | (exfalso;omega) | skip
  all_goals
   go_enter Tryd.func40,Tryd.ntmps40
   go_wp2
   go_ret2
   exact⟨rfl,rfl⟩
theorem lI (op:Int)(p:Int)(w:World):
 Calls Tryd.prog 64 #[O Z op] w fun e w'=>e=.returned (.tuple #[O Z (bD op 75),O Z (br op 75 p)])/\w=w':=by
 by_cases h:op=5\/op=6\/op=12\/op=13\/op=21
 ·rcases h with rfl|rfl|rfl|rfl|rfl
  all_goals
   go_enter Tryd.func64,Tryd.ntmps64
   go_wp2
   go_ret2
   exact⟨rfl,rfl⟩
 ·have b5:(op==5)=M:=by simp;omega
  have b6:(op==6)=M:=by simp;omega
  have b12:(op==12)=M:=by simp;omega
  have b13:(op==13)=M:=by simp;omega
  have b21:(op==21)=M:=by simp;omega
  have E:=Y (show bD op 75=0 by unfold bD;simp;omega)
  have F:=Y (show br op 75 p=4294967296 by unfold br;simp;omega)
  go_enter Tryd.func64,Tryd.ntmps64
  go_wp2
  go_ret2
  exact⟨by rw[E.out,F.out];rfl,rfl⟩
theorem mN (op c p:Int)(hc:mR c)(w:World):
 Calls Tryd.prog 52 #[O Z op,O .u8 c,O Z p] w fun e w'=>e=.returned (.tuple #[O Z (bD op c),O Z (br op c p)])/\w=w':=by
 rcases hc with rfl|rfl|rfl|rfl|rfl|rfl|rfl
 rotate_right
 ·by_cases h:op=21
  ·subst h
   by_cases hp:p<0
   ·have E:=Y (show br 21 80 p=0 by unfold br;simp[hp])
    have hq:¬ (0:Int)<=p:=by omega
    go_enter Tryd.func52,Tryd.ntmps52
    go_wp2
    go_ret2
    exact⟨by rw[E.out];first | rfl | (rw[Int.max_eq_right (show p<=0 by omega)];rfl),rfl⟩
   ·have E:=Y (show br 21 80 p=p by unfold br;simp;omega)
    have hq:(0:Int)<=p:=by omega
    go_enter Tryd.func52,Tryd.ntmps52
    go_wp2
    go_ret2
    exact⟨by rw[E.out];first | rfl | (rw[Int.max_eq_left (show 0<=p by omega)];rfl),rfl⟩
  ·have b21:(op==21)=M:=by simpa using h
   have E:=Y (show br op 80 p=p by unfold br;simp[h])
   have F:=Y (show bD op 80=0 by unfold bD;simp[h])
   go_enter Tryd.func52,Tryd.ntmps52
   go_wp2
   go_ret2
   exact⟨by rw[E.out,F.out];rfl,rfl⟩
 rotate_right
 ·have H:=Y (lI op p w)
  go_enter Tryd.func52,Tryd.ntmps52
  go_wp2_with fail
  refine H.out.mono ?_
  rintro e w' ⟨rfl,rfl⟩
  go_wp2
  go_ret2
  exact⟨rfl,rfl⟩
 all_goals
  go_enter Tryd.func52,Tryd.ntmps52
  go_wp2
  go_ret2
  exact⟨rfl,rfl⟩
theorem oz (i:ay)(c:Int)(hc:mR c)(k0:0<=i.k)(k1:i.k<4294967296)(w:World):
 Calls Tryd.prog 53 #[iv i,O .u8 c] w fun e w'=>e=.returned (O Z (au i c))/\Below w.heap.size w w':=by
 obtain⟨op,d,s,t,u,a,k,pl⟩:=i
 simp only at k0 k1
 unfold iv
 rcases hc with rfl|rfl|rfl|rfl|rfl|rfl|rfl
 all_goals
  go_enter Tryd.func53,Tryd.ntmps53
  go_wp2
  go_ret
  exact⟨rfl,(zc _ _).alloc (ze _) _⟩
theorem oy (i:ay)(c v:Int)(hc:mR c)(w:World):
 Calls Tryd.prog 41 #[iv i,O .u8 c,O Z v] w fun e w'=>e=.returned (iv (aO i c v))/\Below w.heap.size w w':=by
 obtain⟨op,d,s,t,u,a,k,pl⟩:=i
 unfold iv
 rcases hc with rfl|rfl|rfl|rfl|rfl|rfl|rfl
 ·go_enter Tryd.func41,Tryd.ntmps41
  go_wp2
  refine bodyPost_ret (v:=.agg #[O Z op,O Z v,O Z s,O Z t,O Z u,O Z a,O V k,O Z pl]) (by simp[results,Tryd.results41,go_sem]) rfl ⟨rfl,?_⟩
  exact((zc _ _).alloc (ze _) _).alloc (by simp) _
 ·go_enter Tryd.func41,Tryd.ntmps41
  go_wp2
  refine bodyPost_ret (v:=.agg #[O Z op,O Z d,O Z v,O Z t,O Z u,O Z a,O V k,O Z pl]) (by simp[results,Tryd.results41,go_sem]) rfl ⟨rfl,?_⟩
  exact((zc _ _).alloc (ze _) _).alloc (by simp) _
 ·go_enter Tryd.func41,Tryd.ntmps41
  go_wp2
  refine bodyPost_ret (v:=.agg #[O Z op,O Z d,O Z s,O Z v,O Z u,O Z a,O V k,O Z pl]) (by simp[results,Tryd.results41,go_sem]) rfl ⟨rfl,?_⟩
  exact((zc _ _).alloc (ze _) _).alloc (by simp) _
 ·go_enter Tryd.func41,Tryd.ntmps41
  go_wp2
  refine bodyPost_ret (v:=.agg #[O Z op,O Z d,O Z s,O Z t,O Z v,O Z a,O V k,O Z pl]) (by simp[results,Tryd.results41,go_sem]) rfl ⟨rfl,?_⟩
  exact((zc _ _).alloc (ze _) _).alloc (by simp) _
 ·go_enter Tryd.func41,Tryd.ntmps41
  go_wp2
  refine bodyPost_ret (v:=.agg #[O Z op,O Z d,O Z s,O Z t,O Z u,O Z v,O V k,O Z pl]) (by simp[results,Tryd.results41,go_sem]) rfl ⟨rfl,?_⟩
  exact((zc _ _).alloc (ze _) _).alloc (by simp) _
 ·go_enter Tryd.func41,Tryd.ntmps41
  go_wp2
  refine bodyPost_ret (v:=.agg #[O Z op,O Z d,O Z s,O Z t,O Z u,O Z a,O V (v % 4294967296),O Z pl]) (by simp[results,Tryd.results41,go_sem]) rfl ⟨rfl,?_⟩
  exact((zc _ _).alloc (ze _) _).alloc (by simp) _
 ·go_enter Tryd.func41,Tryd.ntmps41
  go_wp2
  refine bodyPost_ret (v:=.agg #[O Z op,O Z d,O Z s,O Z t,O Z u,O Z a,O V k,O Z v]) (by simp[results,Tryd.results41,go_sem]) rfl ⟨rfl,?_⟩
  exact((zc _ _).alloc (ze _) _).alloc (by simp) _
end
section
def kK (l:List En)(t:Int):Int:=l.foldl (fun k x=>if x.th=t then x.kind else k) 0
def oO (l:List En)(i:Nat):Option Int:=match l[i]? with
 | some x=>if x.kind=2/\kK l x.th=2/\kK (l.drop (i+1)) x.th=0 then G x.th else U
 | none=>U
def nb (l:List En):List Int:=(List.range l.length).filterMap (oO l)
def oJ (k:Int):Bool:=decide (k=3\/k=5\/k=8)
def nc (l:List En):Int:=match l.reverse.find? (fun x=>oJ (kK l x.th)) with
 | some x=>x.th
 | none=>-1
def nO (l:List En)(x:En):Prop:=0<=x.now/\match l.getLast? with
 | some y=>y.now<=x.now
 | none=>True
def lV (last:Int)(q:List Int)(ow:Int)(x:En):Prop:=
 (x.kind=1/\(last=0\/last=6\/last=7\/last=10))\/((x.kind=2\/x.kind=7)/\last=1)\/(x.kind=3/\last=2/\q.head?=G x.th/\ow=-1)\/(x.kind=4/\last=2)\/
 (x.kind=5/\last=3)\/(x.kind=6/\last=4)\/(x.kind=8/\last=5)\/(x.kind=9/\last=8)\/(x.kind=10/\last=9)
instance (last:Int) (q:List Int) (ow:Int) (x:En):Decidable (lV last q ow x):=by unfold lV;infer_instance
instance (l:List En) (x:En):Decidable (nO l x):=by
 unfold nO
 cases l.getLast? <;> infer_instance
def m4 (n:Int)(l:List En)(x:En):Prop:=0<=x.th/\x.th<n/\nO l x/\lV (kK l x.th) (nb l) (nc l) x
instance (n:Int) (l:List En) (x:En):Decidable (m4 n l x):=by unfold m4;infer_instance
end
section
open Go.ChangeShapes Go.WideShapes Go.ChangeAt Go.RowKit Go.Sort
structure Lb (w:World):Prop where
 tab:Lib.TabIs Tryd.prog w "internal/strconv.uint64pow10" .u64 Lib.pow10Tab
 syn:∃ tp p,w.var? Tryd.prog "strconv.ErrSyntax" = G #[.iface tp p]
 rng:∃ tp p,w.var? Tryd.prog "strconv.ErrRange" = G #[.iface tp p]
 mx:∃ m,w.cell? ⟨0,0,U⟩=G (.int .i64 m)
 low:0<w.heap.size/\5<w.heap.size/\1<w.heap.size/\2<w.heap.size
theorem Lb.below {w w':World}(h:Lb w)(hb:Below w.heap.size w w'):Lb w':=by
 obtain⟨l0,l1,l2,l3⟩:=h.low
 have hz:=hb.size
 refine⟨?_,?_,?_,?_,by omega,by omega,by omega,by omega⟩
 ·exact var?_below hb (g:=5) (by kernel_rfl) (by omega) h.tab
 ·obtain⟨tp,p,e⟩:=h.syn
  exact⟨tp,p,var?_below hb (g:=1) (by kernel_rfl) (by omega) e⟩
 ·obtain⟨tp,p,e⟩:=h.rng
  exact⟨tp,p,var?_below hb (g:=2) (by kernel_rfl) (by omega) e⟩
 ·obtain⟨m,e⟩:=h.mx
  exact⟨m,(hb.cell (p:=⟨0,0,U⟩) (by show 0<_;omega)).trans e⟩
theorem Lb.oG {w:World}(h:Lb w)(g:ij w):Lb g.x:=h.below g.ok
theorem iZ (w:World)(k:Nat)(os:Array Obj):Below w.heap.size w (grow (w.drewN k) os):=by
 refine⟨rfl,rfl,rfl,?_,fun j hj=>?_⟩
 ·show w.heap.size<=(w.heap++os).size
  simp
 ·show (w.heap++os)[j]?=w.heap[j]?
  rw[Array.getElem?_append_left hj]
theorem og (n:Int)(h0:-9223372036854775808<=n)(h1:n<=9223372036854775807)(w:World)(L:Lb w):
 Calls Tryd.prog 54 #[O Z n] w fun e w'=>e=.returned (bs (Lib.itoa n))/\Below w.heap.size w w':=
 (Any.strconv_Itoa Tryd.laysM171 n h0 h1 w L.tab).mono fun _ _ ⟨he,k,os,hw⟩=>⟨he,by rw[hw];exact iZ w k os⟩
theorem oc (s p:List UInt8)(w:World):
 Calls Tryd.prog 48 #[bs s,bs p] w fun e w'=>e=.returned (bs (Lib.trimPrefix s p))/\w=w':=
 (Any.strings_TrimPrefix Tryd.lays101 ⟨s.toArray⟩ ⟨p.toArray⟩ w).mono fun _ _ ⟨he,hw⟩=>⟨he,hw.symm⟩
theorem mp (s:List UInt8)(hl:s.length<=281474976710656)(v:Int)(h:Lib.atoiAll s=.ok v)(w:World):
 Calls Tryd.prog 47 #[bs s] w fun e w'=>e=.returned (.tuple #[O Z v,.nilIface])/\Below w.heap.size w w':=by
 have hs:(⟨s.toArray⟩:ByteArray).size=s.length:=by simp[ByteArray.size]
 refine(Any.strconv_Atoi_ok Tryd.laysC172 ⟨s.toArray⟩ (by omega) v h w).mono fun e w' ⟨he,hw⟩=>⟨he,?_⟩
 rcases hw with rfl | ⟨t,rfl⟩
 ·exact zc _ _
 ·exact Lib.bytesWorld_below _ _ _
def nM (w:World)(e:Ending)(w':World):Prop:=∃ (v:Int) (b:Nat),e=.returned (.tuple #[O Z v,.iface 116 (.pointer (G ⟨b,0,U⟩))])/\Below w.heap.size w w'
theorem mq (s:List UInt8)(hl:s.length<=281474976710656)(h:∀ v,Lib.atoiAll s≠.ok v)(w:World)(L:Lb w):
 Calls Tryd.prog 47 #[bs s] w (nM w):=by
 have hs:(⟨s.toArray⟩:ByteArray).size=s.length:=by simp[ByteArray.size]
 cases ha:Lib.atoiAll s with
 | ok v=>exact absurd ha (h v)
 | range=>
  obtain⟨tp,p,hv⟩:=L.rng
  exact(Any.strconv_Atoi_range_var Tryd.laysC172 ⟨s.toArray⟩ (by omega) ha tp p w hv).mono fun e w' ⟨N,he,_,_,hb⟩=>⟨_,N,he,hb⟩
 | _=>
  obtain⟨tp,p,hv⟩:=L.syn
  exact(Any.strconv_Atoi_syntax_var Tryd.laysC172 ⟨s.toArray⟩ (by omega) ha tp p w hv).mono fun e w' ⟨N,he,_,_,hb⟩=>⟨_,N,he,hb⟩
def bJ (s:List UInt8):List (List UInt8):=Lib.splitN s [32] 9
def kQ (w:World)(v:Value)(ws:List (List UInt8)):Prop:=
 ∃ g cap,v=.slice (G ⟨g,0,U⟩) ws.length cap/\ws.length<=cap/\cap<=1000000/\g<w.heap.size/\∀ n,n<ws.length->w.cell? ⟨g,n,U⟩=G (bs (ws.getD n []))
theorem kQ.below {w w':World}{v:Value}{ws:List (List UInt8)}(h:kQ w v ws)(hb:Below w.heap.size w w'):kQ w' v ws:=by
 obtain⟨g,cap,e,h1,h2,h3,h4⟩:=h
 exact⟨g,cap,e,h1,h2,Nat.lt_of_lt_of_le h3 hb.size,fun n hn=>(hb.cell (p:=⟨g,n,U⟩) h3).trans (h4 n hn)⟩
theorem nn (s:List UInt8)(hl:s.length<4294967281)(w:World)(L:Lb w):
 Calls Tryd.prog 35 #[bs s,bs [32],O Z 9] w fun e w'=>∃ v,e=.returned v/\kQ w' v (bJ s)/\Below w.heap.size w w':=by
 obtain⟨m,hm⟩:=L.mx
 have hs:(⟨s.toArray⟩:ByteArray).size=s.length:=by simp[ByteArray.size]
 refine(Any.strings_SplitN { Tryd.laysM147 with } Tryd.laysM147.i9 ⟨s.toArray⟩ ⟨#[32]⟩ 9 m w (by omega) hm (by decide) (by decide) (by decide)).mono fun e w' ⟨he,hw⟩=>?_
 have hdat:=Lib.splitB_data ⟨#[32]⟩ 0 (min 9 ((⟨s.toArray⟩:ByteArray).size+1)-1) ⟨s.toArray⟩
 have hle:=Lib.splitB_length_le ⟨#[32]⟩ 0 (min 9 ((⟨s.toArray⟩:ByteArray).size+1)-1) ⟨s.toArray⟩
 generalize hl2:Lib.splitB ⟨#[32]⟩ 0 (min 9 ((⟨s.toArray⟩:ByteArray).size+1)-1) ⟨s.toArray⟩=l at *
 have hlen:(bJ s).length=l.length:=by
  unfold bJ Lib.splitN
  rw[<-hs]
  have:=congrArg List.length hdat
  simpa using this.symm
 have hcap:min 9 ((⟨s.toArray⟩:ByteArray).size+1)<=9:=Nat.min_le_left _ _
 have hcap1:1<=min 9 ((⟨s.toArray⟩:ByteArray).size+1):=by omega
 subst hw
 refine⟨_,he,⟨w.heap.size,min 9 ((⟨s.toArray⟩:ByteArray).size+1),by rw[hlen],by omega,by omega,by simp,fun n hn=>?_⟩,(zc _ _).alloc (ze _) _⟩
 rw[cell_of_row _ _ _ _ _ _ (heap_alloc_new w _)]
 rw[hlen] at hn
 have h1:(Lib.cellsOf l (min 9 ((⟨s.toArray⟩:ByteArray).size+1)))[n]?=G (.string l[n]):=by
  unfold Lib.cellsOf
  rw[List.getElem?_toArray,List.getElem?_append_left (by simpa using hn),List.getElem?_map,List.getElem?_eq_getElem hn]
  rfl
 rw[h1]
 have h2:(bJ s).getD n []=l[n].data.toList:=by
  have h3:bJ s=l.map (·.data.toList):=by rw[hdat];unfold bJ Lib.splitN;rw[hs]
  rw[h3]
  simp[hn]
 rw[h2]
 rfl
end
section
open Go.ChangeShapes Go.WideShapes Go.ChangeAt Go.RowKit
def dv (c:UInt8):List (List UInt8)->List (List UInt8)
 | []=>[[c]]
 | l :: r=>(c :: l) :: r
def ab:List UInt8->List (List UInt8)
 | []=>[[]]
 | c :: r=>if c=32 then [] :: ab r else dv c (ab r)
theorem cZ:∀ s,0<(ab s).length
 | []=>by simp[ab]
 | c :: r=>by
  unfold ab
  split
  ·simp
  ·have:=cZ r
   generalize ab r=ws at *
   cases ws with
   | nil=>simp at this
   | cons a b=>simp[dv]
theorem aU:∀ t:List UInt8,(∀ c∈t,c≠32)->ab t=[t]
 | [],_=>rfl
 | c :: r,h=>by
  unfold ab
  rw[if_neg (h c List.mem_cons_self),aU r fun d hd=>h d (List.mem_cons_of_mem _ hd)]
  rfl
theorem cp:∀ (t r:List UInt8),(∀ c∈t,c≠32)->ab (t++32 :: r)=t :: ab r
 | [],r,_=>by simp[ab]
 | c :: t,r,h=>by
  have e:ab (c :: (t++32 :: r))=dv c (ab (t++32 :: r)):=by
   rw[ab,if_neg (h c List.mem_cons_self)]
  show ab (c :: (t++32 :: r))=_
  rw[e,cp t r fun d hd=>h d (List.mem_cons_of_mem _ hd)]
  rfl
theorem el:∀ s:List UInt8,(ab s).length<=s.length+1
 | []=>by simp[ab]
 | c :: r=>by
  have h:=el r
  unfold ab
  split
  ·simp;omega
  ·generalize ab r=ws at *
   cases ws with
   | nil=>simp[dv]
   | cons a b=>simp[dv] at *;omega
end
