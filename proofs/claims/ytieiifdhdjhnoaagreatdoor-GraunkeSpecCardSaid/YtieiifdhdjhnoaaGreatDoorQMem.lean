import Derived.Test.YtieiifdhdjhnoaaGreatDoorRows
import Derived.Handy
import Derived.IntWalk
import Derived.Below
import Derived.OneCell
import Derived.OwnWalk
import Derived.Lib.Hide
import Derived.Laws.OwnMore
import Derived.Laws.Rows
import Derived.Laws.LoneSync
import Derived.Deep.Draws
import Derived.Lib.ItoaNum
import Derived.Lib.AtoiAll
import Derived.Lib.Strings
import Derived.Maps.AppendAt
import Derived.Deep.RegionLawGrows
import Derived.Maps.OwnSet
import Derived.RangeFuncNested
import Derived.RangeFuncBound
import Derived.RangeFuncCalls
import Derived.RangeFuncLeaves
import Derived.Shelf.Abstract
import Derived.Shelf.RegionOpen
import Derived.WalkKit
import Derived.OwnWalkIn
import Derived.TacticsInMore
import Derived.LoopNIn
import Derived.LoopIn
import Derived.Orders
import Derived.StillTail
import Derived.BigQuiet
import Derived.Deep.WholeRow
import Derived.Laws.Tables
import Derived.ProofKit
import Derived.OpenShut
import Derived.Deep.Fields
import Derived.Deep.Slices
import Derived.ChangeSame
set_option linter.unusedVariables false
open Go.Value renaming int->O,slice->G
open Option renaming none->Z,some->V
open Bool renaming false->R,true->U
open Go.RowKit.Below renaming refl->L
open Nat renaming le_refl->M
open Go renaming undef->X
namespace Go.Proofs.YtieiifdhdjhnoaaGreatDoor
section
open Go.ChangeShapes Go.WideShapes Go.ChangeAt Go.RowKit
theorem cr {k:IntKind}{a b:Int}(h:a=b):Ending.returned (.int k a)=.returned (.int k b):=by rw[h]
theorem bq {a b:Bool}(h:a=b):Ending.returned (.bool a)=.returned (.bool b):=by rw[h]
def Bk (w:World)(g:Nat)(t:TypeId)(cs:Array Value):Prop:=w.heap[g]?=V (.cells cs t (0,0))
section
variable {w w':World}{g:Nat}{t:TypeId}{cs:Array Value}
theorem Bk.lt (h:Bk w g t cs):g<w.heap.size:=(Array.getElem?_eq_some_iff.1 h).1
theorem Bk.cell (h:Bk w g t cs)(i:Nat):w.cell? ⟨g,i,Z⟩=cs[i]?:=cell_of_row w g i cs t (0,0) h
theorem Bk.D2 {w:World}{b t:Nat}{a0 a1:Value}{l:List Value}(h:Bk w b t (a0::a1::l).toArray):w.cell? ⟨b,0,Z⟩=V a0/\w.cell? ⟨b,1,Z⟩=V a1:=⟨h.cell 0,h.cell 1⟩
theorem Bk.iS {w:World}{b t:Nat}{a0 a1 a2:Value}{l:List Value}(h:Bk w b t (a0::a1::a2::l).toArray):w.cell? ⟨b,0,Z⟩=V a0/\w.cell? ⟨b,1,Z⟩=V a1/\w.cell? ⟨b,2,Z⟩=V a2:=⟨h.cell 0,h.cell 1,h.cell 2⟩
theorem Bk.pd {w:World}{b t:Nat}{a0 a1 a2 a3 a4 a5:Value}{l:List Value}(h:Bk w b t (a0::a1::a2::a3::a4::a5::l).toArray):w.cell? ⟨b,0,Z⟩=V a0/\w.cell? ⟨b,1,Z⟩=V a1/\w.cell? ⟨b,2,Z⟩=V a2/\w.cell? ⟨b,3,Z⟩=V a3/\w.cell? ⟨b,4,Z⟩=V a4/\w.cell? ⟨b,5,Z⟩=V a5:=⟨h.cell 0,h.cell 1,h.cell 2,h.cell 3,h.cell 4,h.cell 5⟩
theorem Bk.lZ {w:World}{b t:Nat}{a0 a1 a2 a3 a4 a5 a6:Value}{l:List Value}(h:Bk w b t (a0::a1::a2::a3::a4::a5::a6::l).toArray):w.cell? ⟨b,0,Z⟩=V a0/\w.cell? ⟨b,1,Z⟩=V a1/\w.cell? ⟨b,2,Z⟩=V a2/\w.cell? ⟨b,3,Z⟩=V a3/\w.cell? ⟨b,4,Z⟩=V a4/\w.cell? ⟨b,5,Z⟩=V a5/\w.cell? ⟨b,6,Z⟩=V a6:=⟨h.cell 0,h.cell 1,h.cell 2,h.cell 3,h.cell 4,h.cell 5,h.cell 6⟩
theorem Bk.G5 {w:World}{b t:Nat}{a0 a1 a2 a3 a4 a5 a6 a7:Value}{l:List Value}(h:Bk w b t (a0::a1::a2::a3::a4::a5::a6::a7::l).toArray):w.cell? ⟨b,0,Z⟩=V a0/\w.cell? ⟨b,1,Z⟩=V a1/\w.cell? ⟨b,2,Z⟩=V a2/\w.cell? ⟨b,3,Z⟩=V a3/\w.cell? ⟨b,4,Z⟩=V a4/\w.cell? ⟨b,5,Z⟩=V a5/\w.cell? ⟨b,6,Z⟩=V a6/\w.cell? ⟨b,7,Z⟩=V a7:=⟨h.cell 0,h.cell 1,h.cell 2,h.cell 3,h.cell 4,h.cell 5,h.cell 6,h.cell 7⟩
theorem Bk.free (h:Bk w g t cs)(i:Nat):w.frozen? ⟨g,i,Z⟩=R:=by unfold Bk at h;simp[World.frozen?,h]
theorem Bk.made (w:World)(t:TypeId)(cs:Array Value):Bk (w.alloc (.cells cs t)) w.heap.size t cs:=heap_alloc_new w _
theorem Bk.alloc (h:Bk w g t cs)(o:Obj):Bk (w.alloc o) g t cs:=(Below.heap_alloc w o g h.lt).trans h
theorem Bk.put (h:Bk w g t cs)(i:Nat)(u:Value):Bk (w.setCell ⟨g,i,Z⟩ u) g t (cs.setIfInBounds i u):=by
 unfold Bk at h ⊢;simp[World.setCell,Array.getElem?_modify,h]
theorem Bk.off (h:Bk w g t cs){p:Addr}(hp:g≠p.block)(u:Value):Bk (w.setCell p u) g t cs:=(Below.heap_setCell w p u g hp).trans h
theorem Bk.grown {row:Option Nat}(h:Bk w g t cs)(hg:w.grownBy w' row)(hne:V g≠row):Bk w' g t cs:=(hg.block g h.lt hne).trans h
theorem Bk.drewN (h:Bk w g t cs)(n:Nat):Bk (w.drewN n) g t cs:=h
theorem Bk.av {g':Nat}{t':TypeId}{cs':Array Value}(h:Bk w g t cs)(h':Bk w g' t' cs')(hne:t≠t'):g≠g':=by
 intro e;subst e;unfold Bk at h h';rw[h] at h';injection h' with h';injection h' with _ ht;exact hne ht
end
abbrev zC (a w:World) (g:Nat):Prop:=a.grownBy w (V g)
theorem ig (w:World)(g i:Nat)(u:Value):zC w (w.setCell ⟨g,i,Z⟩ u) g:=
 ⟨rfl,rfl,rfl,by simp[World.setCell],fun k _ hne=>Below.heap_setCell w _ u k (fun e=>hne (by rw[e]))⟩
theorem dY (w:World)(o:Obj)(r:Option Nat):w.grownBy (w.alloc o) r:=World.grownBy_alloc w o r
theorem gj (w:World)(r:Option Nat):w.grownBy w r:=⟨rfl,rfl,rfl,M _,fun _ _ _=>rfl⟩
theorem cF {a b c:World}{r s:Option Nat}(h:a.grownBy b r)(k:b.grownBy c s)(hs:s=r\/∀ x,s=V x->a.heap.size<=x):a.grownBy c r:=
 ⟨k.os.trans h.os,k.tape.trans h.tape,k.output.trans h.output,Nat.le_trans h.size k.size,fun i hi hne=>
  (k.block i (Nat.lt_of_lt_of_le hi h.size) (by
   rcases hs with e | e
   ·rw[e];exact hne
   ·intro e';have:=e i e'.symm;omega)).trans (h.block i hi hne)⟩
theorem aQ {a b:World}(h:a.grownBy b Z):Below a.heap.size a b:=⟨h.os,h.tape,h.output,h.size,fun i hi=>h.block i hi (by simp)⟩
theorem eR {a b:World}(h:Below a.heap.size a b):a.grownBy b Z:=⟨h.os,h.tape,h.output,h.size,fun i hi _=>h.block i hi⟩
def aD (xs:List Int)(i:Nat):Int:=xs.getD i 0
theorem kb {xs:List Int}{i:Nat}(h:i<xs.length):aD xs i=xs[i]:=by simp[aD,h]
theorem iH {xs:List Int}{i:Nat}(h:i<xs.length):xs[i]?=V (aD xs i):=by rw[kb h];exact List.getElem?_eq_getElem h
theorem iG {xs:List Int}{i j:Nat}{v:Int}(h:i<xs.length):aD (xs.set i v) j=if i=j then v else aD xs j:=by
 unfold aD;simp only[List.getD_eq_getElem?_getD,List.getElem?_set]
 by_cases e:i=j
 ·subst e;simp[h]
 ·simp[e]
def words (xs:List Int):Array Value:=(xs.map (Value.int .u32)).toArray
def gF (xs:List Int):Prop:=∀ x∈xs,0<=x/\x<4294967296
theorem jb (xs:List Int)(i:Nat)(h:i<xs.length):(words xs)[i]?=V (O .u32 (aD xs i)):=by simp[words,h,aD]
theorem jj (xs:List Int)(i:Nat)(v:Int):(words xs).setIfInBounds i (O .u32 v)=words (xs.set i v):=by
 unfold words;rw[List.setIfInBounds_toArray,List.map_set]
theorem gF.at_ {xs:List Int}(h:gF xs)(i:Nat):0<=aD xs i/\aD xs i<4294967296:=by
 unfold aD
 by_cases hi:i<xs.length
 ·simp only[List.getD_eq_getElem?_getD,List.getElem?_eq_getElem hi,Option.getD_some];exact h _ (List.getElem_mem hi)
 ·simp[List.getD_eq_getElem?_getD,List.getElem?_eq_none (Nat.le_of_not_lt hi)]
theorem gF.set {xs:List Int}(h:gF xs)(i:Nat)(v:Int)(hv:0<=v/\v<4294967296):gF (xs.set i v):=by
 intro x hx
 rcases List.mem_or_eq_of_mem_set hx with hx | rfl
 ·exact h x hx
 ·exact hv
theorem gF.iL (n:Nat):gF (List.replicate n 0):=by
 intro x hx;rw[List.eq_of_mem_replicate hx];omega
theorem nr (n:Nat):madeCells #[O .u32 0] n=words (List.replicate n 0):=by
 apply Array.ext
 ·simp[madeCells,words]
 ·intro i h1 h2;simp[madeCells,words,Nat.mod_one]
def dQ (k:IntKind)(w:World)(a:Option Addr)(xs:List Int):Prop:=
 0<xs.length->∃ b off,a=V ⟨b,off,Z⟩/\b<w.heap.size/\∀ i,i<xs.length->w.cell? ⟨b,off+i,Z⟩=V (.int k (aD xs i))
theorem dQ.at_ {k:IntKind}{w:World}{a:Option Addr}{xs:List Int}(h:dQ k w a xs){i:Nat}(hi:i<xs.length){wr:World}(hb:Below w.heap.size w wr):
 ∃ b off,a=V ⟨b,off,Z⟩/\wr.cell? ⟨b,off+i,Z⟩=V (.int k (aD xs i)):=by
 obtain⟨b,off,e,hlt,hc⟩:=h (by omega)
 exact⟨b,off,e,(hb.cell (p:=⟨b,off+i,Z⟩) hlt).trans (hc i hi)⟩
theorem B3:(Tryz.prog.info? 70).map (fun i=>(i.zero,i.size,i.bytes))=V (V (O .u32 0),1,4):=by kernel_rfl
end
section
structure aU where
 op:Int
 d:Int
 s:Int
 t:Int
 u:Int
 a:Int
 k:Int
 pl:Int
def aU.zero:aU:=⟨0,0,0,0,0,0,0,0⟩
structure aU.Wf (i:aU):Prop where
 op0:-9223372036854775808<=i.op
 op1:i.op<=9223372036854775807
 d0:-9223372036854775808<=i.d
 d1:i.d<=9223372036854775807
 s0:-9223372036854775808<=i.s
 s1:i.s<=9223372036854775807
 t0:-9223372036854775808<=i.t
 t1:i.t<=9223372036854775807
 u0:-9223372036854775808<=i.u
 u1:i.u<=9223372036854775807
 a0:-9223372036854775808<=i.a
 a1:i.a<=9223372036854775807
 k0:0<=i.k
 k1:i.k<4294967296
 to0:-9223372036854775808<=i.pl
 to1:i.pl<=9223372036854775807
def bE (op:Int):List UInt8:=
 if op=1 then [99,111,110,115,116]
 else if op=2 then [109,111,118,101]
 else if op=3 then [97,100,100,107]
 else if op=4 then [97,110,100,107]
 else if op=5 then [115,104,108]
 else if op=6 then [115,104,114]
 else if op=7 then [111,114]
 else if op=8 then [98,101,113]
 else if op=9 then [98,110,101]
 else if op=10 then [106,117,109,112]
 else if op=11 then [115,101,108,102]
 else if op=12 then [109,97,114,107]
 else if op=13 then [100,111,110,101]
 else if op=16 then [108,111,97,100]
 else if op=17 then [115,116,111,114,101]
 else if op=18 then [115,119,97,112]
 else if op=19 then [99,97,115]
 else if op=20 then [102,97,100,100]
 else if op=21 then [97,119,97,105,116]
 else if op=22 then [116,97,107,101]
 else if op=23 then [102,114,101,101]
 else []
def cP (op:Int):List UInt8:=
 if op=1 then [68,75]
 else if op=2 then [68,83]
 else if op=3 then [68,83,75]
 else if op=4 then [68,83,75]
 else if op=5 then [68,83,75]
 else if op=6 then [68,83,75]
 else if op=7 then [68,83,84]
 else if op=8 then [83,84,80]
 else if op=9 then [83,84,80]
 else if op=10 then [80]
 else if op=11 then [68]
 else if op=12 then [75]
 else if op=13 then [75]
 else if op=16 then [68,65,83]
 else if op=17 then [65,83,84]
 else if op=18 then [68,65,83,84]
 else if op=19 then [68,65,83,84,85]
 else if op=20 then [68,65,83,75]
 else if op=21 then [68,65,83,75,84,80]
 else if op=22 then [68]
 else if op=23 then [83]
 else []
theorem cw (op:Int):op=1\/op=2\/op=3\/op=4\/op=5\/op=6\/op=7\/op=8\/op=9\/op=10\/op=11\/op=12\/op=13\/op=16\/op=17\/op=18\/op=19\/op=20\/op=21\/op=22\/op=23\/
 (op≠1/\op≠2/\op≠3/\op≠4/\op≠5/\op≠6/\op≠7/\op≠8/\op≠9/\op≠10/\op≠11/\op≠12/\op≠13/\op≠16/\op≠17/\op≠18/\op≠19/\op≠20/\op≠21/\op≠22/\op≠23):=by omega
def aW (i:aU)(c:Int):Int:=
 if c=68 then i.d else if c=83 then i.s else if c=84 then i.t else if c=85 then i.u else if c=65 then i.a else if c=75 then i.k else i.pl
def cO (i:aU)(c v:Int):aU:=
 if c=68 then { i with d:=v } else if c=83 then { i with s:=v } else if c=84 then { i with t:=v } else if c=85 then { i with u:=v }
 else if c=65 then { i with a:=v } else if c=75 then { i with k:=v % 4294967296 } else if c=80 then { i with pl:=v } else i
def fb (op c:Int):Int:=
 if c=65 then 0 else if c=75 then (if op=12 then 1 else 0) else if c=80 then (if op=21 then -1 else 0) else 0
def eC (op c p:Int):Int:=
 if c=65 then 8
 else if c=75 then (if op=5 then 32 else if op=6 then 32 else if op=12 then 5 else if op=13 then 4 else if op=21 then 2 else 4294967296)
 else if c=80 then (if op=21 then (if p<0 then 0 else p) else p) else 8
def ql (i:aU)(p:Int)(c:Int):Bool:=decide (fb i.op c<=aW i c) && decide (aW i c<eC i.op c p)
def qm (i:aU)(l:List UInt8):aU:=l.foldl (fun x c=>cO x c.toNat 0) { i with op:=0 }
def sF (i:aU):Bool:=decide (i.op=0/\i.d=0/\i.s=0/\i.t=0/\i.u=0/\i.a=0/\i.k=0/\i.pl=0)
def au (i:aU)(p:Int):Bool:=!(cP i.op).isEmpty && ((cP i.op).all (fun c=>ql i p c.toNat) && sF (qm i (cP i.op)))
def aN (i:aU)(c:Int):List UInt8:=
 if c=65 then 32 :: Lib.itoa i.a
 else if c=75 then (if i.op=21 then (if i.k=0 then [32,101,113] else [32,110,101]) else 32 :: Lib.itoa i.k)
 else if c=80 then (if i.op=21 then (if i.pl=-1 then [] else [32,101,108,115,101,32]++Lib.itoa i.pl) else 32 :: Lib.itoa i.pl)
 else [32,114]++Lib.itoa (aW i c)
def az (i:aU)(l:List UInt8):List UInt8:=l.flatMap fun c=>aN i c.toNat
def ah (i:aU):List UInt8:=bE i.op++az i (cP i.op)
def lq (w:List UInt8):Int:=
 if w=[101,113] then 0 else if w=[110,101] then 1
 else match Lib.atoiAll (Lib.trimPrefix w [114]) with
  | .ok v=>v
  | _=>-1
def bZ (ws:List (List UInt8))(n:Nat):Int:=if n<ws.length then lq (ws.getD n []) else -1
def gE (w:List UInt8):Nat->Int->Int
 | 0,_=>0
 | n+1,k=>if (cP k).isEmpty=R/\bE k=w then k else gE w n (k+1)
def oJ (w:List UInt8):Int:=gE w 23 1
def cf (ws:List (List UInt8)):List UInt8->Nat->aU->aU
 | [],_,i=>i
 | c :: l,n,i=>cf ws l (n+1) (cO i c.toNat (bZ ws (n+1)))
def dr (ws:List (List UInt8))(i:aU):aU:=if i.op=21 then { i with pl:=bZ ws 7 } else i
def bY (ws:List (List UInt8)):aU:=
 dr ws (cf ws (cP (oJ (ws.getD 0 []))) 0 { aU.zero with op:=oJ (ws.getD 0 []) })
def Dy (c:Int):Prop:=c=68\/c=83\/c=84\/c=85\/c=65\/c=75\/c=80
def Ff (c:UInt8):Bool:=c==68 || c==83 || c==84 || c==85 || c==65 || c==75 || c==80
theorem dB {op:Int}(h:op≠1/\op≠2/\op≠3/\op≠4/\op≠5/\op≠6/\op≠7/\op≠8/\op≠9/\op≠10/\op≠11/\op≠12/\op≠13/\op≠16/\op≠17/\op≠18/\op≠19/\op≠20/\op≠21/\op≠22/\op≠23):cP op=[]/\bE op=[]:=by
 unfold cP bE;simp[h]
theorem EU (op:Int):(cP op).all Ff=U:=by
 rcases cw op with rfl|rfl|rfl|rfl|rfl|rfl|rfl|rfl|rfl|rfl|rfl|rfl|rfl|rfl|rfl|rfl|rfl|rfl|rfl|rfl|rfl | hn
 all_goals first | rfl | (rw[(dB hn).1];rfl)
theorem ED {c:UInt8}(h:Ff c=U):Dy c.toNat:=by
 unfold Ff at h
 simp at h
 unfold Dy
 rcases h with ((((((rfl|rfl) | rfl) | rfl) | rfl) | rfl) | rfl) <;> decide
theorem vL (op:Int):∀ c∈cP op,Dy c.toNat:=fun c hc=>ED (List.all_eq_true.1 (EU op) c hc)
theorem vM (op:Int):(cP op).length<=6:=by
 rcases cw op with rfl|rfl|rfl|rfl|rfl|rfl|rfl|rfl|rfl|rfl|rfl|rfl|rfl|rfl|rfl|rfl|rfl|rfl|rfl|rfl|rfl | hn
 all_goals first | decide | (rw[(dB hn).1];decide)
def dg (i j:aU):Bool:=i.op==j.op && (i.d==j.d && (i.s==j.s && (i.t==j.t && (i.u==j.u && (i.a==j.a && (i.k==j.k && i.pl==j.pl))))))
theorem Di (i j:aU):dg i j=U↔i=j:=by
 obtain⟨a1,a2,a3,a4,a5,a6,a7,a8⟩:=i
 obtain⟨b1,b2,b3,b4,b5,b6,b7,b8⟩:=j
 simp[dg]
theorem ET (i:aU):sF i=dg i aU.zero:=by
 rw[Bool.eq_iff_iff]
 simp[sF,dg,aU.zero]
end
section
open Go.ChangeShapes Go.WideShapes Go.ChangeAt Go.RowKit
structure ag (w w':World)(S:Nat->Prop):Prop where
 os:w'.os=w.os
 tape:w'.tape=w.tape
 output:w'.output=w.output
 size:w.heap.size<=w'.heap.size
 block:∀ i,i<w.heap.size->¬ S i->w'.heap[i]?=w.heap[i]?
section
variable {w w' w'':World}{S S':Nat->Prop}
theorem ag.refl (w:World)(S:Nat->Prop):ag w w S:=⟨rfl,rfl,rfl,M _,fun _ _ _=>rfl⟩
theorem ag.aJ (h:ag w w' S)(k:ag w' w'' S')(hs:∀ i,S' i->S i\/w.heap.size<=i):ag w w'' S:=
 ⟨k.os.trans h.os,k.tape.trans h.tape,k.output.trans h.output,Nat.le_trans h.size k.size,fun i hi hn=>
  (k.block i (Nat.lt_of_lt_of_le hi h.size) (fun e=>by
   rcases hs i e with e | e
   ·exact hn e
   ·omega)).trans (h.block i hi hn)⟩
theorem ag.wide (h:ag w w' S)(hs:∀ i,S i->i<w.heap.size->S' i):ag w w' S':=⟨h.os,h.tape,h.output,h.size,fun i hi hn=>h.block i hi (fun e=>hn (hs i e hi))⟩
theorem ag.aT {r:Option Nat}(h:w.grownBy w' r)(hs:∀ i,r=V i->S i\/w.heap.size<=i):ag w w' S:=
 ⟨h.os,h.tape,h.output,h.size,fun i hi hn=>h.block i hi (fun e=>by
  rcases hs i e.symm with e | e
  ·exact hn e
  ·omega)⟩
theorem ag.kr (h:ag w w' S)(n:Nat):ag w (w'.drewN n) S:=⟨h.os,h.tape,h.output,h.size,h.block⟩
theorem ag.alloc (h:ag w w' S)(o:Obj):ag w (w'.alloc o) S:=h.aJ (.aT (S:=fun _=>False) (dY _ _ Z) (by simp)) (by simp)
theorem ag.put (h:ag w w' S)(g i:Nat)(u:Value)(hs:S g\/w.heap.size<=g):ag w (w'.setCell ⟨g,i,Z⟩ u) S:=
 h.aJ (.aT (S:=fun j=>j=g) (ig _ _ _ _) (by simp)) (by rintro i rfl;exact hs)
theorem ag.grown (h:ag w w' S)(hs:∀ i,S i->w.heap.size<=i):w.grownBy w' Z:=⟨h.os,h.tape,h.output,h.size,fun i hi _=>h.block i hi (fun e=>by have:=hs i e;omega)⟩
theorem ag.below (h:ag w w' S)(hs:∀ i,S i->w.heap.size<=i):Below w.heap.size w w':=aQ (h.grown hs)
theorem Bk.within {g:Nat}{t:TypeId}{cs:Array Value}(h:Bk w g t cs)(k:ag w w' S)(hn:¬ S g):Bk w' g t cs:=(k.block g h.lt hn).trans h
end
theorem fI {w:World}{b i:Nat}{u:Value}{c j:Nat}(h:c≠b):(w.setCell ⟨b,i,Z⟩ u).cell? ⟨c,j,Z⟩=w.cell? ⟨c,j,Z⟩:=
 World.cell?_of_block (Below.heap_setCell w ⟨b,i,Z⟩ u c h)
def qi {α:Type}(z:α)(xs:List α)(i:Nat):α:=xs.getD i z
section
variable {α:Type}{z:α}
theorem sY {xs:List α}{i j:Nat}{v:α}(h:i<xs.length):qi z (xs.set i v) j=if i=j then v else qi z xs j:=by
 unfold qi;simp only[List.getD_eq_getElem?_getD,List.getElem?_set]
 by_cases e:i=j
 ·subst e;simp[h]
 ·simp[e]
theorem mL {xs ys:List α}{i:Nat}(h:i<xs.length):qi z (xs++ys) i=qi z xs i:=by simp[qi,List.getD_eq_getElem?_getD,List.getElem?_append,h]
theorem mM {xs:List α}{v:α}:qi z (xs++[v]) xs.length=v:=by simp[qi]
def zl (C:α->Value)(xs:List α):Array Value:=(xs.map C).toArray
theorem px (C:α->Value)(xs:List α)(i:Nat)(v:α):(zl C xs).setIfInBounds i (C v)=zl C (xs.set i v):=by
 unfold zl;rw[List.setIfInBounds_toArray,List.map_set]
end
section
variable {P:Program}{w w':World}{base:Nat}{t:TypeId}{size:Nat}{v:Value}{n:Nat}{xs:List Value}
theorem aY (h:w.ownsRow base t size v n xs){g:Nat}(e:v.ownBlock=V g):∃ cs,Bk w g t cs:=by
 rcases h.2 with ⟨rfl,_⟩ | ⟨g',cap,cur,rfl,_,hg,_⟩
 ·cases e
 ·simp only[Value.ownBlock,Option.some.injEq] at e;subst e;exact⟨cur,hg⟩
theorem ar {S:Nat->Prop}(h:w.ownsRow base t size v n xs)(hk:ag w w' S)(hn:∀ g,v.ownBlock=V g->¬ S g):w'.ownsRow base t size v n xs:=by
 rcases h.2 with ⟨rfl,h0⟩ | ⟨g,cap,cur,rfl,hb,hg,r⟩
 ·exact⟨h.1,.inl ⟨rfl,h0⟩⟩
 ·exact⟨h.1,.inr ⟨g,cap,cur,rfl,hb,(hk.block g (Array.getElem?_eq_some_iff.1 hg).1 (hn g rfl)).trans hg,r⟩⟩
theorem aX (h:w.ownsRow base t size v n xs):∃ a cap,v=G a n cap/\n<=cap/\cap<=maxLen/\(0<n->∃ g,a=V ⟨g,0,Z⟩/\v.ownBlock=V g/\base<=g/\g<w.heap.size/\(∀ i,w.frozen? ⟨g,i,Z⟩=R)/\∀ i,i<n*size->w.cell? ⟨g,i,Z⟩=xs[i]?):=by
 rcases h.2 with ⟨rfl,h0⟩ | ⟨g,cap,cur,rfl,hb,hg,hnc,hcm,r⟩
 ·exact⟨Z,0,by rw[h0],by omega,by simp,fun h=>by omega⟩
 ·exact⟨V ⟨g,0,Z⟩,cap,rfl,hnc,hcm,fun _=>⟨g,rfl,rfl,hb,(Array.getElem?_eq_some_iff.1 hg).1,fun i=>Bk.free (cs:=cur) (t:=t) hg i,fun i hi=>World.ownsRow.cellAt h i hi⟩⟩
end
section
variable {P:Program}{ops:Array Oper}{rest:List Oper}{o:Oper}{a:Act}{w:World}{K:Act->World->Prop}{Q:Exit->Act->World->Prop}{E:Prop}{base:Nat}{t:TypeId}{size:Nat}{v:Value}{n:Nat}{xs:List Value}
theorem kv (hgd:o.guard=Z)(s x:Operand)(ts:TypeId)(ho:o.op=Op.call { callee:=Callee.builtin Builtin.append,args:=#[s,x],argTypes:=#[ts,ts] })
 (z:Value) (bytes:Nat) (ht:P.underlying ts=V (.slice t)) (hi:(P.info? t).map (fun i=>(i.zero,i.size,i.bytes))=V (V z,size,bytes)) (hz:z.cells.size=size) (hsz:0<size) (hby:bytes<=200)
 (h:w.ownsRow base t size v n xs) (hs:a.eval s=v) (news:List Value) (hnl:news.length=size) (hone:∀ u∈news,u.oneCell'=U) (B:Nat) (hx:a.eval x=G (V ⟨B,0,Z⟩) 1 1)
 (hB:∀ j u,news[j]?=V u->w.cell? ((⟨B,0,Z⟩:Addr).add j)=V u) (hl:n<100000) (hbase:base<=w.heap.size)
 (hK:∀ v' w',w'.ownsRow base t size v' (n+1) (xs++news)->w.grownBy w' v.ownBlock->(v'.ownBlock=v.ownBlock\/v'.ownBlock=V w.heap.size)->K (a.put o.dst v') w'):
 if Region.wanted o (yielded ops a.tmps)=U then Oper.wp P o a w K Q else E:=by
 obtain⟨i0,hi0,hz0,hz1,hz2⟩:=info_parts hi
 have hw:Region.wanted o (yielded ops a.tmps)=U:=by simp[Region.wanted,hgd]
 rw[if_pos hw]
 obtain⟨v',w',hr,h2,h3,h4,h5⟩:=run_append_own_at (P:=P) w base ts o.type t i0 z size bytes ht hi0 hz0 hz1 hz2 hz hsz v n xs h ⟨B,0,Z⟩ 1 1 news (by omega) hB hone (by simp only[maxLen];omega)
  (by
   have:(n+1)*bytes<=100001*200:=Nat.mul_le_mul (by omega) hby
   omega) hbase
 unfold Oper.wp
 simp[execOp,ho,resolve,invoke,builtin,hs,hx,hr,Result.andThen]
 exact hK v' w' h2 h3 h5
theorem tV (hgd:o.guard=Z)(s x:Operand)(ts:TypeId)(ho:o.op=Op.call { callee:=Callee.builtin Builtin.append,args:=#[s,x],argTypes:=#[ts,ts] })
 (z:Value) (bytes:Nat) (ht:P.underlying ts=V (.slice t)) (hi:(P.info? t).map (fun i=>(i.zero,i.size,i.bytes))=V (V z,size,bytes)) (hz:z.cells.size=size) (hsz:0<size) (hby:bytes<=200)
 (h:w.ownsRow base t size v n xs) (hs:a.eval s=v) (news:List Value) (hnl:news.length=size) (hone:∀ u∈news,u.oneCell'=U) (B:Nat) (hx:a.eval x=G (V ⟨B,0,Z⟩) 1 1)
 (hB:∀ j u,news[j]?=V u->w.cell? ((⟨B,0,Z⟩:Addr).add j)=V u) (hl:n<100000) (hbase:base<=w.heap.size)
 (hK:∀ v' w',w'.ownsRow base t size v' (n+1) (xs++news)->w.grownBy w' v.ownBlock->(v'.ownBlock=v.ownBlock\/v'.ownBlock=V w.heap.size)->wpList P ops Q rest (a.put o.dst v') w'):
 wpList P ops Q (o :: rest) a w:=by
 obtain⟨i0,hi0,hz0,hz1,hz2⟩:=info_parts hi
 refine wpList_append_own_at _ hgd s x ts ho base t i0 _ size bytes ht hi0 hz0 hz1 hz2 hz hsz v n xs hs h ⟨B,0,Z⟩ 1 1 news hx (by omega) hB hone (by simp only[maxLen];omega)
  (by
   have:(n+1)*bytes<=100001*200:=Nat.mul_le_mul (by omega) hby
   omega) hbase fun v' w' h2 h3 _ h5=>hK v' w' h2 h3 h5
end
theorem fB {w:World}{B:Nat}{t:TypeId}{cs:Array Value}(h:Bk w B t cs):∀ (j:Nat) (u:Value),cs.toList[j]?=V u->w.cell? ((⟨B,0,Z⟩:Addr).add j)=V u:=by
 intro j u hj
 have ea:(⟨B,0,Z⟩:Addr).add j=⟨B,j,Z⟩:=by unfold Addr.add;split <;> simp_all
 rw[ea,h.cell j]
 simpa using hj
end
section
open Go.ChangeShapes Go.WideShapes Go.ChangeAt Go.RowKit Go.Maps
theorem Bo:Keyed Tryz.prog 9:=string_keyed Tryz.underlying9
theorem Gm (s:List UInt8)(hs:s.length<=1000000):keyOf Tryz.prog 9 (.string ⟨s.toArray⟩)=V (.string s):=by
 have h:(⟨s.toArray⟩:ByteArray).size<=maxLen:=by show s.toArray.size<=_;simp[maxLen];omega
 simp[keyOf,mapKey,Tryz.underlying9,h]
theorem BZ (w:World):(zeroValue 3).run Tryz.prog w=.ok (O .i64 0) w:=by kernel_rfl
theorem Bp (s:List UInt8):WideAt.IsKeyLit (.string s):=by trivial
theorem wo {x y:List UInt8}(h:y≠x):(Lit.string y)≠.string x:=fun e=>h (by injection e)
theorem GM {x:Int}(h0:0<=x)(h1:x<1000000):(Lit.int .i64 x).wf=U:=by
 simp[Lit.wf,IntKind.min,IntKind.max,IntKind.bits,IntKind.signed];omega
def fK (ls:List (List UInt8×Int))(s:List UInt8):Bool:=ls.any fun x=>x.1==s
def eB (ls:List (List UInt8×Int))(s:List UInt8):Int:=match ls.find? fun x=>x.1==s with
 | some x=>x.2
 | none=>0
theorem pL (ls:List (List UInt8×Int))(s t:List UInt8)(p:Int):fK (ls++[(t,p)]) s=(fK ls s || (t==s)):=by simp[fK]
theorem uN {ls:List (List UInt8×Int)}{s:List UInt8}(h:fK ls s=R):ls.find? (fun x=>x.1==s)=Z:=by
 rw[List.find?_eq_none]
 intro x hx
 unfold fK at h
 rw[List.any_eq_false] at h
 exact h x hx
theorem mr {ls:List (List UInt8×Int)}{s:List UInt8}(h:fK ls s=R)(p:Int):eB (ls++[(s,p)]) s=p:=by
 unfold eB
 rw[List.find?_append,uN h]
 simp
theorem lw {ls:List (List UInt8×Int)}{s t:List UInt8}(h:s≠t)(p:Int):eB (ls++[(t,p)]) s=eB ls s:=by
 have h2:(t==s)=R:=by simpa using fun e=>h e.symm
 unfold eB
 rw[List.find?_append]
 simp[h2]
def iF (w:World)(b:Nat)(ls:List (List UInt8×Int)):Prop:=
 ∃ D:DataW Unit,w.ownsMap Tryz.prog 9 (plainElem Tryz.prog 3) b ls.length D/\
  ∀ s,Maps.has D (.string s)=fK ls s/\D.atKey (.string s) (.lit (.int .i64 0))=.lit (.int .i64 (eB ls s))
section
variable {w w':World}{b:Nat}{ls:List (List UInt8×Int)}
theorem iF.lt (h:iF w b ls):b<w.heap.size:=by obtain⟨D,h,_⟩:=h;exact h.lt
theorem iF.gX {g:Nat}{t:TypeId}{cs:Array Value}(h:iF w b ls)(k:Bk w g t cs):b≠g:=by
 obtain⟨D,⟨es,clock,hb,_⟩,_⟩:=h
 intro e;subst e;unfold Bk at k;rw[hb] at k;cases k
theorem iF.same (h:iF w b ls)(k:w'.heap[b]?=w.heap[b]?):iF w' b ls:=by
 obtain⟨D,⟨es,clock,hb,r⟩,r'⟩:=h
 exact⟨D,⟨es,clock,k.trans hb,r⟩,r'⟩
theorem iF.within {S:Nat->Prop}(h:iF w b ls)(k:ag w w' S)(hn:¬ S b):iF w' b ls:=h.same (k.block b h.lt hn)
theorem iF.made (w:World):iF (w.alloc (.map #[] 0)) w.heap.size []:=
 ⟨.map [],World.ownsMap_made w _ _ _,fun _=>⟨rfl,rfl⟩⟩
theorem iF.look (h:iF w b ls)(s:List UInt8)(hs:s.length<=1000000):(Instr.lookup 132 (.map (V b)) (.string ⟨s.toArray⟩) U).run Tryz.prog w=.ok (.tuple #[.int .i64 (eB ls s),.bool (fK ls s)]) w:=by
 obtain⟨D,h,hk⟩:=h
 obtain⟨v,ps,hrun,hv⟩:=h.look_ok Bo Tryz.underlying132 (BZ w) (plainElem_int Tryz.underlying3 (by decide)) (Gm s hs)
 rw[(hk s).2] at hv
 rw[hrun,(hk s).1]
 obtain⟨c,rfl,hc,hwc⟩:=plainElem_int_inv Tryz.underlying3 hv
 simp only[Prod.mk.injEq,DataW.lit.injEq,Lit.int.injEq,true_and] at hc
 rw[hc.1]
theorem iF.add (h:iF w b ls)(hc:ls.length<1000000){s:List UInt8}{p:Int}(hs:s.length<=1000000)(h0:0<=p)(h1:p<1000000)(hk:fK ls s=R):
 ∃ w',(Instr.mapUpdate 132 (.map (V b)) (.string ⟨s.toArray⟩) (.int .i64 p)).run Tryz.prog w=.ok () w'/\iF w' b (ls++[(s,p)])/\zC w w' b:=by
 obtain⟨D,h,hh⟩:=h
 obtain⟨w',hrun,ho,hg⟩:=h.update Bo Tryz.underlying132 (by unfold maxLen;omega) (Gm s hs) (plainElem_int (H:=Unit) Tryz.underlying3 (GM h0 h1))
 refine⟨w',hrun,⟨_,by simpa using ho,fun t=>?_⟩,hg⟩
 by_cases e:t=s
 ·subst e
  rw[has_put_same h.isMap (Bp _),atKey_put_same h.isMap (Bp _),pL,mr hk]
  simp
 ·rw[has_put_other (wo e),atKey_put_other (wo e),pL,lw e,(hh t).1,(hh t).2]
  have:(s==t)=R:=by simpa using fun e2=>e e2.symm
  simp[this]
end
end
section
open Go.ChangeShapes Go.WideShapes Go.ChangeAt Go.RowKit
def rp (t:TypeId)(w:World)(v:Value)(us:List Value):Prop:=w.ownsRow 0 t 1 v us.length us
section
variable {t:TypeId}{w w':World}{v:Value}{us:List Value}
theorem rp.nil (t:TypeId)(w:World):rp t w (G Z 0 0) []:=World.ownsRow_nil _ _ _ _
theorem rp.lt (h:rp t w v us){g:Nat}(e:v.ownBlock=V g):g<w.heap.size:=(World.ownsRow.lt h g e).2
theorem rp.bk (h:rp t w v us){g:Nat}(e:v.ownBlock=V g):∃ cs,Bk w g t cs:=by
 rcases h.2 with ⟨rfl,_⟩ | ⟨g',cap,cur,rfl,_,hg,_⟩
 ·cases e
 ·simp only[Value.ownBlock,Option.some.injEq] at e;subst e;exact⟨cur,hg⟩
theorem rp.within {S:Nat->Prop}(h:rp t w v us)(hk:ag w w' S)(hn:∀ g,v.ownBlock=V g->¬ S g):rp t w' v us:=by
 rcases h.2 with ⟨rfl,h0⟩ | ⟨g,cap,cur,rfl,hb,hg,r⟩
 ·exact⟨h.1,.inl ⟨rfl,h0⟩⟩
 ·exact⟨h.1,.inr ⟨g,cap,cur,rfl,hb,(hk.block g (Array.getElem?_eq_some_iff.1 hg).1 (hn g rfl)).trans hg,r⟩⟩
theorem rp.alloc (h:rp t w v us)(o:Obj):rp t (w.alloc o) v us:=World.ownsRow.alloc h o
theorem rp.is (h:rp t w v us):∃ a cap,v=G a us.length cap/\us.length<=cap/\cap<=maxLen/\(0<us.length->∃ g,a=V ⟨g,0,Z⟩/\v.ownBlock=V g/\(∀ i,w.frozen? ⟨g,i,Z⟩=R)/\∀ i,w.cell? ⟨g,i,Z⟩=us[i]?\/us.length<=i):=by
 rcases h.2 with ⟨rfl,h0⟩ | ⟨g,cap,cur,rfl,hb,hg,hnc,hcm,r⟩
 ·exact⟨Z,0,by rw[h0],by omega,by simp,fun h=>by omega⟩
 ·refine⟨V ⟨g,0,Z⟩,cap,rfl,hnc,hcm,fun _=>⟨g,rfl,rfl,fun i=>Bk.free (cs:=cur) (t:=t) hg i,fun i=>?_⟩⟩
  by_cases hi:i<us.length
  ·exact .inl (World.ownsRow.cellAt h i (by omega))
  ·exact .inr (by omega)
theorem rp.put {g cap:Nat}(h:rp t w (G (V ⟨g,0,Z⟩) us.length cap) us)(i:Nat)(u:Value):rp t (w.setCell ⟨g,i,Z⟩ u) (G (V ⟨g,0,Z⟩) us.length cap) (us.set i u):=by
 have:=(World.ownsRow.stored h i u).1
 unfold rp;rw[List.length_set];exact this
end
section
variable {t:TypeId}{w:World}{v:Value}{us:List Value}{P:Program}{ops:Array Oper}{rest:List Oper}{o:Oper}{a:Act}{Q:Exit->Act->World->Prop}
theorem nH (hgd:o.guard=Z)(s x:Operand)(ts:TypeId)(ho:o.op=.call { callee:=.builtin .append,args:=#[s,x],argTypes:=#[ts,ts] })
 (z:Value) (bytes:Nat) (ht:P.underlying ts=V (.slice t)) (hi:(P.info? t).map (fun i=>(i.zero,i.size,i.bytes))=V (V z,1,bytes)) (hz:z.cells.size=1) (hby:bytes<=24)
 (h:rp t w v us) (hs:a.eval s=v) (y:Value) (hy:y.oneCell'=U) (hx:a.eval x=G (V ⟨w.heap.size,0,Z⟩) 1 1) (hl:us.length<1000000)
 (hK:∀ v' w',rp t w' v' (us++[y])->w.grownBy w' v.ownBlock->(v'.ownBlock=v.ownBlock\/v'.ownBlock=V (w.heap.size+1))->wpList P ops Q rest (a.put o.dst v') w'):
 wpList P ops Q (o :: rest) a (w.alloc (.cells #[y] t)):=by
 obtain⟨i0,hi0,hz0,hz1,hz2⟩:=info_parts hi
 refine wpList_append_own_at _ hgd s x ts ho 0 t i0 _ 1 bytes ht hi0 hz0 hz1 hz2 hz (by omega) v us.length us hs (h.alloc _) ⟨w.heap.size,0,Z⟩ 1 1 [y] hx rfl (cell_one_new _ _ _) (by intro u hu;simp at hu;subst hu;exact hy) (by simp only[maxLen];omega) ?_ (Nat.zero_le _) ?_
 ·have:(us.length+1)*bytes<=1000001*24:=Nat.mul_le_mul (by omega) hby
  omega
 ·intro v' w' hown hgr _ hloc
  refine hK v' w' ?_ ?_ ?_
  ·unfold rp;simpa using hown
  ·exact cF (dY _ _ _) hgr (.inl rfl)
  ·simpa using hloc
end
def ef (k:IntKind)(t:TypeId)(w:World)(v:Value)(xs:List Int):Prop:=w.ownsRow 0 t 1 v xs.length (xs.map (Value.int k))
section
variable {k:IntKind}{t:TypeId}{w w':World}{v:Value}{xs:List Int}
theorem ef.nil (k:IntKind)(t:TypeId)(w:World):ef k t w (G Z 0 0) []:=World.ownsRow_nil _ _ _ _
theorem ef.lt (h:ef k t w v xs){g:Nat}(e:v.ownBlock=V g):g<w.heap.size:=(World.ownsRow.lt h g e).2
theorem ef.bk (h:ef k t w v xs){g:Nat}(e:v.ownBlock=V g):∃ cs,Bk w g t cs:=by
 rcases h.2 with ⟨rfl,_⟩ | ⟨g',cap,cur,rfl,_,hg,_⟩
 ·cases e
 ·simp only[Value.ownBlock,Option.some.injEq] at e;subst e;exact⟨cur,hg⟩
theorem ef.kept {r:Option Nat}(h:ef k t w v xs)(hg:w.grownBy w' r)(hne:v.ownBlock=Z\/v.ownBlock≠r):ef k t w' v xs:=World.ownsRow.kept h hg hne
theorem ef.within {S:Nat->Prop}(h:ef k t w v xs)(hk:ag w w' S)(hn:∀ g,v.ownBlock=V g->¬ S g):ef k t w' v xs:=by
 rcases h.2 with ⟨rfl,h0⟩ | ⟨g,cap,cur,rfl,hb,hg,r⟩
 ·exact⟨h.1,.inl ⟨rfl,h0⟩⟩
 ·exact⟨h.1,.inr ⟨g,cap,cur,rfl,hb,(hk.block g (Array.getElem?_eq_some_iff.1 hg).1 (hn g rfl)).trans hg,r⟩⟩
theorem ef.drewN (h:ef k t w v xs)(m:Nat):ef k t (w.drewN m) v xs:=h
theorem ef.alloc (h:ef k t w v xs)(o:Obj):ef k t (w.alloc o) v xs:=World.ownsRow.alloc h o
theorem ef.is (h:ef k t w v xs):∃ a cap,v=G a xs.length cap/\xs.length<=cap/\cap<=maxLen/\(0<xs.length->∃ g,a=V ⟨g,0,Z⟩/\v.ownBlock=V g/\(∀ i,w.frozen? ⟨g,i,Z⟩=R)/\∀ i,i<xs.length->w.cell? ⟨g,i,Z⟩=V (.int k (aD xs i))):=by
 rcases h.2 with ⟨rfl,h0⟩ | ⟨g,cap,cur,rfl,hb,hg,hnc,hcm,r⟩
 ·exact⟨Z,0,by rw[h0],by omega,by simp,fun h=>by omega⟩
 ·refine⟨V ⟨g,0,Z⟩,cap,rfl,hnc,hcm,fun _=>⟨g,rfl,rfl,fun i=>Bk.free (cs:=cur) (t:=t) hg i,fun i hi=>?_⟩⟩
  rw[World.ownsRow.cellAt h i (by omega),List.getElem?_map,iH hi];rfl
theorem ef.put {g cap:Nat}(h:ef k t w (G (V ⟨g,0,Z⟩) xs.length cap) xs)(i:Nat)(y:Int):ef k t (w.setCell ⟨g,i,Z⟩ (.int k y)) (G (V ⟨g,0,Z⟩) xs.length cap) (xs.set i y):=by
 have:=(World.ownsRow.stored h i (.int k y)).1
 unfold ef;rw[List.length_set,List.map_set];exact this
end
section
variable {k:IntKind}{t:TypeId}{w:World}{v:Value}{xs:List Int}{P:Program}{ops:Array Oper}{rest:List Oper}{o:Oper}{a:Act}{Q:Exit->Act->World->Prop}
theorem fC (hgd:o.guard=Z)(s x:Operand)(ts:TypeId)(ho:o.op=.call { callee:=.builtin .append,args:=#[s,x],argTypes:=#[ts,ts] })
 (bytes:Nat) (ht:P.underlying ts=V (.slice t)) (hi:(P.info? t).map (fun i=>(i.zero,i.size,i.bytes))=V (V (.int k 0),1,bytes)) (hby:bytes<=8)
 (h:ef k t w v xs) (hs:a.eval s=v) (y:Int) (hx:a.eval x=G (V ⟨w.heap.size,0,Z⟩) 1 1) (hl:xs.length<1000000)
 (hK:∀ v' w',ef k t w' v' (xs++[y])->w.grownBy w' v.ownBlock->(v'.ownBlock=v.ownBlock\/v'.ownBlock=V (w.heap.size+1))->wpList P ops Q rest (a.put o.dst v') w'):
 wpList P ops Q (o :: rest) a (w.alloc (.cells #[.int k y] t)):=by
 obtain⟨i0,hi0,hz0,hz1,hz2⟩:=info_parts hi
 refine wpList_append_own_at _ hgd s x ts ho 0 t i0 _ 1 bytes ht hi0 hz0 hz1 hz2 rfl (by omega) v xs.length (xs.map (Value.int k)) hs (h.alloc _) ⟨w.heap.size,0,Z⟩ 1 1 [.int k y] hx rfl (cell_one_new _ _ _) (ints_oneCell k [y]) (by simp only[maxLen];omega) ?_ (Nat.zero_le _) ?_
 ·have:(xs.length+1)*bytes<=1000001*8:=Nat.mul_le_mul (by omega) hby
  omega
 ·intro v' w' hown hgr _ hloc
  refine hK v' w' ?_ ?_ ?_
  ·unfold ef;simpa using hown
  ·exact cF (dY _ _ _) hgr (.inl rfl)
  ·simpa using hloc
end
def zN (T:Nat->Prop)(I:World->Prop):Prop:=∀ A B,I A->ag A B T->I B
def gU (T:Nat->Prop)(W W':World):Prop:=W.heap.size<=W'.heap.size/\∀ b,T b->W'.heap[b]?=W.heap[b]?
theorem gU.refl (T:Nat->Prop)(W:World):gU T W W:=⟨M _,fun _ _=>rfl⟩
theorem gU.trans {T:Nat->Prop}{A B C:World}(h:gU T A B)(k:gU T B C):gU T A C:=⟨Nat.le_trans h.1 k.1,fun b hb=>(k.2 b hb).trans (h.2 b hb)⟩
theorem gU.less {T T':Nat->Prop}{A B:World}(h:gU T A B)(hT:∀ b,T' b->T b):gU T' A B:=⟨h.1,fun b hb=>h.2 b (hT b hb)⟩
theorem gU.lJ {T S:Nat->Prop}{A B:World}(h:ag A B S)(hT:∀ b,T b->b<A.heap.size/\¬ S b):gU T A B:=⟨h.size,fun b hb=>h.block b (hT b hb).1 (hT b hb).2⟩
def Fk (P:Program)(gf:FuncId)(lb:Array Value)(encs:Nat->Array Value)(N l:Nat)(W1:World)(T:Nat->Prop):Prop:=
 ∀ (J:Nat->World->Prop) (Jx:World->Prop),(∀ k,zN T (J k))->zN T Jx->
  (∀ k W,k<N->J k W->(∀ b,T b->b<W.heap.size)->YieldAt Fence.wide 0 P l (encs k) W fun e W'=>gU T W W'/\((e=.returned (.bool U)/\J (k+1) W')\/(e=.returned (.bool R)/\Jx W')))->
  J 0 W1->CallsIn Fence.wide 0 P gf (#[.func (.yield l) #[] #[]]++lb) W1 fun e W'=>(∃ v,e=.returned v)/\(J N W'\/Jx W')
def Ac (T:Nat->Prop)(W:World)(I:World->Prop)(Ix:Code->World->Prop):Exit->Act->World->Prop
 | .normal,_,W'=>gU T W W'/\I W'
 | .ret,_,W'=>gU T W W'/\Ix .ret W'
 | .exit id,_,W'=>gU T W W'/\Ix (.exit id) W'
 | .goto t,_,W'=>gU T W W'/\Ix (.goto t) W'
 | .panic _,_,_=>False
 | .outgrown,_,_=>False
theorem cK (W:World)(l:Nat)(o:Obj)(T:Nat->Prop)(h:T l):ag W (W.putObj l o) T:=
 ⟨rfl,rfl,rfl,by simp[World.putObj],fun i _ hn=>World.putObj_heap_other (fun e=>hn (e ▸ h))⟩
theorem m7 {P:Program}{g:Operand}{ps:Array Tmp}{assign body:Code}{Q:Exit->Act->World->Prop}{a:Act}{w:World}
 {gf:Nat} {lb:Array Value} (hg:a.eval g=.func (.func gf) #[] lb) (eg:∀ args w,(callFunc gf args).run P w=.ok (.enter gf args) w)
 {encs:Nat->Array Value} {N:Nat} {T:Nat->Prop} (hps:∀ k,(encs k).size=ps.size) (hT0:¬ T w.heap.size) (hT1:¬ T (w.heap.size+1))
 (hseq:∀ W1,Below w.heap.size w W1->W1.heap.size=w.heap.size+2->Fk P gf lb encs N (w.heap.size+1) W1 T)
 (I:Nat->World->Prop) (Ix:Code->World->Prop) (hI:∀ k,zN (fun b=>b=w.heap.size\/b=w.heap.size+1\/T b) (I k)) (hIx:∀ c,zN (fun b=>b=w.heap.size\/b=w.heap.size+1\/T b) (Ix c)) (h0:I 0 w)
 (a₁:Nat->Act)
 (hassign:∀ (l k:Nat) (W:World) (K:Act->World->Prop),K (a₁ k) W->
  assign.wpIn (Fence.wide.inRound l) 0 P (Exit.then K (fun _ _ _=>False)) { tmps:=(ps.zip (encs k)).foldl (fun t (p,v)=>t.setIfInBounds p v) a.tmps,defers:=[] } W)
 (hbody:∀ (l k:Nat) (W:World),k<N->I k W->(∀ b,(b=w.heap.size\/b=w.heap.size+1\/T b)->b<W.heap.size)->body.wpIn (Fence.wide.inRound l) 0 P (Ac (fun b=>b=w.heap.size\/b=w.heap.size+1\/T b) W (I (k+1)) Ix) (a₁ k) W)
 (hdone:∀ (W:World),I N W->W.heap[w.heap.size]?=V (.deferred (V []))->Q .normal { a with defers:={ target:=.collected w.heap.size,args:=#[] } :: a.defers } W)
 (hstop:∀ (c:Code) (W:World),Ix c W->W.heap[w.heap.size]?=V (.deferred (V []))->c.wpIn Fence.wide 0 P Q { a with defers:={ target:=.collected w.heap.size,args:=#[] } :: a.defers } W):
 (Code.rangeFunc g ps assign body).wpIn Fence.wide 0 P Q a w:=by
 refine wpIn_rangeFunc ?_
 intro fn hfn
 obtain⟨rec,hrec⟩:∃ rec:LoopState->Option Code->Loop,rec=fun st pe=>{ state:=st,pending:=pe,fn,tmps:=a.tmps,params:=ps,assign,body,defers:=w.heap.size }:=⟨_,rfl⟩
 obtain⟨W1,hW1⟩:∃ W1,(w.alloc (.deferred (V []))).alloc (.loop (rec .ready Z))=W1:=⟨_,rfl⟩
 have hL1:W1.heap[w.heap.size+1]?=V (.loop (rec .ready Z)):=by
  rw[<-hW1];have:=World.alloc_heap_new (w.alloc (.deferred (V []))) (.loop (rec .ready Z));rwa [World.size_alloc] at this
 have hK1:W1.heap[w.heap.size]?=V (.deferred (V [])):=by
  rw[<-hW1];exact(Below.heap_alloc _ _ _ (by simp)).trans (World.alloc_heap_new w _)
 have hw1:ag w W1 (fun _=>False):=by rw[<-hW1];exact((ag.refl w _).alloc _).alloc _
 have hb1:Below w.heap.size w W1:=hw1.below (by simp)
 have hz1:W1.heap.size=w.heap.size+2:=by rw[<-hW1];simp
 have hI1:I 0 W1:=hI 0 _ _ h0 (hw1.wide (by simp))
 refine⟨w.heap.size+1,[{ target:=.collected w.heap.size,args:=#[] }],W1,{ target:=.fn (.func gf) lb,args:=#[.func (.yield (w.heap.size+1)) #[] #[]] },W1,gf,
  #[.func (.yield (w.heap.size+1)) #[] #[]]++lb,W1,?_,?_,(fun _ _=>trivial),?_,(fun h=>(by cases h)),?_⟩
 ·rw[<-hW1,hrec];exact run_enterLoop_outer _ _ _ _ _
 ·simp only[resolve,hg]
  simp[go_sem]
 ·simp[invoke,go_sem,eg]
 ·refine(hseq W1 hb1 hz1
   (fun k W=>I k W/\W.heap[w.heap.size+1]?=V (.loop (rec .ready Z))/\W.heap[w.heap.size]?=V (.deferred (V [])))
   (fun W=>∃ c,Ix c W/\W.heap[w.heap.size+1]?=V (.loop (rec .done (V c)))/\W.heap[w.heap.size]?=V (.deferred (V [])))
   ?_ ?_ ?_ ⟨hI1,hL1,hK1⟩).mono ?_
  ·rintro k A B ⟨hi,hl,hk⟩ hw
   exact⟨hI k A B hi (hw.wide fun i hi _=>.inr (.inr hi)),(hw.block _ (Array.getElem?_eq_some_iff.1 hl).1 hT1).trans hl,(hw.block _ (Array.getElem?_eq_some_iff.1 hk).1 hT0).trans hk⟩
  ·rintro A B ⟨c,hi,hl,hk⟩ hw
   exact⟨c,hIx c A B hi (hw.wide fun i hi _=>.inr (.inr hi)),(hw.block _ (Array.getElem?_eq_some_iff.1 hl).1 hT1).trans hl,(hw.block _ (Array.getElem?_eq_some_iff.1 hk).1 hT0).trans hk⟩
  ·
   rintro k W hk ⟨hi,hl,hd⟩ hT
   have hlt:w.heap.size+1<W.heap.size:=(Array.getElem?_eq_some_iff.1 hl).1
   have hy:=run_yield (P:=P) (args:=encs k) hl (by rw[hrec];exact hps k)
   rw[hrec] at hy
   refine⟨fn,_,assign,body,hy,roundIn_of_wpIn trivial (hassign _ k W _ ?_)⟩
   clear hy
   refine⟨_,run_beginRound hl (by rw[hrec]),?_⟩
   obtain⟨W2,hW2⟩:∃ W2,W.putObj (w.heap.size+1) (.loop { rec .ready Z with state:=.busy })=W2:=⟨_,rfl⟩
   have hl2:W2.heap[w.heap.size+1]?=V (.loop { rec .ready Z with state:=.busy }):=by rw[<-hW2];exact World.putObj_heap_same hlt
   have hd2:W2.heap[w.heap.size]?=V (.deferred (V [])):=by rw[<-hW2];exact(World.putObj_heap_other (by omega)).trans hd
   have hz2:W2.heap.size=W.heap.size:=by rw[<-hW2];simp[World.putObj]
   have hh2:gU T W W2:=⟨by omega,fun b hb=>by rw[<-hW2];exact World.putObj_heap_other (fun e=>hT1 (e ▸ hb))⟩
   have hi2:I k W2:=by rw[<-hW2];exact hI k _ _ hi (cK _ _ _ _ (.inr (.inl rfl)))
   rw[hW2]
   clear hW2
   refine wpIn_mono (hbody _ k W2 hk hi2 (by
    rintro b (rfl|rfl | hb)
    ·omega
    ·omega
    ·rw[hz2];exact hT b hb)) ?_
   have fin:∀ (jump:Option Code) (W3:World),gU (fun b=>b=w.heap.size\/b=w.heap.size+1\/T b) W2 W3->
    ∃ W4,(Instr.endRound (w.heap.size+1) jump).run P W3=.ok (.bool jump.isNone) W4/\ag W3 W4 (fun b=>b=w.heap.size\/b=w.heap.size+1\/T b)/\gU T W3 W4/\
    W4.heap[w.heap.size+1]?=V (.loop (rec (if jump.isNone then .ready else .done) jump))/\W4.heap[w.heap.size]?=V (.deferred (V [])):=fun jump W3 hh=>by
    have hl3:=(hh.2 _ (.inr (.inl rfl))).trans hl2
    have hd3:=(hh.2 _ (.inl rfl)).trans hd2
    have:=run_endRound (P:=P) jump hl3
    rw[hrec] at this ⊢
    exact⟨_,this,cK _ _ _ _ (.inr (.inl rfl)),⟨by simp[World.putObj],fun b hb=>World.putObj_heap_other (fun e=>hT1 (e ▸ hb))⟩,
     World.putObj_heap_same (Array.getElem?_eq_some_iff.1 hl3).1,(World.putObj_heap_other (by omega)).trans hd3⟩
   rintro e a3 W3 hp
   cases e with
   | normal=>
    obtain⟨hh,hi3⟩:=hp
    obtain⟨W4,hr,hw4,hh4,hl4,hd4⟩:=fin Z W3 hh
    exact⟨_,_,hr,hh2.trans ((hh.less fun b hb=>.inr (.inr hb)).trans hh4),.inl ⟨rfl,hI _ _ _ hi3 hw4,hl4,hd4⟩⟩
   | ret=>
    obtain⟨hh,hi3⟩:=hp
    obtain⟨W4,hr,hw4,hh4,hl4,hd4⟩:=fin (V .ret) W3 hh
    exact⟨_,_,hr,hh2.trans ((hh.less fun b hb=>.inr (.inr hb)).trans hh4),.inr ⟨rfl,.ret,hIx _ _ _ hi3 hw4,hl4,hd4⟩⟩
   | exit id=>
    obtain⟨hh,hi3⟩:=hp
    obtain⟨W4,hr,hw4,hh4,hl4,hd4⟩:=fin (V (.exit id)) W3 hh
    exact⟨_,_,hr,hh2.trans ((hh.less fun b hb=>.inr (.inr hb)).trans hh4),.inr ⟨rfl,.exit id,hIx _ _ _ hi3 hw4,hl4,hd4⟩⟩
   | goto t=>
    obtain⟨hh,hi3⟩:=hp
    obtain⟨W4,hr,hw4,hh4,hl4,hd4⟩:=fin (V (.goto t)) W3 hh
    exact⟨_,_,hr,hh2.trans ((hh.less fun b hb=>.inr (.inr hb)).trans hh4),.inr ⟨rfl,.goto t,hIx _ _ _ hi3 hw4,hl4,hd4⟩⟩
   | panic ch=>exact hp.elim
   | outgrown=>exact hp.elim
  ·
   rintro e W2 ⟨⟨v,rfl⟩,(⟨hi,hl,hd⟩ | ⟨c,hi,hl,hd⟩)⟩
   ·exact⟨Z,_,by have:=run_endLoop (P:=P) hl (by rw[hrec];simp);rw[hrec] at this;exact this,hdone _ (hI _ _ _ hi (cK _ _ _ _ (.inr (.inl rfl)))) ((World.putObj_heap_other (by omega)).trans hd)⟩
   ·exact⟨V c,_,by have:=run_endLoop (P:=P) hl (by rw[hrec];simp);rw[hrec] at this;exact this,hstop c _ (hIx c _ _ hi (cK _ _ _ _ (.inr (.inl rfl)))) ((World.putObj_heap_other (by omega)).trans hd)⟩
def left (listed:Array Bool):Nat:=(listed.toList.filter fun b=>!b).length
theorem oo:∀ (l:List Bool) (i:Nat),l[i]?=V R->((l.set i U).filter fun b=>!b).length+1=(l.filter fun b=>!b).length
 | [],i,h=>by simp at h
 | b :: l,0,h=>by simp at h;subst h;simp
 | b :: l,i+1,h=>by
  have ih:=oo l i (by simpa using h)
  cases b <;> simp at ih ⊢ <;> omega
theorem lM:∀ (l:List Bool) (i:Nat),(l.filter fun b=>!b).length=0->l[i]?≠V R
 | [],i,h=>by simp
 | b :: l,0,h=>by cases b <;> simp at h ⊢
 | b :: l,i+1,h=>by
  have ih:=lM l i (by cases b <;> simp at h ⊢;exact h)
  simpa using ih
section
variable {P:Program}{ops:Array Oper}{Q:Exit->Act->World->Prop}
theorem iq {listed:Array Bool}{i:Nat}(h:i∈Region.ready .any ops listed):listed.toList[i]?=V R:=by
 unfold Region.ready at h
 rw[List.mem_filter] at h
 have h2:=h.2
 simp only[Bool.and_eq_true,Bool.not_eq_true'] at h2
 have h3:=h2.1
 rw[Array.getElem?_toList]
 rw[Array.getD_eq_getD_getElem?] at h3
 cases e:listed[i]? with
 | none=>rw[e] at h3;simp at h3
 | some b=>rw[e] at h3;simp at h3;rw[h3]
theorem ph (Inv:Array Bool->Act->World->Prop)
 (hstep:∀ listed a w i,Inv listed a w->i∈Region.ready .any ops listed->wpOp P ops Q i (fun a' w'=>Inv (listed.setIfInBounds i U) a' w') a w)
 (hend:∀ listed a w,Inv listed a w->Region.ready .any ops listed=[]->Q .normal a w):
 ∀ (fuel:Nat) (listed:Array Bool) (a:Act) (w:World),Inv listed a w->left listed<=fuel->wpAny P .any ops Q fuel listed a w
 | 0,listed,a,w,hi,hf=>by
  have e:Region.ready .any ops listed=[]:=by
   rw[List.eq_nil_iff_forall_not_mem]
   intro i h
   exact lM listed.toList i (by unfold left at hf;omega) (iq h)
  exact⟨e,hend _ _ _ hi e⟩
 | fuel+1,listed,a,w,hi,hf=>by
  refine⟨fun e=>hend _ _ _ hi e,fun i h=>wpOp_mono (fun a' w' h2=>?_) (hstep listed a w i hi h)⟩
  refine ph Inv hstep hend fuel _ a' w' h2 ?_
  have:=oo listed.toList i (iq h)
  unfold left at hf ⊢
  rw[Array.toList_setIfInBounds]
  omega
theorem oM {id:Nat}{a:Act}{w:World}(hm:P.follows .mixedOrders=U)(Inv:Array Bool->Act->World->Prop)(h0:Inv (Array.replicate ops.size R) a w.drew)
 (hstep:∀ listed a w i,Inv listed a w->i∈Region.ready .any ops listed->wpOp P ops Q i (fun a' w'=>Inv (listed.setIfInBounds i U) a' w') a w)
 (hend:∀ listed a w,Inv listed a w->Region.ready .any ops listed=[]->Q .normal a w):(Code.region id ops U).wp P Q a w:=
 wp_region_any hm (ph Inv hstep hend _ _ _ _ h0 (by unfold left;exact Nat.le_trans (List.length_filter_le _ _) (by simp)))
end
def BK (ops:Array Oper)(i:Nat):Option Tmp:=(ops[i]?).bind (·.dst)
def fw (ops:Array Oper)(t:Nat):Option Nat:=(List.range ops.size).find? fun i=>BK ops i==V t
def bd (ops:Array Oper)(i:Nat):List Nat:=match ops[i]? with
 | some o=>(o.after.toList.filter fun e=>Region.binds .any e).map (·.on)
 | none=>[]
def tZ:Op->Bool
 | .select ..=>R
 | _=>U
def mC (ops:Array Oper):Bool:=(List.range ops.size).all fun i=>match ops[i]? with
 | some o=>tZ o.op && ((o.looksAt ops).all fun t=>match fw ops t with
  | some j=>(bd ops i).contains j
  | none=>U) && (match o.dst with
  | some d=>fw ops d==V i
  | none=>U) && ((bd ops i).all fun j=>decide (j<i))
 | none=>R
def over (f:Nat->Option Value):List Value->Nat->List Value
 | [],_=>[]
 | x :: xs,t=>(f t).getD x :: over f xs (t+1)
theorem wj (f:Nat->Option Value):∀ (xs:List Value) (t k:Nat),(over f xs t)[k]?=(xs[k]?).map fun x=>(f (t+k)).getD x
 | [],t,k=>by simp[over]
 | x :: xs,t,0=>by simp[over]
 | x :: xs,t,k+1=>by
  have ih:=wj f xs (t+1) k
  simp[over,ih,Nat.add_assoc,Nat.add_comm 1 k]
def aC (ops:Array Oper)(a:Act)(d:Nat->Bool)(vs:Nat->Value):Act:=
 { a with tmps:=(over (fun t=>match fw ops t with
  | some i=>if d i=U then V (vs i) else Z
  | none=>Z) a.tmps.toList 0).toArray }
theorem fG (ops:Array Oper)(a:Act)(d:Nat->Bool)(vs:Nat->Value)(t:Nat):(aC ops a d vs).tmps[t]?=(a.tmps[t]?).map fun x=>(match fw ops t with
 | some i=>if d i=U then V (vs i) else Z
 | none=>Z).getD x:=by
 simp[aC,wj]
theorem nt (ops:Array Oper)(a:Act)(vs:Nat->Value):aC ops a (fun _=>R) vs=a:=by
 obtain⟨tmps,defers⟩:=a
 have e:(aC ops ⟨tmps,defers⟩ (fun _=>R) vs).tmps=tmps:=by
  apply Array.ext_getElem?
  intro t
  rw[fG]
  cases h:tmps[t]? with
  | none=>simp
  | some x=>cases h2:fw ops t <;> simp
 have e2:aC ops ⟨tmps,defers⟩ (fun _=>R) vs=⟨(aC ops ⟨tmps,defers⟩ (fun _=>R) vs).tmps,defers⟩:=rfl
 rw[e2,e]
theorem pT (ops:Array Oper)(a:Act)(d:Nat->Bool)(vs:Nat->Value)(i:Nat)(o:Oper)(ho:ops[i]?=V o)(hd:∀ x,o.dst=V x->fw ops x=V i)(hn:∀ t,fw ops t=V i->o.dst=V t)(hdi:d i=R)(v:Value):
 (aC ops a d vs).put o.dst v=aC ops a (fun j=>if j=i then U else d j) (fun j=>if j=i then v else vs j):=by
 have pg:((aC ops a d vs).put o.dst v).tmps=(aC ops a (fun j=>if j=i then U else d j) (fun j=>if j=i then v else vs j)).tmps:=by
  apply Array.ext_getElem?
  intro t
  rw[fG]
  cases hx:o.dst with
  | none=>
   show (aC ops a d vs).tmps[t]?=_
   rw[fG]
   cases h2:fw ops t with
   | none=>rfl
   | some j=>
    have hj:j≠i:=fun e=>by have:=hn t (e ▸ h2);rw[hx] at this;cases this
    simp[hj]
  | some x=>
   show ((aC ops a d vs).tmps.setIfInBounds x v)[t]?=_
   rw[Array.getElem?_setIfInBounds]
   by_cases e:x=t
   ·subst e
    rw[if_pos rfl,hd x hx]
    have hsz:(aC ops a d vs).tmps.size=a.tmps.size:=by
     have l:∀ (f:Nat->Option Value) (xs:List Value) (t:Nat),(over f xs t).length=xs.length:=by
      intro f xs
      induction xs with
      | nil=>intro t;rfl
      | cons x xs ih=>intro t;simp[over,ih]
     simp[aC,l]
    rw[hsz]
    by_cases hlt:x<a.tmps.size
    ·simp[hlt]
    ·simp[hlt]
   ·rw[if_neg e,fG]
    cases h2:fw ops t with
    | none=>rfl
    | some j=>
     have hj:j≠i:=fun e3=>by have:=hn t (e3 ▸ h2);rw[hx] at this;injection this with this;exact e this
     simp[hj]
 have e1:(aC ops a d vs).put o.dst v=⟨((aC ops a d vs).put o.dst v).tmps,a.defers⟩:=by cases o.dst <;> rfl
 have e2:aC ops a (fun j=>if j=i then U else d j) (fun j=>if j=i then v else vs j)=⟨(aC ops a (fun j=>if j=i then U else d j) (fun j=>if j=i then v else vs j)).tmps,a.defers⟩:=rfl
 rw[e1,e2,pg]
theorem jY (ops:Array Oper)(a:Act)(d:Nat->Bool)(vs:Nat->Value)(o:Oper)(hs:tZ o.op=U)(h:∀ t∈o.looksAt ops,∀ i,fw ops t=V i->d i=U):
 execOp (aC ops a d vs).eval o=execOp (aC ops a (fun _=>U) vs).eval o/\Region.wanted o (yielded ops (aC ops a d vs).tmps)=Region.wanted o (yielded ops (aC ops a (fun _=>U) vs).tmps):=by
 have pg:∀ t∈o.looksAt ops,(aC ops a d vs).tmps[t]?=(aC ops a (fun _=>U) vs).tmps[t]?:=by
  intro t ht
  rw[fG,fG]
  cases h2:fw ops t with
  | none=>rfl
  | some i=>simp[h t ht i h2]
 constructor
 ·refine execOp_congr o (fun cs b e=>by rw[e] at hs;cases hs) fun x hx=>?_
  cases x with
  | tmp t=>
   have:=pg t (List.mem_append_left _ (List.mem_filterMap.2 ⟨.tmp t,by simpa using hx,rfl⟩))
   show (aC ops a d vs).tmps.getD t X=(aC ops a (fun _=>U) vs).tmps.getD t X
   rw[Array.getD_eq_getD_getElem?,Array.getD_eq_getD_getElem?,this]
  | _=>rfl
 ·unfold Region.wanted
  cases hg:o.guard with
  | none=>rfl
  | some g=>
   obtain⟨g,want⟩:=g
   simp only
   have:yielded ops (aC ops a d vs).tmps g=yielded ops (aC ops a (fun _=>U) vs).tmps g:=by
    unfold yielded
    cases hb:(ops[g]?).bind (·.dst) with
    | none=>rfl
    | some t=>
     have:=pg t (by unfold Oper.looksAt;rw[hg];simp only;rw[hb];simp)
     simp only[Option.bind_some,this]
   rw[this]
def kf (P:Program)(F:Value->World->Prop)(W:World):Result Next->Prop
 | .ok (.value v) W'=>F v W'/\Below W.heap.size W W'
 | .ok .skip W'=>F X W'/\Below W.heap.size W W'
 | .ok (.enter f args) W'=>Calls P f args W' fun e W2=>∃ v,e=.returned v/\F v W2/\Below W.heap.size W W2
 | _=>False
def bU (P:Program)(ops:Array Oper)(F:Value->World->Prop)(o:Oper)(a:Act)(W:World):Prop:=
 if Region.wanted o (yielded ops a.tmps)=U then kf P F W ((execOp a.eval o).run P W) else F X W
theorem aa {P:Program}{ops:Array Oper}{F:Value->World->Prop}{o:Oper}{a:Act}{W:World}(hg:o.guard=Z)(h:kf P F W ((execOp a.eval o).run P W)):bU P ops F o a W:=by
 unfold bU
 rw[if_pos (by simp[Region.wanted,hg])]
 exact h
theorem cJ {P:Program}{ops:Array Oper}{F:Value->World->Prop}{o:Oper}{a:Act}{W:World}{g:Nat}{want:Bool}(hg:o.guard=V (g,want))(hy:yielded ops a.tmps g=V want)(h:kf P F W ((execOp a.eval o).run P W)):bU P ops F o a W:=by
 unfold bU
 rw[if_pos (by simp[Region.wanted,hg,hy])]
 exact h
def vP (P:Program)(ops:Array Oper)(F:Nat->Value->World->Prop)(lit:(Nat->Value)->Act)(w:World):List Oper->Nat->Prop
 | [],_=>True
 | o :: rest,i=>(∀ (vs:Nat->Value) W,Below w.heap.size w W->(∀ j∈bd ops i,F j (vs j) W)->bU P ops (F i) o (lit vs) W)/\vP P ops F lit w rest (i+1)
theorem pX {P:Program}{ops:Array Oper}{F:Nat->Value->World->Prop}{lit:(Nat->Value)->Act}{w:World}:∀ (l:List Oper) (n:Nat),vP P ops F lit w l n->∀ i o,l[i]?=V o->∀ (vs:Nat->Value) W,Below w.heap.size w W->(∀ j∈bd ops (n+i),F j (vs j) W)->bU P ops (F (n+i)) o (lit vs) W
 | [],n,_,i,o,h=>by simp at h
 | x :: l,n,hx,0,o,h=>by
  simp at h
  subst h
  exact hx.1
 | x :: l,n,hx,i+1,o,h=>by
  have:=pX l (n+1) hx.2 i o (by simpa using h)
  rw[show n+1+i=n+(i+1) by omega] at this
  exact this
section
variable {P:Program}{ops:Array Oper}{Q:Exit->Act->World->Prop}
theorem m8:∀ (f:Nat) (listed:Array Bool) (a:Act) (w:World),wpAny P .any ops Q f listed a w->wpAny P .any ops Q (f+1) listed a w
 | 0,listed,a,w,h=>⟨fun _=>h.2,fun i hi=>by rw[h.1] at hi;cases hi⟩
 | f+1,listed,a,w,h=>⟨h.1,fun i hi=>wpOp_mono (fun a' w' h'=>m8 f _ a' w' h') (h.2 i hi)⟩
theorem l5 {f:Nat}{listed:Array Bool}{a:Act}{w:World}(h:wpAny P .any ops Q f listed a w):∀ d,wpAny P .any ops Q (f+d) listed a w
 | 0=>h
 | d+1=>m8 _ _ _ _ (l5 h d)
end
def oW (n m:Nat):Array Bool:=(List.replicate n U++List.replicate m R).toArray
def DH (ops:Array Oper)(n:Nat):Bool:=
 decide (n<ops.size) && Region.sinkB .any ops n && Region.chainB .any ops n && Region.seqB .any ops (ops.size-n) n (oW n (ops.size-n))
theorem uL (n m:Nat):left (oW n m)=m:=by
 unfold left oW
 simp[List.filter_append]
theorem su (ops:Array Oper)(a:Act)(d d2:Nat->Bool)(vs:Nat->Value)(o:Oper)(hs:tZ o.op=U)(h:∀ t∈o.looksAt ops,∀ i,fw ops t=V i->d i=U/\d2 i=U):
 execOp (aC ops a d vs).eval o=execOp (aC ops a d2 vs).eval o/\Region.wanted o (yielded ops (aC ops a d vs).tmps)=Region.wanted o (yielded ops (aC ops a d2 vs).tmps):=by
 have h1:=jY ops a d vs o hs fun t ht i hi=>(h t ht i hi).1
 have h2:=jY ops a d2 vs o hs fun t ht i hi=>(h t ht i hi).2
 exact⟨h1.1.trans h2.1.symm,h1.2.trans h2.2.symm⟩
theorem du {P:Program}{l:List Oper}{Q:Exit->Act->World->Prop}{id:Nat}{a:Act}{w:World}(n:Nat)(lit:(Nat->Value)->Act)(F:Nat->Value->World->Prop)(hm:P.follows .mixedOrders=U)(hr:mC l.toArray=U)(ht:DH l.toArray n=U)
 (hlit:∀ vs,aC l.toArray a (fun i=>decide (i<n)) vs=lit vs)
 (hst:∀ i v W W',F i v W->Below W.heap.size W W'->F i v W') (hop:vP P l.toArray F lit w (l.take n) 0)
 (hend:∀ (vs:Nat->Value) W,Below w.heap.size w W->(∀ i,i<n->F i (vs i) W)->wpList P l.toArray Q (l.drop n) (lit vs) W):(Code.region id l.toArray U).wp P Q a w:=by
 generalize hops:l.toArray=ops at *
 have hsz:ops.size=l.length:=by rw[<-hops];simp
 unfold DH at ht
 simp only[Bool.and_eq_true,decide_eq_true_eq] at ht
 obtain⟨⟨⟨hn,hsink⟩,hchain⟩,hseq⟩:=ht
 have hR:∀ i o,ops[i]?=V o->tZ o.op=U/\(∀ t∈o.looksAt ops,∀ j,fw ops t=V j->j∈bd ops i)/\(∀ x,o.dst=V x->fw ops x=V i)/\∀ j∈bd ops i,j<i:=by
  intro i o ho
  have hi:i<ops.size:=(Array.getElem?_eq_some_iff.1 ho).1
  unfold mC at hr
  have h:=List.all_eq_true.1 hr i (List.mem_range.2 hi)
  rw[ho] at h
  simp only[Bool.and_eq_true] at h
  refine⟨h.1.1.1,fun t ht j hj=>?_,fun x hx=>?_,fun j hj=>?_⟩
  ·have:=List.all_eq_true.1 h.1.1.2 t ht
   rw[hj] at this
   simpa using this
  ·have:=h.1.2
   rw[hx] at this
   simpa using this
  ·have:=List.all_eq_true.1 h.2 j hj
   simpa using this
 have hN:∀ t i o,ops[i]?=V o->fw ops t=V i->o.dst=V t:=by
  intro t i o ho h
  have:=List.find?_some h
  simp only[BK,ho,Option.bind_some,beq_iff_eq] at this
  exact this
 have hop2:∀ i o,ops[i]?=V o->i<n->∀ (vs:Nat->Value) W,Below w.heap.size w W->(∀ j∈bd ops i,F j (vs j) W)->bU P ops (F i) o (lit vs) W:=by
  intro i o ho hi vs W hB hd
  have h1:(l.take n)[i]?=V o:=by
   rw[List.getElem?_take,if_pos hi]
   rw[<-hops] at ho
   simpa using ho
  have:=pX (l.take n) 0 hop i o h1 vs W hB (by rw[Nat.zero_add];exact hd)
  rw[Nat.zero_add] at this
  exact this
 have pg:∀ (fuel:Nat) (listed:Array Bool) (a':Act) (W:World),HeadInv .any ops n listed->
  (∃ vs:Nat->Value,a'=aC ops a (fun i=>listed.getD i R) vs/\Below w.heap.size w W/\∀ i,listed.getD i R=U->F i (vs i) W)->
  left listed<=fuel->wpAny P .any ops Q fuel listed a' W:=by
  intro fuel
  induction fuel with
  | zero=>
   intro listed a' W hinv hI hf
   exfalso
   have h1:=hinv.tail n (M _) hn
   refine lM listed.toList n (by unfold left at hf;omega) ?_
   have hlt:n<listed.size:=by rw[hinv.size];exact hn
   rw[Array.getElem?_toList,Array.getElem?_eq_getElem hlt]
   simpa [hlt] using h1
  | succ fuel ih=>
   rintro listed a' W hinv ⟨vs,rfl,hB,hF⟩ hf
   by_cases hall:∀ i,i<n->listed.getD i R=U
   ·
    have el:listed=oW n (ops.size-n):=by
     apply Array.ext
     ·rw[hinv.size];simp[oW];omega
     ·intro i h1 h2
      rw[hinv.size] at h1
      by_cases hi:i<n
      ·have:=hall i hi
       have hlt:i<listed.size:=by rw[hinv.size];exact h1
       simp only[oW,List.getElem_toArray,List.getElem_append,List.length_replicate,hi,dite_true,List.getElem_replicate]
       simpa [hlt] using this
      ·have:=hinv.tail i (by omega) h1
       have hlt:i<listed.size:=by rw[hinv.size];exact h1
       simp only[oW,List.getElem_toArray,List.getElem_append,List.length_replicate,hi,dite_false,List.getElem_replicate]
       simpa [hlt] using this
    have hd:aC ops a (fun i=>listed.getD i R) vs=lit vs:=by
     rw[<-hlit vs]
     congr 1
     funext i
     by_cases hi:i<n
     ·rw[hall i hi];simp[hi]
     ·simp only[hi,decide_false]
      by_cases h2:i<ops.size
      ·exact getD_both (hinv.tail i (by omega) h2)
      ·have:listed.size<=i:=by rw[hinv.size];omega
       simp[Array.getElem?_eq_none this]
    have hw:=hend vs W hB fun i hi=>hF i (hall i hi)
    rw[hd]
    have hlen:(l.drop n).length=ops.size-n:=by rw[List.length_drop,hsz]
    have h1:=wpAny_of_seq (P:=P) (md:=.any) (ops:=ops) (Q':=Q) (l.drop n) n listed (lit vs) W (fun j=>by rw[<-hops];simp[List.getElem?_drop]) (by rw[hlen,el];exact hseq) hw
    rw[hlen] at h1
    have hle:ops.size-n<=fuel+1:=by
     have:=uL n (ops.size-n)
     rw[el] at hf
     omega
    have h2:=l5 h1 (fuel+1-(ops.size-n))
    rw[show ops.size-n+(fuel+1-(ops.size-n))=fuel+1 by omega] at h2
    exact h2
   ·
    have hex:∃ i,i<n/\listed.getD i R=R/\∀ j,j<i->listed.getD j R=U:=by
     have:∀ m,m<=n->(∀ j,j<m->listed.getD j R=U)\/∃ i,i<n/\listed.getD i R=R/\∀ j,j<i->listed.getD j R=U:=by
      intro m
      induction m with
      | zero=>intro _;exact .inl fun j hj=>by omega
      | succ m ihm=>
       intro hmn
       rcases ihm (by omega) with h | h
       ·cases hl:listed.getD m R with
        | true=>
         refine .inl fun j hj=>?_
         by_cases e:j=m
         ·subst e;exact hl
         ·exact h j (by omega)
        | false=>exact .inr ⟨m,by omega,hl,h⟩
       ·exact .inr h
     rcases this n (M _) with h | h
     ·exact absurd h hall
     ·exact h
    obtain⟨i0,hi0,hu0,hbef⟩:=hex
    have hready:i0∈Region.ready .any ops listed:=by
     have hlt:i0<listed.size:=by rw[hinv.size];omega
     have ho:ops[i0]?=V ops[i0]:=Array.getElem?_eq_getElem (by omega)
     refine mem_ready.2 ⟨getD_in hlt hu0,_,ho,fun e he hb=>hbef _ ?_⟩
     refine(hR i0 _ ho).2.2.2 _ ?_
     unfold bd
     rw[ho]
     simp only[List.mem_map,List.mem_filter]
     exact⟨e,⟨by simpa using he,hb⟩,rfl⟩
    refine⟨fun e=>(by rw[e] at hready;cases hready),fun i hi=>?_⟩
    have hin:i<n:=by
     rcases Nat.lt_or_ge i n with h | h
     ·exact h
     ·exact absurd hi (tail_waits hsink hchain hn hinv (n-i0) i0 rfl hi0 (getD_in (by rw[hinv.size];omega) hu0) i h)
    obtain⟨hfr,o,ho,hdeps⟩:=mem_ready.1 hi
    obtain⟨r1,r2,r3,r4⟩:=hR i o ho
    have hdep:∀ j∈bd ops i,listed.getD j R=U:=by
     intro j hj
     unfold bd at hj
     rw[ho] at hj
     simp only[List.mem_map,List.mem_filter] at hj
     obtain⟨e,⟨he,hb⟩,rfl⟩:=hj
     exact hdeps e (by simpa using he) hb
    have hdn:∀ j∈bd ops i,j<n:=fun j hj=>by have:=r4 j hj;omega
    obtain⟨s1,s2⟩:=su ops a (fun i=>listed.getD i R) (fun i=>decide (i<n)) vs o r1 fun t ht j hj=>⟨hdep j (r2 t ht j hj),by simpa using hdn j (r2 t ht j hj)⟩
    rw[hlit] at s1 s2
    have hl:=hop2 i o ho hin vs W hB fun j hj=>hF j (hdep j hj)
    have hif:listed.getD i R=R:=getD_both hfr
    have hlt:i<ops.size:=(Array.getElem?_eq_some_iff.1 ho).1
    have hfree:=iq hi
    have hleft:left (listed.setIfInBounds i U)<=fuel:=by
     have:=oo listed.toList i hfree
     unfold left at hf ⊢
     rw[Array.toList_setIfInBounds]
     omega
    have next:∀ v W',F i v W'->Below W.heap.size W W'->wpAny P .any ops Q fuel (listed.setIfInBounds i U) ((aC ops a (fun i=>listed.getD i R) vs).put o.dst v) W':=by
     intro v W' hf2 hb
     have eg:(fun j=>(listed.setIfInBounds i U).getD j R)=fun j=>if j=i then U else listed.getD j R:=by
      funext j
      rw[Array.getD_eq_getD_getElem?,Array.getElem?_setIfInBounds,Array.getD_eq_getD_getElem?]
      by_cases e:j=i
      ·subst e
       simp[hinv.size,hlt]
      ·rw[if_neg (fun e2=>e e2.symm),if_neg e]
     refine ih _ _ _ (hinv.set hi hin) ⟨fun j=>if j=i then v else vs j,?_,hB.trans (hb.mono hB.size),fun j hj=>?_⟩ hleft
     ·rw[eg]
      exact pT ops a _ vs i o ho r3 (fun t ht=>hN t i o ho ht) hif v
     ·have hj2:=congrFun eg j
      rw[hj2] at hj
      show F j (if j=i then v else vs j) W'
      by_cases e:j=i
      ·subst e;rw[if_pos rfl];exact hf2
      ·rw[if_neg e] at hj ⊢
       exact hst j _ _ _ (hF j hj) hb
    unfold wpOp
    rw[ho]
    simp only
    unfold bU at hl
    rw[s2]
    by_cases hw:Region.wanted o (yielded ops (lit vs).tmps)=U
    ·rw[if_pos hw] at hl ⊢
     refine .inl ?_
     unfold Oper.wp
     rw[s1]
     generalize (execOp (lit vs).eval o).run P W=r at *
     cases r with
     | ok x W'=>
      cases x <;> simp only[kf] at hl
      ·rw[Oper.upon_value];exact next _ _ hl.1 hl.2
      ·rw[Oper.upon_skip];exact next _ _ hl.1 hl.2
      ·rw[Oper.upon_enter]
       refine hl.mono ?_
       rintro e W2 ⟨v,rfl,h1,h2⟩
       exact next _ _ h1 h2
     | halt x W'=>simp only[kf] at hl
    ·rw[if_neg hw] at hl ⊢
     exact next _ _ hl (L _ _)
 refine wp_region_any hm ?_
 refine pg _ _ _ _ ⟨by simp,fun j oj _ h=>(by rw[getD_replicate_false] at h;cases h),fun t _ h2=>getD_in (by simpa using h2) (getD_replicate_false _ _)⟩ ⟨fun _=>X,?_,(L _ _).drew,fun i h=>by rw[getD_replicate_false] at h;cases h⟩ ?_
 ·have e:(fun i=>(Array.replicate ops.size R).getD i R)=fun _=>R:=by
   funext i
   exact getD_replicate_false _ _
  rw[e,nt]
 ·unfold left
  exact Nat.le_trans (List.length_filter_le _ _) (by simp)
def vA (l:List Value)(i:Nat)(v:Value)(_:World):Prop:=v=l.getD i X
theorem eL {l:List Value}:∀ i v W W',vA l i v W->Below W.heap.size W W'->vA l i v W':=fun _ _ _ _ h _=>h
def nD (ps:List (Nat×(Value->World->Prop)))(l:List Value)(i:Nat)(v:Value)(W:World):Prop:=match ps.lookup i with
 | some p=>p v W
 | none=>v=l.getD i X
theorem dW {ps:List (Nat×(Value->World->Prop))}{l:List Value}(h:∀ x∈ps,∀ v W W',x.2 v W->Below W.heap.size W W'->x.2 v W'):∀ i v W W',nD ps l i v W->Below W.heap.size W W'->nD ps l i v W':=by
 intro i v W W' hm hb
 unfold nD at *
 cases hl:ps.lookup i with
 | none=>rw[hl] at hm;exact hm
 | some p=>
  rw[hl] at hm
  have:(i,p)∈ps:=by
   clear hm h
   induction ps with
   | nil=>cases hl
   | cons x ps ih=>
    obtain⟨k,q⟩:=x
    rw[List.lookup_cons] at hl
    by_cases e:i=k
    ·subst e;simp at hl;subst hl;exact List.mem_cons_self
    ·have e2:(i==k)=R:=by simpa using e
     rw[e2] at hl
     exact List.mem_cons_of_mem _ (ih hl)
  exact h _ this v W W' hm hb
structure fL (w:World) where
 x:World
 ok:Below w.heap.size w x
def fL.here (w:World):fL w:=⟨w,L _ _⟩
instance grwThere (w:World):Nonempty (fL w):=⟨fL.here w⟩
def fL.more {w:World}(g:fL w){y:World}(h:Below g.x.heap.size g.x y):fL w:=⟨y,g.ok.trans (h.mono g.ok.size)⟩
theorem fL.cell {w:World}(g:fL w){p:Addr}{v:Value}(h:w.cell? p=V v):g.x.cell? p=V v:=
 (g.ok.cell (World.block_lt_of_cell? w _ h)).trans h
theorem ez {w y:World}(h:Below w.drew.heap.size w.drew y):Below w.heap.size w y:=⟨h.os,h.tape,h.output,h.size,h.block⟩
theorem ap {P:Program}{id:Nat}{Q:Exit->Act->World->Prop}{a:Act}{w:World}{l:List Oper}(hm:P.follows .mixedOrders=U)(hB:Region.lexB .any l.toArray=U)
 (h:wpQuiet P l.toArray (fun y=>∃ g:fL w,y=g.x) (fun a'=>∀ y,(∃ g:fL w,y=g.x)->Q .normal a' y) l a):(Code.region id l.toArray U).wp P Q a w:=
 wp_region_quiet (C:=fun y=>∃ g:fL w,y=g.x) hm hB ⟨⟨w.drew,(L _ _).drew⟩,rfl⟩ (by simpa using h)
theorem ao {P:Program}{f:FuncId}{args:Array Value}{w:World}{g:fL w}{v:Value}
 (h:Calls P f args g.x fun e y=>e=.returned v/\Below g.x.heap.size g.x y):Calls P f args g.x fun e y=>e=.returned v/\∃ g':fL w,y=g'.x:=
 h.mono fun _ _ ⟨he,hb⟩=>⟨he,g.more hb,rfl⟩
theorem AC {P:Program}{f:FuncId}{args:Array Value}{w:World}{g:fL w}{v:Value}
 (h:Calls P f args g.x fun e y=>e=.returned v/\g.x=y):Calls P f args g.x fun e y=>e=.returned v/\∃ g':fL w,y=g'.x:=
 h.mono fun _ _ ⟨he,hb⟩=>⟨he,g,hb.symm⟩
end
section
theorem mW (d s t u a k pl p:Int)(hd:0<=d/\d<=7)(hs:0<=s/\s<=7)(ht:0<=t/\t<=7)(hu:0<=u/\u<=7)(ha:0<=a/\a<=7)(k0:0<=k)(k1:k<4294967296):
 au ⟨1,d,s,t,u,a,k,pl⟩ p=(dg ⟨1,d,0,0,0,0,k,0⟩ ⟨1,d,s,t,u,a,k,pl⟩):=by
 rw[Bool.eq_iff_iff]
 simp[au,cP,ql,fb,eC,aW,qm,cO,sF,dg]
 omega
theorem mV (d s t u a k pl p:Int)(hd:0<=d/\d<=7)(hs:0<=s/\s<=7)(ht:0<=t/\t<=7)(hu:0<=u/\u<=7)(ha:0<=a/\a<=7)(k0:0<=k)(k1:k<4294967296):
 au ⟨2,d,s,t,u,a,k,pl⟩ p=(dg ⟨2,d,s,0,0,0,0,0⟩ ⟨2,d,s,t,u,a,k,pl⟩):=by
 rw[Bool.eq_iff_iff]
 simp[au,cP,ql,fb,eC,aW,qm,cO,sF,dg]
 omega
theorem mU (d s t u a k pl p:Int)(hd:0<=d/\d<=7)(hs:0<=s/\s<=7)(ht:0<=t/\t<=7)(hu:0<=u/\u<=7)(ha:0<=a/\a<=7)(k0:0<=k)(k1:k<4294967296):
 au ⟨3,d,s,t,u,a,k,pl⟩ p=(dg ⟨3,d,s,0,0,0,k,0⟩ ⟨3,d,s,t,u,a,k,pl⟩):=by
 rw[Bool.eq_iff_iff]
 simp[au,cP,ql,fb,eC,aW,qm,cO,sF,dg]
 omega
theorem mT (d s t u a k pl p:Int)(hd:0<=d/\d<=7)(hs:0<=s/\s<=7)(ht:0<=t/\t<=7)(hu:0<=u/\u<=7)(ha:0<=a/\a<=7)(k0:0<=k)(k1:k<4294967296):
 au ⟨4,d,s,t,u,a,k,pl⟩ p=(dg ⟨4,d,s,0,0,0,k,0⟩ ⟨4,d,s,t,u,a,k,pl⟩):=by
 rw[Bool.eq_iff_iff]
 simp[au,cP,ql,fb,eC,aW,qm,cO,sF,dg]
 omega
theorem kV (d s t u a k pl p:Int)(hd:0<=d/\d<=7)(hs:0<=s/\s<=7)(ht:0<=t/\t<=7)(hu:0<=u/\u<=7)(ha:0<=a/\a<=7)(k0:0<=k)(k1:k<4294967296):
 au ⟨5,d,s,t,u,a,k,pl⟩ p=(dg ⟨5,d,s,0,0,0,k,0⟩ ⟨5,d,s,t,u,a,k,pl⟩ && decide (k<=31)):=by
 rw[Bool.eq_iff_iff]
 simp[au,cP,ql,fb,eC,aW,qm,cO,sF,dg]
 omega
theorem kU (d s t u a k pl p:Int)(hd:0<=d/\d<=7)(hs:0<=s/\s<=7)(ht:0<=t/\t<=7)(hu:0<=u/\u<=7)(ha:0<=a/\a<=7)(k0:0<=k)(k1:k<4294967296):
 au ⟨6,d,s,t,u,a,k,pl⟩ p=(dg ⟨6,d,s,0,0,0,k,0⟩ ⟨6,d,s,t,u,a,k,pl⟩ && decide (k<=31)):=by
 rw[Bool.eq_iff_iff]
 simp[au,cP,ql,fb,eC,aW,qm,cO,sF,dg]
 omega
theorem mS (d s t u a k pl p:Int)(hd:0<=d/\d<=7)(hs:0<=s/\s<=7)(ht:0<=t/\t<=7)(hu:0<=u/\u<=7)(ha:0<=a/\a<=7)(k0:0<=k)(k1:k<4294967296):
 au ⟨7,d,s,t,u,a,k,pl⟩ p=(dg ⟨7,d,s,t,0,0,0,0⟩ ⟨7,d,s,t,u,a,k,pl⟩):=by
 rw[Bool.eq_iff_iff]
 simp[au,cP,ql,fb,eC,aW,qm,cO,sF,dg]
 omega
theorem mR (d s t u a k pl p:Int)(hd:0<=d/\d<=7)(hs:0<=s/\s<=7)(ht:0<=t/\t<=7)(hu:0<=u/\u<=7)(ha:0<=a/\a<=7)(k0:0<=k)(k1:k<4294967296):
 au ⟨8,d,s,t,u,a,k,pl⟩ p=(dg ⟨8,0,s,t,0,0,0,pl⟩ ⟨8,d,s,t,u,a,k,pl⟩ && (decide (0<=pl) && decide (pl<p))):=by
 rw[Bool.eq_iff_iff]
 simp[au,cP,ql,fb,eC,aW,qm,cO,sF,dg]
 omega
theorem mQ (d s t u a k pl p:Int)(hd:0<=d/\d<=7)(hs:0<=s/\s<=7)(ht:0<=t/\t<=7)(hu:0<=u/\u<=7)(ha:0<=a/\a<=7)(k0:0<=k)(k1:k<4294967296):
 au ⟨9,d,s,t,u,a,k,pl⟩ p=(dg ⟨9,0,s,t,0,0,0,pl⟩ ⟨9,d,s,t,u,a,k,pl⟩ && (decide (0<=pl) && decide (pl<p))):=by
 rw[Bool.eq_iff_iff]
 simp[au,cP,ql,fb,eC,aW,qm,cO,sF,dg]
 omega
theorem kI (d s t u a k pl p:Int)(hd:0<=d/\d<=7)(hs:0<=s/\s<=7)(ht:0<=t/\t<=7)(hu:0<=u/\u<=7)(ha:0<=a/\a<=7)(k0:0<=k)(k1:k<4294967296):
 au ⟨10,d,s,t,u,a,k,pl⟩ p=(dg ⟨10,0,0,0,0,0,0,pl⟩ ⟨10,d,s,t,u,a,k,pl⟩ && (decide (0<=pl) && decide (pl<p))):=by
 rw[Bool.eq_iff_iff]
 simp[au,cP,ql,fb,eC,aW,qm,cO,sF,dg]
 omega
theorem kH (d s t u a k pl p:Int)(hd:0<=d/\d<=7)(hs:0<=s/\s<=7)(ht:0<=t/\t<=7)(hu:0<=u/\u<=7)(ha:0<=a/\a<=7)(k0:0<=k)(k1:k<4294967296):
 au ⟨11,d,s,t,u,a,k,pl⟩ p=(dg ⟨11,d,0,0,0,0,0,0⟩ ⟨11,d,s,t,u,a,k,pl⟩):=by
 rw[Bool.eq_iff_iff]
 simp[au,cP,ql,fb,eC,aW,qm,cO,sF,dg]
 omega
theorem kB (d s t u a k pl p:Int)(hd:0<=d/\d<=7)(hs:0<=s/\s<=7)(ht:0<=t/\t<=7)(hu:0<=u/\u<=7)(ha:0<=a/\a<=7)(k0:0<=k)(k1:k<4294967296):
 au ⟨22,d,s,t,u,a,k,pl⟩ p=(dg ⟨22,d,0,0,0,0,0,0⟩ ⟨22,d,s,t,u,a,k,pl⟩):=by
 rw[Bool.eq_iff_iff]
 simp[au,cP,ql,fb,eC,aW,qm,cO,sF,dg]
 omega
theorem jd (d s t u a k pl p:Int)(hd:0<=d/\d<=7)(hs:0<=s/\s<=7)(ht:0<=t/\t<=7)(hu:0<=u/\u<=7)(ha:0<=a/\a<=7)(k0:0<=k)(k1:k<4294967296):
 au ⟨12,d,s,t,u,a,k,pl⟩ p=(dg ⟨12,0,0,0,0,0,k,0⟩ ⟨12,d,s,t,u,a,k,pl⟩ && (decide (1<=k) && decide (k<=4))):=by
 rw[Bool.eq_iff_iff]
 simp[au,cP,ql,fb,eC,aW,qm,cO,sF,dg]
 omega
theorem jc (d s t u a k pl p:Int)(hd:0<=d/\d<=7)(hs:0<=s/\s<=7)(ht:0<=t/\t<=7)(hu:0<=u/\u<=7)(ha:0<=a/\a<=7)(k0:0<=k)(k1:k<4294967296):
 au ⟨13,d,s,t,u,a,k,pl⟩ p=(dg ⟨13,0,0,0,0,0,k,0⟩ ⟨13,d,s,t,u,a,k,pl⟩ && decide (k<=3)):=by
 rw[Bool.eq_iff_iff]
 simp[au,cP,ql,fb,eC,aW,qm,cO,sF,dg]
 omega
theorem kG (d s t u a k pl p:Int)(hd:0<=d/\d<=7)(hs:0<=s/\s<=7)(ht:0<=t/\t<=7)(hu:0<=u/\u<=7)(ha:0<=a/\a<=7)(k0:0<=k)(k1:k<4294967296):
 au ⟨16,d,s,t,u,a,k,pl⟩ p=(dg ⟨16,d,s,0,0,a,0,0⟩ ⟨16,d,s,t,u,a,k,pl⟩):=by
 rw[Bool.eq_iff_iff]
 simp[au,cP,ql,fb,eC,aW,qm,cO,sF,dg]
 omega
theorem kF (d s t u a k pl p:Int)(hd:0<=d/\d<=7)(hs:0<=s/\s<=7)(ht:0<=t/\t<=7)(hu:0<=u/\u<=7)(ha:0<=a/\a<=7)(k0:0<=k)(k1:k<4294967296):
 au ⟨17,d,s,t,u,a,k,pl⟩ p=(dg ⟨17,0,s,t,0,a,0,0⟩ ⟨17,d,s,t,u,a,k,pl⟩):=by
 rw[Bool.eq_iff_iff]
 simp[au,cP,ql,fb,eC,aW,qm,cO,sF,dg]
 omega
theorem kE (d s t u a k pl p:Int)(hd:0<=d/\d<=7)(hs:0<=s/\s<=7)(ht:0<=t/\t<=7)(hu:0<=u/\u<=7)(ha:0<=a/\a<=7)(k0:0<=k)(k1:k<4294967296):
 au ⟨18,d,s,t,u,a,k,pl⟩ p=(dg ⟨18,d,s,t,0,a,0,0⟩ ⟨18,d,s,t,u,a,k,pl⟩):=by
 rw[Bool.eq_iff_iff]
 simp[au,cP,ql,fb,eC,aW,qm,cO,sF,dg]
 omega
theorem kD (d s t u a k pl p:Int)(hd:0<=d/\d<=7)(hs:0<=s/\s<=7)(ht:0<=t/\t<=7)(hu:0<=u/\u<=7)(ha:0<=a/\a<=7)(k0:0<=k)(k1:k<4294967296):
 au ⟨19,d,s,t,u,a,k,pl⟩ p=(dg ⟨19,d,s,t,u,a,0,0⟩ ⟨19,d,s,t,u,a,k,pl⟩):=by
 rw[Bool.eq_iff_iff]
 simp[au,cP,ql,fb,eC,aW,qm,cO,sF,dg]
 omega
theorem kC (d s t u a k pl p:Int)(hd:0<=d/\d<=7)(hs:0<=s/\s<=7)(ht:0<=t/\t<=7)(hu:0<=u/\u<=7)(ha:0<=a/\a<=7)(k0:0<=k)(k1:k<4294967296):
 au ⟨20,d,s,t,u,a,k,pl⟩ p=(dg ⟨20,d,s,0,0,a,k,0⟩ ⟨20,d,s,t,u,a,k,pl⟩):=by
 rw[Bool.eq_iff_iff]
 simp[au,cP,ql,fb,eC,aW,qm,cO,sF,dg]
 omega
theorem ic (d s t u a k pl p:Int)(hd:0<=d/\d<=7)(hs:0<=s/\s<=7)(ht:0<=t/\t<=7)(hu:0<=u/\u<=7)(ha:0<=a/\a<=7)(k0:0<=k)(k1:k<4294967296):
 au ⟨21,d,s,t,u,a,k,pl⟩ p=(dg ⟨21,d,s,t,0,a,k,pl⟩ ⟨21,d,s,t,u,a,k,pl⟩ && (decide (k<=1) && (decide (-1<=pl) && (decide (pl=-1) || decide (pl<p))))):=by
 rw[Bool.eq_iff_iff]
 simp[au,cP,ql,fb,eC,aW,qm,cO,sF,dg]
 split <;> omega
theorem kA (d s t u a k pl p:Int)(hd:0<=d/\d<=7)(hs:0<=s/\s<=7)(ht:0<=t/\t<=7)(hu:0<=u/\u<=7)(ha:0<=a/\a<=7)(k0:0<=k)(k1:k<4294967296):
 au ⟨23,d,s,t,u,a,k,pl⟩ p=(dg ⟨23,0,s,0,0,0,0,0⟩ ⟨23,d,s,t,u,a,k,pl⟩):=by
 rw[Bool.eq_iff_iff]
 simp[au,cP,ql,fb,eC,aW,qm,cO,sF,dg]
 omega
theorem eJ (i:aU)(p:Int)(h:au i p=U):(0<=i.d/\i.d<=7)/\(0<=i.s/\i.s<=7)/\(0<=i.t/\i.t<=7)/\(0<=i.u/\i.u<=7)/\(0<=i.a/\i.a<=7):=by
 obtain⟨op,d,s,t,u,a,k,pl⟩:=i
 rcases cw op with rfl|rfl|rfl|rfl|rfl|rfl|rfl|rfl|rfl|rfl|rfl|rfl|rfl|rfl|rfl|rfl|rfl|rfl|rfl|rfl|rfl | hn
 rotate_right
 ·have:=dB hn
  unfold au at h
  simp only[this.1] at h
  cases h
 all_goals
  simp[au,cP,ql,fb,eC,aW,qm,cO,sF] at h
  simp only
  omega
end
section
open Go.ChangeShapes Go.WideShapes Go.ChangeAt Go.RowKit
section
variable {P:Program}{ops:Array Oper}{rest:List Oper}{o:Oper}{a:Act}{w:World}{Q:Exit->Act->World->Prop}
theorem fD (hg:o.guard=Z)(t:TypeId)(parts:Array (Nat×Operand))(ho:o.op=.build t parts)(cs:Array Value)
 (hf:P.built t (parts.map fun(i,x)=>(i,a.eval x)).toList=V cs) (h:wpList P ops Q rest (a.put o.dst (.agg cs)) w):wpList P ops Q (o :: rest) a w:=
 wpList_build hg t parts ho (by rw[hf];rfl) (by rw[hf];exact h)
theorem fc (hgd:o.guard=Z)(ty:TypeId)(x y:Operand)(ho:o.op=.store ty x y)(old cells:Array Value)(hx:a.eval x=.pointer (V ⟨w.heap.size,0,Z⟩))(hy:a.eval y=.agg cells)
 (hi:(P.info? ty).map (·.size)=V cells.size) (hold:old.size=cells.size) (h1:cells.all (·.oneCell')=U)
 (h:wpList P ops Q rest (a.put o.dst X) (w.alloc (.cells cells ty))):wpList P ops Q (o :: rest) a (w.alloc (.cells old ty)):=
 wpList_store_row hgd ty x y ho w.heap.size cells hx hy ty old (heap_alloc_new w _) hi hold h1 (by rw[World.setRow_alloc_new];exact h)
end
end
section
def dJ (n:Nat):List Int:=List.replicate n 0
theorem zO (n t:Nat):aD (dJ n) t=0:=by
 unfold aD dJ
 rw[List.getD_eq_getElem?_getD,List.getElem?_replicate]
 split <;> rfl
theorem wQ (n:Nat):gF (dJ n):=by
 intro x hx
 obtain⟨_,rfl⟩:=List.mem_replicate.1 hx
 omega
theorem lz (n:Nat):(dJ n).length=n:=List.length_replicate
end
section
open Go.ChangeShapes Go.WideShapes Go.ChangeAt Go.RowKit Go.Deep
def DB (w:World)(a:Option Addr)(len S:Nat)(what:Nat->Value->Prop):Prop:=
 0<len->∃ b off,a=V ⟨b,off,Z⟩/\b<w.heap.size/\∀ i,i<len->∀ j,j<S->∃ u,w.cell? ⟨b,off+i*S+j,Z⟩=V u/\what j u
theorem DB.at_ {w:World}{a:Option Addr}{len S:Nat}{what:Nat->Value->Prop}(h:DB w a len S what){i:Nat}(hi:i<len){wr:World}(hb:Below w.heap.size w wr):
 ∃ b off,a=V ⟨b,off,Z⟩/\∀ j,j<S->∃ u,wr.cell? ⟨b,off+i*S+j,Z⟩=V u/\what j u:=by
 obtain⟨b,off,e,hlt,hc⟩:=h (by omega)
 refine⟨b,off,e,fun j hj=>?_⟩
 obtain⟨u,hu,hw⟩:=hc i hi j hj
 exact⟨u,(hb.cell (p:=⟨b,off+i*S+j,Z⟩) hlt).trans hu,hw⟩
section
variable {H:Type}{enc:TypeId×Value->H}{P:Program}{w:World}{base:Nat}{spare:Nat->Bool}{rI:Bool}
theorem mI {e:TypeId}{ds:List (DataW H)}{d:DataW H}(h:d∈ds):∀ q∈d.weights P e,q∈DataW.weightsAll P e ds:=by
 intro q hq
 induction ds with
 | nil=>simp at h
 | cons d' r ih=>
  simp only[DataW.weightsAll,List.mem_append]
  rcases List.mem_cons.1 h with rfl | h
  ·exact .inl hq
  ·exact .inr (ih h)
theorem mn {ts:List TypeId}{ds:List (DataW H)}{j:Nat}{t:TypeId}{d:DataW H}(ht:ts[j]?=V t)(hd:ds[j]?=V d):∀ q∈d.weights P t,q∈DataW.weightsEach P ts ds:=by
 intro q hq
 induction ts generalizing ds j with
 | nil=>simp at ht
 | cons t0 ts ih=>
  cases ds with
  | nil=>simp at hd
  | cons d0 ds=>
   simp only[DataW.weightsEach,List.mem_append]
   cases j with
   | zero=>
    simp only[List.getElem?_cons_zero,Option.some.injEq] at ht hd
    subst ht;subst hd
    exact .inl hq
   | succ j=>exact .inr (ih (by simpa using ht) (by simpa using hd))
theorem sj {t e:TypeId}{fs:Array Field}{fuel:Nat}{a:Option Addr}{len cap:Nat}{x:DataW H×List MemPlace}(ht:P.underlying t=V (.slice e))(he:P.underlying e=V (.struct fs))
 (hone:oneCellFields P fs=U) (hC:P.cellsOf e=fs.size) (h0:0<fs.size) (h:DataW.trod enc P w base spare rI fuel t [G a len cap]=V x):
 len<=maxLen/\DB w a len fs.size (fun j u=>∀ f,fs[j]?=V f->∃ n y,DataW.trod enc P w base spare rI n f.type [u]=V y/\∀ q∈y.1.weights P f.type,q∈x.1.weights P t):=by
 rcases open_slice ht h with ⟨hcs,_⟩ | ⟨ad,l,c,m,n,D,Pl,hcs,_,hl,hm,hmm,hX,hx⟩
 ·simp only[List.cons.injEq,Value.slice.injEq,and_true] at hcs
  obtain⟨rfl,rfl,rfl⟩:=hcs
  exact⟨by simp,fun hh=>absurd hh (by omega)⟩
 ·simp only[List.cons.injEq,Value.slice.injEq,and_true] at hcs
  obtain⟨rfl,rfl,rfl⟩:=hcs
  refine⟨by omega,fun hlen=>?_⟩
  have hml:len<=m:=by rw[hmm];split <;> omega
  have hcell:∀ i,i<len->∀ j,j<fs.size->∃ u,w.cell? (ad.add (i*fs.size+j))=V u/\∀ f,fs[j]?=V f->∃ n y,DataW.trod enc P w base spare rI n f.type [u]=V y/\∀ q∈y.1.weights P f.type,q∈x.1.weights P t:=by
   intro i hi j hj
   obtain⟨cs',hc,ht'⟩:=hx i (by omega)
   rw[hC] at hc
   obtain⟨ys,n',_,hys,hlen',hyl,hf⟩:=DataW.trod_struct he ht'
   obtain⟨_,hcl,hat⟩:=World.cells?_some hc
   have hjc:j<cs'.length:=by omega
   refine⟨cs'[j],?_,fun f hj'=>?_⟩
   ·have:=hat j hj
    rw[Go.Deep.add_add] at this
    rw[this,List.getElem?_eq_getElem hjc]
   ·obtain⟨ho,hk⟩:=hone_of hone j f hj'
    have h1:=hf j f hj'
    rw[ho,hk,List.drop_eq_getElem_cons hjc] at h1
    have hyj:j<ys.length:=by omega
    refine⟨n',_,h1.trans (List.getElem?_eq_getElem hyj),fun q hq=>?_⟩
    rw[hX]
    simp only[DataW.weights,ht,List.mem_cons,List.mem_append]
    right;left
    refine mI (d:=D i) (List.mem_map.2 ⟨i,List.mem_range.2 hi,rfl⟩) q ?_
    have hD:D i=.agg (ys.map (·.1)):=by injection hys
    rw[hD]
    simp only[DataW.weights,he]
    refine mn (j:=j) (t:=f.type) (d:=ys[j].1) ?_ ?_ q hq
    ·rw[List.getElem?_map,Array.getElem?_toList,hj'];rfl
    ·rw[List.getElem?_map,List.getElem?_eq_getElem hyj];rfl
  obtain⟨u0,hu0,_⟩:=hcell 0 hlen 0 h0
  have e0:ad.add (0*fs.size+0)=ad:=by unfold Addr.add;simp
  rw[e0] at hu0
  obtain⟨_,_,_,_,hsp⟩:=World.shape?_of_cell? hu0
  obtain⟨b,off,sp⟩:=ad
  simp only at hsp
  subst hsp
  refine⟨b,off,rfl,World.block_lt_of_cell? w _ hu0,fun i hi j hj=>?_⟩
  obtain⟨u,hu,hw⟩:=hcell i hi j hj
  refine⟨u,?_,hw⟩
  have e1:(⟨b,off,Z⟩:Addr).add (i*fs.size+j)=⟨b,off+i*fs.size+j,Z⟩:=by
   rw[Nat.add_assoc];unfold Addr.add;split
   ·rename_i hz;rw[hz];rfl
   ·rfl
  rw[<-e1];exact hu
theorem xA {t e:TypeId}{fs:Array Field}{fuel:Nat}{a:Option Addr}{len cap:Nat}{x:DataW H×List MemPlace}(ht:P.underlying t=V (.slice e))(he:P.underlying e=V (.struct fs))
 (hone:oneCellFields P fs=U) (hC:P.cellsOf e=fs.size) (h0:0<fs.size) (h:DataW.trod enc P w base spare rI fuel t [G a len cap]=V x):
 len<=maxLen/\DB w a len fs.size (fun j u=>∀ f,fs[j]?=V f->∃ n y,DataW.trod enc P w base spare rI n f.type [u]=V y):=by
 obtain⟨hl,hr⟩:=sj ht he hone hC h0 h
 refine⟨hl,fun h1=>?_⟩
 obtain⟨b,off,e,hlt,hc⟩:=hr h1
 refine⟨b,off,e,hlt,fun i hi j hj=>?_⟩
 obtain⟨u,hu,hw⟩:=hc i hi j hj
 exact⟨u,hu,fun f hf=>by obtain⟨n,y,hy,_⟩:=hw f hf;exact⟨n,y,hy⟩⟩
end
end
section
open Go.ChangeShapes Go.WideShapes Go.ChangeAt Go.RowKit
structure En where
 kind:Int
 th:Int
 now:Int
theorem En.ext {x y:En}(h1:x.kind=y.kind)(h2:x.th=y.th)(h3:x.now=y.now):x=y:=by cases x;cases y;simp_all
structure En.Wf (x:En):Prop where
 k0:-9223372036854775808<=x.kind
 k1:x.kind<=9223372036854775807
 t0:-9223372036854775808<=x.th
 t1:x.th<=9223372036854775807
 n0:-9223372036854775808<=x.now
 n1:x.now<=9223372036854775807
def Fp (x:En):List Value:=[O .i64 x.kind,O .i64 x.th,O .i64 x.now]
def GL (x:En):Value:=.agg #[O .i64 x.kind,O .i64 x.th,O .i64 x.now]
theorem qY (x:En):(Fp x).length=3:=rfl
theorem Dk (x:En):∀ u∈Fp x,u.oneCell'=U:=by
 intro u hu
 simp only[Fp,List.mem_cons,List.not_mem_nil,or_false] at hu
 rcases hu with rfl|rfl|rfl <;> rfl
def rJ (l:List En):List Value:=l.flatMap Fp
theorem yl (l:List En)(x:En):rJ (l++[x])=rJ l++Fp x:=by simp[rJ]
theorem qX:∀ {l:List En} {k j:Nat} {x:En},l[k]?=V x->j<3->(rJ l)[k*3+j]?=(Fp x)[j]?
 | [],k,j,x,h,_=>by simp at h
 | y :: l,0,j,x,h,hj=>by
  simp at h
  subst h
  simp[rJ,List.getElem?_append,qY,hj]
 | y :: l,k+1,j,x,h,hj=>by
  have ih:=qX (l:=l) (k:=k) (j:=j) (x:=x) (by simpa using h) hj
  rw[<-ih]
  have e:(k+1)*3+j=3+(k*3+j):=by omega
  unfold rJ
  rw[e,List.flatMap_cons,List.getElem?_append_right (by rw[qY];omega),qY]
  congr 1
  omega
def rq (w:World)(a:Option Addr)(l:List En):Prop:=
 0<l.length->∃ b off,a=V ⟨b,off,Z⟩/\b<w.heap.size/\∀ k x,l[k]?=V x->∀ j,j<3->w.cell? ⟨b,off+k*3+j,Z⟩=(Fp x)[j]?
section
variable {w w':World}{a:Option Addr}{l:List En}{v:Value}
theorem rq.below (h:rq w a l)(hb:Below w.heap.size w w'):rq w' a l:=by
 intro h0
 obtain⟨b,off,e,hlt,hc⟩:=h h0
 exact⟨b,off,e,Nat.lt_of_lt_of_le hlt hb.size,fun k x hk j hj=>(hb.cell (p:=⟨b,off+k*3+j,Z⟩) hlt).trans (hc k x hk j hj)⟩
theorem rq.nil (w:World)(a:Option Addr):rq w a []:=fun h=>absurd h (by simp)
theorem rq.at_ (h:rq w a l){k:Nat}{x:En}(hk:l[k]?=V x):∃ b off,a=V ⟨b,off,Z⟩/\b<w.heap.size/\w.cell? ⟨b,off+k*3,Z⟩=V (O .i64 x.kind)/\w.cell? ⟨b,off+k*3+1,Z⟩=V (O .i64 x.th)/\w.cell? ⟨b,off+k*3+2,Z⟩=V (O .i64 x.now):=by
 have hkl:=(List.getElem?_eq_some_iff.1 hk).1
 obtain⟨b,off,e,hlt,hc⟩:=h (by omega)
 exact⟨b,off,e,hlt,hc k x hk 0 (by omega),hc k x hk 1 (by omega),hc k x hk 2 (by omega)⟩
theorem rq.all (h:rq w a l)(h0:0<l.length):∃ b off,a=V ⟨b,off,Z⟩/\∀ i,i<l.length*3->w.cell? ⟨b,off+i,Z⟩=(rJ l)[i]?:=by
 obtain⟨b,off,e,hlt,hc⟩:=h h0
 refine⟨b,off,e,fun i hi=>?_⟩
 have hk:i / 3<l.length:=by omega
 have hg:=List.getElem?_eq_getElem hk
 have h1:=hc _ _ hg (i % 3) (by omega)
 have e2:off+i / 3*3+i % 3=off+i:=by omega
 rw[e2] at h1
 rw[h1,<-qX hg (show i % 3<3 by omega)]
 congr 1
 omega
theorem Dj {t:TypeId}{base n cap:Nat}(h:w.ownsRow base t 3 (G a n cap) n (rJ l))(hn:n=l.length):rq w a l:=by
 subst hn
 intro h0
 obtain⟨a2,cap2,e,_,_,hg⟩:=aX h
 simp only[Value.slice.injEq] at e
 obtain⟨rfl,-,rfl⟩:=e
 obtain⟨g,rfl,_,_,hlt,_,hc⟩:=hg h0
 refine⟨g,0,rfl,hlt,fun k x hk j hj=>?_⟩
 have hkl:=(List.getElem?_eq_some_iff.1 hk).1
 rw[Nat.zero_add,hc _ (by omega),qX hk hj]
end
def BP (base:Nat)(t:TypeId)(w:World)(v:Value)(l:List En):Prop:=w.ownsRow base t 3 v l.length (rJ l)
section
variable {base:Nat}{t:TypeId}{w w':World}{l:List En}{v:Value}
theorem BP.nil (base:Nat)(t:TypeId)(w:World):BP base t w (G Z 0 0) []:=World.ownsRow_nil _ _ _ _
theorem BP.is (h:BP base t w v l):∃ a cap,v=G a l.length cap/\l.length<=cap/\cap<=maxLen/\rq w a l:=by
 obtain⟨a,cap,rfl,h1,h2,_⟩:=aX h
 exact⟨a,cap,rfl,h1,h2,Dj h rfl⟩
theorem BP.within {S:Nat->Prop}(h:BP base t w v l)(hk:ag w w' S)(hn:∀ g,v.ownBlock=V g->¬ S g):BP base t w' v l:=ar h hk hn
theorem BP.alloc (h:BP base t w v l)(o:Obj):BP base t (w.alloc o) v l:=World.ownsRow.alloc h o
theorem BP.below (h:BP base t w v l)(hb:Below w.heap.size w w'):BP base t w' v l:=
 ar h (S:=fun _=>False) ⟨hb.os,hb.tape,hb.output,hb.size,fun i hi _=>hb.block i hi⟩ (fun _ _ h=>h)
end
theorem kS {α:Type}(l:List α)(k:Nat)(h:k<l.length):l.take (k+1)=l.take k++[l[k]]:=(List.take_append_getElem h).symm
theorem wq {α:Type}{P:Nat->α->Prop}:∀ n:Nat,(∀ i,i<n->∃ x,P i x)->∃ l:List α,l.length=n/\∀ (k:Nat) x,l[k]?=V x->P k x
 | 0,_=>⟨[],rfl,by simp⟩
 | n+1,h=>by
  obtain⟨l,hl,hp⟩:=wq n fun i hi=>h i (by omega)
  obtain⟨x,hx⟩:=h n (by omega)
  refine⟨l++[x],by simp[hl],fun k y hk=>?_⟩
  by_cases hkn:k<n
  ·rw[List.getElem?_append_left (by omega)] at hk
   exact hp k y hk
  ·have hlt:=(List.getElem?_eq_some_iff.1 hk).1
   simp[hl] at hlt
   obtain rfl:k=n:=by omega
   rw[List.getElem?_append_right (by omega),hl,Nat.sub_self] at hk
   simp at hk
   subst hk
   exact hx
theorem af {w w':World}(h:Below w.heap.size w w'):ag w w' (fun _=>False):=⟨h.os,h.tape,h.output,h.size,fun i hi _=>h.block i hi⟩
def dF (y:World)(g:Nat)(a b c:Value):World:=((y.setCell ⟨g,0,Z⟩ a).setCell ⟨g,1,Z⟩ b).setCell ⟨g,2,Z⟩ c
theorem eu {y:World}{g:Nat}{t:TypeId}{x0 x1 x2:Value}(h:Bk y g t #[x0,x1,x2])(a b c:Value):Bk (dF y g a b c) g t #[a,b,c]:=by
 have h8:=((h.put 0 a).put 1 b).put 2 c
 unfold dF
 simpa only[List.setIfInBounds_toArray,List.set_cons_zero,List.set_cons_succ] using h8
theorem bP {B:Nat}{w y:World}{g:Nat}(h:Below B w y)(hg:B<=g)(a b c:Value):Below B w (dF y g a b c):=((h.setCell hg _).setCell hg _).setCell hg _
end
