import Derived.Test.YthdgehcghklflaaGreatDoorRows
import Derived.Handy
import Derived.IntWalk
import Derived.Below
import Derived.OneCell
import Derived.OwnWalk
import Derived.Lib.Hide
import Derived.Laws.OwnMore
import Derived.Laws.Rows
import Derived.Laws.LoneSync
import Derived.Deep.Draws
import Derived.Lib.ItoaNum
import Derived.Lib.AtoiAll
import Derived.Lib.Strings
import Derived.Maps.AppendAt
import Derived.Deep.RegionLawGrows
import Derived.Maps.OwnSet
import Derived.RangeFuncNested
import Derived.RangeFuncBound
import Derived.RangeFuncCalls
import Derived.RangeFuncLeaves
import Derived.Shelf.Abstract
import Derived.Shelf.RegionOpen
import Derived.WalkKit
import Derived.OwnWalkIn
import Derived.TacticsInMore
import Derived.LoopNIn
import Derived.LoopIn
import Derived.Orders
import Derived.StillTail
import Derived.BigQuiet
import Derived.Deep.WholeRow
import Derived.Laws.Tables
import Derived.Laws.Pointers
set_option linter.unusedVariables false
set_option maxHeartbeats 1000000
set_option maxRecDepth 100000
open Go.Value renaming int->O,slice->L,pointer->M
open Go.IntKind renaming u32->Z
open Option renaming none->V,some->R
open Bool renaming false->U,true->G
open Go.RowKit.Below renaming refl->X
open Nat renaming le_refl->Y
namespace Go.Proofs.YthdgehcghklflaaGreatDoor
section
open Go.ChangeShapes Go.WideShapes Go.ChangeAt Go.RowKit
theorem br {k:IntKind}{a b:Int}(h:a=b):Ending.returned (.int k a)=.returned (.int k b):=by rw[h]
theorem bn {a b:Bool}(h:a=b):Ending.returned (.bool a)=.returned (.bool b):=by rw[h]
def Bk (w:World)(g:Nat)(t:TypeId)(cs:Array Value):Prop:=w.heap[g]?=R (.cells cs t (0,0))
section
variable {w w':World}{g:Nat}{t:TypeId}{cs:Array Value}
theorem Bk.lt (h:Bk w g t cs):g<w.heap.size:=(Array.getElem?_eq_some_iff.1 h).1
theorem Bk.cell (h:Bk w g t cs)(i:Nat):w.cell? ⟨g,i,V⟩=cs[i]?:=cell_of_row w g i cs t (0,0) h
theorem Bk.Fo {w:World}{b t:Nat}{a0 a1:Value}{l:List Value}(h:Bk w b t (a0::a1::l).toArray):w.cell? ⟨b,0,V⟩=R a0/\w.cell? ⟨b,1,V⟩=R a1:=⟨h.cell 0,h.cell 1⟩
theorem Bk.kX {w:World}{b t:Nat}{a0 a1 a2:Value}{l:List Value}(h:Bk w b t (a0::a1::a2::l).toArray):w.cell? ⟨b,0,V⟩=R a0/\w.cell? ⟨b,1,V⟩=R a1/\w.cell? ⟨b,2,V⟩=R a2:=⟨h.cell 0,h.cell 1,h.cell 2⟩
theorem Bk.g9 {w:World}{b t:Nat}{a0 a1 a2 a3 a4 a5:Value}{l:List Value}(h:Bk w b t (a0::a1::a2::a3::a4::a5::l).toArray):w.cell? ⟨b,0,V⟩=R a0/\w.cell? ⟨b,1,V⟩=R a1/\w.cell? ⟨b,2,V⟩=R a2/\w.cell? ⟨b,3,V⟩=R a3/\w.cell? ⟨b,4,V⟩=R a4/\w.cell? ⟨b,5,V⟩=R a5:=⟨h.cell 0,h.cell 1,h.cell 2,h.cell 3,h.cell 4,h.cell 5⟩
theorem Bk.Bg {w:World}{b t:Nat}{a0 a1 a2 a3 a4 a5 a6:Value}{l:List Value}(h:Bk w b t (a0::a1::a2::a3::a4::a5::a6::l).toArray):w.cell? ⟨b,0,V⟩=R a0/\w.cell? ⟨b,1,V⟩=R a1/\w.cell? ⟨b,2,V⟩=R a2/\w.cell? ⟨b,3,V⟩=R a3/\w.cell? ⟨b,4,V⟩=R a4/\w.cell? ⟨b,5,V⟩=R a5/\w.cell? ⟨b,6,V⟩=R a6:=⟨h.cell 0,h.cell 1,h.cell 2,h.cell 3,h.cell 4,h.cell 5,h.cell 6⟩
theorem Bk.Fu {w:World}{b t:Nat}{a0 a1 a2 a3 a4 a5 a6 a7:Value}{l:List Value}(h:Bk w b t (a0::a1::a2::a3::a4::a5::a6::a7::l).toArray):w.cell? ⟨b,0,V⟩=R a0/\w.cell? ⟨b,1,V⟩=R a1/\w.cell? ⟨b,2,V⟩=R a2/\w.cell? ⟨b,3,V⟩=R a3/\w.cell? ⟨b,4,V⟩=R a4/\w.cell? ⟨b,5,V⟩=R a5/\w.cell? ⟨b,6,V⟩=R a6/\w.cell? ⟨b,7,V⟩=R a7:=⟨h.cell 0,h.cell 1,h.cell 2,h.cell 3,h.cell 4,h.cell 5,h.cell 6,h.cell 7⟩
theorem Bk.free (h:Bk w g t cs)(i:Nat):w.frozen? ⟨g,i,V⟩=U:=by unfold Bk at h;simp[World.frozen?,h]
theorem Bk.made (w:World)(t:TypeId)(cs:Array Value):Bk (w.alloc (.cells cs t)) w.heap.size t cs:=heap_alloc_new w _
theorem Bk.alloc (h:Bk w g t cs)(o:Obj):Bk (w.alloc o) g t cs:=(Below.heap_alloc w o g h.lt).trans h
theorem Bk.put (h:Bk w g t cs)(i:Nat)(u:Value):Bk (w.setCell ⟨g,i,V⟩ u) g t (cs.setIfInBounds i u):=by
 unfold Bk at h ⊢;simp[World.setCell,Array.getElem?_modify,h]
theorem Bk.off (h:Bk w g t cs){p:Addr}(hp:g≠p.block)(u:Value):Bk (w.setCell p u) g t cs:=(Below.heap_setCell w p u g hp).trans h
theorem Bk.grown {row:Option Nat}(h:Bk w g t cs)(hg:w.grownBy w' row)(hne:R g≠row):Bk w' g t cs:=(hg.block g h.lt hne).trans h
theorem Bk.drewN (h:Bk w g t cs)(n:Nat):Bk (w.drewN n) g t cs:=h
theorem Bk.aj {g':Nat}{t':TypeId}{cs':Array Value}(h:Bk w g t cs)(h':Bk w g' t' cs')(hne:t≠t'):g≠g':=by
 intro e;subst e;unfold Bk at h h';rw[h] at h';injection h' with h';injection h' with _ ht;exact hne ht
end
abbrev fE (a w:World) (g:Nat):Prop:=a.grownBy w (R g)
theorem dt (w:World)(g i:Nat)(u:Value):fE w (w.setCell ⟨g,i,V⟩ u) g:=
 ⟨rfl,rfl,rfl,by simp[World.setCell],fun k _ hne=>Below.heap_setCell w _ u k (fun e=>hne (by rw[e]))⟩
theorem bd (w:World)(o:Obj)(r:Option Nat):w.grownBy (w.alloc o) r:=World.grownBy_alloc w o r
theorem eD {a w:World}{r:Option Nat}(h:a.grownBy w r)(n:Nat):a.grownBy (w.drewN n) r:=⟨h.os,h.tape,h.output,h.size,h.block⟩
theorem df (w:World)(r:Option Nat):w.grownBy w r:=⟨rfl,rfl,rfl,Y _,fun _ _ _=>rfl⟩
theorem aQ {a b c:World}{r s:Option Nat}(h:a.grownBy b r)(k:b.grownBy c s)(hs:s=r\/∀ x,s=R x->a.heap.size<=x):a.grownBy c r:=
 ⟨k.os.trans h.os,k.tape.trans h.tape,k.output.trans h.output,Nat.le_trans h.size k.size,fun i hi hne=>
  (k.block i (Nat.lt_of_lt_of_le hi h.size) (by
   rcases hs with e | e
   ·rw[e];exact hne
   ·intro e';have:=e i e'.symm;omega)).trans (h.block i hi hne)⟩
theorem vt {a b:World}{r:Option Nat}(h:a.grownBy b V):a.grownBy b r:=⟨h.os,h.tape,h.output,h.size,fun i hi _=>h.block i hi (by simp)⟩
theorem aP {a b:World}(h:a.grownBy b V):Below a.heap.size a b:=⟨h.os,h.tape,h.output,h.size,fun i hi=>h.block i hi (by simp)⟩
theorem bN {a b:World}(h:Below a.heap.size a b):a.grownBy b V:=⟨h.os,h.tape,h.output,h.size,fun i hi _=>h.block i hi⟩
def aG (xs:List Int)(i:Nat):Int:=xs.getD i 0
theorem Cz {xs:List Int}{i:Nat}(h:i<xs.length):aG xs i=xs[i]:=by simp[aG,h]
theorem jK {xs:List Int}{i:Nat}(h:i<xs.length):xs[i]?=R (aG xs i):=by rw[Cz h];exact List.getElem?_eq_getElem h
theorem gZ {xs:List Int}{i j:Nat}{v:Int}(h:i<xs.length):aG (xs.set i v) j=if i=j then v else aG xs j:=by
 unfold aG;simp only[List.getD_eq_getElem?_getD,List.getElem?_set]
 by_cases e:i=j
 ·subst e;simp[h]
 ·simp[e]
def words (xs:List Int):Array Value:=(xs.map (Value.int .u32)).toArray
def fM (xs:List Int):Prop:=∀ x∈xs,0<=x/\x<4294967296
theorem mB (xs:List Int)(i:Nat)(h:i<xs.length):(words xs)[i]?=R (O Z (aG xs i)):=by simp[words,h,aG]
theorem nI (xs:List Int)(i:Nat)(v:Int):(words xs).setIfInBounds i (O Z v)=words (xs.set i v):=by
 unfold words;rw[List.setIfInBounds_toArray,List.map_set]
theorem fM.at_ {xs:List Int}(h:fM xs)(i:Nat):0<=aG xs i/\aG xs i<4294967296:=by
 unfold aG
 by_cases hi:i<xs.length
 ·simp only[List.getD_eq_getElem?_getD,List.getElem?_eq_getElem hi,Option.getD_some];exact h _ (List.getElem_mem hi)
 ·simp[List.getD_eq_getElem?_getD,List.getElem?_eq_none (Nat.le_of_not_lt hi)]
theorem fM.set {xs:List Int}(h:fM xs)(i:Nat)(v:Int)(hv:0<=v/\v<4294967296):fM (xs.set i v):=by
 intro x hx
 rcases List.mem_or_eq_of_mem_set hx with hx | rfl
 ·exact h x hx
 ·exact hv
theorem fM.fX (n:Nat):fM (List.replicate n 0):=by
 intro x hx;rw[List.eq_of_mem_replicate hx];omega
theorem ml (n:Nat):madeCells #[O Z 0] n=words (List.replicate n 0):=by
 apply Array.ext
 ·simp[madeCells,words]
 ·intro i h1 h2;simp[madeCells,words,Nat.mod_one]
def dM (k:IntKind)(w:World)(a:Option Addr)(xs:List Int):Prop:=
 0<xs.length->∃ b off,a=R ⟨b,off,V⟩/\b<w.heap.size/\∀ i,i<xs.length->w.cell? ⟨b,off+i,V⟩=R (.int k (aG xs i))
theorem dM.at_ {k:IntKind}{w:World}{a:Option Addr}{xs:List Int}(h:dM k w a xs){i:Nat}(hi:i<xs.length){wr:World}(hb:Below w.heap.size w wr):
 ∃ b off,a=R ⟨b,off,V⟩/\wr.cell? ⟨b,off+i,V⟩=R (.int k (aG xs i)):=by
 obtain⟨b,off,e,hlt,hc⟩:=h (by omega)
 exact⟨b,off,e,(hb.cell (p:=⟨b,off+i,V⟩) hlt).trans (hc i hi)⟩
theorem tO:(Tryz.prog.info? 22).map (fun i=>(i.zero,i.size,i.bytes))=R (R (O Z 0),1,4):=by kernel_rfl
end
section
structure aJ where
 op:Int
 d:Int
 s:Int
 t:Int
 u:Int
 a:Int
 k:Int
 pl:Int
def aJ.zero:aJ:=⟨0,0,0,0,0,0,0,0⟩
structure aJ.Wf (i:aJ):Prop where
 op0:-9223372036854775808<=i.op
 op1:i.op<=9223372036854775807
 d0:-9223372036854775808<=i.d
 d1:i.d<=9223372036854775807
 s0:-9223372036854775808<=i.s
 s1:i.s<=9223372036854775807
 t0:-9223372036854775808<=i.t
 t1:i.t<=9223372036854775807
 u0:-9223372036854775808<=i.u
 u1:i.u<=9223372036854775807
 a0:-9223372036854775808<=i.a
 a1:i.a<=9223372036854775807
 k0:0<=i.k
 k1:i.k<4294967296
 to0:-9223372036854775808<=i.pl
 to1:i.pl<=9223372036854775807
def bM (op:Int):List UInt8:=
 if op=1 then [99,111,110,115,116]
 else if op=2 then [109,111,118,101]
 else if op=3 then [97,100,100,107]
 else if op=4 then [97,110,100,107]
 else if op=5 then [115,104,108]
 else if op=6 then [115,104,114]
 else if op=7 then [111,114]
 else if op=8 then [98,101,113]
 else if op=9 then [98,110,101]
 else if op=10 then [106,117,109,112]
 else if op=11 then [115,101,108,102]
 else if op=12 then [109,97,114,107]
 else if op=13 then [100,111,110,101]
 else if op=16 then [108,111,97,100]
 else if op=17 then [115,116,111,114,101]
 else if op=18 then [115,119,97,112]
 else if op=19 then [99,97,115]
 else if op=20 then [102,97,100,100]
 else if op=21 then [97,119,97,105,116]
 else if op=22 then [116,97,107,101]
 else if op=23 then [102,114,101,101]
 else []
def dh (op:Int):List UInt8:=
 if op=1 then [68,75]
 else if op=2 then [68,83]
 else if op=3 then [68,83,75]
 else if op=4 then [68,83,75]
 else if op=5 then [68,83,75]
 else if op=6 then [68,83,75]
 else if op=7 then [68,83,84]
 else if op=8 then [83,84,80]
 else if op=9 then [83,84,80]
 else if op=10 then [80]
 else if op=11 then [68]
 else if op=12 then [75]
 else if op=13 then [75]
 else if op=16 then [68,65,83]
 else if op=17 then [65,83,84]
 else if op=18 then [68,65,83,84]
 else if op=19 then [68,65,83,84,85]
 else if op=20 then [68,65,83,75]
 else if op=21 then [68,65,83,75,84,80]
 else if op=22 then [68]
 else if op=23 then [83]
 else []
theorem co (op:Int):op=1\/op=2\/op=3\/op=4\/op=5\/op=6\/op=7\/op=8\/op=9\/op=10\/op=11\/op=12\/op=13\/op=16\/op=17\/op=18\/op=19\/op=20\/op=21\/op=22\/op=23\/
 (op≠1/\op≠2/\op≠3/\op≠4/\op≠5/\op≠6/\op≠7/\op≠8/\op≠9/\op≠10/\op≠11/\op≠12/\op≠13/\op≠16/\op≠17/\op≠18/\op≠19/\op≠20/\op≠21/\op≠22/\op≠23):=by omega
def bf (i:aJ)(c:Int):Int:=
 if c=68 then i.d else if c=83 then i.s else if c=84 then i.t else if c=85 then i.u else if c=65 then i.a else if c=75 then i.k else i.pl
def cJ (i:aJ)(c v:Int):aJ:=
 if c=68 then { i with d:=v } else if c=83 then { i with s:=v } else if c=84 then { i with t:=v } else if c=85 then { i with u:=v }
 else if c=65 then { i with a:=v } else if c=75 then { i with k:=v % 4294967296 } else if c=80 then { i with pl:=v } else i
def eJ (op c:Int):Int:=
 if c=65 then 0 else if c=75 then (if op=12 then 1 else 0) else if c=80 then (if op=21 then -1 else 0) else 0
def dZ (op c p:Int):Int:=
 if c=65 then 8
 else if c=75 then (if op=5 then 32 else if op=6 then 32 else if op=12 then 5 else if op=13 then 4 else if op=21 then 2 else 4294967296)
 else if c=80 then (if op=21 then (if p<0 then 0 else p) else p) else 8
def nG (i:aJ)(p:Int)(c:Int):Bool:=decide (eJ i.op c<=bf i c) && decide (bf i c<dZ i.op c p)
def oQ (i:aJ)(l:List UInt8):aJ:=l.foldl (fun x c=>cJ x c.toNat 0) { i with op:=0 }
def qu (i:aJ):Bool:=decide (i.op=0/\i.d=0/\i.s=0/\i.t=0/\i.u=0/\i.a=0/\i.k=0/\i.pl=0)
def au (i:aJ)(p:Int):Bool:=!(dh i.op).isEmpty && ((dh i.op).all (fun c=>nG i p c.toNat) && qu (oQ i (dh i.op)))
def aY (i:aJ)(c:Int):List UInt8:=
 if c=65 then 32 :: Lib.itoa i.a
 else if c=75 then (if i.op=21 then (if i.k=0 then [32,101,113] else [32,110,101]) else 32 :: Lib.itoa i.k)
 else if c=80 then (if i.op=21 then (if i.pl=-1 then [] else [32,101,108,115,101,32]++Lib.itoa i.pl) else 32 :: Lib.itoa i.pl)
 else [32,114]++Lib.itoa (bf i c)
def aE (i:aJ)(l:List UInt8):List UInt8:=l.flatMap fun c=>aY i c.toNat
def af (i:aJ):List UInt8:=bM i.op++aE i (dh i.op)
def jP (w:List UInt8):Int:=
 if w=[101,113] then 0 else if w=[110,101] then 1
 else match Lib.atoiAll (Lib.trimPrefix w [114]) with
  | .ok v=>v
  | _=>-1
def bZ (ws:List (List UInt8))(n:Nat):Int:=if n<ws.length then jP (ws.getD n []) else -1
def fZ (w:List UInt8):Nat->Int->Int
 | 0,_=>0
 | n+1,k=>if (dh k).isEmpty=U/\bM k=w then k else fZ w n (k+1)
def nr (w:List UInt8):Int:=fZ w 23 1
def cb (ws:List (List UInt8)):List UInt8->Nat->aJ->aJ
 | [],_,i=>i
 | c :: l,n,i=>cb ws l (n+1) (cJ i c.toNat (bZ ws (n+1)))
def dg (ws:List (List UInt8))(i:aJ):aJ:=if i.op=21 then { i with pl:=bZ ws 7 } else i
def bY (ws:List (List UInt8)):aJ:=
 dg ws (cb ws (dh (nr (ws.getD 0 []))) 0 { aJ.zero with op:=nr (ws.getD 0 []) })
def Bo (c:Int):Prop:=c=68\/c=83\/c=84\/c=85\/c=65\/c=75\/c=80
def De (c:UInt8):Bool:=c==68 || c==83 || c==84 || c==85 || c==65 || c==75 || c==80
theorem dw {op:Int}(h:op≠1/\op≠2/\op≠3/\op≠4/\op≠5/\op≠6/\op≠7/\op≠8/\op≠9/\op≠10/\op≠11/\op≠12/\op≠13/\op≠16/\op≠17/\op≠18/\op≠19/\op≠20/\op≠21/\op≠22/\op≠23):dh op=[]/\bM op=[]:=by
 unfold dh bM;simp[h]
theorem CW (op:Int):(dh op).all De=G:=by
 rcases co op with rfl|rfl|rfl|rfl|rfl|rfl|rfl|rfl|rfl|rfl|rfl|rfl|rfl|rfl|rfl|rfl|rfl|rfl|rfl|rfl|rfl | hn
 all_goals first | rfl | (rw[(dw hn).1];rfl)
theorem CD {c:UInt8}(h:De c=G):Bo c.toNat:=by
 unfold De at h
 simp at h
 unfold Bo
 rcases h with ((((((rfl|rfl) | rfl) | rfl) | rfl) | rfl) | rfl) <;> decide
theorem tF (op:Int):∀ c∈dh op,Bo c.toNat:=fun c hc=>CD (List.all_eq_true.1 (CW op) c hc)
theorem tG (op:Int):(dh op).length<=6:=by
 rcases co op with rfl|rfl|rfl|rfl|rfl|rfl|rfl|rfl|rfl|rfl|rfl|rfl|rfl|rfl|rfl|rfl|rfl|rfl|rfl|rfl|rfl | hn
 all_goals first | decide | (rw[(dw hn).1];decide)
def dj (i j:aJ):Bool:=i.op==j.op && (i.d==j.d && (i.s==j.s && (i.t==j.t && (i.u==j.u && (i.a==j.a && (i.k==j.k && i.pl==j.pl))))))
theorem CV (i:aJ):qu i=dj i aJ.zero:=by
 rw[Bool.eq_iff_iff]
 simp[qu,dj,aJ.zero]
end
section
open Go.ChangeShapes Go.WideShapes Go.ChangeAt Go.RowKit
structure ab (w w':World)(S:Nat->Prop):Prop where
 os:w'.os=w.os
 tape:w'.tape=w.tape
 output:w'.output=w.output
 size:w.heap.size<=w'.heap.size
 block:∀ i,i<w.heap.size->¬ S i->w'.heap[i]?=w.heap[i]?
section
variable {w w' w'':World}{S S':Nat->Prop}
theorem ab.refl (w:World)(S:Nat->Prop):ab w w S:=⟨rfl,rfl,rfl,Y _,fun _ _ _=>rfl⟩
theorem ab.bz (h:ab w w' S)(k:ab w' w'' S')(hs:∀ i,S' i->S i\/w.heap.size<=i):ab w w'' S:=
 ⟨k.os.trans h.os,k.tape.trans h.tape,k.output.trans h.output,Nat.le_trans h.size k.size,fun i hi hn=>
  (k.block i (Nat.lt_of_lt_of_le hi h.size) (fun e=>by
   rcases hs i e with e | e
   ·exact hn e
   ·omega)).trans (h.block i hi hn)⟩
theorem ab.wide (h:ab w w' S)(hs:∀ i,S i->i<w.heap.size->S' i):ab w w' S':=⟨h.os,h.tape,h.output,h.size,fun i hi hn=>h.block i hi (fun e=>hn (hs i e hi))⟩
theorem ab.ay {r:Option Nat}(h:w.grownBy w' r)(hs:∀ i,r=R i->S i\/w.heap.size<=i):ab w w' S:=
 ⟨h.os,h.tape,h.output,h.size,fun i hi hn=>h.block i hi (fun e=>by
  rcases hs i e.symm with e | e
  ·exact hn e
  ·omega)⟩
theorem ab.ef (h:ab w w' S)(n:Nat):ab w (w'.drewN n) S:=⟨h.os,h.tape,h.output,h.size,h.block⟩
theorem ab.alloc (h:ab w w' S)(o:Obj):ab w (w'.alloc o) S:=h.bz (.ay (S:=fun _=>False) (bd _ _ V) (by simp)) (by simp)
theorem ab.put (h:ab w w' S)(g i:Nat)(u:Value)(hs:S g\/w.heap.size<=g):ab w (w'.setCell ⟨g,i,V⟩ u) S:=
 h.bz (.ay (S:=fun j=>j=g) (dt _ _ _ _) (by simp)) (by rintro i rfl;exact hs)
theorem ab.grown (h:ab w w' S)(hs:∀ i,S i->w.heap.size<=i):w.grownBy w' V:=⟨h.os,h.tape,h.output,h.size,fun i hi _=>h.block i hi (fun e=>by have:=hs i e;omega)⟩
theorem ab.below (h:ab w w' S)(hs:∀ i,S i->w.heap.size<=i):Below w.heap.size w w':=aP (h.grown hs)
theorem Bk.within {g:Nat}{t:TypeId}{cs:Array Value}(h:Bk w g t cs)(k:ab w w' S)(hn:¬ S g):Bk w' g t cs:=(k.block g h.lt hn).trans h
end
def BP (w:World)(p:Nat)(og:Option Nat)(w':World)(og':Option Nat):Prop:=
 (og'=og\/∃ g,og'=R g/\w.heap.size<=g)/\ab w w' (fun b=>b=p\/R b=og)
def fA (a w:World)(p:Nat)(og:Option Nat):Prop:=a.grownBy w V/\a.heap.size<=p/\∀ g,og=R g->a.heap.size<=g
section
variable {a w w':World}{p:Nat}{og og':Option Nat}
theorem fA.within (h:fA a w p og)(k:ab w w' (fun b=>b=p\/R b=og)):fA a w' p og:=by
 refine⟨?_,h.2⟩
 have h1:ab a w' (fun _=>False):=ab.bz (.ay h.1 (by simp)) k (by
  rintro i (rfl | e)
  ·exact .inr h.2.1
  ·exact .inr (h.2.2 i e.symm))
 exact h1.grown (by simp)
theorem fA.D4 (h:fA a w p og)(k:BP w p og w' og'):fA a w' p og':=by
 have h1:=h.within k.2
 refine⟨h1.1,h.2.1,fun g e=>?_⟩
 rcases k.1 with rfl | ⟨g',rfl,hg⟩
 ·exact h.2.2 g e
 ·obtain rfl:g'=g:=by injection e
  exact Nat.le_trans h.1.size hg
theorem fA.ef (h:fA a w p og)(n:Nat):fA a (w.drewN n) p og:=⟨eD h.1 n,h.2⟩
theorem fA.more (h:fA a w p og)(k:w.grownBy w' V):fA a w' p og:=⟨aQ h.1 k (.inl rfl),h.2⟩
end
theorem cq {w:World}{b i:Nat}{u:Value}{c j:Nat}(h:c≠b):(w.setCell ⟨b,i,V⟩ u).cell? ⟨c,j,V⟩=w.cell? ⟨c,j,V⟩:=
 World.cell?_of_block (Below.heap_setCell w ⟨b,i,V⟩ u c h)
def fL {α:Type}(z:α)(xs:List α)(i:Nat):α:=xs.getD i z
section
variable {α:Type}{z:α}
theorem xD {xs:List α}{i:Nat}(h:i<xs.length):xs[i]?=R (fL z xs i):=by simp[fL,h]
theorem qM {xs:List α}{i j:Nat}{v:α}(h:i<xs.length):fL z (xs.set i v) j=if i=j then v else fL z xs j:=by
 unfold fL;simp only[List.getD_eq_getElem?_getD,List.getElem?_set]
 by_cases e:i=j
 ·subst e;simp[h]
 ·simp[e]
theorem lz {xs ys:List α}{i:Nat}(h:i<xs.length):fL z (xs++ys) i=fL z xs i:=by simp[fL,List.getD_eq_getElem?_getD,List.getElem?_append,h]
theorem lA {xs:List α}{v:α}:fL z (xs++[v]) xs.length=v:=by simp[fL]
def eK (C:α->Value)(xs:List α):Array Value:=(xs.map C).toArray
theorem jl (C:α->Value){xs:List α}{i:Nat}(h:i<xs.length):(eK C xs)[i]?=R (C (fL z xs i)):=by simp[eK,fL,h]
theorem ka (C:α->Value)(xs:List α)(i:Nat)(v:α):(eK C xs).setIfInBounds i (C v)=eK C (xs.set i v):=by
 unfold eK;rw[List.setIfInBounds_toArray,List.map_set]
theorem rS (C:α->Value)(z:α)(n:Nat):madeCells #[C z] n=eK C (List.replicate n z):=by
 apply Array.ext
 ·simp[madeCells,eK]
 ·intro i h1 h2;simp[madeCells,eK,Nat.mod_one]
def eL (vs ds:List α)(k:Nat):List α:=vs.take k++ds.drop k
theorem km (vs ds:List α)(k:Nat)(h:k<=vs.length)(hd:k<=ds.length):(eL vs ds k).length=ds.length:=by simp[eL];omega
theorem ue (vs ds:List α):eL vs ds 0=ds:=by simp[eL]
theorem xG (vs ds:List α)(k i:Nat)(hk:k<=vs.length)(h:i<k):fL z (eL vs ds k) i=fL z vs i:=by
 simp[eL,fL,List.getD_eq_getElem?_getD,List.getElem?_append,List.getElem?_take]
 rw[if_pos (by omega),if_pos h]
theorem om (vs ds:List α)(k:Nat)(h:k<vs.length)(hd:k<ds.length):(eL vs ds k).set k (fL z vs k)=eL vs ds (k+1):=by
 unfold eL
 have e:vs.take (k+1)=vs.take k++[fL z vs k]:=by rw[List.take_add_one,xD (z:=z) h];rfl
 rw[e,List.set_append,if_neg (by simp;omega)]
 have e2:ds.drop k=ds[k] :: ds.drop (k+1):=by rw[List.drop_eq_getElem_cons hd]
 rw[e2]
 have e3:k-(vs.take k).length=0:=by simp;omega
 rw[e3,List.set_cons_zero,List.append_assoc,List.singleton_append]
end
section
variable {P:Program}{w w':World}{base:Nat}{t:TypeId}{size:Nat}{v:Value}{n:Nat}{xs:List Value}
theorem aZ (h:w.ownsRow base t size v n xs){g:Nat}(e:v.ownBlock=R g):∃ cs,Bk w g t cs:=by
 rcases h.2 with ⟨rfl,_⟩ | ⟨g',cap,cur,rfl,_,hg,_⟩
 ·cases e
 ·simp only[Value.ownBlock,Option.some.injEq] at e;subst e;exact⟨cur,hg⟩
theorem aq {S:Nat->Prop}(h:w.ownsRow base t size v n xs)(hk:ab w w' S)(hn:∀ g,v.ownBlock=R g->¬ S g):w'.ownsRow base t size v n xs:=by
 rcases h.2 with ⟨rfl,h0⟩ | ⟨g,cap,cur,rfl,hb,hg,r⟩
 ·exact⟨h.1,.inl ⟨rfl,h0⟩⟩
 ·exact⟨h.1,.inr ⟨g,cap,cur,rfl,hb,(hk.block g (Array.getElem?_eq_some_iff.1 hg).1 (hn g rfl)).trans hg,r⟩⟩
theorem bp (h:w.ownsRow base t size v n xs):∃ a cap,v=L a n cap/\n<=cap/\cap<=maxLen/\(0<n->∃ g,a=R ⟨g,0,V⟩/\v.ownBlock=R g/\base<=g/\g<w.heap.size/\(∀ i,w.frozen? ⟨g,i,V⟩=U)/\∀ i,i<n*size->w.cell? ⟨g,i,V⟩=xs[i]?):=by
 rcases h.2 with ⟨rfl,h0⟩ | ⟨g,cap,cur,rfl,hb,hg,hnc,hcm,r⟩
 ·exact⟨V,0,by rw[h0],by omega,by simp,fun h=>by omega⟩
 ·exact⟨R ⟨g,0,V⟩,cap,rfl,hnc,hcm,fun _=>⟨g,rfl,rfl,hb,(Array.getElem?_eq_some_iff.1 hg).1,fun i=>Bk.free (cs:=cur) (t:=t) hg i,fun i hi=>World.ownsRow.cellAt h i hi⟩⟩
end
section
variable {P:Program}{ops:Array Oper}{rest:List Oper}{o:Oper}{a:Act}{w:World}{K:Act->World->Prop}{Q:Exit->Act->World->Prop}{E:Prop}{base:Nat}{t:TypeId}{size:Nat}{v:Value}{n:Nat}{xs:List Value}
theorem mP (hgd:o.guard=V)(s x:Operand)(ts:TypeId)(ho:o.op=Op.call { callee:=Callee.builtin Builtin.append,args:=#[s,x],argTypes:=#[ts,ts] })
 (z:Value) (bytes:Nat) (ht:P.underlying ts=R (.slice t)) (hi:(P.info? t).map (fun i=>(i.zero,i.size,i.bytes))=R (R z,size,bytes)) (hz:z.cells.size=size) (hsz:0<size) (hby:bytes<=200)
 (h:w.ownsRow base t size v n xs) (hs:a.eval s=v) (news:List Value) (hnl:news.length=size) (hone:∀ u∈news,u.oneCell'=G) (B:Nat) (hx:a.eval x=L (R ⟨B,0,V⟩) 1 1)
 (hB:∀ j u,news[j]?=R u->w.cell? ((⟨B,0,V⟩:Addr).add j)=R u) (hl:n<100000) (hbase:base<=w.heap.size)
 (hK:∀ v' w',w'.ownsRow base t size v' (n+1) (xs++news)->w.grownBy w' v.ownBlock->(v'.ownBlock=v.ownBlock\/v'.ownBlock=R w.heap.size)->K (a.put o.dst v') w'):
 if Region.wanted o (yielded ops a.tmps)=G then Oper.wp P o a w K Q else E:=by
 obtain⟨i0,hi0,hz0,hz1,hz2⟩:=info_parts hi
 have hw:Region.wanted o (yielded ops a.tmps)=G:=by simp[Region.wanted,hgd]
 rw[if_pos hw]
 obtain⟨v',w',hr,h2,h3,h4,h5⟩:=run_append_own_at (P:=P) w base ts o.type t i0 z size bytes ht hi0 hz0 hz1 hz2 hz hsz v n xs h ⟨B,0,V⟩ 1 1 news (by omega) hB hone (by simp only[maxLen];omega)
  (by
   have:(n+1)*bytes<=100001*200:=Nat.mul_le_mul (by omega) hby
   omega) hbase
 unfold Oper.wp
 simp[execOp,ho,resolve,invoke,builtin,hs,hx,hr,Result.andThen]
 exact hK v' w' h2 h3 h5
theorem rC (hgd:o.guard=V)(s x:Operand)(ts:TypeId)(ho:o.op=Op.call { callee:=Callee.builtin Builtin.append,args:=#[s,x],argTypes:=#[ts,ts] })
 (z:Value) (bytes:Nat) (ht:P.underlying ts=R (.slice t)) (hi:(P.info? t).map (fun i=>(i.zero,i.size,i.bytes))=R (R z,size,bytes)) (hz:z.cells.size=size) (hsz:0<size) (hby:bytes<=200)
 (h:w.ownsRow base t size v n xs) (hs:a.eval s=v) (news:List Value) (hnl:news.length=size) (hone:∀ u∈news,u.oneCell'=G) (B:Nat) (hx:a.eval x=L (R ⟨B,0,V⟩) 1 1)
 (hB:∀ j u,news[j]?=R u->w.cell? ((⟨B,0,V⟩:Addr).add j)=R u) (hl:n<100000) (hbase:base<=w.heap.size)
 (hK:∀ v' w',w'.ownsRow base t size v' (n+1) (xs++news)->w.grownBy w' v.ownBlock->(v'.ownBlock=v.ownBlock\/v'.ownBlock=R w.heap.size)->wpList P ops Q rest (a.put o.dst v') w'):
 wpList P ops Q (o :: rest) a w:=by
 obtain⟨i0,hi0,hz0,hz1,hz2⟩:=info_parts hi
 refine wpList_append_own_at _ hgd s x ts ho base t i0 _ size bytes ht hi0 hz0 hz1 hz2 hz hsz v n xs hs h ⟨B,0,V⟩ 1 1 news hx (by omega) hB hone (by simp only[maxLen];omega)
  (by
   have:(n+1)*bytes<=100001*200:=Nat.mul_le_mul (by omega) hby
   omega) hbase fun v' w' h2 h3 _ h5=>hK v' w' h2 h3 h5
end
theorem gC {w:World}{B:Nat}{t:TypeId}{cs:Array Value}(h:Bk w B t cs):∀ (j:Nat) (u:Value),cs.toList[j]?=R u->w.cell? ((⟨B,0,V⟩:Addr).add j)=R u:=by
 intro j u hj
 have ea:(⟨B,0,V⟩:Addr).add j=⟨B,j,V⟩:=by unfold Addr.add;split <;> simp_all
 rw[ea,h.cell j]
 simpa using hj
end
section
open Go.ChangeShapes Go.WideShapes Go.ChangeAt Go.RowKit Go.Maps
theorem yV:Keyed Tryz.prog 9:=string_keyed Tryz.underlying9
theorem Et (s:List UInt8)(hs:s.length<=1000000):keyOf Tryz.prog 9 (.string ⟨s.toArray⟩)=R (.string s):=by
 have h:(⟨s.toArray⟩:ByteArray).size<=maxLen:=by show s.toArray.size<=_;simp[maxLen];omega
 simp[keyOf,mapKey,Tryz.underlying9,h]
theorem zK (w:World):(zeroValue 3).run Tryz.prog w=.ok (O .i64 0) w:=by kernel_rfl
theorem yW (s:List UInt8):WideAt.IsKeyLit (.string s):=by trivial
theorem ub {x y:List UInt8}(h:y≠x):(Lit.string y)≠.string x:=fun e=>h (by injection e)
theorem E1 {x:Int}(h0:0<=x)(h1:x<1000000):(Lit.int .i64 x).wf=G:=by
 simp[Lit.wf,IntKind.min,IntKind.max,IntKind.bits,IntKind.signed];omega
def fy (ls:List (List UInt8×Int))(s:List UInt8):Bool:=ls.any fun x=>x.1==s
def ed (ls:List (List UInt8×Int))(s:List UInt8):Int:=match ls.find? fun x=>x.1==s with
 | some x=>x.2
 | none=>0
theorem oo (ls:List (List UInt8×Int))(s t:List UInt8)(p:Int):fy (ls++[(t,p)]) s=(fy ls s || (t==s)):=by simp[fy]
theorem sE {ls:List (List UInt8×Int)}{s:List UInt8}(h:fy ls s=U):ls.find? (fun x=>x.1==s)=V:=by
 rw[List.find?_eq_none]
 intro x hx
 unfold fy at h
 rw[List.any_eq_false] at h
 exact h x hx
theorem kV {ls:List (List UInt8×Int)}{s:List UInt8}(h:fy ls s=U)(p:Int):ed (ls++[(s,p)]) s=p:=by
 unfold ed
 rw[List.find?_append,sE h]
 simp
theorem jT {ls:List (List UInt8×Int)}{s t:List UInt8}(h:s≠t)(p:Int):ed (ls++[(t,p)]) s=ed ls s:=by
 have h2:(t==s)=U:=by simpa using fun e=>h e.symm
 unfold ed
 rw[List.find?_append]
 simp[h2]
def gX (w:World)(b:Nat)(ls:List (List UInt8×Int)):Prop:=
 ∃ D:DataW Unit,w.ownsMap Tryz.prog 9 (plainElem Tryz.prog 3) b ls.length D/\
  ∀ s,Maps.has D (.string s)=fy ls s/\D.atKey (.string s) (.lit (.int .i64 0))=.lit (.int .i64 (ed ls s))
section
variable {w w':World}{b:Nat}{ls:List (List UInt8×Int)}
theorem gX.lt (h:gX w b ls):b<w.heap.size:=by obtain⟨D,h,_⟩:=h;exact h.lt
theorem gX.ga {g:Nat}{t:TypeId}{cs:Array Value}(h:gX w b ls)(k:Bk w g t cs):b≠g:=by
 obtain⟨D,⟨es,clock,hb,_⟩,_⟩:=h
 intro e;subst e;unfold Bk at k;rw[hb] at k;cases k
theorem gX.same (h:gX w b ls)(k:w'.heap[b]?=w.heap[b]?):gX w' b ls:=by
 obtain⟨D,⟨es,clock,hb,r⟩,r'⟩:=h
 exact⟨D,⟨es,clock,k.trans hb,r⟩,r'⟩
theorem gX.within {S:Nat->Prop}(h:gX w b ls)(k:ab w w' S)(hn:¬ S b):gX w' b ls:=h.same (k.block b h.lt hn)
theorem gX.made (w:World):gX (w.alloc (.map #[] 0)) w.heap.size []:=
 ⟨.map [],World.ownsMap_made w _ _ _,fun _=>⟨rfl,rfl⟩⟩
theorem gX.look (h:gX w b ls)(s:List UInt8)(hs:s.length<=1000000):(Instr.lookup 134 (.map (R b)) (.string ⟨s.toArray⟩) G).run Tryz.prog w=.ok (.tuple #[.int .i64 (ed ls s),.bool (fy ls s)]) w:=by
 obtain⟨D,h,hk⟩:=h
 obtain⟨v,ps,hrun,hv⟩:=h.look_ok yV Tryz.underlying134 (zK w) (plainElem_int Tryz.underlying3 (by decide)) (Et s hs)
 rw[(hk s).2] at hv
 rw[hrun,(hk s).1]
 obtain⟨c,rfl,hc,hwc⟩:=plainElem_int_inv Tryz.underlying3 hv
 simp only[Prod.mk.injEq,DataW.lit.injEq,Lit.int.injEq,true_and] at hc
 rw[hc.1]
theorem gX.add (h:gX w b ls)(hc:ls.length<1000000){s:List UInt8}{p:Int}(hs:s.length<=1000000)(h0:0<=p)(h1:p<1000000)(hk:fy ls s=U):
 ∃ w',(Instr.mapUpdate 134 (.map (R b)) (.string ⟨s.toArray⟩) (.int .i64 p)).run Tryz.prog w=.ok () w'/\gX w' b (ls++[(s,p)])/\fE w w' b:=by
 obtain⟨D,h,hh⟩:=h
 obtain⟨w',hrun,ho,hg⟩:=h.update yV Tryz.underlying134 (by unfold maxLen;omega) (Et s hs) (plainElem_int (H:=Unit) Tryz.underlying3 (E1 h0 h1))
 refine⟨w',hrun,⟨_,by simpa using ho,fun t=>?_⟩,hg⟩
 by_cases e:t=s
 ·subst e
  rw[has_put_same h.isMap (yW _),atKey_put_same h.isMap (yW _),oo,kV hk]
  simp
 ·rw[has_put_other (ub e),atKey_put_other (ub e),oo,jT e,(hh t).1,(hh t).2]
  have:(s==t)=U:=by simpa using fun e2=>e e2.symm
  simp[this]
end
end
section
open Go.ChangeShapes Go.WideShapes Go.ChangeAt Go.RowKit
def pP (t:TypeId)(w:World)(v:Value)(us:List Value):Prop:=w.ownsRow 0 t 1 v us.length us
section
variable {t:TypeId}{w w':World}{v:Value}{us:List Value}
theorem pP.nil (t:TypeId)(w:World):pP t w (L V 0 0) []:=World.ownsRow_nil _ _ _ _
theorem pP.lt (h:pP t w v us){g:Nat}(e:v.ownBlock=R g):g<w.heap.size:=(World.ownsRow.lt h g e).2
theorem pP.bk (h:pP t w v us){g:Nat}(e:v.ownBlock=R g):∃ cs,Bk w g t cs:=by
 rcases h.2 with ⟨rfl,_⟩ | ⟨g',cap,cur,rfl,_,hg,_⟩
 ·cases e
 ·simp only[Value.ownBlock,Option.some.injEq] at e;subst e;exact⟨cur,hg⟩
theorem pP.within {S:Nat->Prop}(h:pP t w v us)(hk:ab w w' S)(hn:∀ g,v.ownBlock=R g->¬ S g):pP t w' v us:=by
 rcases h.2 with ⟨rfl,h0⟩ | ⟨g,cap,cur,rfl,hb,hg,r⟩
 ·exact⟨h.1,.inl ⟨rfl,h0⟩⟩
 ·exact⟨h.1,.inr ⟨g,cap,cur,rfl,hb,(hk.block g (Array.getElem?_eq_some_iff.1 hg).1 (hn g rfl)).trans hg,r⟩⟩
theorem pP.alloc (h:pP t w v us)(o:Obj):pP t (w.alloc o) v us:=World.ownsRow.alloc h o
theorem pP.is (h:pP t w v us):∃ a cap,v=L a us.length cap/\us.length<=cap/\cap<=maxLen/\(0<us.length->∃ g,a=R ⟨g,0,V⟩/\v.ownBlock=R g/\(∀ i,w.frozen? ⟨g,i,V⟩=U)/\∀ i,w.cell? ⟨g,i,V⟩=us[i]?\/us.length<=i):=by
 rcases h.2 with ⟨rfl,h0⟩ | ⟨g,cap,cur,rfl,hb,hg,hnc,hcm,r⟩
 ·exact⟨V,0,by rw[h0],by omega,by simp,fun h=>by omega⟩
 ·refine⟨R ⟨g,0,V⟩,cap,rfl,hnc,hcm,fun _=>⟨g,rfl,rfl,fun i=>Bk.free (cs:=cur) (t:=t) hg i,fun i=>?_⟩⟩
  by_cases hi:i<us.length
  ·exact .inl (World.ownsRow.cellAt h i (by omega))
  ·exact .inr (by omega)
theorem pP.put {g cap:Nat}(h:pP t w (L (R ⟨g,0,V⟩) us.length cap) us)(i:Nat)(u:Value):pP t (w.setCell ⟨g,i,V⟩ u) (L (R ⟨g,0,V⟩) us.length cap) (us.set i u):=by
 have:=(World.ownsRow.stored h i u).1
 unfold pP;rw[List.length_set];exact this
end
section
variable {t:TypeId}{w:World}{v:Value}{us:List Value}{P:Program}{ops:Array Oper}{rest:List Oper}{o:Oper}{a:Act}{Q:Exit->Act->World->Prop}
theorem mA (hgd:o.guard=V)(s x:Operand)(ts:TypeId)(ho:o.op=.call { callee:=.builtin .append,args:=#[s,x],argTypes:=#[ts,ts] })
 (z:Value) (bytes:Nat) (ht:P.underlying ts=R (.slice t)) (hi:(P.info? t).map (fun i=>(i.zero,i.size,i.bytes))=R (R z,1,bytes)) (hz:z.cells.size=1) (hby:bytes<=24)
 (h:pP t w v us) (hs:a.eval s=v) (y:Value) (hy:y.oneCell'=G) (hx:a.eval x=L (R ⟨w.heap.size,0,V⟩) 1 1) (hl:us.length<1000000)
 (hK:∀ v' w',pP t w' v' (us++[y])->w.grownBy w' v.ownBlock->(v'.ownBlock=v.ownBlock\/v'.ownBlock=R (w.heap.size+1))->wpList P ops Q rest (a.put o.dst v') w'):
 wpList P ops Q (o :: rest) a (w.alloc (.cells #[y] t)):=by
 obtain⟨i0,hi0,hz0,hz1,hz2⟩:=info_parts hi
 refine wpList_append_own_at _ hgd s x ts ho 0 t i0 _ 1 bytes ht hi0 hz0 hz1 hz2 hz (by omega) v us.length us hs (h.alloc _) ⟨w.heap.size,0,V⟩ 1 1 [y] hx rfl (cell_one_new _ _ _) (by intro u hu;simp at hu;subst hu;exact hy) (by simp only[maxLen];omega) ?_ (Nat.zero_le _) ?_
 ·have:(us.length+1)*bytes<=1000001*24:=Nat.mul_le_mul (by omega) hby
  omega
 ·intro v' w' hown hgr _ hloc
  refine hK v' w' ?_ ?_ ?_
  ·unfold pP;simpa using hown
  ·exact aQ (bd _ _ _) hgr (.inl rfl)
  ·simpa using hloc
end
def eG (k:IntKind)(t:TypeId)(w:World)(v:Value)(xs:List Int):Prop:=w.ownsRow 0 t 1 v xs.length (xs.map (Value.int k))
section
variable {k:IntKind}{t:TypeId}{w w':World}{v:Value}{xs:List Int}
theorem eG.nil (k:IntKind)(t:TypeId)(w:World):eG k t w (L V 0 0) []:=World.ownsRow_nil _ _ _ _
theorem eG.lt (h:eG k t w v xs){g:Nat}(e:v.ownBlock=R g):g<w.heap.size:=(World.ownsRow.lt h g e).2
theorem eG.bk (h:eG k t w v xs){g:Nat}(e:v.ownBlock=R g):∃ cs,Bk w g t cs:=by
 rcases h.2 with ⟨rfl,_⟩ | ⟨g',cap,cur,rfl,_,hg,_⟩
 ·cases e
 ·simp only[Value.ownBlock,Option.some.injEq] at e;subst e;exact⟨cur,hg⟩
theorem eG.kept {r:Option Nat}(h:eG k t w v xs)(hg:w.grownBy w' r)(hne:v.ownBlock=V\/v.ownBlock≠r):eG k t w' v xs:=World.ownsRow.kept h hg hne
theorem eG.within {S:Nat->Prop}(h:eG k t w v xs)(hk:ab w w' S)(hn:∀ g,v.ownBlock=R g->¬ S g):eG k t w' v xs:=by
 rcases h.2 with ⟨rfl,h0⟩ | ⟨g,cap,cur,rfl,hb,hg,r⟩
 ·exact⟨h.1,.inl ⟨rfl,h0⟩⟩
 ·exact⟨h.1,.inr ⟨g,cap,cur,rfl,hb,(hk.block g (Array.getElem?_eq_some_iff.1 hg).1 (hn g rfl)).trans hg,r⟩⟩
theorem eG.drewN (h:eG k t w v xs)(m:Nat):eG k t (w.drewN m) v xs:=h
theorem eG.alloc (h:eG k t w v xs)(o:Obj):eG k t (w.alloc o) v xs:=World.ownsRow.alloc h o
theorem eG.is (h:eG k t w v xs):∃ a cap,v=L a xs.length cap/\xs.length<=cap/\cap<=maxLen/\(0<xs.length->∃ g,a=R ⟨g,0,V⟩/\v.ownBlock=R g/\(∀ i,w.frozen? ⟨g,i,V⟩=U)/\∀ i,i<xs.length->w.cell? ⟨g,i,V⟩=R (.int k (aG xs i))):=by
 rcases h.2 with ⟨rfl,h0⟩ | ⟨g,cap,cur,rfl,hb,hg,hnc,hcm,r⟩
 ·exact⟨V,0,by rw[h0],by omega,by simp,fun h=>by omega⟩
 ·refine⟨R ⟨g,0,V⟩,cap,rfl,hnc,hcm,fun _=>⟨g,rfl,rfl,fun i=>Bk.free (cs:=cur) (t:=t) hg i,fun i hi=>?_⟩⟩
  rw[World.ownsRow.cellAt h i (by omega),List.getElem?_map,jK hi];rfl
theorem eG.put {g cap:Nat}(h:eG k t w (L (R ⟨g,0,V⟩) xs.length cap) xs)(i:Nat)(y:Int):eG k t (w.setCell ⟨g,i,V⟩ (.int k y)) (L (R ⟨g,0,V⟩) xs.length cap) (xs.set i y):=by
 have:=(World.ownsRow.stored h i (.int k y)).1
 unfold eG;rw[List.length_set,List.map_set];exact this
end
section
variable {k:IntKind}{t:TypeId}{w:World}{v:Value}{xs:List Int}{P:Program}{ops:Array Oper}{rest:List Oper}{o:Oper}{a:Act}{Q:Exit->Act->World->Prop}
theorem eI (hgd:o.guard=V)(s x:Operand)(ts:TypeId)(ho:o.op=.call { callee:=.builtin .append,args:=#[s,x],argTypes:=#[ts,ts] })
 (bytes:Nat) (ht:P.underlying ts=R (.slice t)) (hi:(P.info? t).map (fun i=>(i.zero,i.size,i.bytes))=R (R (.int k 0),1,bytes)) (hby:bytes<=8)
 (h:eG k t w v xs) (hs:a.eval s=v) (y:Int) (hx:a.eval x=L (R ⟨w.heap.size,0,V⟩) 1 1) (hl:xs.length<1000000)
 (hK:∀ v' w',eG k t w' v' (xs++[y])->w.grownBy w' v.ownBlock->(v'.ownBlock=v.ownBlock\/v'.ownBlock=R (w.heap.size+1))->wpList P ops Q rest (a.put o.dst v') w'):
 wpList P ops Q (o :: rest) a (w.alloc (.cells #[.int k y] t)):=by
 obtain⟨i0,hi0,hz0,hz1,hz2⟩:=info_parts hi
 refine wpList_append_own_at _ hgd s x ts ho 0 t i0 _ 1 bytes ht hi0 hz0 hz1 hz2 rfl (by omega) v xs.length (xs.map (Value.int k)) hs (h.alloc _) ⟨w.heap.size,0,V⟩ 1 1 [.int k y] hx rfl (cell_one_new _ _ _) (ints_oneCell k [y]) (by simp only[maxLen];omega) ?_ (Nat.zero_le _) ?_
 ·have:(xs.length+1)*bytes<=1000001*8:=Nat.mul_le_mul (by omega) hby
  omega
 ·intro v' w' hown hgr _ hloc
  refine hK v' w' ?_ ?_ ?_
  ·unfold eG;simpa using hown
  ·exact aQ (bd _ _ _) hgr (.inl rfl)
  ·simpa using hloc
end
def wQ (T:Nat->Prop)(I:World->Prop):Prop:=∀ A B,I A->ab A B T->I B
def gF (T:Nat->Prop)(W W':World):Prop:=W.heap.size<=W'.heap.size/\∀ b,T b->W'.heap[b]?=W.heap[b]?
theorem gF.refl (T:Nat->Prop)(W:World):gF T W W:=⟨Y _,fun _ _=>rfl⟩
theorem gF.trans {T:Nat->Prop}{A B C:World}(h:gF T A B)(k:gF T B C):gF T A C:=⟨Nat.le_trans h.1 k.1,fun b hb=>(k.2 b hb).trans (h.2 b hb)⟩
theorem gF.less {T T':Nat->Prop}{A B:World}(h:gF T A B)(hT:∀ b,T' b->T b):gF T' A B:=⟨h.1,fun b hb=>h.2 b (hT b hb)⟩
theorem gF.ke {T S:Nat->Prop}{A B:World}(h:ab A B S)(hT:∀ b,T b->b<A.heap.size/\¬ S b):gF T A B:=⟨h.size,fun b hb=>h.block b (hT b hb).1 (hT b hb).2⟩
def Di (P:Program)(gf:FuncId)(lb:Array Value)(encs:Nat->Array Value)(N l:Nat)(W1:World)(T:Nat->Prop):Prop:=
 ∀ (J:Nat->World->Prop) (Jx:World->Prop),(∀ k,wQ T (J k))->wQ T Jx->
  (∀ k W,k<N->J k W->(∀ b,T b->b<W.heap.size)->YieldAt Fence.wide 0 P l (encs k) W fun e W'=>gF T W W'/\((e=.returned (.bool G)/\J (k+1) W')\/(e=.returned (.bool U)/\Jx W')))->
  J 0 W1->CallsIn Fence.wide 0 P gf (#[.func (.yield l) #[] #[]]++lb) W1 fun e W'=>(∃ v,e=.returned v)/\(J N W'\/Jx W')
def xk (T:Nat->Prop)(W:World)(I:World->Prop)(Ix:Code->World->Prop):Exit->Act->World->Prop
 | .normal,_,W'=>gF T W W'/\I W'
 | .ret,_,W'=>gF T W W'/\Ix .ret W'
 | .exit id,_,W'=>gF T W W'/\Ix (.exit id) W'
 | .goto t,_,W'=>gF T W W'/\Ix (.goto t) W'
 | .panic _,_,_=>False
 | .outgrown,_,_=>False
theorem cG (W:World)(l:Nat)(o:Obj)(T:Nat->Prop)(h:T l):ab W (W.putObj l o) T:=
 ⟨rfl,rfl,rfl,by simp[World.putObj],fun i _ hn=>World.putObj_heap_other (fun e=>hn (e ▸ h))⟩
theorem lV {P:Program}{g:Operand}{ps:Array Tmp}{assign body:Code}{Q:Exit->Act->World->Prop}{a:Act}{w:World}
 {gf:Nat} {lb:Array Value} (hg:a.eval g=.func (.func gf) #[] lb) (eg:∀ args w,(callFunc gf args).run P w=.ok (.enter gf args) w)
 {encs:Nat->Array Value} {N:Nat} {T:Nat->Prop} (hps:∀ k,(encs k).size=ps.size) (hT0:¬ T w.heap.size) (hT1:¬ T (w.heap.size+1))
 (hseq:∀ W1,Below w.heap.size w W1->W1.heap.size=w.heap.size+2->Di P gf lb encs N (w.heap.size+1) W1 T)
 (I:Nat->World->Prop) (Ix:Code->World->Prop) (hI:∀ k,wQ (fun b=>b=w.heap.size\/b=w.heap.size+1\/T b) (I k)) (hIx:∀ c,wQ (fun b=>b=w.heap.size\/b=w.heap.size+1\/T b) (Ix c)) (h0:I 0 w)
 (a₁:Nat->Act)
 (hassign:∀ (l k:Nat) (W:World) (K:Act->World->Prop),K (a₁ k) W->
  assign.wpIn (Fence.wide.inRound l) 0 P (Exit.then K (fun _ _ _=>False)) { tmps:=(ps.zip (encs k)).foldl (fun t (p,v)=>t.setIfInBounds p v) a.tmps,defers:=[] } W)
 (hbody:∀ (l k:Nat) (W:World),k<N->I k W->(∀ b,(b=w.heap.size\/b=w.heap.size+1\/T b)->b<W.heap.size)->body.wpIn (Fence.wide.inRound l) 0 P (xk (fun b=>b=w.heap.size\/b=w.heap.size+1\/T b) W (I (k+1)) Ix) (a₁ k) W)
 (hdone:∀ (W:World),I N W->W.heap[w.heap.size]?=R (.deferred (R []))->Q .normal { a with defers:={ target:=.collected w.heap.size,args:=#[] } :: a.defers } W)
 (hstop:∀ (c:Code) (W:World),Ix c W->W.heap[w.heap.size]?=R (.deferred (R []))->c.wpIn Fence.wide 0 P Q { a with defers:={ target:=.collected w.heap.size,args:=#[] } :: a.defers } W):
 (Code.rangeFunc g ps assign body).wpIn Fence.wide 0 P Q a w:=by
 refine wpIn_rangeFunc ?_
 intro fn hfn
 obtain⟨rec,hrec⟩:∃ rec:LoopState->Option Code->Loop,rec=fun st pe=>{ state:=st,pending:=pe,fn,tmps:=a.tmps,params:=ps,assign,body,defers:=w.heap.size }:=⟨_,rfl⟩
 obtain⟨W1,hW1⟩:∃ W1,(w.alloc (.deferred (R []))).alloc (.loop (rec .ready V))=W1:=⟨_,rfl⟩
 have hL1:W1.heap[w.heap.size+1]?=R (.loop (rec .ready V)):=by
  rw[<-hW1];have:=World.alloc_heap_new (w.alloc (.deferred (R []))) (.loop (rec .ready V));rwa [World.size_alloc] at this
 have hK1:W1.heap[w.heap.size]?=R (.deferred (R [])):=by
  rw[<-hW1];exact(Below.heap_alloc _ _ _ (by simp)).trans (World.alloc_heap_new w _)
 have hw1:ab w W1 (fun _=>False):=by rw[<-hW1];exact((ab.refl w _).alloc _).alloc _
 have hb1:Below w.heap.size w W1:=hw1.below (by simp)
 have hz1:W1.heap.size=w.heap.size+2:=by rw[<-hW1];simp
 have hI1:I 0 W1:=hI 0 _ _ h0 (hw1.wide (by simp))
 refine⟨w.heap.size+1,[{ target:=.collected w.heap.size,args:=#[] }],W1,{ target:=.fn (.func gf) lb,args:=#[.func (.yield (w.heap.size+1)) #[] #[]] },W1,gf,
  #[.func (.yield (w.heap.size+1)) #[] #[]]++lb,W1,?_,?_,(fun _ _=>trivial),?_,(fun h=>(by cases h)),?_⟩
 ·rw[<-hW1,hrec];exact run_enterLoop_outer _ _ _ _ _
 ·simp only[resolve,hg]
  simp[go_sem]
 ·simp[invoke,go_sem,eg]
 ·refine(hseq W1 hb1 hz1
   (fun k W=>I k W/\W.heap[w.heap.size+1]?=R (.loop (rec .ready V))/\W.heap[w.heap.size]?=R (.deferred (R [])))
   (fun W=>∃ c,Ix c W/\W.heap[w.heap.size+1]?=R (.loop (rec .done (R c)))/\W.heap[w.heap.size]?=R (.deferred (R [])))
   ?_ ?_ ?_ ⟨hI1,hL1,hK1⟩).mono ?_
  ·rintro k A B ⟨hi,hl,hk⟩ hw
   exact⟨hI k A B hi (hw.wide fun i hi _=>.inr (.inr hi)),(hw.block _ (Array.getElem?_eq_some_iff.1 hl).1 hT1).trans hl,(hw.block _ (Array.getElem?_eq_some_iff.1 hk).1 hT0).trans hk⟩
  ·rintro A B ⟨c,hi,hl,hk⟩ hw
   exact⟨c,hIx c A B hi (hw.wide fun i hi _=>.inr (.inr hi)),(hw.block _ (Array.getElem?_eq_some_iff.1 hl).1 hT1).trans hl,(hw.block _ (Array.getElem?_eq_some_iff.1 hk).1 hT0).trans hk⟩
  · -- one round
   rintro k W hk ⟨hi,hl,hd⟩ hT
   have hlt:w.heap.size+1<W.heap.size:=(Array.getElem?_eq_some_iff.1 hl).1
   have hy:=run_yield (P:=P) (args:=encs k) hl (by rw[hrec];exact hps k)
   rw[hrec] at hy
   refine⟨fn,_,assign,body,hy,roundIn_of_wpIn trivial (hassign _ k W _ ?_)⟩
   clear hy
   refine⟨_,run_beginRound hl (by rw[hrec]),?_⟩
   obtain⟨W2,hW2⟩:∃ W2,W.putObj (w.heap.size+1) (.loop { rec .ready V with state:=.busy })=W2:=⟨_,rfl⟩
   have hl2:W2.heap[w.heap.size+1]?=R (.loop { rec .ready V with state:=.busy }):=by rw[<-hW2];exact World.putObj_heap_same hlt
   have hd2:W2.heap[w.heap.size]?=R (.deferred (R [])):=by rw[<-hW2];exact(World.putObj_heap_other (by omega)).trans hd
   have hz2:W2.heap.size=W.heap.size:=by rw[<-hW2];simp[World.putObj]
   have hh2:gF T W W2:=⟨by omega,fun b hb=>by rw[<-hW2];exact World.putObj_heap_other (fun e=>hT1 (e ▸ hb))⟩
   have hi2:I k W2:=by rw[<-hW2];exact hI k _ _ hi (cG _ _ _ _ (.inr (.inl rfl)))
   rw[hW2]
   clear hW2
   refine wpIn_mono (hbody _ k W2 hk hi2 (by
    rintro b (rfl|rfl | hb)
    ·omega
    ·omega
    ·rw[hz2];exact hT b hb)) ?_
   have fin:∀ (jump:Option Code) (W3:World),gF (fun b=>b=w.heap.size\/b=w.heap.size+1\/T b) W2 W3->
    ∃ W4,(Instr.endRound (w.heap.size+1) jump).run P W3=.ok (.bool jump.isNone) W4/\ab W3 W4 (fun b=>b=w.heap.size\/b=w.heap.size+1\/T b)/\gF T W3 W4/\
    W4.heap[w.heap.size+1]?=R (.loop (rec (if jump.isNone then .ready else .done) jump))/\W4.heap[w.heap.size]?=R (.deferred (R [])):=fun jump W3 hh=>by
    have hl3:=(hh.2 _ (.inr (.inl rfl))).trans hl2
    have hd3:=(hh.2 _ (.inl rfl)).trans hd2
    have:=run_endRound (P:=P) jump hl3
    rw[hrec] at this ⊢
    exact⟨_,this,cG _ _ _ _ (.inr (.inl rfl)),⟨by simp[World.putObj],fun b hb=>World.putObj_heap_other (fun e=>hT1 (e ▸ hb))⟩,
     World.putObj_heap_same (Array.getElem?_eq_some_iff.1 hl3).1,(World.putObj_heap_other (by omega)).trans hd3⟩
   rintro e a3 W3 hp
   cases e with
   | normal=>
    obtain⟨hh,hi3⟩:=hp
    obtain⟨W4,hr,hw4,hh4,hl4,hd4⟩:=fin V W3 hh
    exact⟨_,_,hr,hh2.trans ((hh.less fun b hb=>.inr (.inr hb)).trans hh4),.inl ⟨rfl,hI _ _ _ hi3 hw4,hl4,hd4⟩⟩
   | ret=>
    obtain⟨hh,hi3⟩:=hp
    obtain⟨W4,hr,hw4,hh4,hl4,hd4⟩:=fin (R .ret) W3 hh
    exact⟨_,_,hr,hh2.trans ((hh.less fun b hb=>.inr (.inr hb)).trans hh4),.inr ⟨rfl,.ret,hIx _ _ _ hi3 hw4,hl4,hd4⟩⟩
   | exit id=>
    obtain⟨hh,hi3⟩:=hp
    obtain⟨W4,hr,hw4,hh4,hl4,hd4⟩:=fin (R (.exit id)) W3 hh
    exact⟨_,_,hr,hh2.trans ((hh.less fun b hb=>.inr (.inr hb)).trans hh4),.inr ⟨rfl,.exit id,hIx _ _ _ hi3 hw4,hl4,hd4⟩⟩
   | goto t=>
    obtain⟨hh,hi3⟩:=hp
    obtain⟨W4,hr,hw4,hh4,hl4,hd4⟩:=fin (R (.goto t)) W3 hh
    exact⟨_,_,hr,hh2.trans ((hh.less fun b hb=>.inr (.inr hb)).trans hh4),.inr ⟨rfl,.goto t,hIx _ _ _ hi3 hw4,hl4,hd4⟩⟩
   | panic ch=>exact hp.elim
   | outgrown=>exact hp.elim
  · -- behind the iterator
   rintro e W2 ⟨⟨v,rfl⟩,(⟨hi,hl,hd⟩ | ⟨c,hi,hl,hd⟩)⟩
   ·exact⟨V,_,by have:=run_endLoop (P:=P) hl (by rw[hrec];simp);rw[hrec] at this;exact this,hdone _ (hI _ _ _ hi (cG _ _ _ _ (.inr (.inl rfl)))) ((World.putObj_heap_other (by omega)).trans hd)⟩
   ·exact⟨R c,_,by have:=run_endLoop (P:=P) hl (by rw[hrec];simp);rw[hrec] at this;exact this,hstop c _ (hIx c _ _ hi (cG _ _ _ _ (.inr (.inl rfl)))) ((World.putObj_heap_other (by omega)).trans hd)⟩
def left (listed:Array Bool):Nat:=(listed.toList.filter fun b=>!b).length
theorem m7:∀ (l:List Bool) (i:Nat),l[i]?=R U->((l.set i G).filter fun b=>!b).length+1=(l.filter fun b=>!b).length
 | [],i,h=>by simp at h
 | b :: l,0,h=>by simp at h;subst h;simp
 | b :: l,i+1,h=>by
  have ih:=m7 l i (by simpa using h)
  cases b <;> simp at ih ⊢ <;> omega
theorem kj:∀ (l:List Bool) (i:Nat),(l.filter fun b=>!b).length=0->l[i]?≠R U
 | [],i,h=>by simp
 | b :: l,0,h=>by cases b <;> simp at h ⊢
 | b :: l,i+1,h=>by
  have ih:=kj l i (by cases b <;> simp at h ⊢;exact h)
  simpa using ih
section
variable {P:Program}{ops:Array Oper}{Q:Exit->Act->World->Prop}
theorem gR {listed:Array Bool}{i:Nat}(h:i∈Region.ready .any ops listed):listed.toList[i]?=R U:=by
 unfold Region.ready at h
 rw[List.mem_filter] at h
 have h2:=h.2
 simp only[Bool.and_eq_true,Bool.not_eq_true'] at h2
 have h3:=h2.1
 rw[Array.getElem?_toList]
 rw[Array.getD_eq_getD_getElem?] at h3
 cases e:listed[i]? with
 | none=>rw[e] at h3;simp at h3
 | some b=>rw[e] at h3;simp at h3;rw[h3]
theorem nH (Inv:Array Bool->Act->World->Prop)
 (hstep:∀ listed a w i,Inv listed a w->i∈Region.ready .any ops listed->wpOp P ops Q i (fun a' w'=>Inv (listed.setIfInBounds i G) a' w') a w)
 (hend:∀ listed a w,Inv listed a w->Region.ready .any ops listed=[]->Q .normal a w):
 ∀ (fuel:Nat) (listed:Array Bool) (a:Act) (w:World),Inv listed a w->left listed<=fuel->wpAny P .any ops Q fuel listed a w
 | 0,listed,a,w,hi,hf=>by
  have e:Region.ready .any ops listed=[]:=by
   rw[List.eq_nil_iff_forall_not_mem]
   intro i h
   exact kj listed.toList i (by unfold left at hf;omega) (gR h)
  exact⟨e,hend _ _ _ hi e⟩
 | fuel+1,listed,a,w,hi,hf=>by
  refine⟨fun e=>hend _ _ _ hi e,fun i h=>wpOp_mono (fun a' w' h2=>?_) (hstep listed a w i hi h)⟩
  refine nH Inv hstep hend fuel _ a' w' h2 ?_
  have:=m7 listed.toList i (gR h)
  unfold left at hf ⊢
  rw[Array.toList_setIfInBounds]
  omega
theorem nt {id:Nat}{a:Act}{w:World}(hm:P.follows .mixedOrders=G)(Inv:Array Bool->Act->World->Prop)(h0:Inv (Array.replicate ops.size U) a w.drew)
 (hstep:∀ listed a w i,Inv listed a w->i∈Region.ready .any ops listed->wpOp P ops Q i (fun a' w'=>Inv (listed.setIfInBounds i G) a' w') a w)
 (hend:∀ listed a w,Inv listed a w->Region.ready .any ops listed=[]->Q .normal a w):(Code.region id ops G).wp P Q a w:=
 wp_region_any hm (nH Inv hstep hend _ _ _ _ h0 (by unfold left;exact Nat.le_trans (List.length_filter_le _ _) (by simp)))
end
-- what each operation i8,whatever else has been done
def zr (ops:Array Oper)(i:Nat):Option Tmp:=(ops[i]?).bind (·.dst)
def fc (ops:Array Oper)(t:Nat):Option Nat:=(List.range ops.size).find? fun i=>zr ops i==R t
def bi (ops:Array Oper)(i:Nat):List Nat:=match ops[i]? with
 | some o=>(o.after.toList.filter fun e=>Region.binds .any e).map (·.on)
 | none=>[]
def rE:Op->Bool
 | .select ..=>U
 | _=>G
def nB (ops:Array Oper):Bool:=(List.range ops.size).all fun i=>match ops[i]? with
 | some o=>rE o.op && ((o.looksAt ops).all fun t=>match fc ops t with
  | some j=>(bi ops i).contains j
  | none=>G) && (match o.dst with
  | some d=>fc ops d==R i
  | none=>G) && ((bi ops i).all fun j=>decide (j<i))
 | none=>U
def over (f:Nat->Option Value):List Value->Nat->List Value
 | [],_=>[]
 | x :: xs,t=>(f t).getD x :: over f xs (t+1)
theorem tX (f:Nat->Option Value):∀ (xs:List Value) (t k:Nat),(over f xs t)[k]?=(xs[k]?).map fun x=>(f (t+k)).getD x
 | [],t,k=>by simp[over]
 | x :: xs,t,0=>by simp[over]
 | x :: xs,t,k+1=>by
  have ih:=tX f xs (t+1) k
  simp[over,ih,Nat.add_assoc,Nat.add_comm 1 k]
def aF (ops:Array Oper)(a:Act)(d:Nat->Bool)(vs:Nat->Value):Act:=
 { a with tmps:=(over (fun t=>match fc ops t with
  | some i=>if d i=G then R (vs i) else V
  | none=>V) a.tmps.toList 0).toArray }
theorem fw (ops:Array Oper)(a:Act)(d:Nat->Bool)(vs:Nat->Value)(t:Nat):(aF ops a d vs).tmps[t]?=(a.tmps[t]?).map fun x=>(match fc ops t with
 | some i=>if d i=G then R (vs i) else V
 | none=>V).getD x:=by
 simp[aF,tX]
theorem mn (ops:Array Oper)(a:Act)(vs:Nat->Value):aF ops a (fun _=>U) vs=a:=by
 obtain⟨tmps,defers⟩:=a
 have e:(aF ops ⟨tmps,defers⟩ (fun _=>U) vs).tmps=tmps:=by
  apply Array.ext_getElem?
  intro t
  rw[fw]
  cases h:tmps[t]? with
  | none=>simp
  | some x=>cases h2:fc ops t <;> simp
 have e2:aF ops ⟨tmps,defers⟩ (fun _=>U) vs=⟨(aF ops ⟨tmps,defers⟩ (fun _=>U) vs).tmps,defers⟩:=rfl
 rw[e2,e]
theorem oB (ops:Array Oper)(a:Act)(d:Nat->Bool)(vs:Nat->Value)(i:Nat)(o:Oper)(ho:ops[i]?=R o)(hd:∀ x,o.dst=R x->fc ops x=R i)(hn:∀ t,fc ops t=R i->o.dst=R t)(hdi:d i=U)(v:Value):
 (aF ops a d vs).put o.dst v=aF ops a (fun j=>if j=i then G else d j) (fun j=>if j=i then v else vs j):=by
 have key:((aF ops a d vs).put o.dst v).tmps=(aF ops a (fun j=>if j=i then G else d j) (fun j=>if j=i then v else vs j)).tmps:=by
  apply Array.ext_getElem?
  intro t
  rw[fw]
  cases hx:o.dst with
  | none=>
   show (aF ops a d vs).tmps[t]?=_
   rw[fw]
   cases h2:fc ops t with
   | none=>rfl
   | some j=>
    have hj:j≠i:=fun e=>by have:=hn t (e ▸ h2);rw[hx] at this;cases this
    simp[hj]
  | some x=>
   show ((aF ops a d vs).tmps.setIfInBounds x v)[t]?=_
   rw[Array.getElem?_setIfInBounds]
   by_cases e:x=t
   ·subst e
    rw[if_pos rfl,hd x hx]
    have hsz:(aF ops a d vs).tmps.size=a.tmps.size:=by
     have l:∀ (f:Nat->Option Value) (xs:List Value) (t:Nat),(over f xs t).length=xs.length:=by
      intro f xs
      induction xs with
      | nil=>intro t;rfl
      | cons x xs ih=>intro t;simp[over,ih]
     simp[aF,l]
    rw[hsz]
    by_cases hlt:x<a.tmps.size
    ·simp[hlt]
    ·simp[hlt]
   ·rw[if_neg e,fw]
    cases h2:fc ops t with
    | none=>rfl
    | some j=>
     have hj:j≠i:=fun e3=>by have:=hn t (e3 ▸ h2);rw[hx] at this;injection this with this;exact e this
     simp[hj]
 have e1:(aF ops a d vs).put o.dst v=⟨((aF ops a d vs).put o.dst v).tmps,a.defers⟩:=by cases o.dst <;> rfl
 have e2:aF ops a (fun j=>if j=i then G else d j) (fun j=>if j=i then v else vs j)=⟨(aF ops a (fun j=>if j=i then G else d j) (fun j=>if j=i then v else vs j)).tmps,a.defers⟩:=rfl
 rw[e1,e2,key]
theorem i3 (ops:Array Oper)(a:Act)(d:Nat->Bool)(vs:Nat->Value)(o:Oper)(hs:rE o.op=G)(h:∀ t∈o.looksAt ops,∀ i,fc ops t=R i->d i=G):
 execOp (aF ops a d vs).eval o=execOp (aF ops a (fun _=>G) vs).eval o/\Region.wanted o (yielded ops (aF ops a d vs).tmps)=Region.wanted o (yielded ops (aF ops a (fun _=>G) vs).tmps):=by
 have key:∀ t∈o.looksAt ops,(aF ops a d vs).tmps[t]?=(aF ops a (fun _=>G) vs).tmps[t]?:=by
  intro t ht
  rw[fw,fw]
  cases h2:fc ops t with
  | none=>rfl
  | some i=>simp[h t ht i h2]
 constructor
 ·refine execOp_congr o (fun cs b e=>by rw[e] at hs;cases hs) fun x hx=>?_
  cases x with
  | tmp t=>
   have:=key t (List.mem_append_left _ (List.mem_filterMap.2 ⟨.tmp t,by simpa using hx,rfl⟩))
   show (aF ops a d vs).tmps.getD t undef=(aF ops a (fun _=>G) vs).tmps.getD t undef
   rw[Array.getD_eq_getD_getElem?,Array.getD_eq_getD_getElem?,this]
  | _=>rfl
 ·unfold Region.wanted
  cases hg:o.guard with
  | none=>rfl
  | some g=>
   obtain⟨g,want⟩:=g
   simp only
   have:yielded ops (aF ops a d vs).tmps g=yielded ops (aF ops a (fun _=>G) vs).tmps g:=by
    unfold yielded
    cases hb:(ops[g]?).bind (·.dst) with
    | none=>rfl
    | some t=>
     have:=key t (by unfold Oper.looksAt;rw[hg];simp only;rw[hb];simp)
     simp only[Option.bind_some,this]
   rw[this]
def i8 (P:Program)(F:Value->World->Prop)(W:World):Result Next->Prop
 | .ok (.value v) W'=>F v W'/\Below W.heap.size W W'
 | .ok .skip W'=>F undef W'/\Below W.heap.size W W'
 | .ok (.enter f args) W'=>Calls P f args W' fun e W2=>∃ v,e=.returned v/\F v W2/\Below W.heap.size W W2
 | _=>False
def cX (P:Program)(ops:Array Oper)(F:Value->World->Prop)(o:Oper)(a:Act)(W:World):Prop:=
 if Region.wanted o (yielded ops a.tmps)=G then i8 P F W ((execOp a.eval o).run P W) else F undef W
theorem aa {P:Program}{ops:Array Oper}{F:Value->World->Prop}{o:Oper}{a:Act}{W:World}(hg:o.guard=V)(h:i8 P F W ((execOp a.eval o).run P W)):cX P ops F o a W:=by
 unfold cX
 rw[if_pos (by simp[Region.wanted,hg])]
 exact h
def tI (P:Program)(ops:Array Oper)(F:Nat->Value->World->Prop)(lit:(Nat->Value)->Act)(w:World):List Oper->Nat->Prop
 | [],_=>True
 | o :: rest,i=>(∀ (vs:Nat->Value) W,Below w.heap.size w W->(∀ j∈bi ops i,F j (vs j) W)->cX P ops (F i) o (lit vs) W)/\tI P ops F lit w rest (i+1)
theorem oD {P:Program}{ops:Array Oper}{F:Nat->Value->World->Prop}{lit:(Nat->Value)->Act}{w:World}:∀ (l:List Oper) (n:Nat),tI P ops F lit w l n->∀ i o,l[i]?=R o->∀ (vs:Nat->Value) W,Below w.heap.size w W->(∀ j∈bi ops (n+i),F j (vs j) W)->cX P ops (F (n+i)) o (lit vs) W
 | [],n,_,i,o,h=>by simp at h
 | x :: l,n,hx,0,o,h=>by
  simp at h
  subst h
  exact hx.1
 | x :: l,n,hx,i+1,o,h=>by
  have:=oD l (n+1) hx.2 i o (by simpa using h)
  rw[show n+1+i=n+(i+1) by omega] at this
  exact this
section
variable {P:Program}{ops:Array Oper}{Q:Exit->Act->World->Prop}
theorem lW:∀ (f:Nat) (listed:Array Bool) (a:Act) (w:World),wpAny P .any ops Q f listed a w->wpAny P .any ops Q (f+1) listed a w
 | 0,listed,a,w,h=>⟨fun _=>h.2,fun i hi=>by rw[h.1] at hi;cases hi⟩
 | f+1,listed,a,w,h=>⟨h.1,fun i hi=>wpOp_mono (fun a' w' h'=>lW f _ a' w' h') (h.2 i hi)⟩
theorem kG {f:Nat}{listed:Array Bool}{a:Act}{w:World}(h:wpAny P .any ops Q f listed a w):∀ d,wpAny P .any ops Q (f+d) listed a w
 | 0=>h
 | d+1=>lW _ _ _ _ (kG h d)
end
def nD (n m:Nat):Array Bool:=(List.replicate n G++List.replicate m U).toArray
def Bz (ops:Array Oper)(n:Nat):Bool:=
 decide (n<ops.size) && Region.sinkB .any ops n && Region.chainB .any ops n && Region.seqB .any ops (ops.size-n) n (nD n (ops.size-n))
theorem sy (n m:Nat):left (nD n m)=m:=by
 unfold left nD
 simp[List.filter_append]
theorem qo (ops:Array Oper)(a:Act)(d d2:Nat->Bool)(vs:Nat->Value)(o:Oper)(hs:rE o.op=G)(h:∀ t∈o.looksAt ops,∀ i,fc ops t=R i->d i=G/\d2 i=G):
 execOp (aF ops a d vs).eval o=execOp (aF ops a d2 vs).eval o/\Region.wanted o (yielded ops (aF ops a d vs).tmps)=Region.wanted o (yielded ops (aF ops a d2 vs).tmps):=by
 have h1:=i3 ops a d vs o hs fun t ht i hi=>(h t ht i hi).1
 have h2:=i3 ops a d2 vs o hs fun t ht i hi=>(h t ht i hi).2
 exact⟨h1.1.trans h2.1.symm,h1.2.trans h2.2.symm⟩
theorem cM {P:Program}{l:List Oper}{Q:Exit->Act->World->Prop}{id:Nat}{a:Act}{w:World}(n:Nat)(lit:(Nat->Value)->Act)(F:Nat->Value->World->Prop)(hm:P.follows .mixedOrders=G)(hr:nB l.toArray=G)(ht:Bz l.toArray n=G)
 (hlit:∀ vs,aF l.toArray a (fun i=>decide (i<n)) vs=lit vs)
 (hst:∀ i v W W',F i v W->Below W.heap.size W W'->F i v W') (hop:tI P l.toArray F lit w (l.take n) 0)
 (hend:∀ (vs:Nat->Value) W,Below w.heap.size w W->(∀ i,i<n->F i (vs i) W)->wpList P l.toArray Q (l.drop n) (lit vs) W):(Code.region id l.toArray G).wp P Q a w:=by
 generalize hops:l.toArray=ops at *
 have hsz:ops.size=l.length:=by rw[<-hops];simp
 unfold Bz at ht
 simp only[Bool.and_eq_true,decide_eq_true_eq] at ht
 obtain⟨⟨⟨hn,hsink⟩,hchain⟩,hseq⟩:=ht
 have hR:∀ i o,ops[i]?=R o->rE o.op=G/\(∀ t∈o.looksAt ops,∀ j,fc ops t=R j->j∈bi ops i)/\(∀ x,o.dst=R x->fc ops x=R i)/\∀ j∈bi ops i,j<i:=by
  intro i o ho
  have hi:i<ops.size:=(Array.getElem?_eq_some_iff.1 ho).1
  unfold nB at hr
  have h:=List.all_eq_true.1 hr i (List.mem_range.2 hi)
  rw[ho] at h
  simp only[Bool.and_eq_true] at h
  refine⟨h.1.1.1,fun t ht j hj=>?_,fun x hx=>?_,fun j hj=>?_⟩
  ·have:=List.all_eq_true.1 h.1.1.2 t ht
   rw[hj] at this
   simpa using this
  ·have:=h.1.2
   rw[hx] at this
   simpa using this
  ·have:=List.all_eq_true.1 h.2 j hj
   simpa using this
 have hN:∀ t i o,ops[i]?=R o->fc ops t=R i->o.dst=R t:=by
  intro t i o ho h
  have:=List.find?_some h
  simp only[zr,ho,Option.bind_some,beq_iff_eq] at this
  exact this
 have hop2:∀ i o,ops[i]?=R o->i<n->∀ (vs:Nat->Value) W,Below w.heap.size w W->(∀ j∈bi ops i,F j (vs j) W)->cX P ops (F i) o (lit vs) W:=by
  intro i o ho hi vs W hB hd
  have h1:(l.take n)[i]?=R o:=by
   rw[List.getElem?_take,if_pos hi]
   rw[<-hops] at ho
   simpa using ho
  have:=oD (l.take n) 0 hop i o h1 vs W hB (by rw[Nat.zero_add];exact hd)
  rw[Nat.zero_add] at this
  exact this
 have key:∀ (fuel:Nat) (listed:Array Bool) (a':Act) (W:World),HeadInv .any ops n listed->
  (∃ vs:Nat->Value,a'=aF ops a (fun i=>listed.getD i U) vs/\Below w.heap.size w W/\∀ i,listed.getD i U=G->F i (vs i) W)->
  left listed<=fuel->wpAny P .any ops Q fuel listed a' W:=by
  intro fuel
  induction fuel with
  | zero=>
   intro listed a' W hinv hI hf
   exfalso
   have h1:=hinv.tail n (Y _) hn
   refine kj listed.toList n (by unfold left at hf;omega) ?_
   have hlt:n<listed.size:=by rw[hinv.size];exact hn
   rw[Array.getElem?_toList,Array.getElem?_eq_getElem hlt]
   simpa [hlt] using h1
  | succ fuel ih=>
   rintro listed a' W hinv ⟨vs,rfl,hB,hF⟩ hf
   by_cases hall:∀ i,i<n->listed.getD i U=G
   · -- the tail
    have el:listed=nD n (ops.size-n):=by
     apply Array.ext
     ·rw[hinv.size];simp[nD];omega
     ·intro i h1 h2
      rw[hinv.size] at h1
      by_cases hi:i<n
      ·have:=hall i hi
       have hlt:i<listed.size:=by rw[hinv.size];exact h1
       simp only[nD,List.getElem_toArray,List.getElem_append,List.length_replicate,hi,dite_true,List.getElem_replicate]
       simpa [hlt] using this
      ·have:=hinv.tail i (by omega) h1
       have hlt:i<listed.size:=by rw[hinv.size];exact h1
       simp only[nD,List.getElem_toArray,List.getElem_append,List.length_replicate,hi,dite_false,List.getElem_replicate]
       simpa [hlt] using this
    have hd:aF ops a (fun i=>listed.getD i U) vs=lit vs:=by
     rw[<-hlit vs]
     congr 1
     funext i
     by_cases hi:i<n
     ·rw[hall i hi];simp[hi]
     ·simp only[hi,decide_false]
      by_cases h2:i<ops.size
      ·exact getD_both (hinv.tail i (by omega) h2)
      ·have:listed.size<=i:=by rw[hinv.size];omega
       simp[Array.getElem?_eq_none this]
    have hw:=hend vs W hB fun i hi=>hF i (hall i hi)
    rw[hd]
    have hlen:(l.drop n).length=ops.size-n:=by rw[List.length_drop,hsz]
    have h1:=wpAny_of_seq (P:=P) (md:=.any) (ops:=ops) (Q':=Q) (l.drop n) n listed (lit vs) W (fun j=>by rw[<-hops];simp[List.getElem?_drop]) (by rw[hlen,el];exact hseq) hw
    rw[hlen] at h1
    have hle:ops.size-n<=fuel+1:=by
     have:=sy n (ops.size-n)
     rw[el] at hf
     omega
    have h2:=kG h1 (fuel+1-(ops.size-n))
    rw[show ops.size-n+(fuel+1-(ops.size-n))=fuel+1 by omega] at h2
    exact h2
   · -- the head
    have hex:∃ i,i<n/\listed.getD i U=U/\∀ j,j<i->listed.getD j U=G:=by
     have:∀ m,m<=n->(∀ j,j<m->listed.getD j U=G)\/∃ i,i<n/\listed.getD i U=U/\∀ j,j<i->listed.getD j U=G:=by
      intro m
      induction m with
      | zero=>intro _;exact .inl fun j hj=>by omega
      | succ m ihm=>
       intro hmn
       rcases ihm (by omega) with h | h
       ·cases hl:listed.getD m U with
        | true=>
         refine .inl fun j hj=>?_
         by_cases e:j=m
         ·subst e;exact hl
         ·exact h j (by omega)
        | false=>exact .inr ⟨m,by omega,hl,h⟩
       ·exact .inr h
     rcases this n (Y _) with h | h
     ·exact absurd h hall
     ·exact h
    obtain⟨i0,hi0,hu0,hbef⟩:=hex
    have hready:i0∈Region.ready .any ops listed:=by
     have hlt:i0<listed.size:=by rw[hinv.size];omega
     have ho:ops[i0]?=R ops[i0]:=Array.getElem?_eq_getElem (by omega)
     refine mem_ready.2 ⟨getD_in hlt hu0,_,ho,fun e he hb=>hbef _ ?_⟩
     refine(hR i0 _ ho).2.2.2 _ ?_
     unfold bi
     rw[ho]
     simp only[List.mem_map,List.mem_filter]
     exact⟨e,⟨by simpa using he,hb⟩,rfl⟩
    refine⟨fun e=>(by rw[e] at hready;cases hready),fun i hi=>?_⟩
    have hin:i<n:=by
     rcases Nat.lt_or_ge i n with h | h
     ·exact h
     ·exact absurd hi (tail_waits hsink hchain hn hinv (n-i0) i0 rfl hi0 (getD_in (by rw[hinv.size];omega) hu0) i h)
    obtain⟨hfr,o,ho,hdeps⟩:=mem_ready.1 hi
    obtain⟨r1,r2,r3,r4⟩:=hR i o ho
    have hdep:∀ j∈bi ops i,listed.getD j U=G:=by
     intro j hj
     unfold bi at hj
     rw[ho] at hj
     simp only[List.mem_map,List.mem_filter] at hj
     obtain⟨e,⟨he,hb⟩,rfl⟩:=hj
     exact hdeps e (by simpa using he) hb
    have hdn:∀ j∈bi ops i,j<n:=fun j hj=>by have:=r4 j hj;omega
    obtain⟨s1,s2⟩:=qo ops a (fun i=>listed.getD i U) (fun i=>decide (i<n)) vs o r1 fun t ht j hj=>⟨hdep j (r2 t ht j hj),by simpa using hdn j (r2 t ht j hj)⟩
    rw[hlit] at s1 s2
    have hl:=hop2 i o ho hin vs W hB fun j hj=>hF j (hdep j hj)
    have hif:listed.getD i U=U:=getD_both hfr
    have hlt:i<ops.size:=(Array.getElem?_eq_some_iff.1 ho).1
    have hfree:=gR hi
    have hleft:left (listed.setIfInBounds i G)<=fuel:=by
     have:=m7 listed.toList i hfree
     unfold left at hf ⊢
     rw[Array.toList_setIfInBounds]
     omega
    have next:∀ v W',F i v W'->Below W.heap.size W W'->wpAny P .any ops Q fuel (listed.setIfInBounds i G) ((aF ops a (fun i=>listed.getD i U) vs).put o.dst v) W':=by
     intro v W' hf2 hb
     have eg:(fun j=>(listed.setIfInBounds i G).getD j U)=fun j=>if j=i then G else listed.getD j U:=by
      funext j
      rw[Array.getD_eq_getD_getElem?,Array.getElem?_setIfInBounds,Array.getD_eq_getD_getElem?]
      by_cases e:j=i
      ·subst e
       simp[hinv.size,hlt]
      ·rw[if_neg (fun e2=>e e2.symm),if_neg e]
     refine ih _ _ _ (hinv.set hi hin) ⟨fun j=>if j=i then v else vs j,?_,hB.trans (hb.mono hB.size),fun j hj=>?_⟩ hleft
     ·rw[eg]
      exact oB ops a _ vs i o ho r3 (fun t ht=>hN t i o ho ht) hif v
     ·have hj2:=congrFun eg j
      rw[hj2] at hj
      show F j (if j=i then v else vs j) W'
      by_cases e:j=i
      ·subst e;rw[if_pos rfl];exact hf2
      ·rw[if_neg e] at hj ⊢
       exact hst j _ _ _ (hF j hj) hb
    unfold wpOp
    rw[ho]
    simp only
    unfold cX at hl
    rw[s2]
    by_cases hw:Region.wanted o (yielded ops (lit vs).tmps)=G
    ·rw[if_pos hw] at hl ⊢
     refine .inl ?_
     unfold Oper.wp
     rw[s1]
     generalize (execOp (lit vs).eval o).run P W=r at *
     cases r with
     | ok x W'=>
      cases x <;> simp only[i8] at hl
      ·rw[Oper.upon_value];exact next _ _ hl.1 hl.2
      ·rw[Oper.upon_skip];exact next _ _ hl.1 hl.2
      ·rw[Oper.upon_enter]
       refine hl.mono ?_
       rintro e W2 ⟨v,rfl,h1,h2⟩
       exact next _ _ h1 h2
     | halt x W'=>simp only[i8] at hl
    ·rw[if_neg hw] at hl ⊢
     exact next _ _ hl (X _ _)
 refine wp_region_any hm ?_
 refine key _ _ _ _ ⟨by simp,fun j oj _ h=>(by rw[getD_replicate_false] at h;cases h),fun t _ h2=>getD_in (by simpa using h2) (getD_replicate_false _ _)⟩ ⟨fun _=>undef,?_,(X _ _).drew,fun i h=>by rw[getD_replicate_false] at h;cases h⟩ ?_
 ·have e:(fun i=>(Array.replicate ops.size U).getD i U)=fun _=>U:=by
   funext i
   exact getD_replicate_false _ _
  rw[e,mn]
 ·unfold left
  exact Nat.le_trans (List.length_filter_le _ _) (by simp)
def pX (l:List Value)(i:Nat)(v:Value)(_:World):Prop:=v=l.getD i undef
theorem dy {l:List Value}:∀ i v W W',pX l i v W->Below W.heap.size W W'->pX l i v W':=fun _ _ _ _ h _=>h
def lh (ps:List (Nat×(Value->World->Prop)))(l:List Value)(i:Nat)(v:Value)(W:World):Prop:=match ps.lookup i with
 | some p=>p v W
 | none=>v=l.getD i undef
theorem dz {ps:List (Nat×(Value->World->Prop))}{l:List Value}(h:∀ x∈ps,∀ v W W',x.2 v W->Below W.heap.size W W'->x.2 v W'):∀ i v W W',lh ps l i v W->Below W.heap.size W W'->lh ps l i v W':=by
 intro i v W W' hm hb
 unfold lh at *
 cases hl:ps.lookup i with
 | none=>rw[hl] at hm;exact hm
 | some p=>
  rw[hl] at hm
  have:(i,p)∈ps:=by
   clear hm h
   induction ps with
   | nil=>cases hl
   | cons x ps ih=>
    obtain⟨k,q⟩:=x
    rw[List.lookup_cons] at hl
    by_cases e:i=k
    ·subst e;simp at hl;subst hl;exact List.mem_cons_self
    ·have e2:(i==k)=U:=by simpa using e
     rw[e2] at hl
     exact List.mem_cons_of_mem _ (ih hl)
  exact h _ this v W W' hm hb
structure gp (w:World) where
 x:World
 ok:Below w.heap.size w x
def gp.here (w:World):gp w:=⟨w,X _ _⟩
instance grwThere (w:World):Nonempty (gp w):=⟨gp.here w⟩
def gp.more {w:World}(g:gp w){y:World}(h:Below g.x.heap.size g.x y):gp w:=⟨y,g.ok.trans (h.mono g.ok.size)⟩
theorem gp.cell {w:World}(g:gp w){p:Addr}{v:Value}(h:w.cell? p=R v):g.x.cell? p=R v:=
 (g.ok.cell (World.block_lt_of_cell? w _ h)).trans h
theorem eX {w y:World}(h:Below w.drew.heap.size w.drew y):Below w.heap.size w y:=⟨h.os,h.tape,h.output,h.size,h.block⟩
theorem ar {P:Program}{id:Nat}{Q:Exit->Act->World->Prop}{a:Act}{w:World}{l:List Oper}(hm:P.follows .mixedOrders=G)(hB:Region.lexB .any l.toArray=G)
 (h:wpQuiet P l.toArray (fun y=>∃ g:gp w,y=g.x) (fun a'=>∀ y,(∃ g:gp w,y=g.x)->Q .normal a' y) l a):(Code.region id l.toArray G).wp P Q a w:=
 wp_region_quiet (C:=fun y=>∃ g:gp w,y=g.x) hm hB ⟨⟨w.drew,(X _ _).drew⟩,rfl⟩ (by simpa using h)
theorem ag {P:Program}{f:FuncId}{args:Array Value}{w:World}{g:gp w}{v:Value}
 (h:Calls P f args g.x fun e y=>e=.returned v/\Below g.x.heap.size g.x y):Calls P f args g.x fun e y=>e=.returned v/\∃ g':gp w,y=g'.x:=
 h.mono fun _ _ ⟨he,hb⟩=>⟨he,g.more hb,rfl⟩
theorem qZ {P:Program}{f:FuncId}{args:Array Value}{w:World}{g:gp w}{v:Value}
 (h:Calls P f args g.x fun e y=>e=.returned v/\g.x=y):Calls P f args g.x fun e y=>e=.returned v/\∃ g':gp w,y=g'.x:=
 h.mono fun _ _ ⟨he,hb⟩=>⟨he,g,hb.symm⟩
section
variable {P:Program}{ops:Array Oper}{rest:List Oper}{o:Oper}{a:Act}{w:World}{Q:Exit->Act->World->Prop}
theorem fm (hg:o.guard=V)(t:TypeId)(parts:Array (Nat×Operand))(ho:o.op=.build t parts)(cs:Array Value)
 (hf:P.built t (parts.map fun(i,x)=>(i,a.eval x)).toList=R cs) (h:wpList P ops Q rest (a.put o.dst (.agg cs)) w):wpList P ops Q (o :: rest) a w:=
 wpList_build hg t parts ho (by rw[hf];rfl) (by rw[hf];exact h)
theorem eQ (hgd:o.guard=V)(ty:TypeId)(x y:Operand)(ho:o.op=.store ty x y)(old cells:Array Value)(hx:a.eval x=M (R ⟨w.heap.size,0,V⟩))(hy:a.eval y=.agg cells)
 (hi:(P.info? ty).map (·.size)=R cells.size) (hold:old.size=cells.size) (h1:cells.all (·.oneCell')=G)
 (h:wpList P ops Q rest (a.put o.dst undef) (w.alloc (.cells cells ty))):wpList P ops Q (o :: rest) a (w.alloc (.cells old ty)):=
 wpList_store_row hgd ty x y ho w.heap.size cells hx hy ty old (heap_alloc_new w _) hi hold h1 (by rw[World.setRow_alloc_new];exact h)
end
end
section
def EJ:List aJ:=[⟨20,1,0,0,0,0,1,0⟩,⟨12,0,0,0,0,0,1,0⟩,⟨21,2,0,1,0,1,0,-1⟩,⟨12,0,0,0,0,0,2,0⟩,⟨13,0,0,0,0,0,1,0⟩,⟨3,1,1,0,0,0,1,0⟩,⟨17,0,0,1,0,1,0,0⟩,⟨12,0,0,0,0,0,4,0⟩,⟨13,0,0,0,0,0,2,0⟩]
theorem lL (d s t u a k pl p:Int)(hd:0<=d/\d<=7)(hs:0<=s/\s<=7)(ht:0<=t/\t<=7)(hu:0<=u/\u<=7)(ha:0<=a/\a<=7)(k0:0<=k)(k1:k<4294967296):
 au ⟨1,d,s,t,u,a,k,pl⟩ p=(dj ⟨1,d,0,0,0,0,k,0⟩ ⟨1,d,s,t,u,a,k,pl⟩):=by
 rw[Bool.eq_iff_iff]
 simp[au,dh,nG,eJ,dZ,bf,oQ,cJ,qu,dj]
 omega
theorem lK (d s t u a k pl p:Int)(hd:0<=d/\d<=7)(hs:0<=s/\s<=7)(ht:0<=t/\t<=7)(hu:0<=u/\u<=7)(ha:0<=a/\a<=7)(k0:0<=k)(k1:k<4294967296):
 au ⟨2,d,s,t,u,a,k,pl⟩ p=(dj ⟨2,d,s,0,0,0,0,0⟩ ⟨2,d,s,t,u,a,k,pl⟩):=by
 rw[Bool.eq_iff_iff]
 simp[au,dh,nG,eJ,dZ,bf,oQ,cJ,qu,dj]
 omega
theorem lJ (d s t u a k pl p:Int)(hd:0<=d/\d<=7)(hs:0<=s/\s<=7)(ht:0<=t/\t<=7)(hu:0<=u/\u<=7)(ha:0<=a/\a<=7)(k0:0<=k)(k1:k<4294967296):
 au ⟨3,d,s,t,u,a,k,pl⟩ p=(dj ⟨3,d,s,0,0,0,k,0⟩ ⟨3,d,s,t,u,a,k,pl⟩):=by
 rw[Bool.eq_iff_iff]
 simp[au,dh,nG,eJ,dZ,bf,oQ,cJ,qu,dj]
 omega
theorem lI (d s t u a k pl p:Int)(hd:0<=d/\d<=7)(hs:0<=s/\s<=7)(ht:0<=t/\t<=7)(hu:0<=u/\u<=7)(ha:0<=a/\a<=7)(k0:0<=k)(k1:k<4294967296):
 au ⟨4,d,s,t,u,a,k,pl⟩ p=(dj ⟨4,d,s,0,0,0,k,0⟩ ⟨4,d,s,t,u,a,k,pl⟩):=by
 rw[Bool.eq_iff_iff]
 simp[au,dh,nG,eJ,dZ,bf,oQ,cJ,qu,dj]
 omega
theorem jH (d s t u a k pl p:Int)(hd:0<=d/\d<=7)(hs:0<=s/\s<=7)(ht:0<=t/\t<=7)(hu:0<=u/\u<=7)(ha:0<=a/\a<=7)(k0:0<=k)(k1:k<4294967296):
 au ⟨5,d,s,t,u,a,k,pl⟩ p=(dj ⟨5,d,s,0,0,0,k,0⟩ ⟨5,d,s,t,u,a,k,pl⟩ && decide (k<=31)):=by
 rw[Bool.eq_iff_iff]
 simp[au,dh,nG,eJ,dZ,bf,oQ,cJ,qu,dj]
 omega
theorem jG (d s t u a k pl p:Int)(hd:0<=d/\d<=7)(hs:0<=s/\s<=7)(ht:0<=t/\t<=7)(hu:0<=u/\u<=7)(ha:0<=a/\a<=7)(k0:0<=k)(k1:k<4294967296):
 au ⟨6,d,s,t,u,a,k,pl⟩ p=(dj ⟨6,d,s,0,0,0,k,0⟩ ⟨6,d,s,t,u,a,k,pl⟩ && decide (k<=31)):=by
 rw[Bool.eq_iff_iff]
 simp[au,dh,nG,eJ,dZ,bf,oQ,cJ,qu,dj]
 omega
theorem lH (d s t u a k pl p:Int)(hd:0<=d/\d<=7)(hs:0<=s/\s<=7)(ht:0<=t/\t<=7)(hu:0<=u/\u<=7)(ha:0<=a/\a<=7)(k0:0<=k)(k1:k<4294967296):
 au ⟨7,d,s,t,u,a,k,pl⟩ p=(dj ⟨7,d,s,t,0,0,0,0⟩ ⟨7,d,s,t,u,a,k,pl⟩):=by
 rw[Bool.eq_iff_iff]
 simp[au,dh,nG,eJ,dZ,bf,oQ,cJ,qu,dj]
 omega
theorem lG (d s t u a k pl p:Int)(hd:0<=d/\d<=7)(hs:0<=s/\s<=7)(ht:0<=t/\t<=7)(hu:0<=u/\u<=7)(ha:0<=a/\a<=7)(k0:0<=k)(k1:k<4294967296):
 au ⟨8,d,s,t,u,a,k,pl⟩ p=(dj ⟨8,0,s,t,0,0,0,pl⟩ ⟨8,d,s,t,u,a,k,pl⟩ && (decide (0<=pl) && decide (pl<p))):=by
 rw[Bool.eq_iff_iff]
 simp[au,dh,nG,eJ,dZ,bf,oQ,cJ,qu,dj]
 omega
theorem lF (d s t u a k pl p:Int)(hd:0<=d/\d<=7)(hs:0<=s/\s<=7)(ht:0<=t/\t<=7)(hu:0<=u/\u<=7)(ha:0<=a/\a<=7)(k0:0<=k)(k1:k<4294967296):
 au ⟨9,d,s,t,u,a,k,pl⟩ p=(dj ⟨9,0,s,t,0,0,0,pl⟩ ⟨9,d,s,t,u,a,k,pl⟩ && (decide (0<=pl) && decide (pl<p))):=by
 rw[Bool.eq_iff_iff]
 simp[au,dh,nG,eJ,dZ,bf,oQ,cJ,qu,dj]
 omega
theorem jz (d s t u a k pl p:Int)(hd:0<=d/\d<=7)(hs:0<=s/\s<=7)(ht:0<=t/\t<=7)(hu:0<=u/\u<=7)(ha:0<=a/\a<=7)(k0:0<=k)(k1:k<4294967296):
 au ⟨10,d,s,t,u,a,k,pl⟩ p=(dj ⟨10,0,0,0,0,0,0,pl⟩ ⟨10,d,s,t,u,a,k,pl⟩ && (decide (0<=pl) && decide (pl<p))):=by
 rw[Bool.eq_iff_iff]
 simp[au,dh,nG,eJ,dZ,bf,oQ,cJ,qu,dj]
 omega
theorem jy (d s t u a k pl p:Int)(hd:0<=d/\d<=7)(hs:0<=s/\s<=7)(ht:0<=t/\t<=7)(hu:0<=u/\u<=7)(ha:0<=a/\a<=7)(k0:0<=k)(k1:k<4294967296):
 au ⟨11,d,s,t,u,a,k,pl⟩ p=(dj ⟨11,d,0,0,0,0,0,0⟩ ⟨11,d,s,t,u,a,k,pl⟩):=by
 rw[Bool.eq_iff_iff]
 simp[au,dh,nG,eJ,dZ,bf,oQ,cJ,qu,dj]
 omega
theorem jp (d s t u a k pl p:Int)(hd:0<=d/\d<=7)(hs:0<=s/\s<=7)(ht:0<=t/\t<=7)(hu:0<=u/\u<=7)(ha:0<=a/\a<=7)(k0:0<=k)(k1:k<4294967296):
 au ⟨22,d,s,t,u,a,k,pl⟩ p=(dj ⟨22,d,0,0,0,0,0,0⟩ ⟨22,d,s,t,u,a,k,pl⟩):=by
 rw[Bool.eq_iff_iff]
 simp[au,dh,nG,eJ,dZ,bf,oQ,cJ,qu,dj]
 omega
theorem iu (d s t u a k pl p:Int)(hd:0<=d/\d<=7)(hs:0<=s/\s<=7)(ht:0<=t/\t<=7)(hu:0<=u/\u<=7)(ha:0<=a/\a<=7)(k0:0<=k)(k1:k<4294967296):
 au ⟨12,d,s,t,u,a,k,pl⟩ p=(dj ⟨12,0,0,0,0,0,k,0⟩ ⟨12,d,s,t,u,a,k,pl⟩ && (decide (1<=k) && decide (k<=4))):=by
 rw[Bool.eq_iff_iff]
 simp[au,dh,nG,eJ,dZ,bf,oQ,cJ,qu,dj]
 omega
theorem ir (d s t u a k pl p:Int)(hd:0<=d/\d<=7)(hs:0<=s/\s<=7)(ht:0<=t/\t<=7)(hu:0<=u/\u<=7)(ha:0<=a/\a<=7)(k0:0<=k)(k1:k<4294967296):
 au ⟨13,d,s,t,u,a,k,pl⟩ p=(dj ⟨13,0,0,0,0,0,k,0⟩ ⟨13,d,s,t,u,a,k,pl⟩ && decide (k<=3)):=by
 rw[Bool.eq_iff_iff]
 simp[au,dh,nG,eJ,dZ,bf,oQ,cJ,qu,dj]
 omega
theorem jx (d s t u a k pl p:Int)(hd:0<=d/\d<=7)(hs:0<=s/\s<=7)(ht:0<=t/\t<=7)(hu:0<=u/\u<=7)(ha:0<=a/\a<=7)(k0:0<=k)(k1:k<4294967296):
 au ⟨16,d,s,t,u,a,k,pl⟩ p=(dj ⟨16,d,s,0,0,a,0,0⟩ ⟨16,d,s,t,u,a,k,pl⟩):=by
 rw[Bool.eq_iff_iff]
 simp[au,dh,nG,eJ,dZ,bf,oQ,cJ,qu,dj]
 omega
theorem jw (d s t u a k pl p:Int)(hd:0<=d/\d<=7)(hs:0<=s/\s<=7)(ht:0<=t/\t<=7)(hu:0<=u/\u<=7)(ha:0<=a/\a<=7)(k0:0<=k)(k1:k<4294967296):
 au ⟨17,d,s,t,u,a,k,pl⟩ p=(dj ⟨17,0,s,t,0,a,0,0⟩ ⟨17,d,s,t,u,a,k,pl⟩):=by
 rw[Bool.eq_iff_iff]
 simp[au,dh,nG,eJ,dZ,bf,oQ,cJ,qu,dj]
 omega
theorem ju (d s t u a k pl p:Int)(hd:0<=d/\d<=7)(hs:0<=s/\s<=7)(ht:0<=t/\t<=7)(hu:0<=u/\u<=7)(ha:0<=a/\a<=7)(k0:0<=k)(k1:k<4294967296):
 au ⟨18,d,s,t,u,a,k,pl⟩ p=(dj ⟨18,d,s,t,0,a,0,0⟩ ⟨18,d,s,t,u,a,k,pl⟩):=by
 rw[Bool.eq_iff_iff]
 simp[au,dh,nG,eJ,dZ,bf,oQ,cJ,qu,dj]
 omega
theorem js (d s t u a k pl p:Int)(hd:0<=d/\d<=7)(hs:0<=s/\s<=7)(ht:0<=t/\t<=7)(hu:0<=u/\u<=7)(ha:0<=a/\a<=7)(k0:0<=k)(k1:k<4294967296):
 au ⟨19,d,s,t,u,a,k,pl⟩ p=(dj ⟨19,d,s,t,u,a,0,0⟩ ⟨19,d,s,t,u,a,k,pl⟩):=by
 rw[Bool.eq_iff_iff]
 simp[au,dh,nG,eJ,dZ,bf,oQ,cJ,qu,dj]
 omega
theorem jq (d s t u a k pl p:Int)(hd:0<=d/\d<=7)(hs:0<=s/\s<=7)(ht:0<=t/\t<=7)(hu:0<=u/\u<=7)(ha:0<=a/\a<=7)(k0:0<=k)(k1:k<4294967296):
 au ⟨20,d,s,t,u,a,k,pl⟩ p=(dj ⟨20,d,s,0,0,a,k,0⟩ ⟨20,d,s,t,u,a,k,pl⟩):=by
 rw[Bool.eq_iff_iff]
 simp[au,dh,nG,eJ,dZ,bf,oQ,cJ,qu,dj]
 omega
theorem gN (d s t u a k pl p:Int)(hd:0<=d/\d<=7)(hs:0<=s/\s<=7)(ht:0<=t/\t<=7)(hu:0<=u/\u<=7)(ha:0<=a/\a<=7)(k0:0<=k)(k1:k<4294967296):
 au ⟨21,d,s,t,u,a,k,pl⟩ p=(dj ⟨21,d,s,t,0,a,k,pl⟩ ⟨21,d,s,t,u,a,k,pl⟩ && (decide (k<=1) && (decide (-1<=pl) && (decide (pl=-1) || decide (pl<p))))):=by
 rw[Bool.eq_iff_iff]
 simp[au,dh,nG,eJ,dZ,bf,oQ,cJ,qu,dj]
 split <;> omega
theorem jn (d s t u a k pl p:Int)(hd:0<=d/\d<=7)(hs:0<=s/\s<=7)(ht:0<=t/\t<=7)(hu:0<=u/\u<=7)(ha:0<=a/\a<=7)(k0:0<=k)(k1:k<4294967296):
 au ⟨23,d,s,t,u,a,k,pl⟩ p=(dj ⟨23,0,s,0,0,0,0,0⟩ ⟨23,d,s,t,u,a,k,pl⟩):=by
 rw[Bool.eq_iff_iff]
 simp[au,dh,nG,eJ,dZ,bf,oQ,cJ,qu,dj]
 omega
theorem eA (i:aJ)(p:Int)(h:au i p=G):(0<=i.d/\i.d<=7)/\(0<=i.s/\i.s<=7)/\(0<=i.t/\i.t<=7)/\(0<=i.u/\i.u<=7)/\(0<=i.a/\i.a<=7):=by
 obtain⟨op,d,s,t,u,a,k,pl⟩:=i
 rcases co op with rfl|rfl|rfl|rfl|rfl|rfl|rfl|rfl|rfl|rfl|rfl|rfl|rfl|rfl|rfl|rfl|rfl|rfl|rfl|rfl|rfl | hn
 rotate_right
 ·have:=dw hn
  unfold au at h
  simp only[this.1] at h
  cases h
 all_goals
  simp[au,dh,nG,eJ,dZ,bf,oQ,cJ,qu] at h
  simp only
  omega
end
section
open Go.ChangeShapes Go.WideShapes Go.ChangeAt Go.RowKit
structure pf (w:World)(p g:Nat)(xs:List Int):Prop where
 ptr:Bk w p 223 #[L (R ⟨g,0,V⟩) xs.length xs.length]
 row:Bk w g 227 (words xs)
 rng:fM xs
 few:xs.length<=8192
theorem pf.ne {w:World}{p g:Nat}{xs:List Int}(h:pf w p g xs):p≠g:=h.ptr.aj h.row (by decide)
theorem pf.alloc {w:World}{p g:Nat}{xs:List Int}(h:pf w p g xs)(o:Obj):pf (w.alloc o) p g xs:=⟨h.ptr.alloc o,h.row.alloc o,h.rng,h.few⟩
theorem pf.drewN {w:World}{p g:Nat}{xs:List Int}(h:pf w p g xs)(n:Nat):pf (w.drewN n) p g xs:=⟨h.ptr,h.row,h.rng,h.few⟩
theorem pf.kept {w w':World}{p g:Nat}{xs:List Int}(h:pf w p g xs){r:Option Nat}(hg:w.grownBy w' r)(h1:R p≠r)(h2:R g≠r):pf w' p g xs:=
 ⟨h.ptr.grown hg h1,h.row.grown hg h2,h.rng,h.few⟩
theorem pf.put {w:World}{p g:Nat}{xs:List Int}(h:pf w p g xs)(i:Nat)(v:Int)(hv:0<=v/\v<4294967296):
 pf (w.setCell ⟨g,i,V⟩ (O Z v)) p g (xs.set i v):=by
 refine⟨?_,?_,h.rng.set i v hv,by simpa using h.few⟩
 ·simpa using h.ptr.off (p:=⟨g,i,V⟩) h.ne (O Z v)
 ·simpa [nI] using h.row.put i (O Z v)
section
variable {w:World}{p g:Nat}{xs:List Int}
theorem pf.c0 (h:pf w p g xs):w.cell? ⟨p,0,V⟩=R (L (R ⟨g,0,V⟩) xs.length xs.length):=by rw[h.ptr.cell];rfl
theorem pf.at_ (h:pf w p g xs){i:Nat}(hi:i<xs.length):w.cell? ⟨g,i,V⟩=R (O Z (aG xs i)):=by rw[h.row.cell,mB xs i hi]
theorem Dh (h:pf w p g xs)(a:Nat)(ha:a<xs.length):
 Calls Tryz.prog 113 #[M (R ⟨p,0,V⟩),O .i64 a] w fun e w'=>e=.returned (.bool G)/\w=w':=by
 have h0:=h.c0
 have hf:=h.few
 go_enter Tryz.func113,Tryz.ntmps113
 go_wp2
 go_ret
 exact⟨rfl,rfl⟩
theorem BN (b i:Nat)(x:Int)(w:World)(hc:w.cell? ⟨b,i,V⟩=R (O Z x)):
 Calls Tryz.prog 134 #[M (R ⟨b,i,V⟩)] w fun e w'=>e=.returned (O Z x)/\w=w':=by
 have hl:=run_call_load (P:=Tryz.prog) Tryz.func157 (by kernel_rfl) (by kernel_rfl) (by kernel_rfl) .u32 (by kernel_rfl) hc
 go_enter Tryz.func134,Tryz.ntmps134
 go_wp2
 go_ret
 exact⟨rfl,rfl⟩
theorem C7 (b i:Nat)(x y:Int)(w:World)(hc:w.cell? ⟨b,i,V⟩=R (O Z x))(hz:w.frozen? ⟨b,i,V⟩=U):
 Calls Tryz.prog 114 #[M (R ⟨b,i,V⟩),O Z y] w fun e w'=>e=.returned (.tuple #[])/\w'=w.setCell ⟨b,i,V⟩ (O Z y):=by
 have hl:=run_call_store (P:=Tryz.prog) Tryz.func148 (by kernel_rfl) (by kernel_rfl) (by kernel_rfl) (by kernel_rfl) (k:=.u32) (y:=y) hc hz
 go_enter Tryz.func114,Tryz.ntmps114
 go_wp2
 go_end0
 exact⟨rfl,rfl⟩
theorem Bb (x y:Int)(w:World):(Op.intArith .add .u32 x y).run Tryz.prog w=.ok (O Z ((x+y) % 4294967296)) w:=by
 simp[Op.intArith,IntKind.wrap,IntKind.signed,IntKind.bits]
theorem Fi (b i:Nat)(x y:Int)(w:World)(hc:w.cell? ⟨b,i,V⟩=R (O Z x))(hz:w.frozen? ⟨b,i,V⟩=U):
 Calls Tryz.prog 156 #[M (R ⟨b,i,V⟩),O Z y] w fun e w'=>e=.returned (O Z ((x+y) % 4294967296))/\w'=w.setCell ⟨b,i,V⟩ (O Z ((x+y) % 4294967296)):=by
 have hl:=run_call_add (P:=Tryz.prog) Tryz.func169 (by kernel_rfl) (by kernel_rfl) (by kernel_rfl) .u32 (by kernel_rfl) (y:=y) hc hz (Bb x y w)
 go_enter Tryz.func156,Tryz.ntmps156
 go_wp2
 go_ret
 exact⟨rfl,rfl⟩
def lm (n:Int):Int:=n % 4294967296
theorem zP (n:Int):0<=lm n/\lm n<4294967296:=by unfold lm;omega
theorem Eh (h:pf w p g xs)(a:Nat)(ha:a<xs.length):
 Calls Tryz.prog 125 #[M (R ⟨p,0,V⟩),O .i64 a] w fun e w'=>e=.returned (O Z (aG xs a))/\w=w':=by
 have h0:=h.c0
 have h1:=h.at_ ha
 have hf:=h.few
 go_enter Tryz.func125,Tryz.ntmps125
 go_wp2_with fail
 refine(Dh h a ha).mono ?_
 rintro e w' ⟨rfl,rfl⟩
 go_wp2_with fail
 refine(BN g a (aG xs a) w h1).mono ?_
 rintro e w' ⟨rfl,rfl⟩
 go_wp2
 go_ret
 exact⟨rfl,rfl⟩
def Fv (w:World)(p g:Nat)(v:Value)(ys:List Int)(e:Ending)(w':World):Prop:=e=.returned v/\pf w' p g ys/\fE w w' g
theorem y9 (h:pf w p g xs)(a:Nat)(ha:a<xs.length)(v:Int)(hv:0<=v/\v<4294967296):
 Calls Tryz.prog 75 #[M (R ⟨p,0,V⟩),O .i64 a,O Z v] w (Fv w p g (.tuple #[]) (xs.set a v)):=by
 have h0:=h.c0
 have h1:=h.at_ ha
 have hf:=h.few
 go_enter Tryz.func75,Tryz.ntmps75
 go_wp2_with fail
 refine(Dh h a ha).mono ?_
 rintro e w' ⟨rfl,rfl⟩
 go_wp2_with fail
 refine(C7 g a (aG xs a) v w h1 (h.row.free _)).mono ?_
 rintro e w' ⟨rfl,rfl⟩
 go_wp2
 go_end0
 exact⟨rfl,h.put a v hv,dt _ _ _ _⟩
theorem Fe (h:pf w p g xs)(a:Nat)(ha:a<xs.length)(v:Int)(_:0<=v/\v<4294967296):
 Calls Tryz.prog 128 #[M (R ⟨p,0,V⟩),O .i64 a,O Z v] w (Fv w p g (O Z (aG xs a)) (xs.set a (lm (aG xs a+v)))):=by
 have h0:=h.c0
 have h1:=h.at_ ha
 have hf:=h.few
 have hx:=h.rng.at_ a
 have hp:=h.put a (lm (aG xs a+v)) (zP _)
 have ho:=dt w g a (O Z (lm (aG xs a+v)))
 go_enter Tryz.func128,Tryz.ntmps128
 go_wp2_with fail
 refine(Dh h a ha).mono ?_
 rintro e w' ⟨rfl,rfl⟩
 go_wp2_with fail
 refine(Fi g a (aG xs a) v w h1 (h.row.free _)).mono ?_
 rintro e w' ⟨rfl,rfl⟩
 go_wp2
 go_ret
 exact⟨br (by omega),hp,ho⟩
end
theorem Bd:(Tryz.prog.info? 227).map (fun i=>(i.zero,i.size,i.bytes))=R (R (.agg #[O Z 0]),1,4):=by kernel_rfl
def Fk (w:World)(n:Nat)(e:Ending)(w':World):Prop:=
 ∃ p g,e=.returned (.tuple #[M (R ⟨p,0,V⟩),O .i64 0])/\pf w' p g (List.replicate n 0)/\w.heap.size<=p/\w.heap.size<=g/\w.grownBy w' V
theorem Fd (n:Nat)(hn:n<=8192)(w:World):Calls Tryz.prog 74 #[O .i64 n] w (Fk w n):=by
 obtain⟨i0,hi0,hz0,hz1,hz2⟩:=info_parts Bd
 have hmk:=fun W:World=>run_make (P:=Tryz.prog) W 221 227 i0 _ Tryz.underlying221 hi0 hz0 .i64 .i64 n n (by omega) (by omega) (by rw[hz2];omega) (by omega)
 rw[hz1] at hmk
 clear hi0 hz0 hz1 hz2
 go_enter Tryz.func74,Tryz.ntmps74
 go_wp2
 go_ret2
 refine⟨w.heap.size+1,w.heap.size,rfl,?_,by omega,Y _,?_⟩
 ·rw[ml]
  refine⟨?_,(Bk.made _ _ _).alloc _,fM.fX n,by simpa using hn⟩
  have:=Bk.made (w.alloc (.cells (words (List.replicate n 0)) 227)) 223 #[L (R ⟨w.heap.size,0,V⟩) n n]
  simpa using this
 ·exact aQ (bd _ _ _) (bd _ _ V) (.inl rfl)
def EF (w:World)(p g:Nat)(xs:List Int)(e:Ending)(w':World):Prop:=
 ∃ q,e=.returned (L (R ⟨q,0,V⟩) xs.length xs.length)/\Bk w' q 22 (words xs)/\pf w' p g xs/\w.heap.size<=q/\w.grownBy w' V
def my (xs:List Int)(k:Nat):List Int:=xs.take k++List.replicate (xs.length-k) 0
theorem jB (xs:List Int)(k:Nat)(h:k<=xs.length):(my xs k).length=xs.length:=by simp[my];omega
theorem yR (xs:List Int):my xs 0=List.replicate xs.length 0:=by simp[my]
theorem qK (xs:List Int):my xs xs.length=xs:=by simp[my]
theorem qJ (xs:List Int)(k:Nat)(h:k<xs.length):(my xs k).set k (aG xs k)=my xs (k+1):=by
 apply List.ext_getElem?
 intro i
 simp only[my,List.getElem?_set,List.getElem?_append,List.length_append,List.length_take,List.length_replicate,List.getElem?_replicate,List.getElem?_take]
 by_cases e:k=i
 ·subst e
  have h1:k<min (k+1) xs.length:=by omega
  simp[h,h1,aG]
  omega
 ·by_cases h2:i<k
  ·have h3:i<min k xs.length:=by omega
   have h4:i<min (k+1) xs.length:=by omega
   simp[e,h2,h3,h4];omega
  ·have h3:¬ i<min k xs.length:=by omega
   have h4:¬ i<min (k+1) xs.length:=by omega
   have h5:(i-min k xs.length<xs.length-k)↔(i-min (k+1) xs.length<xs.length-(k+1)):=by omega
   simp only[e,h3,h4,if_false,h5]
def nl (w:World)(p g q:Nat)(xs:List Int)(k:Nat)(wr:World):Prop:=
 Bk wr q 22 (words (my xs k))/\pf wr p g xs/\w.grownBy wr V
theorem rJ {w wr:World}{p g q k:Nat}{xs:List Int}(hq:w.heap.size<=q)(hk:k<xs.length)(h:nl w p g q xs k wr):
 nl w p g q xs (k+1) (wr.setCell ⟨q,k,V⟩ (O Z (aG xs k))):=by
 obtain⟨h1,h2,h3⟩:=h
 refine⟨?_,h2.kept (dt wr q k _) (fun e=>?_) (fun e=>?_),aQ h3 (dt wr q k _) (.inr fun x e=>by injection e with e;omega)⟩
 ·have:=h1.put k (O Z (aG xs k))
  rwa [nI,qJ xs k hk] at this
 ·injection e with e;exact h2.ptr.aj h1 (by decide) e
 ·injection e with e;exact h2.row.aj h1 (by decide) e
theorem CZ {w:World}{p g:Nat}{xs:List Int}(h:pf w p g xs):
 Calls Tryz.prog 91 #[M (R ⟨p,0,V⟩)] w (EF w p g xs):=by
 obtain⟨i0,hi0,hz0,hz1,hz2⟩:=info_parts tO
 have hf:=h.few
 have hmk:=fun W:World=>run_make (P:=Tryz.prog) W 27 22 i0 _ Tryz.underlying27 hi0 hz0 .i64 .i64 xs.length xs.length (by omega) (by omega) (by rw[hz2];omega) (by omega)
 rw[hz1] at hmk
 clear hi0 hz0 hz1 hz2
 have h0:=h.c0
 go_enter Tryz.func91,Tryz.ntmps91
 go_wp2
 clear hmk
 go_loopw [13] (fun i wr=>∃ k:Nat,k<=xs.length/\i=O .i64 k/\nl w p g w.heap.size xs k wr) (fun i _=>xs.length-(intOf i).toNat)
 case atStart=>
  refine⟨0,Nat.zero_le _,rfl,?_,h.alloc _,bd _ _ _⟩
  rw[ml,yR]
  exact Bk.made _ _ _
 case round=>
  obtain⟨k,hk,rfl,hr⟩:=hrel
  by_cases hlt:k<xs.length
  ·have hc:=hr.2.1
   have h0':=hc.c0
   have hx:=hc.at_ hlt
   have hq:=hr.1.cell k
   rw[mB _ _ (by rw[jB xs k hk];exact hlt)] at hq
   have hz:=hr.1.free k
   have hs:=rJ (Y _) hlt hr
   have HS:=Lib.hid hs
   clear hs hr h0
   go_wp2_with fail
   refine(BN g k (aG xs k) _ hx).mono ?_
   rintro e w' ⟨rfl,rfl⟩
   go_wp2
   go_roundw
   case rel=>exact⟨k+1,by omega,by go_num,HS.out⟩
   case measure=>simp[intOf];omega
  ·obtain rfl:k=xs.length:=by omega
   obtain⟨h1,h2,h3⟩:=hr
   rw[qK] at h1
   go_wp2
   go_ret
   exact⟨w.heap.size,rfl,h1,h2,Y _,h3⟩
end
